/-
  The law Back, out of what Compress, Decompress and Unpack answer: data in pieces.
-/
import Derived.Test.YtnpnaglgllcpfabKq
namespace Go.Proofs.Ytnpnaglgllcpfab
set_option maxRecDepth 100000
open Go.RowKit

/-- Pieces of bytes in memory: parts of those at off in the block bb. -/
def PartsAt (w : World) (v : Value) (B : Nat) (bb off : Nat) (data : List UInt8) (cap n : Nat) : Prop :=
  ∃ vs : List Value, w.ownsRow B 22 1 v n vs ∧ ∀ i, i < n → vs[i]? = some (.slice (some ⟨bb, off + 64 * i, none⟩) (pieceAt data i).length (cap - 64 * i))
theorem infoBytes : (Try.prog.info? 22).map (fun i => (i.zero, i.size, i.bytes)) = some (some (.slice none 0 0), 1, 24) := by kernel_rfl

set_option maxHeartbeats 1000000 in
theorem cut_calls (bb off : Nat) (data : List UInt8) (cap : Nat) (w : World) (hd : data.length ≤ 2048) (hcap : data.length ≤ cap) :
    Calls Try.prog 14 #[.slice (some ⟨bb, off, none⟩) data.length cap] w fun e w' => Below w.heap.size w w' ∧ ∃ v, e = .returned v ∧ PartsAt w' v w.heap.size bb off data cap (cutN data) := by
  obtain ⟨i0, hi, hz0, hz1, hz2⟩ := info_parts infoBytes
  have hn1 : 64 * cutN data ≤ data.length + 63 := by unfold cutN; omega
  have hn2 : data.length ≤ 64 * cutN data := by unfold cutN; omega
  generalize cutN data = N at *
  go_enter Try.func14, Try.ntmps14
  go_wp2_with fail
  go_loopg [3, 4] N (fun g v iv wr => ∃ (k K : Nat) (vs : List Value), k ≤ N ∧ g = N - k ∧ iv = .int .i64 K ∧ K ≤ 64 * k ∧ 64 * k ≤ K ∧ Hid (wr.ownsRow w.heap.size 22 1 v k vs) ∧ Hid (∀ i, i < k → vs[i]? = some (.slice (some ⟨bb, off + 64 * i, none⟩) (pieceAt data i).length (cap - 64 * i))) ∧ Hid (Below w.heap.size w wr))
  case atStart => exact ⟨0, 0, [], by omega, rfl, rfl, by omega, by omega, World.ownsRow_nil _ _ _ _, fun i hi => by omega, Below.refl _ _⟩
  case round =>
    obtain ⟨k, K, vs, hk, hg, rfl, hK1, hK2, HO, HV, HBW⟩ := hrel
    have HG : Hid _ := hg
    clear hg
    have hsw := HBW.out.size
    obtain ⟨vo, vc, rfl⟩ := row_form HO.out
    have hpl := pieceAt_length data k
    by_cases hlt : K < data.length
    · have hcK : ¬ cap = K := by omega
      by_cases hto : data.length < K + 64
      · have hto' : (data.length : Int) < (K : Int) + 64 := by omega
        have HPL : Hid ((pieceAt data k).length = data.length - K) := by show _ = _; omega
        have hb2 : ¬ (cap : Int) < (data.length : Int) := by omega
        go_wp2_with (at_builtin; refine wpList_append_own _ rfl _ _ 30 rfl w.heap.size 22 i0 (.slice none 0 0) 1 24 Try.underlying30 hi hz0 hz1 hz2 rfl (by decide) _ _ _ rfl (World.ownsRow.alloc HO.out _) ⟨wr.heap.size, 0, none⟩ 1 1 [.slice (some ⟨bb, off + K, none⟩) (data.length - K) (cap - K)] rfl rfl ?b1 ?b2 ?b3 ?b4 ?b5 ?_)
        try (case b1 => intro j u hj; exact cell_new1 _ _ _ j u hj)
        case b2 => first | rfl | (intro u hu; simp at hu; subst hu; rfl)
        case b3 => unfold maxLen; omega
        case b4 => omega
        case b5 => first | omega | (simp; omega)
        intro v' w3 hown3 hgrow3 _
        have HB3 : Hid (Below w.heap.size w w3) := (HBW.out.alloc (by omega) _).grown hgrow3 (by simp; omega) (fun k hk => (World.ownsRow.lt HO.out k hk).1)
        have HO3 : Hid _ := hown3
        have HL : Hid (vs.length = k) := by show _ = _; have := HO.out.1; omega
        clear hown3 hgrow3
        go_wp2
        go_roundg (N - (k + 1))
        case measure => have := HG.out; omega
        case rel =>
          refine ⟨k + 1, K + 64, _, by omega, rfl, by go_num, by omega, by omega, HO3.out, ?_, HB3.out⟩
          intro i hi
          have hl := HL.out
          by_cases hik : i < k
          · rw [List.getElem?_append_left (by omega)]; exact HV.out i hik
          · have e1 : i = k := by omega
            subst e1
            have e2 : 64 * i = K := by omega
            rw [List.getElem?_append_right (by omega), hl, HPL.out, e2]
            simp
      · have hto' : ¬ (data.length : Int) < (K : Int) + 64 := by omega
        have HPL : Hid ((pieceAt data k).length = 64) := by show _ = _; omega
        have hb2 : ¬ (cap : Int) < (K : Int) + 64 := by omega
        go_wp2_with (at_builtin; refine wpList_append_own _ rfl _ _ 30 rfl w.heap.size 22 i0 (.slice none 0 0) 1 24 Try.underlying30 hi hz0 hz1 hz2 rfl (by decide) _ _ _ rfl (World.ownsRow.alloc HO.out _) ⟨wr.heap.size, 0, none⟩ 1 1 [.slice (some ⟨bb, off + K, none⟩) 64 (cap - K)] rfl rfl ?c1 ?c2 ?c3 ?c4 ?c5 ?_)
        try (case c1 => intro j u hj; exact cell_new1 _ _ _ j u hj)
        case c2 => first | rfl | (intro u hu; simp at hu; subst hu; rfl)
        case c3 => unfold maxLen; omega
        case c4 => omega
        case c5 => first | omega | (simp; omega)
        intro v' w3 hown3 hgrow3 _
        have HB3 : Hid (Below w.heap.size w w3) := (HBW.out.alloc (by omega) _).grown hgrow3 (by simp; omega) (fun k hk => (World.ownsRow.lt HO.out k hk).1)
        have HO3 : Hid _ := hown3
        have HL : Hid (vs.length = k) := by show _ = _; have := HO.out.1; omega
        clear hown3 hgrow3
        go_wp2
        go_roundg (N - (k + 1))
        case measure => have := HG.out; omega
        case rel =>
          refine ⟨k + 1, K + 64, _, by omega, rfl, by go_num, by omega, by omega, HO3.out, ?_, HB3.out⟩
          intro i hi
          have hl := HL.out
          by_cases hik : i < k
          · rw [List.getElem?_append_left (by omega)]; exact HV.out i hik
          · have e1 : i = k := by omega
            subst e1
            have e2 : 64 * i = K := by omega
            rw [List.getElem?_append_right (by omega), hl, HPL.out, e2]
            simp
    · have hkN : k = N := by omega
      subst hkN
      have hlt' : ¬ (K : Int) < (data.length : Int) := by omega
      go_wp2
      go_ret
      exact ⟨HBW.out, _, rfl, vs, HO.out, HV.out⟩
end Go.Proofs.Ytnpnaglgllcpfab
