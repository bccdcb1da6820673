/-
  The law Feeds, of texts in memory.
-/
import Derived.Test.YtnpnaglgllcpfaaFd1
import Derived.Test.YtnpnaglgllcpfaaOpenStrs
import Derived.Lib.SlBytesConst
namespace Go.Proofs.Ytnpnaglgllcpfaa
set_option maxRecDepth 100000
open Go.RowKit

set_option maxHeartbeats 2000000 in
theorem unfed_calls (pa : Option Addr) (pn pc : Nat) (w : World) :
    Calls Try.prog 28 #[.slice pa pn pc] w fun r w' => r = .returned (.bool true) ∧ Below w.heap.size w w' := by
  go_enter Try.func28, Try.ntmps28
  go_wp2_with fail
  refine (feed_nil_calls pa pn pc w).mono ?_
  rintro r w1 ⟨rfl, rfl⟩
  go_wp2_with fail
  refine (end_nil_calls w1).mono ?_
  rintro r w2 ⟨rfl, rfl⟩
  have HB : Hid (DecBox (w2.alloc (.cells #[.bool false, .int .i64 0, .int .i64 0, .int .i64 0, .slice none 0 0] 95)) w2.heap.size false 0 0 0 (.slice none 0 0)) := heap_alloc_new w2 _
  go_wp2_with fail
  refine (feed_shut_calls w2.heap.size 0 0 0 (.slice none 0 0) pa pn pc _ HB.out).mono ?_
  rintro r w3 ⟨rfl, rfl⟩
  go_wp2_with fail
  refine (end_shut_calls w2.heap.size 0 0 0 (.slice none 0 0) _ HB.out).mono ?_
  rintro r w4 ⟨rfl, rfl⟩
  have HBL : Hid (Below w2.heap.size w2 (w2.alloc (.cells #[.bool false, .int .i64 0, .int .i64 0, .int .i64 0, .slice none 0 0] 95))) := (Below.refl _ _).alloc (Nat.le_refl _) _
  clear HB
  generalize w2.alloc (.cells #[.bool false, .int .i64 0, .int .i64 0, .int .i64 0, .slice none 0 0] 95) = w5 at *
  go_wp2_with (first | (go_at_call 43; go_in) | fail)
  go_wp2
  go_ret
  exact ⟨rfl, HBL.out⟩

theorem LDec.new {w : World} {cb q : Nat} (h1 : LBox w cb q (.slice none 0 0) 0 0 false) (h2 : DecBox w q true 0 0 0 (.slice none 0 0)) : LDec w cb [cb, q] :=
  ⟨q, .slice none 0 0, 0, 0, .inl ⟨[], [], 4, .slice none 0 0, h1, DecAt.new h2, World.ownsRow_nil _ _ _ _, fun k hk => by simp [Value.ownBlock] at hk, by simp [Value.ownBlock]⟩⟩

theorem keptBelow {w wr w' : World} {F : List Nat} {B : Nat} (h : Below B w wr) (hB : B ≤ wr.heap.size) (k : KeptBut wr w' F) (hF : ∀ i ∈ F, B ≤ i) : Below B w w' :=
  h.trans ⟨k.os, k.tape, k.output, k.size, fun i hi => k.heap i (by omega) (fun hm => by have := hF i hm; omega)⟩

set_option maxHeartbeats 1000000 in
theorem feedsLaw_calls (ca : Option Addr) (raw : List ByteArray) (cc : Nat) (k : Int) (w : World) (hrl : raw.length ≤ 9223372036854775807) (hr : StrsAt w ca raw) (hsz : ∀ i (hi : i < raw.length), raw[i].size ≤ 140737488355328) :
    Calls Try.prog 12 #[.slice ca raw.length cc, .int .i64 k] w fun r w' => r = .returned (.bool true) ∧ Below w.heap.size w w' := by
  have HR : Hid (StrsAt w ca raw) := hr
  have HSZ : Hid (∀ i (hi : i < raw.length), raw[i].size ≤ 140737488355328) := hsz
  clear hr hsz
  have kc := fun (w : World) (C : Array Value) (n c : Nat) => Lib.run_convert_bytes_const (P := Try.prog) w 22 5 C n c Try.underlying22 Try.underlying5
  go_enter Try.func12, Try.ntmps12
  go_wp2_with fail
  refine (unfed_calls _ _ _ _).mono ?_
  rintro r w1 ⟨rfl, hb1⟩
  have HB1 : Hid (Below w.heap.size w w1) := ((Below.refl _ _).alloc (Nat.le_refl _) _).trans (hb1.mono (by simp))
  clear hb1 kc
  go_wp2_with fail
  refine (newDecoder_calls w1).mono ?_
  rintro r w2 ⟨rfl, hb2, hs2, hd2⟩
  have hs1 := HB1.out.size
  have HB2 : Hid (Below w.heap.size w w2) := HB1.out.trans (hb2.mono hs1)
  have HL3 : Hid (LDec (w2.alloc (.cells #[.pointer (some ⟨w1.heap.size, 0, none⟩), .slice none 0 0, .int .i64 0, .int .i64 0, .bool false] 52)) w2.heap.size [w2.heap.size, w1.heap.size]) :=
    LDec.new (heap_alloc_new w2 _) (by show _ = _; rw [Below.heap_alloc _ _ _ (by omega)]; exact hd2)
  have HB3 : Hid (Below w.heap.size w (w2.alloc (.cells #[.pointer (some ⟨w1.heap.size, 0, none⟩), .slice none 0 0, .int .i64 0, .int .i64 0, .bool false] 52))) := HB2.out.alloc (by omega) _
  clear hb2 hd2
  go_wp2_with fail
  generalize w2.alloc (.cells #[.pointer (some ⟨w1.heap.size, 0, none⟩), .slice none 0 0, .int .i64 0, .int .i64 0, .bool false] 52) = w3 at *
  rw [hs2] at HL3
  have hcb : w.heap.size ≤ w1.heap.size + 1 := by omega
  have HX : Hid (w.heap.size ≤ w1.heap.size) := hs1
  clear hs2
  generalize w1.heap.size + 1 = cb at *
  go_loopg [5, 8] raw.length (fun g _ iv wr => ∃ (j : Nat) (F : List Nat), j ≤ raw.length ∧ g = raw.length - j ∧ iv = .int .i64 j ∧ Hid (LDec wr cb F) ∧ Hid (∀ i ∈ F, w.heap.size ≤ i) ∧ Hid (Below w.heap.size w wr))
  case atStart => exact ⟨0, [cb, w1.heap.size], by omega, rfl, rfl, HL3, fun i hi => by simp at hi; omega, HB3⟩
  case round =>
    clear HL3 HB3
    obtain ⟨j, F, hj, hg, rfl, HL, HFB, HBW⟩ := hrel
    have HG : Hid _ := hg
    have hsw := HBW.out.size
    clear hg
    by_cases hlt : j < raw.length
    · obtain ⟨b, off, rfl, hbl, hcell⟩ : ∃ b off, ca = some ⟨b, off, none⟩ ∧ b < w.heap.size ∧ wr.cell? ⟨b, off + j, none⟩ = some (.string raw[j]) := by
        rcases HR.out with h | ⟨b, off, h1, h2, h3⟩
        · subst h; simp at hlt
        · exact ⟨b, off, h1, h2, by rw [HBW.out.cell (p := ⟨b, _, none⟩) h2]; exact (h3 j hlt).1⟩
      have hss := HSZ.out j hlt
      generalize raw[j] = s at *
      have hconv := fun wx => run_bytes_of_string (P := Try.prog) wx 9 22 5 s Try.underlying9 Try.underlying22 Try.underlying5
      have HSL : Hid (s.data.toList.length = s.size) := rfl
      have HCALL : Hid _ := lfeed_calls cb F s.data.toList (some ⟨wr.heap.size, 0, none⟩) (grownCap wr s.size 0 5) _ (HL.out.kept (KeptBut.below (F := []) (((Below.refl _ _).alloc (Nat.le_refl _) _).drew)) (fun i _ => by simp)) (BytesAt.new s wr (grownCap wr s.size 0 5) ((bytesRow s (grownCap wr s.size 0 5)).size, (bytesRow s (grownCap wr s.size 0 5)).size + 1)) (fun h => by cases h) (by rw [HSL.out]; exact hss) (fun _ b off hb hm => by
        simp at hb
        have := HL.out.lt.2 b hm
        omega)
      rw [HSL.out] at HCALL
      have hjr : (j : Int) < (raw.length : Int) := by omega
      have hb0 : (0 : Int) ≤ (j : Int) ∧ (j : Int) < (raw.length : Int) := by omega
      go_wp2_with fail
      refine Calls.mono HCALL.out ?_
      rintro r w4 ⟨vy, y, F', rfl, hvy, hl4, hF4, _, hk4⟩
      obtain ⟨yo, yc, rfl⟩ := hvy.form
      have HL4 : Hid (LDec w4 cb F') := hl4
      have hsa : wr.heap.size ≤ (wr.alloc (.cells (bytesRow s (grownCap wr s.size 0 5)) 5 ((bytesRow s (grownCap wr s.size 0 5)).size, (bytesRow s (grownCap wr s.size 0 5)).size + 1))).drew.heap.size := by show _ ≤ (wr.alloc _).heap.size; simp
      have HF4 : Hid (∀ i ∈ F', w.heap.size ≤ i) := fun i hi => by
        rcases hF4 i hi with h | h
        · exact HFB.out i h
        · exact Nat.le_trans hsw (Nat.le_trans hsa h)
      have HB4 : Hid (Below w.heap.size w w4) := keptBelow ((HBW.out.alloc (by omega) _).drew) (Nat.le_trans hsw hsa) hk4 HFB.out
      clear HCALL hvy hl4 hF4 hk4 hconv hsa HL HFB HBW hcell
      by_cases hjk : (j : Int) = k
      · have hjkb : ((j : Int) == k) = true := by simpa using hjk
        have HJK : Hid _ := hjk
        clear hjk
        go_wp2_with fail
        refine (lend_calls cb F' w4 HL4.out).mono ?_
        rintro r w5 ⟨F5, rfl, hl5, hF5, hk5⟩
        have HL5 : Hid (LDec w5 cb F5) := hl5
        have hs4 := HB4.out.size
        have HF5 : Hid (∀ i ∈ F5, w.heap.size ≤ i) := fun i hi => by
          rcases hF5 i hi with h | h
          · exact HF4.out i h
          · omega
        have HB5 : Hid (Below w.heap.size w w5) := keptBelow HB4.out hs4 hk5 HF4.out
        clear hl5 hF5 hk5
        go_wp2
        go_roundg (raw.length - (j + 1))
        case measure => have := HG.out; omega
        case rel => exact ⟨j + 1, F5, by omega, rfl, by go_num, HL5, HF5, HB5⟩
      · have hjkb : ((j : Int) == k) = false := by simpa using hjk
        clear hjk
        go_wp2
        go_roundg (raw.length - (j + 1))
        case measure => have := HG.out; omega
        case rel => exact ⟨j + 1, F', by omega, rfl, by go_num, HL4, HF4, HB4⟩
    · have hjr : ¬ (j : Int) < (raw.length : Int) := by omega
      go_wp2_with fail
      refine (lend_calls cb F wr HL.out).mono ?_
      rintro r w5 ⟨F5, rfl, hl5, hF5, hk5⟩
      have HB5 : Hid (Below w.heap.size w w5) := keptBelow HBW.out hsw hk5 HFB.out
      clear hl5 hF5 hk5
      go_wp2
      go_ret
      exact ⟨rfl, HB5.out⟩
end Go.Proofs.Ytnpnaglgllcpfaa
