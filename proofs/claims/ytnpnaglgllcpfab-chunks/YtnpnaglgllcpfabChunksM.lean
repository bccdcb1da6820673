/-
  The law Chunks returns true of every string and every two lists of numbers: however data is cut into Writes, the stream is Compress's; and however that is cut into Feeds, the data comes back.
-/
import Derived.Test.YtnpnaglgllcpfabEcr4
import Derived.Test.YtnpnaglgllcpfabKp
import Derived.Test.YtnpnaglgllcpfabKq
import Derived.Test.YtnpnaglgllcpfabDcr3
import Derived.BigQuiet
import Derived.Test.YtnpnaglgllcpfabOpenToks
import Derived.SizedLaws
import Derived.ShutString
import Derived.ChangeSlices
/-! presskeep.encoded: an Encoder takes data in parts. -/
namespace Go.Proofs.Ytnpnaglgllcpfab
set_option maxRecDepth 100000
open Go.RowKit

theorem ba_append (a b : List UInt8) : (⟨a.toArray⟩ : ByteArray) ++ ⟨b.toArray⟩ = ⟨(a ++ b).toArray⟩ := by
  apply ByteArray.ext
  simp
theorem ba_size (a : List UInt8) : (⟨a.toArray⟩ : ByteArray).size = a.length := by simp [ByteArray.size]
theorem take_part (l : List UInt8) (k t : Nat) (h : k ≤ t) : l.take k ++ (l.drop k).take (t - k) = l.take t := by
  conv => rhs; rw [show t = k + (t - k) by omega, List.take_add]

theorem sofar_le (b : Bool) (d : List UInt8) (hd : d.length ≤ 2048) : (toBytes (sofar b d)).length ≤ 5000 := by
  rw [toBytes_length]
  cases b
  · show ([] : List Bool).length / 8 ≤ 5000
    simp
  · show (magicBits ++ fullBits parseOf d).length / 8 ≤ 5000
    have := fullBits_le d
    rw [List.length_append, magic_length]; omega

set_option maxHeartbeats 4000000 in
theorem encoded_calls (b0 : Nat) (data : List UInt8) (dc : Nat) (ra : Option Addr) (raw : List Int) (rc : Nat) (w : World) (hd : data.length ≤ 2048) (hdc : data.length ≤ dc) (hb : BytesAt w (some ⟨b0, 0, none⟩) data) (hb0 : b0 < w.heap.size) (hrl : raw.length ≤ 100000000000000) (hr : RawAt w ra raw) :
    Calls Try.prog 30 #[.slice (some ⟨b0, 0, none⟩) data.length dc, .slice ra raw.length rc] w fun e w' => e = .returned (.tuple #[.string ⟨(streamOf parseOf data).toArray⟩, .bool true]) ∧ Below w.heap.size w w' := by
  have HB : Hid (BytesAt w (some ⟨b0, 0, none⟩) data) := hb
  have HR : Hid (RawAt w ra raw) := hr
  clear hb hr
  go_enter Try.func30, Try.ntmps30
  go_wp2_with fail
  refine (newEncoder_calls w).mono ?_
  rintro r w1 ⟨rfl, hb1, hs1, he1⟩
  have HE1 : Hid (EncAt w1 w.heap.size [] false) := he1
  have HB1 : Hid (Below w.heap.size w w1) := hb1
  clear he1 hb1
  generalize hq : w.heap.size = q at *
  have HQ : Hid (w.heap.size = q) := hq
  clear hq
  go_wp2_with fail
  go_loopg [7, 8, 9] (raw.length + 1) (fun g sv fv iv wr => ∃ (j K : Nat) (b : Bool) (str : ByteArray), j ≤ raw.length + 1 ∧ g = raw.length + 1 - j ∧ iv = .int .i64 j ∧ fv = .int .i64 K ∧ K ≤ data.length ∧ (j = raw.length + 1 → K = data.length) ∧ sv = .string str ∧ str.size ≤ 5000 ∧ Hid (str = ⟨(toBytes (sofar b (data.take K))).toArray⟩) ∧ Hid (EncAt wr q (data.take K) b) ∧ Hid (Below q w wr) ∧ q < wr.heap.size)
  case atStart => exact ⟨0, 0, false, ⟨#[]⟩, by omega, by omega, rfl, rfl, by omega, fun h => by omega, rfl, by simp [ByteArray.size], rfl, by rw [List.take_zero]; exact HE1, HB1, by omega⟩
  case round =>
    clear HE1 HB1
    obtain ⟨j, K, b, str, hj, hg, rfl, rfl, hK, hKe, rfl, hstr, HST, HE, HBW, hqw⟩ := hrel
    have HG : Hid _ := hg
    have HKE : Hid _ := hKe
    clear hg hKe
    by_cases hlt : j ≤ raw.length
    · have hdat : ∀ i, i < data.length → wr.cell? ⟨b0, 0 + i, none⟩ = some (.int .u8 (data.getD i 0).toNat) := by
        rcases HB.out with h | ⟨b', off, h1, h2⟩
        · intro i hi; rw [h] at hi; simp at hi
        · simp at h1
          obtain ⟨rfl, rfl⟩ := h1
          intro i hi
          rw [HBW.out.cell (p := ⟨b0, _, none⟩) (by exact hb0)]
          exact h2 i hi
      have HWC : Hid (∀ T, K ≤ T → T ≤ data.length → ∀ pa pc, (pa = some ⟨b0, K, none⟩ ∨ (pa = some ⟨b0, 0, none⟩ ∧ T = K)) → Calls Try.prog 51 #[.pointer (some ⟨q, 0, none⟩), .slice pa (T - K) pc] wr fun r w' => ∃ vy Y, r = .returned (.tuple #[vy, .int .i64 0]) ∧ OwnB w' wr.heap.size vy Y ∧ EncAt w' q (data.take T) true ∧ toBytes (sofar b (data.take K)) ++ Y = toBytes (sofar true (data.take T)) ∧ OneKept wr w' q) := fun T h1 h2 pa pc hpa => by
        have hpt : ((data.drop K).take (T - K)).length = T - K := by rw [List.length_take, List.length_drop]; omega
        have hbt : BytesAt wr pa ((data.drop K).take (T - K)) := by
          rcases hpa with rfl | ⟨rfl, rfl⟩
          · have := BytesAt.part hdat K (T - K)
            rwa [Nat.zero_add] at this
          · exact .inl (by simp)
        have := ewrite_calls q (data.take K) ((data.drop K).take (T - K)) b pa pc wr HE.out hbt (fun k off e => by
          rcases hpa with rfl | ⟨rfl, _⟩
          · simp at e; omega
          · simp at e; omega) (by rw [hpt, List.length_take]; omega)
        rw [hpt] at this
        refine this.mono ?_
        rintro r w' ⟨hk, he, L, vy, rfl, hL, hy⟩
        rw [take_part data K T h1] at he hL
        refine ⟨vy, toBytes L, rfl, hy, he, ?_, hk⟩
        rw [← toBytes_append _ _ (sofar_full _ _), hL]
        rfl
      clear hdat
      have hsz := fun T => sofar_le true (data.take T)
      have HNX : Hid (∀ T, T ≤ data.length → (toBytes (sofar true (data.take T))).length ≤ 5000) := fun T hT => hsz T (by rw [List.length_take]; omega)
      clear hsz
      have hji : (j : Int) ≤ (raw.length : Int) := by omega
      by_cases hlt2 : j < raw.length
      · have hji2 : (j : Int) < (raw.length : Int) := by omega
        obtain ⟨rb, ro, rfl, hrb, hrc⟩ : ∃ rb ro, ra = some ⟨rb, ro, none⟩ ∧ rb < w.heap.size ∧ (wr.cell? ⟨rb, ro + j, none⟩ = some (.int .i64 raw[j]) ∧ In64 raw[j]) := by
          rcases HR.out with h | ⟨rb, ro, h1, h2, h3⟩
          · rw [h] at hlt2; simp at hlt2
          · exact ⟨rb, ro, h1, h2, by rw [HBW.out.cell (p := ⟨rb, _, none⟩) (by have := HQ.out; show rb < q; omega)]; exact h3 j hlt2⟩
        obtain ⟨hrc, hin⟩ := hrc
        generalize raw[j] = x at *
        have hib : (0 : Int) ≤ (j : Int) ∧ (j : Int) < (raw.length : Int) := by omega
        go_wp2_with fail
        refine (pick_calls x 100 wr hin (by omega) (by omega)).mono ?_
        rintro r w2 ⟨⟨u, hu0, hu1, rfl⟩, hww⟩
        replace hww : wr = w2 := hww.symm
        subst hww
        obtain ⟨T, hT⟩ : ∃ T : Nat, (K : Int) + u = (T : Int) := ⟨((K : Int) + u).toNat, by omega⟩
        have hKT : K ≤ T := by omega
        by_cases htd : T ≤ data.length
        · have htb : ¬ (data.length : Int) < (T : Int) := by omega
          by_cases hcK : dc = K
          · subst hcK
            have hTK : T = dc := by omega
            have hb1 : (0 : Int) ≤ (dc : Int) ∧ (dc : Int) ≤ (T : Int) ∧ (T : Int) ≤ (dc : Int) := by omega
            have hm0 : T - dc = 0 := by omega
            have HCL : Hid _ := HWC.out T (by omega) (by omega) (some ⟨b0, 0, none⟩) 0 (.inr ⟨rfl, hTK⟩)
            rw [hm0] at HCL
            have HTK : Hid _ := hTK
            clear HWC hTK
            go_wp2_with fail
            refine Calls.mono HCL.out ?_
            rintro r w3 ⟨vy, Y, rfl, hy, he, hEq, hk⟩
            obtain ⟨yo, yc, rfl⟩ := hy.form
            have hs3 := hk.size
            have HY3 : Hid (OwnB w3 wr.heap.size (.slice yo Y.length yc) Y) := hy
            have HE3 : Hid (EncAt w3 q (data.take T) true) := he
            have HST3 : Hid (str ++ ⟨Y.toArray⟩ = ⟨(toBytes (sofar true (data.take T))).toArray⟩) := by show _ = _; rw [HST.out, ba_append, hEq]
            have hst3 : (str ++ ⟨Y.toArray⟩ : ByteArray).size ≤ 5000 := by rw [HST3.out, ba_size]; exact HNX.out _ (by omega)
            have hcat : str.size + (⟨Y.toArray⟩ : ByteArray).size ≤ 100000 := by have h := hst3; rw [ByteArray.size_append] at h; omega
            have HB3 : Hid (Below q w w3) := HBW.out.trans ⟨hk.os, hk.tape, hk.output, hk.size, fun k h => hk.heap k (by omega) (by omega)⟩
            have k1 := conv_own HY3.out
            have hq3 : q < w3.heap.size := by omega
            clear hy he hEq hk HCL
            go_wp2
            go_roundg (raw.length + 1 - (j + 1))
            case measure => have := HG.out; omega
            case rel => exact ⟨j + 1, T, true, _, by omega, rfl, by go_num, rfl, by omega, fun h => by omega, rfl, hst3, HST3, HE3, HB3, hq3⟩
          · have hb1 : (0 : Int) ≤ (K : Int) ∧ (K : Int) ≤ (T : Int) ∧ (T : Int) ≤ (dc : Int) := by omega
            have HCL : Hid _ := HWC.out T (by omega) (by omega) (some ⟨b0, K, none⟩) (dc - K) (.inl rfl)
            clear HWC
            go_wp2_with fail
            refine Calls.mono HCL.out ?_
            rintro r w3 ⟨vy, Y, rfl, hy, he, hEq, hk⟩
            obtain ⟨yo, yc, rfl⟩ := hy.form
            have hs3 := hk.size
            have HY3 : Hid (OwnB w3 wr.heap.size (.slice yo Y.length yc) Y) := hy
            have HE3 : Hid (EncAt w3 q (data.take T) true) := he
            have HST3 : Hid (str ++ ⟨Y.toArray⟩ = ⟨(toBytes (sofar true (data.take T))).toArray⟩) := by show _ = _; rw [HST.out, ba_append, hEq]
            have hst3 : (str ++ ⟨Y.toArray⟩ : ByteArray).size ≤ 5000 := by rw [HST3.out, ba_size]; exact HNX.out _ (by omega)
            have hcat : str.size + (⟨Y.toArray⟩ : ByteArray).size ≤ 100000 := by have h := hst3; rw [ByteArray.size_append] at h; omega
            have HB3 : Hid (Below q w w3) := HBW.out.trans ⟨hk.os, hk.tape, hk.output, hk.size, fun k h => hk.heap k (by omega) (by omega)⟩
            have k1 := conv_own HY3.out
            have hq3 : q < w3.heap.size := by omega
            clear hy he hEq hk HCL
            go_wp2
            go_roundg (raw.length + 1 - (j + 1))
            case measure => have := HG.out; omega
            case rel => exact ⟨j + 1, T, true, _, by omega, rfl, by go_num, rfl, by omega, fun h => by omega, rfl, hst3, HST3, HE3, HB3, hq3⟩
        · have htb : (data.length : Int) < (T : Int) := by omega
          by_cases hcK : dc = K
          · subst hcK
            have hTK : data.length = dc := by omega
            have hb1 : (0 : Int) ≤ (dc : Int) ∧ (dc : Int) ≤ (data.length : Int) ∧ (data.length : Int) ≤ (dc : Int) := by omega
            have hm0 : data.length - dc = 0 := by omega
            have HCL : Hid _ := HWC.out data.length (by omega) (by omega) (some ⟨b0, 0, none⟩) 0 (.inr ⟨rfl, hTK⟩)
            rw [hm0] at HCL
            have HTK : Hid _ := hTK
            clear HWC hTK
            go_wp2_with fail
            refine Calls.mono HCL.out ?_
            rintro r w3 ⟨vy, Y, rfl, hy, he, hEq, hk⟩
            obtain ⟨yo, yc, rfl⟩ := hy.form
            have hs3 := hk.size
            have HY3 : Hid (OwnB w3 wr.heap.size (.slice yo Y.length yc) Y) := hy
            have HE3 : Hid (EncAt w3 q (data.take data.length) true) := he
            have HST3 : Hid (str ++ ⟨Y.toArray⟩ = ⟨(toBytes (sofar true (data.take data.length))).toArray⟩) := by show _ = _; rw [HST.out, ba_append, hEq]
            have hst3 : (str ++ ⟨Y.toArray⟩ : ByteArray).size ≤ 5000 := by rw [HST3.out, ba_size]; exact HNX.out _ (by omega)
            have hcat : str.size + (⟨Y.toArray⟩ : ByteArray).size ≤ 100000 := by have h := hst3; rw [ByteArray.size_append] at h; omega
            have HB3 : Hid (Below q w w3) := HBW.out.trans ⟨hk.os, hk.tape, hk.output, hk.size, fun k h => hk.heap k (by omega) (by omega)⟩
            have k1 := conv_own HY3.out
            have hq3 : q < w3.heap.size := by omega
            clear hy he hEq hk HCL
            go_wp2
            go_roundg (raw.length + 1 - (j + 1))
            case measure => have := HG.out; omega
            case rel => exact ⟨j + 1, data.length, true, _, by omega, rfl, by go_num, rfl, by omega, fun h => rfl, rfl, hst3, HST3, HE3, HB3, hq3⟩
          · have hb1 : (0 : Int) ≤ (K : Int) ∧ (K : Int) ≤ (data.length : Int) ∧ (data.length : Int) ≤ (dc : Int) := by omega
            have HCL : Hid _ := HWC.out data.length (by omega) (by omega) (some ⟨b0, K, none⟩) (dc - K) (.inl rfl)
            clear HWC
            go_wp2_with fail
            refine Calls.mono HCL.out ?_
            rintro r w3 ⟨vy, Y, rfl, hy, he, hEq, hk⟩
            obtain ⟨yo, yc, rfl⟩ := hy.form
            have hs3 := hk.size
            have HY3 : Hid (OwnB w3 wr.heap.size (.slice yo Y.length yc) Y) := hy
            have HE3 : Hid (EncAt w3 q (data.take data.length) true) := he
            have HST3 : Hid (str ++ ⟨Y.toArray⟩ = ⟨(toBytes (sofar true (data.take data.length))).toArray⟩) := by show _ = _; rw [HST.out, ba_append, hEq]
            have hst3 : (str ++ ⟨Y.toArray⟩ : ByteArray).size ≤ 5000 := by rw [HST3.out, ba_size]; exact HNX.out _ (by omega)
            have hcat : str.size + (⟨Y.toArray⟩ : ByteArray).size ≤ 100000 := by have h := hst3; rw [ByteArray.size_append] at h; omega
            have HB3 : Hid (Below q w w3) := HBW.out.trans ⟨hk.os, hk.tape, hk.output, hk.size, fun k h => hk.heap k (by omega) (by omega)⟩
            have k1 := conv_own HY3.out
            have hq3 : q < w3.heap.size := by omega
            clear hy he hEq hk HCL
            go_wp2
            go_roundg (raw.length + 1 - (j + 1))
            case measure => have := HG.out; omega
            case rel => exact ⟨j + 1, data.length, true, _, by omega, rfl, by go_num, rfl, by omega, fun h => rfl, rfl, hst3, HST3, HE3, HB3, hq3⟩
      · have hji2 : ¬ (j : Int) < (raw.length : Int) := by omega
        by_cases hcK : dc = K
        · subst hcK
          have hTK : data.length = dc := by omega
          have hb1 : (0 : Int) ≤ (dc : Int) ∧ (dc : Int) ≤ (data.length : Int) ∧ (data.length : Int) ≤ (dc : Int) := by omega
          have hm0 : data.length - dc = 0 := by omega
          have HCL : Hid _ := HWC.out data.length (by omega) (by omega) (some ⟨b0, 0, none⟩) 0 (.inr ⟨rfl, hTK⟩)
          rw [hm0] at HCL
          have HTK : Hid _ := hTK
          clear HWC hTK
          go_wp2_with fail
          refine Calls.mono HCL.out ?_
          rintro r w3 ⟨vy, Y, rfl, hy, he, hEq, hk⟩
          obtain ⟨yo, yc, rfl⟩ := hy.form
          have hs3 := hk.size
          have HY3 : Hid (OwnB w3 wr.heap.size (.slice yo Y.length yc) Y) := hy
          have HE3 : Hid (EncAt w3 q (data.take data.length) true) := he
          have HST3 : Hid (str ++ ⟨Y.toArray⟩ = ⟨(toBytes (sofar true (data.take data.length))).toArray⟩) := by show _ = _; rw [HST.out, ba_append, hEq]
          have hst3 : (str ++ ⟨Y.toArray⟩ : ByteArray).size ≤ 5000 := by rw [HST3.out, ba_size]; exact HNX.out _ (by omega)
          have hcat : str.size + (⟨Y.toArray⟩ : ByteArray).size ≤ 100000 := by have h := hst3; rw [ByteArray.size_append] at h; omega
          have HB3 : Hid (Below q w w3) := HBW.out.trans ⟨hk.os, hk.tape, hk.output, hk.size, fun k h => hk.heap k (by omega) (by omega)⟩
          have k1 := conv_own HY3.out
          have hq3 : q < w3.heap.size := by omega
          clear hy he hEq hk HCL
          go_wp2
          go_roundg (raw.length + 1 - (j + 1))
          case measure => have := HG.out; omega
          case rel => exact ⟨j + 1, data.length, true, _, by omega, rfl, by go_num, rfl, by omega, fun h => rfl, rfl, hst3, HST3, HE3, HB3, hq3⟩
        · have hb1 : (0 : Int) ≤ (K : Int) ∧ (K : Int) ≤ (data.length : Int) ∧ (data.length : Int) ≤ (dc : Int) := by omega
          have HCL : Hid _ := HWC.out data.length (by omega) (by omega) (some ⟨b0, K, none⟩) (dc - K) (.inl rfl)
          clear HWC
          go_wp2_with fail
          refine Calls.mono HCL.out ?_
          rintro r w3 ⟨vy, Y, rfl, hy, he, hEq, hk⟩
          obtain ⟨yo, yc, rfl⟩ := hy.form
          have hs3 := hk.size
          have HY3 : Hid (OwnB w3 wr.heap.size (.slice yo Y.length yc) Y) := hy
          have HE3 : Hid (EncAt w3 q (data.take data.length) true) := he
          have HST3 : Hid (str ++ ⟨Y.toArray⟩ = ⟨(toBytes (sofar true (data.take data.length))).toArray⟩) := by show _ = _; rw [HST.out, ba_append, hEq]
          have hst3 : (str ++ ⟨Y.toArray⟩ : ByteArray).size ≤ 5000 := by rw [HST3.out, ba_size]; exact HNX.out _ (by omega)
          have hcat : str.size + (⟨Y.toArray⟩ : ByteArray).size ≤ 100000 := by have h := hst3; rw [ByteArray.size_append] at h; omega
          have HB3 : Hid (Below q w w3) := HBW.out.trans ⟨hk.os, hk.tape, hk.output, hk.size, fun k h => hk.heap k (by omega) (by omega)⟩
          have k1 := conv_own HY3.out
          have hq3 : q < w3.heap.size := by omega
          clear hy he hEq hk HCL
          go_wp2
          go_roundg (raw.length + 1 - (j + 1))
          case measure => have := HG.out; omega
          case rel => exact ⟨j + 1, data.length, true, _, by omega, rfl, by go_num, rfl, by omega, fun h => rfl, rfl, hst3, HST3, HE3, HB3, hq3⟩
    · have hji : ¬ (j : Int) ≤ (raw.length : Int) := by omega
      have hKd : K = data.length := HKE.out (by omega)
      subst hKd
      rw [List.take_length] at HE HST
      go_wp2_with fail
      refine (eclose_calls q data b wr HE.out).mono ?_
      rintro r w2 ⟨hk2, hsh2, L, vy, rfl, hL, hy⟩
      have HST2 : Hid (str ++ ⟨(toBytes L).toArray⟩ = ⟨(streamOf parseOf data).toArray⟩) := by
        show _ = _
        rw [HST.out, ba_append, ← toBytes_append _ _ (sofar_full _ _), hL]
        rfl
      have hLs : (toBytes L).length ≤ 5000 := by
        have h1 : (toBytes (sofar b data)).length + (toBytes L).length = (streamOf parseOf data).length := by
          rw [← List.length_append, ← toBytes_append _ _ (sofar_full _ _), hL]
          rfl
        have h2 := frames_chosen parse_chosen data _ (Nat.le_refl _)
        have h3 : (streamOf parseOf data).length = (streamBits (toksOf parseOf data)).length / 8 := toBytes_length _
        unfold streamBits at h3
        rw [toksOf_length] at h2 h3
        simp only [List.length_append, magic_length, endBits_length] at h3
        unfold cutN at h2 h3
        omega
      obtain ⟨yo, yc, rfl⟩ := hy.form
      have HSH2 : Hid _ := hsh2
      have HY2 : Hid (OwnB w2 wr.heap.size (.slice yo (toBytes L).length yc) (toBytes L)) := hy
      have HBL : Hid (Below q w w2) := HBW.out.trans ⟨hk2.os, hk2.tape, hk2.output, hk2.size, fun k hk => hk2.heap k (by omega) (by omega)⟩
      clear hk2 hsh2 hL hy
      generalize toBytes L = Y at *
      go_wp2_with fail
      refine (ewrite_shut q _ _ _ w2 HSH2.out).mono ?_
      rintro r w3 ⟨rfl, rfl⟩
      go_wp2_with fail
      refine (eclose_shut q w3 HSH2.out).mono ?_
      rintro r w4 ⟨rfl, rfl⟩
      have k1 := conv_own HY2.out
      have k2 := conv_drew HY2.out
      have hcat : str.size + (⟨Y.toArray⟩ : ByteArray).size ≤ 100000 := by have h := ba_size Y; omega
      go_wp2
      go_ret2
      exact ⟨by rw [← HST2.out]; rfl, by rw [HQ.out]; exact HBL.out⟩
end Go.Proofs.Ytnpnaglgllcpfab

/-! presskeep.decoded: a Decoder takes a stream in parts. -/
namespace Go.Proofs.Ytnpnaglgllcpfab
set_option maxRecDepth 100000
open Go.RowKit

theorem Runs.small {st st' : Nat} {R R' : List Bool} {fs : List (List Tok × List UInt8)} (h : Runs st R fs st' R') : fs.length + R'.length ≤ R.length ∧ (dataOf fs).length ≤ 64 * fs.length := by
  induction h with
  | stay => simp
  | none h3 hp hl _ ih => omega
  | @some st st1 st2 R R1 R2 ts fs h3 hp hl h1 h64 _ ih =>
    have e : (dataOf ((ts, made ts) :: fs)).length = (made ts).length + (dataOf fs).length := by simp [dataOf]
    rw [e]
    simp only [List.length_cons]
    omega
/-- What is told of a beginning of a right stream: nothing is wrong. -/
theorem Told.begin {l x : List UInt8} {fs : List (List Tok × List UInt8)} {e : Int} (h : Told l fs e) (hx : (rRead (l ++ x)).1 = 0) (hl : (l ++ x).length ≤ 4096) : e = 0 ∨ e = 4 := by
  obtain ⟨st, R, h1, h2⟩ := h
  by_cases h0 : e = 0
  · exact .inl h0
  · by_cases h4 : e = 4
    · exact .inr h4
    · exfalso
      have hm : (bitsIn x).length % 8 = 0 := by rw [bitsIn_length]; omega
      have ht : Told (l ++ x) fs e := ⟨st, _, by rw [bitsIn_append]; exact h1.more _ hm, h2.more _ hm h0 h4⟩
      obtain ⟨ends, hr⟩ := ht.read hl
      rw [hr] at hx
      exact h0 hx

set_option maxHeartbeats 4000000 in
theorem decoded_calls (b0 : Nat) (data D : List UInt8) (dc : Nat) (ra : Option Addr) (raw : List Int) (rc : Nat) (w : World) (hd : data.length ≤ 4096) (hrd : ∃ ps ends, rRead data = (0, ps, D, ends)) (hdc : data.length ≤ dc) (hb : BytesAt w (some ⟨b0, 0, none⟩) data) (hb0 : b0 < w.heap.size) (hrl : raw.length ≤ 100000000000000) (hr : RawAt w ra raw) :
    Calls Try.prog 31 #[.slice (some ⟨b0, 0, none⟩) data.length dc, .slice ra raw.length rc] w fun e w' => e = .returned (.tuple #[.string ⟨D.toArray⟩, .bool true]) ∧ Below w.heap.size w w' := by
  have HB : Hid (BytesAt w (some ⟨b0, 0, none⟩) data) := hb
  have HR : Hid (RawAt w ra raw) := hr
  have HRD : Hid _ := hrd
  clear hb hr hrd
  go_enter Try.func31, Try.ntmps31
  go_wp2_with fail
  refine (newDecoder_calls w).mono ?_
  rintro r w1 ⟨rfl, hb1, hs1, he1⟩
  have HE1 : Hid (DecAt w1 w.heap.size (.slice none 0 0) [] [] 4) := DecAt.new he1
  have HB1 : Hid (Below w.heap.size w w1) := hb1
  clear he1 hb1
  generalize hq : w.heap.size = q at *
  have HQ : Hid (w.heap.size = q) := hq
  clear hq
  go_wp2_with fail
  go_loopg [7, 8, 9] (raw.length + 1) (fun g sv fv iv wr => ∃ (j K : Nat) (fs : List (List Tok × List UInt8)) (e : Int) (v : Value) (str : ByteArray), j ≤ raw.length + 1 ∧ g = raw.length + 1 - j ∧ iv = .int .i64 j ∧ fv = .int .i64 K ∧ K ≤ data.length ∧ (j = raw.length + 1 → K = data.length) ∧ sv = .string str ∧ str.size ≤ 5000000 ∧ Hid (str = ⟨(dataOf fs).toArray⟩) ∧ Hid (DecAt wr q v (data.take K) fs e) ∧ Hid (Below q w wr) ∧ q < wr.heap.size)
  case atStart => exact ⟨0, 0, [], 4, .slice none 0 0, ⟨#[]⟩, by omega, by omega, rfl, rfl, by omega, fun h => by omega, rfl, by simp [ByteArray.size], rfl, by rw [List.take_zero]; exact HE1, HB1, by omega⟩
  case round =>
    clear HE1 HB1
    obtain ⟨j, K, fs, e, v, str, hj, hg, rfl, rfl, hK, hKe, rfl, hstr, HST, HE, HBW, hqw⟩ := hrel
    have HG : Hid _ := hg
    have HKE : Hid _ := hKe
    clear hg hKe
    by_cases hlt : j ≤ raw.length
    · have hdat : ∀ i, i < data.length → wr.cell? ⟨b0, 0 + i, none⟩ = some (.int .u8 (data.getD i 0).toNat) := by
        rcases HB.out with h | ⟨b', off, h1, h2⟩
        · intro i hi; rw [h] at hi; simp at hi
        · simp at h1
          obtain ⟨rfl, rfl⟩ := h1
          intro i hi
          rw [HBW.out.cell (p := ⟨b0, _, none⟩) (by exact hb0)]
          exact h2 i hi
      have HWC : Hid (∀ T, K ≤ T → T ≤ data.length → ∀ pa pc, (pa = some ⟨b0, K, none⟩ ∨ (pa = some ⟨b0, 0, none⟩ ∧ T = K)) → Calls Try.prog 48 #[.pointer (some ⟨q, 0, none⟩), .slice pa (T - K) pc] wr fun r w' => ∃ vy Y fs' e' v', r = .returned (.tuple #[vy, .int .i64 0]) ∧ OwnB w' wr.heap.size vy Y ∧ DecAt w' q v' (data.take T) fs' e' ∧ dataOf fs ++ Y = dataOf fs' ∧ (dataOf fs').length ≤ 5000000 ∧ OneKept wr w' q) := fun T h1 h2 pa pc hpa => by
        have hpt : ((data.drop K).take (T - K)).length = T - K := by rw [List.length_take, List.length_drop]; omega
        have hbt : BytesAt wr pa ((data.drop K).take (T - K)) := by
          rcases hpa with rfl | ⟨rfl, rfl⟩
          · have := BytesAt.part hdat K (T - K)
            rwa [Nat.zero_add] at this
          · exact .inl (by simp)
        have := feed_calls q v (data.take K) ((data.drop K).take (T - K)) fs e pa pc wr HE.out hbt (fun h => by
          rcases hpa with rfl | ⟨rfl, _⟩
          · cases h
          · cases h) (by rw [hpt, List.length_take]; omega)
        rw [hpt] at this
        refine this.mono ?_
        rintro r w' ⟨hk, fs', e', vy, ht, hy, hcase⟩
        rw [take_part data K T h1] at ht hcase
        obtain ⟨ps, ends, hrd⟩ := HRD.out
        have hok := ht.begin (x := data.drop T) (by rw [List.take_append_drop, hrd]) (by rw [List.take_append_drop]; exact hd)
        have hsm : (dataOf (fs ++ fs')).length ≤ 5000000 := by
          obtain ⟨st, R, hr, _⟩ := ht
          have := hr.small
          rw [bitsIn_length, List.length_take] at this
          omega
        rcases hcase with ⟨_, rfl, v', hd', _⟩ | ⟨h0, h4, _⟩
        · exact ⟨vy, dataOf fs', fs ++ fs', e', v', rfl, hy, hd', by simp [dataOf], hsm, hk⟩
        · omega
      clear hdat
      have hji : (j : Int) ≤ (raw.length : Int) := by omega
      by_cases hlt2 : j < raw.length
      · have hji2 : (j : Int) < (raw.length : Int) := by omega
        obtain ⟨rb, ro, rfl, hrb, hrc⟩ : ∃ rb ro, ra = some ⟨rb, ro, none⟩ ∧ rb < w.heap.size ∧ (wr.cell? ⟨rb, ro + j, none⟩ = some (.int .i64 raw[j]) ∧ In64 raw[j]) := by
          rcases HR.out with h | ⟨rb, ro, h1, h2, h3⟩
          · rw [h] at hlt2; simp at hlt2
          · exact ⟨rb, ro, h1, h2, by rw [HBW.out.cell (p := ⟨rb, _, none⟩) (by have := HQ.out; show rb < q; omega)]; exact h3 j hlt2⟩
        obtain ⟨hrc, hin⟩ := hrc
        generalize raw[j] = x at *
        have hib : (0 : Int) ≤ (j : Int) ∧ (j : Int) < (raw.length : Int) := by omega
        go_wp2_with fail
        refine (pick_calls x 100 wr hin (by omega) (by omega)).mono ?_
        rintro r w2 ⟨⟨u, hu0, hu1, rfl⟩, hww⟩
        replace hww : wr = w2 := hww.symm
        subst hww
        obtain ⟨T, hT⟩ : ∃ T : Nat, (K : Int) + u = (T : Int) := ⟨((K : Int) + u).toNat, by omega⟩
        have hKT : K ≤ T := by omega
        by_cases htd : T ≤ data.length
        · have htb : ¬ (data.length : Int) < (T : Int) := by omega
          by_cases hcK : dc = K
          · subst hcK
            have hTK : T = dc := by omega
            have hb1 : (0 : Int) ≤ (dc : Int) ∧ (dc : Int) ≤ (T : Int) ∧ (T : Int) ≤ (dc : Int) := by omega
            have hm0 : T - dc = 0 := by omega
            have HCL : Hid _ := HWC.out T (by omega) (by omega) (some ⟨b0, 0, none⟩) 0 (.inr ⟨rfl, hTK⟩)
            rw [hm0] at HCL
            have HTK : Hid _ := hTK
            clear HWC hTK
            go_wp2_with fail
            refine Calls.mono HCL.out ?_
            rintro r w3 ⟨vy, Y, fs', e', v', rfl, hy, he, hEq, hsm, hk⟩
            obtain ⟨yo, yc, rfl⟩ := hy.form
            have hs3 := hk.size
            have HY3 : Hid (OwnB w3 wr.heap.size (.slice yo Y.length yc) Y) := hy
            have HE3 : Hid (DecAt w3 q v' (data.take T) fs' e') := he
            have HST3 : Hid (str ++ ⟨Y.toArray⟩ = ⟨(dataOf fs').toArray⟩) := by show _ = _; rw [HST.out, ba_append, hEq]
            have hst3 : (str ++ ⟨Y.toArray⟩ : ByteArray).size ≤ 5000000 := by rw [HST3.out, ba_size]; exact hsm
            have hcat : str.size + (⟨Y.toArray⟩ : ByteArray).size ≤ 10000000 := by have h := hst3; rw [ByteArray.size_append] at h; omega
            have HB3 : Hid (Below q w w3) := HBW.out.trans ⟨hk.os, hk.tape, hk.output, hk.size, fun k h => hk.heap k (by omega) (by omega)⟩
            have k1 := conv_own HY3.out
            have hq3 : q < w3.heap.size := by omega
            clear hy he hEq hk HCL hsm
            go_wp2
            go_roundg (raw.length + 1 - (j + 1))
            case measure => have := HG.out; omega
            case rel => exact ⟨j + 1, T, fs', e', v', _, by omega, rfl, by go_num, rfl, by omega, fun h => by omega, rfl, hst3, HST3, HE3, HB3, hq3⟩
          · have hb1 : (0 : Int) ≤ (K : Int) ∧ (K : Int) ≤ (T : Int) ∧ (T : Int) ≤ (dc : Int) := by omega
            have HCL : Hid _ := HWC.out T (by omega) (by omega) (some ⟨b0, K, none⟩) (dc - K) (.inl rfl)
            clear HWC
            go_wp2_with fail
            refine Calls.mono HCL.out ?_
            rintro r w3 ⟨vy, Y, fs', e', v', rfl, hy, he, hEq, hsm, hk⟩
            obtain ⟨yo, yc, rfl⟩ := hy.form
            have hs3 := hk.size
            have HY3 : Hid (OwnB w3 wr.heap.size (.slice yo Y.length yc) Y) := hy
            have HE3 : Hid (DecAt w3 q v' (data.take T) fs' e') := he
            have HST3 : Hid (str ++ ⟨Y.toArray⟩ = ⟨(dataOf fs').toArray⟩) := by show _ = _; rw [HST.out, ba_append, hEq]
            have hst3 : (str ++ ⟨Y.toArray⟩ : ByteArray).size ≤ 5000000 := by rw [HST3.out, ba_size]; exact hsm
            have hcat : str.size + (⟨Y.toArray⟩ : ByteArray).size ≤ 10000000 := by have h := hst3; rw [ByteArray.size_append] at h; omega
            have HB3 : Hid (Below q w w3) := HBW.out.trans ⟨hk.os, hk.tape, hk.output, hk.size, fun k h => hk.heap k (by omega) (by omega)⟩
            have k1 := conv_own HY3.out
            have hq3 : q < w3.heap.size := by omega
            clear hy he hEq hk HCL hsm
            go_wp2
            go_roundg (raw.length + 1 - (j + 1))
            case measure => have := HG.out; omega
            case rel => exact ⟨j + 1, T, fs', e', v', _, by omega, rfl, by go_num, rfl, by omega, fun h => by omega, rfl, hst3, HST3, HE3, HB3, hq3⟩
        · have htb : (data.length : Int) < (T : Int) := by omega
          by_cases hcK : dc = K
          · subst hcK
            have hTK : data.length = dc := by omega
            have hb1 : (0 : Int) ≤ (dc : Int) ∧ (dc : Int) ≤ (data.length : Int) ∧ (data.length : Int) ≤ (dc : Int) := by omega
            have hm0 : data.length - dc = 0 := by omega
            have HCL : Hid _ := HWC.out data.length (by omega) (by omega) (some ⟨b0, 0, none⟩) 0 (.inr ⟨rfl, hTK⟩)
            rw [hm0] at HCL
            have HTK : Hid _ := hTK
            clear HWC hTK
            go_wp2_with fail
            refine Calls.mono HCL.out ?_
            rintro r w3 ⟨vy, Y, fs', e', v', rfl, hy, he, hEq, hsm, hk⟩
            obtain ⟨yo, yc, rfl⟩ := hy.form
            have hs3 := hk.size
            have HY3 : Hid (OwnB w3 wr.heap.size (.slice yo Y.length yc) Y) := hy
            have HE3 : Hid (DecAt w3 q v' (data.take data.length) fs' e') := he
            have HST3 : Hid (str ++ ⟨Y.toArray⟩ = ⟨(dataOf fs').toArray⟩) := by show _ = _; rw [HST.out, ba_append, hEq]
            have hst3 : (str ++ ⟨Y.toArray⟩ : ByteArray).size ≤ 5000000 := by rw [HST3.out, ba_size]; exact hsm
            have hcat : str.size + (⟨Y.toArray⟩ : ByteArray).size ≤ 10000000 := by have h := hst3; rw [ByteArray.size_append] at h; omega
            have HB3 : Hid (Below q w w3) := HBW.out.trans ⟨hk.os, hk.tape, hk.output, hk.size, fun k h => hk.heap k (by omega) (by omega)⟩
            have k1 := conv_own HY3.out
            have hq3 : q < w3.heap.size := by omega
            clear hy he hEq hk HCL hsm
            go_wp2
            go_roundg (raw.length + 1 - (j + 1))
            case measure => have := HG.out; omega
            case rel => exact ⟨j + 1, data.length, fs', e', v', _, by omega, rfl, by go_num, rfl, by omega, fun h => rfl, rfl, hst3, HST3, HE3, HB3, hq3⟩
          · have hb1 : (0 : Int) ≤ (K : Int) ∧ (K : Int) ≤ (data.length : Int) ∧ (data.length : Int) ≤ (dc : Int) := by omega
            have HCL : Hid _ := HWC.out data.length (by omega) (by omega) (some ⟨b0, K, none⟩) (dc - K) (.inl rfl)
            clear HWC
            go_wp2_with fail
            refine Calls.mono HCL.out ?_
            rintro r w3 ⟨vy, Y, fs', e', v', rfl, hy, he, hEq, hsm, hk⟩
            obtain ⟨yo, yc, rfl⟩ := hy.form
            have hs3 := hk.size
            have HY3 : Hid (OwnB w3 wr.heap.size (.slice yo Y.length yc) Y) := hy
            have HE3 : Hid (DecAt w3 q v' (data.take data.length) fs' e') := he
            have HST3 : Hid (str ++ ⟨Y.toArray⟩ = ⟨(dataOf fs').toArray⟩) := by show _ = _; rw [HST.out, ba_append, hEq]
            have hst3 : (str ++ ⟨Y.toArray⟩ : ByteArray).size ≤ 5000000 := by rw [HST3.out, ba_size]; exact hsm
            have hcat : str.size + (⟨Y.toArray⟩ : ByteArray).size ≤ 10000000 := by have h := hst3; rw [ByteArray.size_append] at h; omega
            have HB3 : Hid (Below q w w3) := HBW.out.trans ⟨hk.os, hk.tape, hk.output, hk.size, fun k h => hk.heap k (by omega) (by omega)⟩
            have k1 := conv_own HY3.out
            have hq3 : q < w3.heap.size := by omega
            clear hy he hEq hk HCL hsm
            go_wp2
            go_roundg (raw.length + 1 - (j + 1))
            case measure => have := HG.out; omega
            case rel => exact ⟨j + 1, data.length, fs', e', v', _, by omega, rfl, by go_num, rfl, by omega, fun h => rfl, rfl, hst3, HST3, HE3, HB3, hq3⟩
      · have hji2 : ¬ (j : Int) < (raw.length : Int) := by omega
        by_cases hcK : dc = K
        · subst hcK
          have hTK : data.length = dc := by omega
          have hb1 : (0 : Int) ≤ (dc : Int) ∧ (dc : Int) ≤ (data.length : Int) ∧ (data.length : Int) ≤ (dc : Int) := by omega
          have hm0 : data.length - dc = 0 := by omega
          have HCL : Hid _ := HWC.out data.length (by omega) (by omega) (some ⟨b0, 0, none⟩) 0 (.inr ⟨rfl, hTK⟩)
          rw [hm0] at HCL
          have HTK : Hid _ := hTK
          clear HWC hTK
          go_wp2_with fail
          refine Calls.mono HCL.out ?_
          rintro r w3 ⟨vy, Y, fs', e', v', rfl, hy, he, hEq, hsm, hk⟩
          obtain ⟨yo, yc, rfl⟩ := hy.form
          have hs3 := hk.size
          have HY3 : Hid (OwnB w3 wr.heap.size (.slice yo Y.length yc) Y) := hy
          have HE3 : Hid (DecAt w3 q v' (data.take data.length) fs' e') := he
          have HST3 : Hid (str ++ ⟨Y.toArray⟩ = ⟨(dataOf fs').toArray⟩) := by show _ = _; rw [HST.out, ba_append, hEq]
          have hst3 : (str ++ ⟨Y.toArray⟩ : ByteArray).size ≤ 5000000 := by rw [HST3.out, ba_size]; exact hsm
          have hcat : str.size + (⟨Y.toArray⟩ : ByteArray).size ≤ 10000000 := by have h := hst3; rw [ByteArray.size_append] at h; omega
          have HB3 : Hid (Below q w w3) := HBW.out.trans ⟨hk.os, hk.tape, hk.output, hk.size, fun k h => hk.heap k (by omega) (by omega)⟩
          have k1 := conv_own HY3.out
          have hq3 : q < w3.heap.size := by omega
          clear hy he hEq hk HCL hsm
          go_wp2
          go_roundg (raw.length + 1 - (j + 1))
          case measure => have := HG.out; omega
          case rel => exact ⟨j + 1, data.length, fs', e', v', _, by omega, rfl, by go_num, rfl, by omega, fun h => rfl, rfl, hst3, HST3, HE3, HB3, hq3⟩
        · have hb1 : (0 : Int) ≤ (K : Int) ∧ (K : Int) ≤ (data.length : Int) ∧ (data.length : Int) ≤ (dc : Int) := by omega
          have HCL : Hid _ := HWC.out data.length (by omega) (by omega) (some ⟨b0, K, none⟩) (dc - K) (.inl rfl)
          clear HWC
          go_wp2_with fail
          refine Calls.mono HCL.out ?_
          rintro r w3 ⟨vy, Y, fs', e', v', rfl, hy, he, hEq, hsm, hk⟩
          obtain ⟨yo, yc, rfl⟩ := hy.form
          have hs3 := hk.size
          have HY3 : Hid (OwnB w3 wr.heap.size (.slice yo Y.length yc) Y) := hy
          have HE3 : Hid (DecAt w3 q v' (data.take data.length) fs' e') := he
          have HST3 : Hid (str ++ ⟨Y.toArray⟩ = ⟨(dataOf fs').toArray⟩) := by show _ = _; rw [HST.out, ba_append, hEq]
          have hst3 : (str ++ ⟨Y.toArray⟩ : ByteArray).size ≤ 5000000 := by rw [HST3.out, ba_size]; exact hsm
          have hcat : str.size + (⟨Y.toArray⟩ : ByteArray).size ≤ 10000000 := by have h := hst3; rw [ByteArray.size_append] at h; omega
          have HB3 : Hid (Below q w w3) := HBW.out.trans ⟨hk.os, hk.tape, hk.output, hk.size, fun k h => hk.heap k (by omega) (by omega)⟩
          have k1 := conv_own HY3.out
          have hq3 : q < w3.heap.size := by omega
          clear hy he hEq hk HCL hsm
          go_wp2
          go_roundg (raw.length + 1 - (j + 1))
          case measure => have := HG.out; omega
          case rel => exact ⟨j + 1, data.length, fs', e', v', _, by omega, rfl, by go_num, rfl, by omega, fun h => rfl, rfl, hst3, HST3, HE3, HB3, hq3⟩
    · have hji : ¬ (j : Int) ≤ (raw.length : Int) := by omega
      have hKd : K = data.length := HKE.out (by omega)
      subst hKd
      rw [List.take_length] at HE
      have hfin : e = 0 ∧ dataOf fs = D := by
        obtain ⟨ps, ends, hrd⟩ := HRD.out
        obtain ⟨ends', hr⟩ := HE.out.told.read hd
        rw [hrd] at hr
        simp at hr
        exact ⟨hr.1.symm, hr.2.2.1.symm⟩
      obtain ⟨rfl, hfin2⟩ := hfin
      have HSTF : Hid (str = ⟨D.toArray⟩) := by show _ = _; rw [HST.out, hfin2]
      clear hfin2
      go_wp2_with fail
      refine (end_calls q v data fs 0 wr HE.out).mono ?_
      rintro r w2 ⟨rfl, hd2, hk2⟩
      have HD2 : Hid _ := hd2
      have HBL : Hid (Below q w w2) := HBW.out.trans ⟨hk2.os, hk2.tape, hk2.output, hk2.size, fun k hk => hk2.heap k (by omega) (by omega)⟩
      clear hd2 hk2
      go_wp2_with fail
      refine (feed_shut_calls q 0 0 0 (.slice none 0 0) _ _ _ w2 HD2.out).mono ?_
      rintro r w3 ⟨rfl, rfl⟩
      go_wp2_with fail
      refine (end_shut_calls q 0 0 0 (.slice none 0 0) w3 HD2.out).mono ?_
      rintro r w4 ⟨rfl, rfl⟩
      go_wp2
      go_ret2
      exact ⟨by rw [← HSTF.out]; rfl, by rw [HQ.out]; exact HBL.out⟩
end Go.Proofs.Ytnpnaglgllcpfab

/-! The law Chunks, of texts and numbers in memory. -/
namespace Go.Proofs.Ytnpnaglgllcpfab
set_option maxRecDepth 100000
open Go.RowKit

set_option maxHeartbeats 1000000 in
theorem some2_calls (s : ByteArray) (n : Nat) (w : World) (hn : n ≤ 100000) :
    Calls Try.prog 10 #[.string s, .int .i64 n] w fun e w' => Below w.heap.size w w' ∧ w.heap.size < w'.heap.size ∧ ∃ c, e = .returned (.slice (some ⟨w.heap.size, 0, none⟩) (firstOf s n).length c) ∧ (firstOf s n).length ≤ c ∧ BytesAt w' (some ⟨w.heap.size, 0, none⟩) (firstOf s n) := by
  by_cases hlt : n < s.size
  · have hex : (s.extract 0 n).data.toList = firstOf s n := by
      unfold firstOf
      rw [ByteArray.data_extract]
      simp
    have hes : (s.extract 0 n).size = n := by rw [ByteArray.size_extract]; omega
    have hconv := fun wx => run_bytes_of_string (P := Try.prog) wx 9 22 5 (s.extract 0 n) Try.underlying9 Try.underlying22 Try.underlying5
    have HE : Hid (firstOf s n = (s.extract 0 n).data.toList) := hex.symm
    have HL : Hid ((s.extract 0 n).data.toList.length = (s.extract 0 n).size) := rfl
    have hb1 : (n : Int) < (s.size : Int) := by omega
    have HES : Hid ((s.extract 0 n).size = n) := hes
    clear hex hes
    go_enter Try.func10, Try.ntmps10
    go_wp2
    go_ret
    have hmin : min n s.size = (s.extract 0 n).size := by rw [HES.out]; omega
    refine ⟨((Below.refl _ _).alloc (Nat.le_refl _) _).drew, by show _ < (w.alloc _).heap.size; simp, grownCap w (min n s.size) 0 5, ?_, ?_, ?_⟩
    · rw [HE.out, HL.out, ← hmin]; rfl
    · rw [HE.out, HL.out, ← hmin]; exact grownCap_ge _ _ _ _
    · rw [HE.out]; exact BytesAt.new (s.extract 0 n) w _ _
  · have hex : firstOf s n = s.data.toList := by
      unfold firstOf
      rw [List.take_of_length_le]
      show s.size ≤ n
      omega
    have hconv := fun wx => run_bytes_of_string (P := Try.prog) wx 9 22 5 s Try.underlying9 Try.underlying22 Try.underlying5
    have HE : Hid (firstOf s n = s.data.toList) := hex
    have HL : Hid (s.data.toList.length = s.size) := rfl
    clear hex
    go_enter Try.func10, Try.ntmps10
    go_wp2
    go_ret
    refine ⟨((Below.refl _ _).alloc (Nat.le_refl _) _).drew, by show _ < (w.alloc _).heap.size; simp, grownCap w s.size 0 5, ?_, ?_, ?_⟩
    · rw [HE.out, HL.out]; rfl
    · rw [HE.out, HL.out]; exact grownCap_ge _ _ _ _
    · rw [HE.out]; exact BytesAt.new s w _ _


theorem stream_len (data : List UInt8) (hd : data.length ≤ 2048) : (streamOf parseOf data).length ≤ 4000 ∧ 4 ≤ (streamOf parseOf data).length := by
  have h2 := frames_chosen parse_chosen data _ (Nat.le_refl _)
  have h3 : (streamOf parseOf data).length = (streamBits (toksOf parseOf data)).length / 8 := toBytes_length _
  unfold streamBits at h3
  rw [toksOf_length] at h2 h3
  simp only [List.length_append, magic_length, endBits_length] at h3
  unfold cutN at h2 h3
  omega

set_option maxHeartbeats 2000000 in
theorem chunksLaw_calls (s : ByteArray) (ra rb : Option Addr) (r1 r2 : List Int) (c1 c2 : Nat) (w : World) (hl1 : r1.length ≤ 100000000000000) (hl2 : r2.length ≤ 100000000000000) (hr1 : RawAt w ra r1) (hr2 : RawAt w rb r2) :
    Calls Try.prog 8 #[.string s, .slice ra r1.length c1, .slice rb r2.length c2] w fun e w' => e = .returned (.bool true) ∧ Below w.heap.size w w' := by
  have HR1 : Hid (RawAt w ra r1) := hr1
  have HR2 : Hid (RawAt w rb r2) := hr2
  clear hr1 hr2
  go_enter Try.func8, Try.ntmps8
  go_wp2_with fail
  refine (some2_calls s 2048 w (by omega)).mono ?_
  rintro e w1 ⟨hb1, hs1, dc, rfl, hdc, hby1⟩
  have HB1 : Hid (Below w.heap.size w w1) := hb1
  have hpl : (firstOf s 2048).length ≤ 2048 := by unfold firstOf; rw [List.length_take]; omega
  generalize firstOf s 2048 = data at *
  have HBY1 : Hid (BytesAt w1 (some ⟨w.heap.size, 0, none⟩) data) := hby1
  clear hb1 hby1
  go_wp2_with fail
  refine (compress_said _ data dc w1 (by omega) hdc HBY1.out).mono ?_
  rintro e w2 ⟨hb2, ⟨hlong, _⟩ | ⟨_, v, rfl, hown⟩⟩
  · omega
  have HB2 : Hid (Below w.heap.size w w2) := HB1.out.trans (hb2.mono HB1.out.size)
  have HBY2 : Hid (BytesAt w2 (some ⟨w.heap.size, 0, none⟩) data) := bytesAt_below2 HBY1.out hb2
  have hs2 := hb2.size
  obtain ⟨hS1, hS2⟩ := stream_len data hpl
  obtain ⟨so, sc, rfl⟩ := hown.form
  obtain ⟨g, hso, hcap⟩ : ∃ g, so = some ⟨g, 0, none⟩ ∧ g < w2.heap.size := by
    obtain ⟨g, c, h1, _, h3, _⟩ := hown.at (by omega)
    simp at h1
    exact ⟨g, h1.1, h3⟩
  subst hso
  have hsc : (streamOf parseOf data).length ≤ sc := by
    rcases hown.2 with ⟨_, h2⟩ | ⟨g', c', cur, h1, _, _, hl, _⟩
    · omega
    · simp at h1; omega
  have HS2 : Hid (OwnB w2 w1.heap.size (.slice (some ⟨g, 0, none⟩) (streamOf parseOf data).length sc) (streamOf parseOf data)) := hown
  clear hb2 hown
  go_wp2_with fail
  refine (encoded_calls w.heap.size data dc ra r1 c1 w2 hpl hdc HBY2.out (by omega) hl1 (HR1.out.below HB2.out)).mono ?_
  rintro e w3 ⟨rfl, hb3⟩
  have HB3 : Hid (Below w.heap.size w w3) := HB2.out.trans (hb3.mono HB2.out.size)
  have HBY3 : Hid (BytesAt w3 (some ⟨w.heap.size, 0, none⟩) data) := bytesAt_below2 HBY2.out hb3
  have HS3 : Hid (OwnB w3 w1.heap.size (.slice (some ⟨g, 0, none⟩) (streamOf parseOf data).length sc) (streamOf parseOf data)) := OwnB.below HS2.out hb3
  have hs3 := hb3.size
  obtain ⟨ends, hrd⟩ := stream_read parse_chosen data hpl
  have HRD : Hid (∃ ps ends, rRead (streamOf parseOf data) = (0, ps, data, ends)) := ⟨_, _, hrd⟩
  clear hb3 hrd
  go_wp2_with fail
  refine (decoded_calls g (streamOf parseOf data) data sc rb r2 c2 w3 (by omega) HRD.out hsc (ownB_bytes HS3.out) (by omega) hl2 (HR2.out.below HB3.out)).mono ?_
  rintro e w4 ⟨rfl, hb4⟩
  have HB4 : Hid (Below w.heap.size w w4) := HB3.out.trans (hb4.mono HB3.out.size)
  have k1 : ∀ n, (convert 22 9 (.slice (some ⟨g, 0, none⟩) (streamOf parseOf data).length sc)).run Try.prog (w4.drewN n) = .ok (.string ⟨(streamOf parseOf data).toArray⟩) (w4.drewN n) := conv_drew (OwnB.below HS3.out hb4)
  have k2 : ∀ n, (convert 22 9 (.slice (some ⟨w.heap.size, 0, none⟩) data.length dc)).run Try.prog (w4.drewN n) = .ok (.string ⟨data.toArray⟩) (w4.drewN n) := fun n => conv_bytes dc (bytesAt_below2 HBY3.out (below_drewN hb4 n))
  have k3 := k1 0
  have k4 := k2 0
  simp only [World.drewN_zero] at k3 k4
  clear hb4 HS3 HS2
  generalize streamOf parseOf data = S at *
  go_wp2
  go_ret
  exact ⟨rfl, HB4.out⟩
end Go.Proofs.Ytnpnaglgllcpfab

/-! The law Chunks returns true of every string and every two lists of numbers: however data is cut into Writes, the stream is Compress's; and however that is cut into Feeds, the data comes back. -/
namespace Go.Proofs.Ytnpnaglgllcpfab.Law
set_option maxRecDepth 100000
open Go.ChangeShapes Go.WideShapes Go.ChangeAt Go.RowKit Go.Deep
open Go.ChangeMaps (open_string shut_string)

theorem own : ownKnob Try.prog.godebug = none := by kernel_rfl
theorem laidOut : laidOutB Try.prog = true := by kernel_rfl

section
variable {H : Type} {enc : TypeId × Value → H} {w : World} {base : Nat} {spare : Nat → Bool} {held : Bool}
theorem open_rawS {fuel : Nat} {cs : List Value} {x : DataW H × List MemPlace} (h : DataW.trod enc Try.prog w base spare held fuel 36 cs = some x)
    {ts : List TypeId} {ds : List (DataW H)} (hsz : (DataW.weightsEach Try.prog ts ds).all (· ≤ reachBytes) = true) {j : Nat} (ht : ts[j]? = some 36) (hd : ds[j]? = some x.1) :
    ∃ (a : Option Addr) (cap : Nat) (raw : List Int), cs = [.slice a raw.length cap] ∧ raw.length ≤ 100000000000000 ∧ RawAt w a raw := by
  rcases open_ints Try.underlying36 Try.underlying3 cellsInt h with ⟨rfl, _⟩ | ⟨a, len, cap, zs, rfl, hb, hl, hm, hz, hx, hcell, hwf⟩
  · exact ⟨none, 0, [], rfl, by simp, .inl rfl⟩
  · have hlz : len ≤ zs.length := by rw [hz]; split <;> omega
    have hlen : (zs.take len).length = len := by rw [List.length_take]; omega
    have hbound : len ≤ 100000000000000 := by
      subst hx
      have := sized_slice hsz ht hd Try.underlying36
      have hbb : Try.prog.bytesOf 3 = 8 := by kernel_rfl
      rw [hbb] at this
      have hll : (lits .i64 (zs.take len) : List (DataW H)).length = len := by simp [lits]; omega
      rw [hll] at this
      unfold reachBytes at this
      omega
    refine ⟨some a, cap, zs.take len, by rw [hlen], by rw [hlen]; exact hbound, ?_⟩
    rcases Nat.eq_zero_or_pos len with h0 | h0
    · subst h0; exact .inl rfl
    · obtain ⟨b, off, rfl, hc⟩ := ints_at hcell (by omega)
      refine .inr ⟨b, off, rfl, ?_, fun i hi => ?_⟩
      · have := World.block_lt_of_cell? w _ (hc 0 (by omega))
        simpa using this
      · have hi' : i < zs.length := by omega
        have e : (zs.take len)[i] = zs.getD i 0 := by simp [List.getD, hi']
        rw [e]
        refine ⟨hc i hi', ?_⟩
        have := range_i64 hwf i
        simpa [In64, List.getD] using this
end

theorem lifted (os : Os) (started : os.Started) (H : Type) (enc : TypeId × Value → H) :
    ReturnsInHanded {} Try.checked os 8 .any (Rows.chunksSpec.pre6 enc Try.prog Try.f8 Rows.chunksRow.domain false) (Rows.chunksSpec.post enc Try.prog Try.f8 false true false false) := by
  refine returnsInHanded_of_change_sized (C := Try.checked) own started (by kernel_rfl) Try.func8
    (ChangeSpec.witness6 (enc := enc) (C := Try.checked) false ⟨#[], #[.string ByteArray.empty, .slice none 0 0, .slice none 0 0], []⟩ 8 (by kernel_rfl) (by kernel_rfl) (by kernel_rfl) (by kernel_rfl)) ?_
  intro W base args ds gs before hval0 hW hcnd hsz0 _
  have hval : ∀ (j : Nat) t v, Try.f8.params[j]? = some t → args[j]? = some v → Value.okWide Try.prog W .any base t v := hval0
  have hsz : (DataW.weightsEach Try.prog (Try.f8.params.toList ++ Rows.chunksSpec.plain.varTypes Try.prog) (ds ++ gs)).all (· ≤ reachBytes) = true := hsz0
  have hW' := hW
  obtain ⟨p, q, hA0, hV, rfl, hfz, hnd⟩ := hW
  have hA : DataW.TrodAll enc Try.prog W 0 (fun _ => true) true Try.f8.params.toList args.toList ds p := hA0
  rw [Try.params8] at hA hval hsz
  obtain ⟨v0, vs0, d0, ds0, p0, q0, hargs, rfl, rfl, h0, r0⟩ := trodAll_cons hA
  obtain ⟨v2, vs2, d2, ds2, p2, q2, hargs2, rfl, rfl, h2, r2⟩ := trodAll_cons r0
  obtain ⟨v3, vs3, d3, ds3, p3, q3, hargs3, rfl, rfl, h3, r3⟩ := trodAll_cons r2
  obtain ⟨rfl, rfl, rfl⟩ := trodAll_nil r3
  obtain rfl : args = #[v0, v2, v3] := by cases args; simp_all
  obtain ⟨rfl, rfl⟩ := trodVars_none hV
  obtain ⟨a0, rfl, rfl, rfl, w0⟩ := open_string Try.underlying9 (hval 0 9 v0 rfl rfl) h0
  obtain ⟨a2, len2, cap2, rfl⟩ := okWide_slice Try.underlying36 (hval 1 36 v2 rfl rfl)
  obtain ⟨a3, len3, cap3, rfl⟩ := okWide_slice Try.underlying36 (hval 2 36 v3 rfl rfl)
  have k2 := h2
  have k3 := h3
  have lt2 : ∀ x ∈ p2, x.block < W.heap.size := by obtain ⟨m, hm⟩ := k2; exact DataW.trod_lt m _ _ _ hm
  have lt3 : ∀ x ∈ p3, x.block < W.heap.size := by obtain ⟨m, hm⟩ := k3; exact DataW.trod_lt m _ _ _ hm
  obtain ⟨raw, hts, hlen, hat⟩ : ∃ raw : List Int, len2 = raw.length ∧ raw.length ≤ 100000000000000 ∧ RawAt W a2 raw := by
    obtain ⟨fuel, hf⟩ := h2
    obtain ⟨a, cap, raw, hcs, hlen, hat⟩ := open_rawS hf hsz (j := 1) rfl rfl
    simp [Value.cells] at hcs
    obtain ⟨rfl, rfl, rfl⟩ := hcs
    exact ⟨raw, rfl, hlen, hat⟩
  obtain ⟨raw3, hts3, hlen3, hat3⟩ : ∃ raw : List Int, len3 = raw.length ∧ raw.length ≤ 100000000000000 ∧ RawAt W a3 raw := by
    obtain ⟨fuel, hf⟩ := h3
    obtain ⟨a, cap, raw, hcs, hlen, hat⟩ := open_rawS hf hsz (j := 2) rfl rfl
    simp [Value.cells] at hcs
    obtain ⟨rfl, rfl, rfl⟩ := hcs
    exact ⟨raw, rfl, hlen, hat⟩
  subst hts hts3
  clear hA0 hval0
  refine (chunksLaw_calls a0 a2 a3 raw raw3 cap2 cap3 W hlen hlen3 hat hat3).mono fun e W' ⟨he, bel⟩ => ?_
  subst he
  exact ⟨_, rfl, _, _, _, [], _, [], hW', trodAll_mk1 (shut_bool Try.underlying4 _), (trodAll_cons_mk (shut_string Try.underlying9 w0) (trodAll_cons_mk (Below.trod laidOut (by kernel_rfl) (of_decide_eq_true (by kernel_rfl)) k2 bel lt2) (trodAll_cons_mk (Below.trod laidOut (by kernel_rfl) (of_decide_eq_true (by kernel_rfl)) k3 bel lt3) trodAll_mk0))), rfl, bel.frame _, fun h => by cases h⟩
end Go.Proofs.Ytnpnaglgllcpfab.Law

namespace Go.Proofs.Ytnpnaglgllcpfab
theorem chunks_holds : Rows.ChunksSaid :=
  OpenClaim.holds_of_wide 8 Try.f8 rfl rfl rfl rfl rfl rfl rfl ⟨rfl, rfl, rfl, rfl, rfl⟩ rfl rfl rfl rfl rfl (by kernel_rfl) Try.func8 (by kernel_rfl)
    (of_decide_eq_true (by kernel_rfl)) (by unfold Func.isWrapper; first | (rw [if_pos (by decide +kernel)]; kernel_rfl) | (rw [if_neg (by decide +kernel)]; exact ⟨rfl, rfl⟩))
    (fun os started H enc _ => Law.lifted os started H enc)
#print axioms chunks_holds
end Go.Proofs.Ytnpnaglgllcpfab
