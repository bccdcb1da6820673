/-
  Lemmas for the law All: TokR, Make, RefPk, Rd.
-/
import Derived.Test.YtnpnaglgllcpfaaGreatM01
import Derived.Test.YtnpnaglgllcpfaaGreatM10
import Derived.Test.YtnpnaglgllcpfaaGreatM03
import Derived.Laws.IdiomStrings
import Derived.Test.YtnpnaglgllcpfaaGreatM04
import Derived.Test.YtnpnaglgllcpfaaGreatM02
import Derived.Deep.LoopGhost
import Derived.WalkSpells
/- What the document's functions on one token, and on a number, answer. -/
namespace Go.Proofs.YtnpnaglgllcpfaaGreat
set_option maxRecDepth 100000
open Go.RowKit

set_option maxHeartbeats 400000 in
theorem form_calls (l d b : Int) (w : World) :
    Calls Tryz.prog 62 #[.agg #[.int .i64 l, .int .i64 d, .int .i64 b]] w fun e w' => e = .returned (.bool (Tok.formB ⟨l, d, b⟩)) ∧ Below w.heap.size w w' := by
  go_enter Tryz.func62, Tryz.ntmps62
  go_wp2
  all_goals
    go_ret
    refine ⟨ret_bool ?_, by go_grown⟩
    rw [Bool.eq_iff_iff, Tok.form_iff]
    simp at *
    omega
theorem binary_calls (v n : Int) (w : World) (h0 : 0 ≤ v) (h1 : v ≤ 255) (h2 : 0 ≤ n) (h3 : n ≤ 64) :
    Calls Tryz.prog 71 #[.int .i64 v, .int .i64 n] w fun e w' => e = .returned (.string (text (bin v.toNat n.toNat))) ∧ w' = w := by
  obtain ⟨v, rfl⟩ := Int.eq_ofNat_of_zero_le h0
  obtain ⟨n, rfl⟩ := Int.eq_ofNat_of_zero_le h2
  rw [Int.toNat_natCast, Int.toNat_natCast]
  go_enter Tryz.func71, Tryz.ntmps71
  go_wp2
  go_loop [0, 5, 6] (fun x s i => ∃ k y : Nat, k ≤ n ∧ y ≤ 255 ∧ y = v / 2 ^ k ∧ x = .int .i64 y ∧ i = .int .i64 k ∧ s = .string (text (bin v k))) (fun _ _ i => n - (intOf i).toNat)
  case atStart => exact ⟨0, v, by omega, by omega, by simp, rfl, rfl, rfl⟩
  case round =>
    obtain ⟨k, y, hk, hy, hyv, rfl, rfl, rfl⟩ := hrel
    have HY : Hid (y = v / 2 ^ k) := hyv
    clear hyv
    have hsz : (text (bin v k)).size = k := by simp [text, chars, bin_length, ByteArray.size]
    have HT := bin_text v k
    rw [← HY.out] at HT
    have HT' : Hid _ := HT
    clear HT
    generalize hs : text (bin v k) = s at *
    have HS : Hid (text (bin v k) = s) := hs
    clear hs
    by_cases hlt : k < n
    · have HP : Hid (y / 2 = v / 2 ^ (k + 1)) := by
        rw [HY.out, Nat.pow_succ, Nat.div_div_eq_div_mul]; rfl
      go_wp2
      all_goals
        have hc : (((y : Int) % 2 == 1) = (y % 2 == 1)) := by rw [Bool.eq_iff_iff]; simp; omega
        rename_i hb
        rw [hc] at hb
        go_round
        case rel =>
          refine ⟨k + 1, y / 2, by omega, by omega, HP.out, by go_num, by go_num, ?_⟩
          rw [← HT'.out, hb]; rfl
        case measure => simp [intOf]; omega
    · have hkn : k = n := by omega
      subst hkn
      go_wp2
      go_ret
      exact ⟨ret_str HS.out.symm, rfl⟩
theorem number_calls (v : Int) (w : World) (h0 : 1 ≤ v) (h1 : v ≤ 255) :
    Calls Tryz.prog 91 #[.int .i64 v] w fun e w' => e = .returned (.string (text (numBits v.toNat))) ∧ w' = w := by
  obtain ⟨v, rfl⟩ := Int.eq_ofNat_of_zero_le (show 0 ≤ v by omega)
  rw [Int.toNat_natCast]
  go_enter Tryz.func91, Tryz.ntmps91
  go_wp2
  go_loop [3] (fun i => ∃ k : Nat, k ≤ 7 ∧ 2 ^ k ≤ v ∧ i = .int .i64 k) (fun i => 7 - (intOf i).toNat)
  case atStart => exact ⟨0, by omega, by omega, rfl⟩
  case round =>
    obtain ⟨k, hk, hkv, rfl⟩ := hrel
    obtain ⟨P, hP⟩ : ∃ P : Nat, P = 2 ^ (k + 1) := ⟨_, rfl⟩
    have hP1 : P ≤ 256 := by rw [hP]; exact Nat.pow_le_pow_right (n := 2) (by omega) (show k + 1 ≤ 8 by omega)
    have hw : wrap64 ((2 : Int) ^ (k + 1)) = (P : Int) := by
      have : ((2 : Int) ^ (k + 1)) = (P : Int) := by rw [hP]; simp
      rw [this]; exact IntWalk.wrap64_in _ ⟨by omega, by omega⟩
    have HP : Hid (P = 2 ^ (k + 1)) := hP
    clear hP
    have HK : Hid (2 ^ k ≤ v) := hkv
    clear hkv
    by_cases hle : P ≤ v
    · have hk7 : k < 7 := by
        rcases Nat.lt_or_ge k 7 with h | h
        · exact h
        · have : k = 7 := by omega
          subst this
          have := HP.out
          omega
      go_wp2
      go_round
      case rel => exact ⟨k + 1, by omega, by rw [← HP.out]; exact hle, by go_num⟩
      case measure => simp [intOf]; omega
    · have hlt : v < P := by omega
      clear hle
      have HL : Hid (numBits v = bin 0 k ++ bin v (k + 1)) := by
        have : Nat.log2 v = k := (Nat.log2_eq_iff (by omega)).2 ⟨HK.out, by rw [← HP.out]; exact hlt⟩
        show numBits v = _
        rw [bin_zero, numBits, this]
      have b1 : (text (bin 0 k)).size = k := text_size _ _
      have b2 : (text (bin v (k + 1))).size = k + 1 := text_size _ _
      go_wp2_with fail
      refine (binary_calls _ _ _ (by omega) (by omega) (by omega) (by omega)).mono ?_
      rintro e w' ⟨rfl, rfl⟩
      rw [show ((0 : Int).toNat = 0) from rfl, Int.toNat_natCast]
      generalize hs1 : text (bin 0 k) = s1 at *
      have HS1 : Hid (text (bin 0 k) = s1) := hs1
      clear hs1
      go_wp2_with fail
      refine (binary_calls _ _ _ (by omega) (by omega) (by omega) (by omega)).mono ?_
      rintro e w' ⟨rfl, rfl⟩
      rw [Int.toNat_natCast, show ((k : Int) + 1).toNat = k + 1 by omega]
      generalize hs2 : text (bin v (k + 1)) = s2 at *
      have HS2 : Hid (text (bin v (k + 1)) = s2) := hs2
      clear hs2
      go_wp2_with fail
      go_ret
      exact ⟨ret_str (by rw [HL.out, text_append, HS1.out, HS2.out]), rfl⟩
theorem bits_calls (l d b : Int) (w : World) (h : d = 0 ∧ 0 ≤ b ∧ b ≤ 255 ∨ 1 ≤ d ∧ d ≤ 32 ∧ 2 ≤ l ∧ l ≤ 64) :
    Calls Tryz.prog 63 #[.agg #[.int .i64 l, .int .i64 d, .int .i64 b]] w fun e w' => e = .returned (.string (text (Tok.bits ⟨l, d, b⟩))) ∧ Below w.heap.size w w' := by
  rcases h with ⟨h, a1, a2⟩ | ⟨a1, a2, a3, a4⟩
  · have hd : (d == 0) = true := by simpa using h
    have HC : Hid (Tok.bits ⟨l, d, b⟩ = false :: bin b.toNat 8) := by unfold Tok.bits; exact if_pos h
    clear h
    have b1 : (text (bin b.toNat 8)).size = 8 := text_size _ _
    go_enter Tryz.func63, Tryz.ntmps63
    go_wp2_with fail
    refine (binary_calls _ _ _ (by omega) (by omega) (by omega) (by omega)).mono ?_
    rintro e w' ⟨rfl, rfl⟩
    rw [show ((8 : Int).toNat = 8) from rfl]
    generalize hs1 : text (bin b.toNat 8) = s1 at *
    have HS1 : Hid (text (bin b.toNat 8) = s1) := hs1
    clear hs1
    go_wp2_with fail
    go_ret
    exact ⟨ret_str (by rw [HC.out, ← lit_text, HS1.out]), by go_grown⟩
  · obtain ⟨L, rfl⟩ : ∃ L : Nat, l = (L : Int) + 1 := ⟨(l - 1).toNat, by omega⟩
    obtain ⟨D, rfl⟩ : ∃ D : Nat, d = (D : Int) := ⟨d.toNat, by omega⟩
    have hd : ((D : Int) == 0) = false := by simp; omega
    have HC : Hid (Tok.bits ⟨(L : Int) + 1, D, b⟩ = true :: (numBits L ++ numBits D)) := by
      unfold Tok.bits
      refine (if_neg (show ¬ (D : Int) = 0 by omega)).trans ?_
      simp
    have hL : (text (numBits L)).size ≤ 15 := by
      have := Tok.log2_le_self L (by omega)
      simp [text, ByteArray.size, chars_length, numBits_length, Tok.numLen]; omega
    have hD : (text (numBits D)).size ≤ 15 := by
      have := Tok.log2_le_self D (by omega)
      simp [text, ByteArray.size, chars_length, numBits_length, Tok.numLen]; omega
    go_enter Tryz.func63, Tryz.ntmps63
    go_wp2_with fail
    go_quiet ((go_at_call 91; exact Calls.quiet_of_same (number_calls _ _ (by omega) (by omega))))
    go_wp2
    go_ret
    exact ⟨ret_str (by rw [HC.out, ← copy_text]), below_drewN ((Below.refl _ _).alloc (Nat.le_refl _) _) _⟩
end Go.Proofs.YtnpnaglgllcpfaaGreat

/- What the document's Make answers of tokens in memory. -/
namespace Go.Proofs.YtnpnaglgllcpfaaGreat
set_option maxRecDepth 100000
open Go.RowKit

set_option maxHeartbeats 1000000 in
theorem make_calls (a : Option Addr) (ts : List Tok) (cap : Nat) (w : World) (hl : ts.length ≤ 9223372036854775807) (ht : ToksAt w a ts) :
    Calls Tryz.prog 35 #[.slice a ts.length cap] w fun e w' => Below w.heap.size w w' ∧ ExpAns w.heap.size ts e w' := by
  have HT : Hid (ToksAt w a ts) := ht
  clear ht
  obtain ⟨i0, hi, hz0, hz1, hz2⟩ := info_parts info8
  go_enter Tryz.func35, Tryz.ntmps35
  go_wp2
  go_loopw [4, 5] (fun v i wr => ∃ (k : Nat) (out : List UInt8), k ≤ ts.length ∧ i = .int .i64 k ∧ Hid (Tok.expand [] (ts.take k) = some out) ∧ out.length ≤ 64 ∧ OwnB wr w.heap.size v out ∧ Below w.heap.size w wr) (fun _ i _ => ts.length - (intOf i).toNat)
  case atStart => exact ⟨0, [], Nat.zero_le _, rfl, rfl, by simp, World.ownsRow_nil _ _ _ _, Below.refl _ _⟩
  case round =>
    obtain ⟨k, out, hk, rfl, he, hm, hown, hb⟩ := hrel
    by_cases hlt : k < ts.length
    · obtain ⟨b, off, ha, hbl, hcell⟩ : ∃ b off, a = some ⟨b, off, none⟩ ∧ b < wr.heap.size ∧ ∀ i (hi : i < ts.length),
          wr.cell? ⟨b, off + i * 3, none⟩ = some (.int .i64 ts[i].len) ∧ wr.cell? ⟨b, off + i * 3 + 1, none⟩ = some (.int .i64 ts[i].dist) ∧ wr.cell? ⟨b, off + i * 3 + 2, none⟩ = some (.int .i64 ts[i].byte) := by
        rcases HT.out.below hb with h | h
        · rw [h] at hlt; simp at hlt
        · exact h
      subst ha
      obtain ⟨c0, c1, c2⟩ := hcell k hlt
      clear hcell
      have HN := Tok.expand_next ts k hlt out he.out
      generalize ts[k] = t at *
      obtain ⟨l, d, x⟩ := t
      simp only at c0 c1 c2
      have HN' : Hid _ := HN
      clear HN
      obtain ⟨ao, cp, rfl⟩ := hown.form
      have HO : Hid _ := hown
      clear hown
      go_wp2_with fail
      refine (form_calls l d x _).mono ?_
      rintro e w1 ⟨rfl, hb1⟩
      have hq1 : wr.heap.size < w1.heap.size := by have := hb1.size; simp at this; omega
      have hwz : w.heap.size ≤ wr.heap.size := hb.size
      have hbw : Below w.heap.size w w1 := (hb.alloc hwz _).trans (hb1.mono (by simp; omega))
      have hbox : Box w1 wr.heap.size l d x := Box.below (w := wr.alloc _) (heap_alloc_new wr _) hb1 (by simp)
      have hown : OwnB w1 w.heap.size (.slice ao out.length cp) out := (OwnB.alloc HO.out _).below hb1
      obtain ⟨x0, x1, x2⟩ := hbox.cell
      clear HO hb1 c0 c1 c2 hb
      have HB : Hid _ := hbox
      have HO : Hid _ := hown
      clear hbox hown
      generalize wr.heap.size = q at *
      by_cases hok : Tok.formB ⟨l, d, x⟩ = true ∧ d ≤ out.length ∧ l ≤ 64
      · obtain ⟨hform, hdo, hl64⟩ := hok
        have hi' := (Tok.form_iff _).1 hform
        have HM : Hid _ := mkN_step ⟨l, d, x⟩ out hform
        simp only at hi'
        have hl1 : 1 ≤ l := by omega
        obtain ⟨L, rfl⟩ : ∃ L : Nat, l = (L : Int) := ⟨l.toNat, by omega⟩
        obtain ⟨D, rfl⟩ : ∃ D : Nat, d = (D : Int) := ⟨d.toNat, by omega⟩
        go_wp2_with fail
        go_loopw [4, 8] (fun v i wq => ∃ (j : Nat), j ≤ L ∧ i = .int .i64 j ∧ OwnB wq w.heap.size v (mkN ⟨L, D, x⟩ out j) ∧ Box wq q L D x ∧ Below w.heap.size w wq) (fun _ i _ => L - (intOf i).toNat)
        case atStart => exact ⟨0, Nat.zero_le _, rfl, by rw [mkN_zero]; exact HO.out, HB.out, hbw⟩
        case round =>
          obtain ⟨j, hj, rfl, hownj, hboxj, hbj⟩ := hrel
          by_cases hjl : j < L
          · have hlen := mkN_length ⟨L, D, x⟩ out j
            have hlen1 : out.length ≤ (mkN ⟨L, D, x⟩ out j).length := by omega
            have hlen2 : (mkN ⟨L, D, x⟩ out j).length ≤ 127 := by omega
            clear hlen
            have hbq : w.heap.size ≤ wr.heap.size := hbj.size
            obtain ⟨y0, y1, y2⟩ := hboxj.cell
            have HBJ : Hid _ := hboxj
            clear hboxj
            by_cases hD : D = 0
            · have hsucc : Hid (mkN ⟨L, D, x⟩ out (j + 1) = mkN ⟨L, D, x⟩ out j ++ [UInt8.ofNat x.toNat]) := mkN_lit ⟨L, D, x⟩ out j (by simp [hD])
              generalize mkN ⟨L, D, x⟩ out j = o at *
              obtain ⟨ao', cp', rfl⟩ := hownj.form
              have HOJ : Hid _ := hownj
              clear hownj
              have hDn : ¬ 0 < (D : Int) := by omega
              have hx0 : 0 ≤ x := by omega
              have hx1 : x ≤ 255 := by omega
              clear hD hi'
              go_wp2_with (at_builtin; refine wpList_append_own _ rfl _ _ 37 rfl w.heap.size 5 i0 (.int .u8 0) 1 1 Tryz.underlying37 hi hz0 hz1 hz2 rfl (by decide) _ _ _ rfl (HOJ.out.alloc _) ⟨wr.heap.size, 0, none⟩ 1 1 [.int .u8 x] rfl rfl ?d1a ?d2a ?d3a ?d4a ?d5a ?_)
              case d2a => first | rfl | (intro u hu; simp at hu; subst hu; rfl)
              case d3a => unfold maxLen; omega
              case d4a => omega
              case d5a => first | omega | (simp; omega)
              intro v' w2 hown' hgrow _
              have hbw2 : Below w.heap.size w w2 := below_own (hbj.alloc (by omega) _) (HOJ.out.alloc _) hgrow (Nat.le_refl _) (by simp; omega)
              have hbox2 : Box w2 q L D x := Box.grown (Box.alloc HBJ.out _) (HOJ.out.alloc _) hgrow
              have hown2 : OwnB w2 w.heap.size v' (mkN ⟨L, D, x⟩ out (j + 1)) := by
                rw [hsucc.out]
                unfold OwnB
                have e5 : ((UInt8.ofNat x.toNat).toNat : Int) = x := by simp; omega
                rw [cellsB_snoc, List.length_append, e5]
                exact hown'
              clear hown' hgrow
              go_wp2
              go_roundw
              case rel => exact ⟨j + 1, by omega, by go_num, hown2, hbox2, hbw2⟩
              case measure => simp [intOf]; omega
            · have hsucc : Hid (mkN ⟨L, D, x⟩ out (j + 1) = mkN ⟨L, D, x⟩ out j ++ [(mkN ⟨L, D, x⟩ out j).getD ((mkN ⟨L, D, x⟩ out j).length - D) 0]) := mkN_copy ⟨L, D, x⟩ out j (by simp; omega)
              generalize mkN ⟨L, D, x⟩ out j = o at *
              obtain ⟨g, cq, hv, hg0, hg1, hgc⟩ := hownj.at (by omega)
              subst hv
              have hgc' := hgc (o.length - D) (by omega)
              clear hgc
              have HOJ : Hid _ := hownj
              clear hownj
              generalize o.getD (o.length - D) 0 = c at *
              have hcn : c.toNat < 256 := c.toNat_lt
              have hDp : 0 < (D : Int) := by omega
              have hx0 : x = 0 := by omega
              subst hx0
              clear hi'
              go_wp2_with (at_builtin; refine wpList_append_own _ rfl _ _ 37 rfl w.heap.size 5 i0 (.int .u8 0) 1 1 Tryz.underlying37 hi hz0 hz1 hz2 rfl (by decide) _ _ _ rfl (HOJ.out.alloc _) ⟨wr.heap.size, 0, none⟩ 1 1 [.int .u8 c.toNat] rfl rfl ?d1b ?d2b ?d3b ?d4b ?d5b ?_)
              case d1b => intro j u hj; exact cell_new1 _ _ _ j u hj
              case d2b => first | rfl | (intro u hu; simp at hu; subst hu; rfl)
              case d3b => unfold maxLen; omega
              case d4b => omega
              case d5b => first | omega | (simp; omega)
              intro v' w2 hown' hgrow _
              have hbw2 : Below w.heap.size w w2 := below_own (hbj.alloc (by omega) _) (HOJ.out.alloc _) hgrow (Nat.le_refl _) (by simp; omega)
              have hbox2 : Box w2 q L D 0 := Box.grown (Box.alloc HBJ.out _) (HOJ.out.alloc _) hgrow
              have hown2 : OwnB w2 w.heap.size v' (mkN ⟨L, D, 0⟩ out (j + 1)) := by
                rw [hsucc.out]
                unfold OwnB
                rw [cellsB_snoc, List.length_append]
                exact hown'
              clear hown' hgrow
              go_wp2
              go_roundw
              case rel => exact ⟨j + 1, by omega, by go_num, hown2, hbox2, hbw2⟩
              case measure => simp [intOf]; omega
          · have hje : j = L := by omega
            have hs : mkN ⟨L, D, x⟩ out j = Tok.step out ⟨L, D, x⟩ := by rw [← HM.out, hje]; rfl
            have hlen := mkN_length ⟨L, D, x⟩ out j
            rw [hs] at hownj hlen
            clear hs
            obtain ⟨y0, y1, y2⟩ := hboxj.cell
            clear hboxj
            by_cases hfit : (L : Int) ≤ 64 - (out.length : Int)
            · have hf : Tok.fitsB ⟨L, D, x⟩ out.length = true := (Tok.fits_iff _ _).2 ⟨hi', hdo, hfit⟩
              have HN3 : Hid (Tok.expand [] (ts.take (k + 1)) = some (Tok.step out ⟨L, D, x⟩)) := by show _ = _; rw [HN'.out, if_pos hf]
              have hlen2 : (Tok.step out ⟨L, D, x⟩).length ≤ 64 := by omega
              clear hlen hf HN' HM
              generalize Tok.step out ⟨L, D, x⟩ = o at *
              obtain ⟨ao', cp', rfl⟩ := hownj.form
              have HOJ : Hid _ := hownj
              clear hownj
              go_wp2
              go_roundw
              case rel => exact ⟨k + 1, _, by omega, by go_num, HN3, by omega, HOJ.out, hbj⟩
              case measure => simp [intOf]; omega
            · have hf : ¬ Tok.fitsB ⟨L, D, x⟩ out.length = true := fun h => hfit ((Tok.fits_iff _ _).1 h).2.2
              have HE : Hid (Tok.expand [] ts = none) := Tok.expand_stop ts k (by rw [HN'.out, if_neg hf])
              have hlen2 : 64 < (Tok.step out ⟨L, D, x⟩).length := by omega
              have hlen3 : (Tok.step out ⟨L, D, x⟩).length ≤ 128 := by omega
              clear hlen hf HN' HM
              generalize Tok.step out ⟨L, D, x⟩ = o at *
              obtain ⟨ao', cp', rfl⟩ := hownj.form
              clear hownj
              go_wp2
              go_ret2
              exact ⟨hbj, .inl ⟨HE.out, rfl⟩⟩
      · have HE : Hid (Tok.expand [] ts = none) := by
          refine Tok.expand_stop ts k ?_
          rw [HN'.out, if_neg]
          intro h
          have := (Tok.fits_iff _ _).1 h
          simp only at this
          exact hok ⟨(Tok.form_iff _).2 this.1, this.2.1, by omega⟩
        by_cases hform : Tok.formB ⟨l, d, x⟩ = true
        · by_cases hdo : d ≤ out.length
          · have hl64 : 64 < l := by
              rcases Int.lt_or_le 64 l with h | h
              · exact h
              · exact absurd ⟨hform, hdo, h⟩ hok
            clear hok
            go_wp2
            go_ret2
            exact ⟨hbw, .inl ⟨HE.out, rfl⟩⟩
          · clear hok
            go_wp2
            go_ret2
            exact ⟨hbw, .inl ⟨HE.out, rfl⟩⟩
        · have hff : Tok.formB ⟨l, d, x⟩ = false := by simpa using hform
          clear hok hform
          go_wp2
          go_ret2
          exact ⟨hbw, .inl ⟨HE.out, rfl⟩⟩
    · have hke : k = ts.length := by omega
      have HE : Hid (Tok.expand [] ts = some out) := by have := he.out; rw [hke, List.take_length] at this; exact this
      clear hke
      have HO : Hid _ := hown
      clear hown
      go_wp2
      go_ret2
      exact ⟨hb, .inr ⟨out, _, HE.out, hm, rfl, HO.out⟩⟩
end Go.Proofs.YtnpnaglgllcpfaaGreat

/- What the document's Pack answers of pieces in memory, and the texts of bits that it goes by. -/
namespace Go.Proofs.YtnpnaglgllcpfaaGreat
set_option maxRecDepth 100000
open Go.RowKit

theorem text_len (L : List Bool) : (text L).size = L.length := by simp [text, chars, ByteArray.size]
theorem text_snoc (L : List Bool) : text L ++ (⟨#[48]⟩ : ByteArray) = text (L ++ [false]) := by
  apply ByteArray.ext
  simp [text, chars]
theorem text_get (L : List Bool) (i : Nat) (h : i < (text L).size) (h' : i < L.length) : (((text L)[i]'h).toNat : Int) = 48 + (L[i].toNat : Int) := by
  have : (text L)[i]'h = if L[i] then 49 else 48 := by
    show (chars L).toArray[i]'_ = _
    simp [chars]
  rw [this]
  cases L[i] <;> rfl

set_option maxHeartbeats 400000 in
theorem frame_calls (a pa : Option Addr) (ts : List Tok) (piece : List UInt8) (cap pcap : Nat) (w : World) (hn : ts.length ≤ 64) (hpc : piece.length ≤ 64) (ht : ToksAt w a ts) (hpa : BytesAt w pa piece) (hpb : ∀ b off, pa = some ⟨b, off, none⟩ → b < w.heap.size) (hp : ∀ t ∈ ts, Tok.plainB t ∧ Tok.cost t ≤ 31) :
    Calls Tryz.prog 69 #[.slice a ts.length cap, .slice pa piece.length pcap] w fun e w' => e = .returned (.string (text (frameBits ts piece))) ∧ Below w.heap.size w w' := by
  have HT : Hid (ToksAt w a ts) := ht
  have HPA : Hid (BytesAt w pa piece) := hpa
  have HPB : Hid (∀ b off, pa = some ⟨b, off, none⟩ → b < w.heap.size) := hpb
  have HP : Hid (∀ t ∈ ts, Tok.plainB t ∧ Tok.cost t ≤ 31) := hp
  have hnb := numBits_short (piece.length + 1) (by omega)
  have htr := total_range piece
  clear ht hpa hpb hp
  go_enter Tryz.func69, Tryz.ntmps69
  go_wp2_with fail
  refine (number_calls _ _ (by omega) (by omega)).mono ?_
  rintro e w0 ⟨rfl, rfl⟩
  rw [show ((piece.length : Int) + 1).toNat = piece.length + 1 by omega]
  go_wp2_with fail
  go_loopw [5, 6] (fun s i wr => ∃ (k : Nat), k ≤ ts.length ∧ i = .int .i64 k ∧ s = .string (text (numBits (piece.length + 1) ++ bitsOf (ts.take k))) ∧ Below w0.heap.size w0 wr) (fun _ i _ => ts.length - (intOf i).toNat)
  case atStart => exact ⟨0, Nat.zero_le _, rfl, by simp [bitsOf], Below.refl _ _⟩
  case round =>
    obtain ⟨k, hk, rfl, rfl, hb⟩ := hrel
    have hlen : (text (numBits (piece.length + 1) ++ bitsOf (ts.take k))).size ≤ 15 + 31 * 64 := by
      rw [text_len, List.length_append, bitsOf_length]
      have := Tok.costs_le (ts.take k) fun t ht => HP.out t (List.mem_of_mem_take ht)
      rw [List.length_take] at this; omega
    by_cases hlt : k < ts.length
    · obtain ⟨b, off, ha, hbl, hcell⟩ : ∃ b off, a = some ⟨b, off, none⟩ ∧ b < wr.heap.size ∧ ∀ i (hi : i < ts.length),
          wr.cell? ⟨b, off + i * 3, none⟩ = some (.int .i64 ts[i].len) ∧ wr.cell? ⟨b, off + i * 3 + 1, none⟩ = some (.int .i64 ts[i].dist) ∧ wr.cell? ⟨b, off + i * 3 + 2, none⟩ = some (.int .i64 ts[i].byte) := by
        rcases HT.out.below hb with h | h
        · rw [h] at hlt; simp at hlt
        · exact h
      subst ha
      obtain ⟨c0, c1, c2⟩ := hcell k hlt
      clear hcell
      have hpl := HP.out ts[k] (List.getElem_mem hlt)
      have HC : Hid (text (numBits (piece.length + 1) ++ bitsOf (ts.take k)) ++ text (Tok.bits ts[k]) = text (numBits (piece.length + 1) ++ bitsOf (ts.take (k + 1)))) := by
        show _ = _
        rw [Tok.take_snoc ts k hlt, bitsOf_snoc, ← List.append_assoc, ← text_append]
      have hsz : (text (Tok.bits ts[k])).size ≤ 31 := by rw [text_len, Tok.bits_length]; exact hpl.2
      generalize ts[k] = t at *
      obtain ⟨l, d, x⟩ := t
      simp only at c0 c1 c2
      have HPL : Hid (Tok.plainB ⟨l, d, x⟩) := hpl.1
      clear hpl
      generalize text (numBits (piece.length + 1) ++ bitsOf (ts.take k)) = s at *
      go_wp2_with fail
      refine (bits_calls l d x _ HPL.out).mono ?_
      rintro e w1 ⟨rfl, hb1⟩
      have hbw : Below w0.heap.size w0 w1 := hb.trans (hb1.mono hb.size)
      generalize text (Tok.bits ⟨l, d, x⟩) = s' at *
      clear hb1
      go_wp2
      go_roundw
      case rel => exact ⟨k + 1, by omega, by go_num, by rw [← HC.out], hbw⟩
      case measure => simp [intOf]; omega
    · have hke : k = ts.length := by omega
      have e1 : bitsOf (ts.take k) = bitsOf ts := by rw [hke, List.take_length]
      rw [e1] at hlen ⊢
      clear hke e1
      rw [text_len] at hlen
      generalize hL : numBits (piece.length + 1) ++ bitsOf ts = L at *
      have HL : Hid _ := hL
      clear hL
      have hs := hb.size
      have HB2 : Hid (BytesAt wr pa piece) := by
        rcases HPA.out with h | ⟨b, off, h1, h⟩
        · exact .inl h
        · exact .inr ⟨b, off, h1, fun i hi => by rw [hb.cell (p := ⟨b, _, none⟩) (HPB.out b off h1)]; exact h i hi⟩
      go_wp2_with fail
      go_loopg [5] (padN L.length) (fun g s wq => ∃ (L' : List Bool), g = padN L'.length ∧ L'.length ≤ 2010 - g ∧ Hid (fill L' = fill L) ∧ s = .string (text L') ∧ wq = wr)
      case atStart => exact ⟨L, rfl, by unfold padN; omega, rfl, rfl, rfl⟩
      case round =>
        obtain ⟨L', hg, hll, hf, rfl, rfl⟩ := hrel
        have hsz : (text L').size = L'.length := text_len L'
        have hgl : gk < 8 := by rw [hg]; unfold padN; omega
        by_cases h0 : L'.length % 8 = 0
        · have HE : Hid (L' = fill L) := by rw [← hf.out]; exact (fill_full L' h0).symm
          have hz0 : (((text L').size : Int) % 8 != 0) = false := by rw [hsz]; simp; omega
          have HFR : Hid (text L' ++ text (bin (Plain.total piece % 256).toNat 8) ++ text (bin (Plain.total piece / 256).toNat 8) = text (frameBits ts piece)) := by
            show _ = _
            rw [HE.out, ← text_append, ← text_append]
            unfold frameBits
            rw [HL.out, List.append_assoc]
          have hs1 : (text L').size ≤ 2010 := by rw [hsz]; omega
          have z1 : (text (bin (Plain.total piece % 256).toNat 8)).size = 8 := text_size _ _
          have z2 : (text (bin (Plain.total piece / 256).toNat 8)).size = 8 := text_size _ _
          clear hsz h0 hg
          generalize text L' = s at *
          go_wp2_with fail
          refine (refSum_calls pa piece pcap _ (by omega) HB2.out).mono ?_
          rintro e w2 ⟨rfl, rfl⟩
          generalize Plain.total piece = S at *
          go_wp2_with fail
          refine (binary_calls _ _ _ (by omega) (by omega) (by omega) (by omega)).mono ?_
          rintro e w3 ⟨rfl, rfl⟩
          rw [show ((8 : Int).toNat = 8) from rfl]
          generalize text (bin (S % 256).toNat 8) = s1 at *
          go_wp2_with fail
          refine (binary_calls _ _ _ (by omega) (by omega) (by omega) (by omega)).mono ?_
          rintro e w4 ⟨rfl, rfl⟩
          rw [show ((8 : Int).toNat = 8) from rfl]
          generalize text (bin (S / 256).toNat 8) = s2 at *
          go_wp2_with fail
          go_ret
          exact ⟨ret_str HFR.out, hb⟩
        · have hgg : Hid (padN (L' ++ [false]).length < gk) := by rw [hg]; show _ < _; simp only [List.length_append, List.length_cons, List.length_nil]; unfold padN; omega
          have hgl2 : L'.length + 1 ≤ 2010 - padN (L' ++ [false]).length := by have := hgg.out; omega
          have HF : Hid (fill (L' ++ [false]) = fill L) := by show _ = _; rw [← fill_more L' h0]; exact hf.out
          have hz0 : (((text L').size : Int) % 8 != 0) = true := by rw [hsz]; simp; omega
          have HS : Hid (text L' ++ (⟨#[48]⟩ : ByteArray) = text (L' ++ [false])) := text_snoc L'
          have hs1 : (text L').size ≤ 2010 := by rw [hsz]; omega
          have HG : Hid _ := hg
          clear hg hsz
          generalize text L' = s at *
          go_wp2
          go_roundg (padN (L' ++ [false]).length)
          case measure => exact hgg.out
          case rel => exact ⟨L' ++ [false], rfl, by simp at hgl2 ⊢; omega, HF, by rw [← HS.out], rfl⟩
end Go.Proofs.YtnpnaglgllcpfaaGreat

/- What the document's reader does to memory: bits taken, numbers, what fills a byte. -/
namespace Go.Proofs.YtnpnaglgllcpfaaGreat
set_option maxRecDepth 100000
open Go.RowKit

/-- The reader in block q: all bits L, so many of them read, the error, its three lists. -/
def TextAt (w : World) (q : Nat) (L : List Bool) (n : Nat) (E : Int) (vP vD vE : Value) : Prop :=
  w.heap[q]? = some (.cells #[.string (text L), .int .i64 n, .int .i64 E, vP, vD, vE] 92 (0, 0))
theorem TextAt.cell {w : World} {q : Nat} {L : List Bool} {n : Nat} {E : Int} {vP vD vE : Value} (h : TextAt w q L n E vP vD vE) :
    (w.cell? ⟨q, 0, none⟩ = some (.string (text L)) ∧ w.cell? ⟨q, 1, none⟩ = some (.int .i64 n) ∧ w.cell? ⟨q, 2, none⟩ = some (.int .i64 E)) ∧ (w.frozen? ⟨q, 1, none⟩ = false ∧ w.frozen? ⟨q, 2, none⟩ = false) := by
  unfold TextAt at h
  simp [World.cell?, World.frozen?, h]
theorem TextAt.lists {w : World} {q : Nat} {L : List Bool} {n : Nat} {E : Int} {vP vD vE : Value} (h : TextAt w q L n E vP vD vE) :
    (w.cell? ⟨q, 3, none⟩ = some vP ∧ w.cell? ⟨q, 4, none⟩ = some vD ∧ w.cell? ⟨q, 5, none⟩ = some vE) ∧ (w.frozen? ⟨q, 3, none⟩ = false ∧ w.frozen? ⟨q, 4, none⟩ = false ∧ w.frozen? ⟨q, 5, none⟩ = false) := by
  unfold TextAt at h
  simp [World.cell?, World.frozen?, h]
theorem TextAt.lt {w : World} {q : Nat} {L : List Bool} {n : Nat} {E : Int} {vP vD vE : Value} (h : TextAt w q L n E vP vD vE) : q < w.heap.size := (Array.getElem?_eq_some_iff.1 h).1
theorem TextAt.setAt {w : World} {q : Nat} {L : List Bool} {n : Nat} {E : Int} {vP vD vE : Value} (h : TextAt w q L n E vP vD vE) (m : Nat) : TextAt (w.setCell ⟨q, 1, none⟩ (.int .i64 m)) q L m E vP vD vE := by
  unfold TextAt
  rw [set_block h]; rfl
theorem TextAt.setE {w : World} {q : Nat} {L : List Bool} {n : Nat} {E : Int} {vP vD vE : Value} (h : TextAt w q L n E vP vD vE) (e : Int) : TextAt (w.setCell ⟨q, 2, none⟩ (.int .i64 e)) q L n e vP vD vE := by
  unfold TextAt
  rw [set_block h]; rfl
theorem TextAt.below {w w' : World} {q : Nat} {L : List Bool} {n : Nat} {E : Int} {vP vD vE : Value} (h : TextAt w q L n E vP vD vE) (hb : Below w.heap.size w w') : TextAt w' q L n E vP vD vE := by
  unfold TextAt
  rw [hb.block q h.lt]; exact h
theorem err_keeps (q : Nat) (L : List Bool) (n : Nat) (E e : Int) (vP vD vE : Value) (w : World) (h : TextAt w q L n E vP vD vE) (hE : E ≠ 0) :
    Calls Tryz.prog 75 #[.pointer (some ⟨q, 0, none⟩), .int .i64 e] w fun r w' => r = .returned (.tuple #[]) ∧ w' = w := by
  obtain ⟨⟨c0, c1, c2⟩, f1, f2⟩ := h.cell
  clear h c0
  have hE' : (E == 0) = false := beq_eq_false_iff_ne.2 hE
  go_enter Tryz.func75, Tryz.ntmps75
  go_wp2
  go_end0
  exact ⟨rfl, rfl⟩
theorem err_sets (q : Nat) (L : List Bool) (n : Nat) (e : Int) (vP vD vE : Value) (w : World) (h : TextAt w q L n 0 vP vD vE) :
    Calls Tryz.prog 75 #[.pointer (some ⟨q, 0, none⟩), .int .i64 e] w fun r w' => r = .returned (.tuple #[]) ∧ TextAt w' q L n e vP vD vE ∧ OneKept w w' q := by
  obtain ⟨⟨c0, c1, c2⟩, f1, f2⟩ := h.cell
  have HT : Hid _ := h
  clear h c0
  go_enter Tryz.func75, Tryz.ntmps75
  go_wp2
  go_end0
  exact ⟨rfl, TextAt.setE HT.out e, (OneKept.refl _ _).set _⟩
theorem take_err (q : Nat) (L : List Bool) (n : Nat) (E m : Int) (vP vD vE : Value) (w : World) (h : TextAt w q L n E vP vD vE) (hE : E ≠ 0) :
    Calls Tryz.prog 96 #[.pointer (some ⟨q, 0, none⟩), .int .i64 m] w fun r w' => r = .returned (.string ⟨#[]⟩) ∧ w' = w := by
  obtain ⟨⟨c0, c1, c2⟩, f1, f2⟩ := h.cell
  clear h c0
  have hE' : (E != 0) = true := by simpa using hE
  go_enter Tryz.func96, Tryz.ntmps96
  go_wp2
  go_ret
  exact ⟨rfl, rfl⟩
theorem take_short (q : Nat) (L : List Bool) (n : Nat) (m : Int) (vP vD vE : Value) (w : World) (h : TextAt w q L n 0 vP vD vE) (hn : n ≤ L.length) (hl : L.length ≤ 100000) (hm0 : 0 ≤ m) (hm1 : m ≤ 1000) (hs : (L.length : Int) < n + m) :
    Calls Tryz.prog 96 #[.pointer (some ⟨q, 0, none⟩), .int .i64 m] w fun r w' => r = .returned (.string ⟨#[]⟩) ∧ TextAt w' q L n 4 vP vD vE ∧ OneKept w w' q := by
  obtain ⟨⟨c0, c1, c2⟩, f1, f2⟩ := h.cell
  have HT : Hid (TextAt w q L n 0 vP vD vE) := h
  have hsz : (text L).size = L.length := text_len L
  have hs' : ((text L).size : Int) < n + m := by rw [hsz]; exact hs
  have hs2 : (text L).size ≤ 100000 := by omega
  clear h hs hsz
  generalize hS : text L = S at *
  have HS : Hid _ := hS
  clear hS
  go_enter Tryz.func96, Tryz.ntmps96
  go_wp2_with fail
  go_quiet (fail)
  go_wp2_with fail
  refine (err_sets q L n 4 vP vD vE _ (by exact HT.out)).mono ?_
  rintro e w1 ⟨rfl, ht1, hk1⟩
  have HT1 : Hid _ := ht1
  clear ht1
  go_wp2
  go_ret
  exact ⟨rfl, HT1.out, hk1.os, hk1.tape, hk1.output, hk1.size, hk1.heap⟩
theorem text_cut (L : List Bool) (a n : Nat) : (text L).extract a (a + n) = text ((L.drop a).take n) := by
  apply ByteArray.ext
  rw [ByteArray.data_extract]
  simp [text, chars]
theorem take_ok (q : Nat) (L : List Bool) (n m : Nat) (vP vD vE : Value) (w : World) (h : TextAt w q L n 0 vP vD vE) (hl : L.length ≤ 100000) (hs : n + m ≤ L.length) :
    Calls Tryz.prog 96 #[.pointer (some ⟨q, 0, none⟩), .int .i64 m] w fun r w' => r = .returned (.string (text ((L.drop n).take m))) ∧ TextAt w' q L (n + m) 0 vP vD vE ∧ OneKept w w' q := by
  obtain ⟨⟨c0, c1, c2⟩, f1, f2⟩ := h.cell
  have HT : Hid (TextAt w q L n 0 vP vD vE) := h
  have hsz : (text L).size = L.length := text_len L
  have HC : Hid ((text L).extract n (n + m) = text ((L.drop n).take m)) := text_cut L n m
  have hs' : n + m ≤ (text L).size := by rw [hsz]; exact hs
  have hs2 : (text L).size ≤ 100000 := by omega
  have hcast : (n : Int) + (m : Int) = ((n + m : Nat) : Int) := by omega
  have HCA : Hid _ := hcast
  clear h hs hsz hcast
  generalize hS : text L = S at *
  have HS : Hid _ := hS
  clear hS
  go_enter Tryz.func96, Tryz.ntmps96
  go_wp2_with fail
  go_quiet (fail)
  go_wp2_with fail
  go_quiet (fail)
  go_wp2
  go_ret
  refine ⟨ret_str HC.out, ?_, ?_⟩
  · have h2 := TextAt.setAt HT.out (n + m)
    rw [← HCA.out] at h2
    exact h2
  · exact (((OneKept.refl w q).set (i := 1) (.int .i64 ((n : Int) + (m : Int)))).drewN _).drewN _
theorem value_calls (l : List Bool) (w : World) (hl : l.length ≤ 16) :
    Calls Tryz.prog 97 #[.string (text l)] w fun r w' => r = .returned (.int .i64 (valB l)) ∧ w' = w := by
  have hsz : (text l).size = l.length := text_len l
  have HG : Hid (∀ i (h : i < (text l).size) (h' : i < l.length), (((text l)[i]'h).toNat : Int) = 48 + (l[i].toNat : Int)) := text_get l
  generalize text l = s at *
  have hs1 : s.size ≤ 16 := by omega
  have HSZ : Hid _ := hsz
  clear hsz
  go_enter Tryz.func97, Tryz.ntmps97
  go_wp2
  go_loopw [3, 4] (fun x k wq => ∃ (K : Nat), K ≤ s.size ∧ k = .int .i64 K ∧ x = .int .i64 (valB (l.take K)) ∧ wq = w) (fun _ k _ => s.size - (intOf k).toNat)
  case atStart => exact ⟨0, by omega, rfl, rfl, rfl⟩
  case round =>
    obtain ⟨K, hK, rfl, rfl, rfl⟩ := hrel
    have hvl : valB (l.take K) < 65536 := Nat.lt_of_lt_of_le (valB_lt _) (Nat.pow_le_pow_right (n := 2) (by omega) (show (l.take K).length ≤ 16 by rw [List.length_take]; omega))
    by_cases hlt : K < s.size
    · have hLK : K < l.length := by have := HSZ.out; omega
      have HV : Hid ((valB (l.take (K + 1)) : Int) = 2 * (valB (l.take K) : Int) + (l[K].toNat : Int)) := by
        show _ = _
        rw [List.take_succ_eq_append_getElem hLK, valB_snoc]
        simp
      have hix : 0 ≤ (K : Int) ∧ (K : Int) < (s.size : Int) := by omega
      generalize valB (l.take K) = y at *
      go_wp2
      go_roundw
      case rel =>
        refine ⟨K + 1, by omega, by go_num, ?_, by first | trivial | rfl⟩
        have hg := HG.out K hlt hLK
        have hbt : l[K].toNat ≤ 1 := Bool.toNat_le _
        rw [HV.out, hg]
        have : (48 + (l[K].toNat : Int) - 48) % 256 = (l[K].toNat : Int) := by omega
        rw [this]
      case measure => simp [intOf]; omega
    · have HE : Hid (valB (l.take K) = valB l) := by show _ = _; rw [List.take_of_length_le (by have := HSZ.out; omega)]
      go_wp2
      go_ret
      exact ⟨ret_i64 (by rw [HE.out]), rfl⟩
theorem text_one (b : Bool) : text [b] = ⟨#[if b then 49 else 48]⟩ := by cases b <;> rfl
/-- How number ends. -/
def NumAns (w w' : World) (q : Nat) (L : List Bool) (n : Nat) (e : Int) (vP vD vE : Value) (r : Ending) : Prop :=
  OneKept w w' q ∧ ((∃ c m, rNum e 0 (L.drop n) = .error c ∧ c ≠ 0 ∧ m ≤ L.length ∧ r = .returned (.int .i64 0) ∧ TextAt w' q L m c vP vD vE) ∨
    ∃ v m, rNum e 0 (L.drop n) = .ok (v, L.drop m) ∧ n < m ∧ m ≤ L.length ∧ 1 ≤ v ∧ v ≤ 127 ∧ r = .returned (.int .i64 v) ∧ TextAt w' q L m 0 vP vD vE)
/-- What holds at the head of number's loop: z noughts so far; the bit read last, or an error. -/
def NumRel (w : World) (q : Nat) (L : List Bool) (n : Nat) (e : Int) (vP vD vE : Value) (z : Nat) (s : ByteArray) : Prop :=
  (∃ b m, s = text [b] ∧ n < m ∧ m ≤ L.length ∧ z ≤ 6 ∧ rNum e 0 (L.drop n) = rNum e z (b :: L.drop m) ∧ TextAt w q L m 0 vP vD vE) ∨
  (∃ c m, s = ⟨#[]⟩ ∧ m ≤ L.length ∧ c ≠ 0 ∧ z ≤ 7 ∧ rNum e 0 (L.drop n) = .error c ∧ TextAt w q L m c vP vD vE)
end Go.Proofs.YtnpnaglgllcpfaaGreat
