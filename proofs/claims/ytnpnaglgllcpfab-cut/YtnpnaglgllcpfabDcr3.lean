/-
  What the program's Decoder answers: Feed of one that is closed, or has an error, or is fed too much; End.
-/
import Derived.Test.YtnpnaglgllcpfabDcr2
namespace Go.Proofs.Ytnpnaglgllcpfab
set_option maxRecDepth 100000
open Go.RowKit

theorem rNum_code {e : Int} : ∀ {R : List Bool} {z : Nat} {c : Int}, rNum e z R = .error c → c = 4 ∨ c = e
  | [], _, _, h => by simp [rNum] at h; omega
  | true :: R, z, c, h => by
    simp only [rNum] at h
    split at h
    · simp at h; omega
    · cases h
  | false :: R, z, c, h => by
    simp only [rNum] at h
    split at h
    · simp at h; omega
    · exact rNum_code h
theorem rTok_code {made left : Nat} {R : List Bool} {c : Int} (h : rTok made left R = .error c) : c = 4 ∨ c = 6 := by
  match R, h with
  | [], h => simp [rTok] at h; omega
  | false :: R, h =>
    simp only [rTok] at h
    split at h
    · simp at h; omega
    · cases h
  | true :: R, h =>
    simp only [rTok] at h
    split at h
    · rename_i hn
      have := rNum_code hn
      simp at h; omega
    · split at h
      · simp at h; omega
      · split at h
        · rename_i hn
          have := rNum_code hn
          simp at h; omega
        · split at h
          · simp at h; omega
          · cases h
theorem rToks_code {n : Nat} : ∀ {f made : Nat} {R : List Bool} {c : Int}, rToks n f made R = .error c → c = 4 ∨ c = 6
  | 0, made, R, c, h => by simp [rToks] at h
  | f + 1, made, R, c, h => by
    simp only [rToks] at h
    split at h
    · cases h
    · split at h
      · rename_i ht
        have := rTok_code ht
        simp at h; omega
      · split at h
        · rename_i hu
          have := rToks_code hu
          simp at h; omega
        · cases h
theorem part_ok_ne {st : Nat} {R : List Bool} : part st R ≠ .error 0 := by
  intro h
  by_cases h0 : st = 0
  · subst h0
    have hm : ∀ (bs : List Nat) (R : List Bool) (c : Int), rMagic bs R = .error c → c = 4 ∨ c = 3 := by
      intro bs
      induction bs with
      | nil => intro R c h; simp [rMagic] at h
      | cons b bs ih =>
        intro R c h
        simp only [rMagic] at h
        split at h
        · simp at h; omega
        · split at h
          · exact ih _ _ h
          · simp at h; omega
    rcases hx : rMagic [80, 90, 49] R with c' | R1
    · rw [part_begin_err hx] at h
      have := hm _ _ _ hx
      simp at h; omega
    · rw [part_begin hx] at h; cases h
  · rcases hs : rStep (decide (st = 2)) R with c' | ⟨_ | ts, R1⟩
    · rw [part_err h0 hs] at h
      simp at h
      subst h
      simp only [rStep] at hs
      split at hs
      · rename_i hn
        have := rNum_code hn
        simp at hs; omega
      · split at hs
        · split at hs <;> simp at hs
        · split at hs
          · simp at hs
          · split at hs
            · rename_i hf
              simp only [rFrame] at hf
              simp at hs
              split at hf
              · rename_i ht
                have := rToks_code ht
                simp at hf; omega
              · split at hf
                · simp at hf; omega
                · split at hf
                  · simp at hf; omega
                  · split at hf
                    · simp at hf; omega
                    · cases hf
            · cases hs
    · rw [part_none h0 hs] at h; cases h
    · rw [part_some h0 hs] at h; cases h
theorem feed_nil_calls (pa : Option Addr) (n pc : Nat) (w : World) :
    Calls Try.prog 48 #[.pointer none, .slice pa n pc] w fun r w' => r = .returned (.tuple #[.slice none 0 0, .int .i64 10]) ∧ w' = w := by
  go_enter Try.func48, Try.ntmps48
  go_wp2
  go_ret2
  exact ⟨rfl, rfl⟩
theorem feed_shut_calls (q : Nat) (e n s : Int) (v : Value) (pa : Option Addr) (pn pc : Nat) (w : World) (h : DecBox w q false e n s v) :
    Calls Try.prog 48 #[.pointer (some ⟨q, 0, none⟩), .slice pa pn pc] w fun r w' => r = .returned (.tuple #[.slice none 0 0, .int .i64 10]) ∧ w' = w := by
  obtain ⟨⟨c0, _⟩, _⟩ := penta_cell h
  clear h
  go_enter Try.func48, Try.ntmps48
  go_wp2
  go_ret2
  exact ⟨rfl, rfl⟩
theorem feed_bad_calls (q : Nat) (e n s : Int) (v : Value) (pa : Option Addr) (pn pc : Nat) (w : World) (h : DecBox w q true e n s v) (he : e ≠ 0) :
    Calls Try.prog 48 #[.pointer (some ⟨q, 0, none⟩), .slice pa pn pc] w fun r w' => r = .returned (.tuple #[.slice none 0 0, .int .i64 e]) ∧ ∃ nd, w' = w.drewN nd := by
  obtain ⟨⟨c0, c1, _⟩, _⟩ := penta_cell h
  have heb : (e != 0) = true := by simpa using he
  clear h he
  go_enter Try.func48, Try.ntmps48
  go_wp2_with fail
  go_quiet (fail)
  go_wp2
  go_ret2
  exact ⟨rfl, _, rfl⟩
set_option maxHeartbeats 1000000 in
theorem feed_long_calls (q : Nat) (v : Value) (all : List UInt8) (fs : List (List Tok × List UInt8)) (e : Int) (pa : Option Addr) (pn pc : Nat) (w : World) (h : DecAt w q v all fs e) (hl : 4096 < all.length + pn) :
    Calls Try.prog 48 #[.pointer (some ⟨q, 0, none⟩), .slice pa pn pc] w fun r w' => r = .returned (.tuple #[.slice none 0 0, .int .i64 1]) ∧ DecBox w' q true 1 0 0 (.slice none 0 0) ∧ OneKept w w' q := by
  obtain ⟨st, rest, hbox, hrest, _, _, _, hst, hal, hrl⟩ := h
  obtain ⟨ro, rc, rfl⟩ := hrest.form
  obtain ⟨⟨c0, c1, c2, c3, c4⟩, _⟩ := penta_cell hbox
  have HF : Hid _ := fail_calls q 0 all.length st 1 true ro rest.length rc w hbox
  have hlp : (4096 : Int) - (all.length : Int) < (pn : Int) := by omega
  clear hbox hrest
  go_enter Try.func48, Try.ntmps48
  go_wp2_with fail
  refine Calls.mono HF.out ?_
  rintro r w1 ⟨rfl, h1, h2⟩
  have H1 : Hid _ := h1
  have H2 : Hid (OneKept w w1 q) := h2
  clear h1 h2 HF
  go_wp2
  go_ret2
  exact ⟨rfl, H1.out, H2.out⟩
theorem end_nil_calls (w : World) :
    Calls Try.prog 49 #[.pointer none] w fun r w' => r = .returned (.int .i64 10) ∧ w' = w := by
  go_enter Try.func49, Try.ntmps49
  go_wp2
  go_ret
  exact ⟨rfl, rfl⟩
theorem end_shut_calls (q : Nat) (e n s : Int) (v : Value) (w : World) (h : DecBox w q false e n s v) :
    Calls Try.prog 49 #[.pointer (some ⟨q, 0, none⟩)] w fun r w' => r = .returned (.int .i64 10) ∧ w' = w := by
  obtain ⟨⟨c0, _⟩, _⟩ := penta_cell h
  clear h
  go_enter Try.func49, Try.ntmps49
  go_wp2
  go_ret
  exact ⟨rfl, rfl⟩
set_option maxHeartbeats 1000000 in
theorem end_bad_calls (q : Nat) (e n s : Int) (ro : Option Addr) (rl rc : Nat) (w : World) (h : DecBox w q true e n s (.slice ro rl rc)) (he : e ≠ 0) :
    Calls Try.prog 49 #[.pointer (some ⟨q, 0, none⟩)] w fun r w' => r = .returned (.int .i64 e) ∧ DecBox w' q false 0 0 0 (.slice none 0 0) ∧ OneKept w w' q := by
  obtain ⟨⟨c0, c1, c2, c3, c4⟩, f0, f1, f2, f3, f4⟩ := penta_cell h
  have HF : Hid _ := set5 h (.bool false) (.int .i64 0) (.int .i64 0) (.int .i64 0) (.slice none 0 0)
  have heb : (e == 0) = false := beq_eq_false_iff_ne.2 he
  clear h he
  go_enter Try.func49, Try.ntmps49
  go_wp2
  go_ret
  exact ⟨rfl, HF.out, ((((OneKept.refl _ _).set _).set _).set _).set _ |>.set _⟩
set_option maxHeartbeats 1000000 in
theorem end_calls (q : Nat) (v : Value) (all : List UInt8) (fs : List (List Tok × List UInt8)) (e : Int) (w : World) (h : DecAt w q v all fs e) :
    Calls Try.prog 49 #[.pointer (some ⟨q, 0, none⟩)] w fun r w' => r = .returned (.int .i64 e) ∧ DecBox w' q false 0 0 0 (.slice none 0 0) ∧ OneKept w w' q := by
  obtain ⟨st, rest, hbox, hrest, _, hstop, he, hst, hal, hrl⟩ := h
  obtain ⟨ro, rc, rfl⟩ := hrest.form
  obtain ⟨⟨c0, c1, c2, c3, c4⟩, f0, f1, f2, f3, f4⟩ := penta_cell hbox
  have HF : Hid _ := set5 hbox (.bool false) (.int .i64 0) (.int .i64 0) (.int .i64 0) (.slice none 0 0)
  have key : (st = 3 ∧ e = 0) ∨ (st ≠ 3 ∧ e = 4) := by
    rcases hstop with ⟨h3, ⟨_, h⟩ | ⟨_, h⟩⟩ | ⟨h3, h⟩
    · exact .inl ⟨h3, h⟩
    · omega
    · rcases he with rfl | rfl
      · exfalso
        exact part_ok_ne h
      · exact .inr ⟨h3, rfl⟩
  clear hbox hrest hstop he
  rcases key with ⟨h3, rfl⟩ | ⟨h3, rfl⟩
  · have h3' : ((st : Int) != 3) = false := by simp; omega
    clear h3
    go_enter Try.func49, Try.ntmps49
    go_wp2
    go_ret
    exact ⟨rfl, HF.out, ((((OneKept.refl _ _).set _).set _).set _).set _ |>.set _⟩
  · have h3' : ((st : Int) != 3) = true := by simp; omega
    clear h3
    go_enter Try.func49, Try.ntmps49
    go_wp2
    go_ret
    exact ⟨rfl, HF.out, ((((OneKept.refl _ _).set _).set _).set _).set _ |>.set _⟩
end Go.Proofs.Ytnpnaglgllcpfab
