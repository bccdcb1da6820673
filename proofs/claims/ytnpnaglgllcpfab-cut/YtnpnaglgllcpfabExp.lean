/-
  What the program's, and the document's, functions on a list of tokens answer: what the tokens make, or that they are not right; their cost.
-/
import Derived.Test.YtnpnaglgllcpfabTok
import Derived.SizedLaws
namespace Go.Proofs.Ytnpnaglgllcpfab
set_option maxRecDepth 100000
open Go.RowKit

/-- The tokens lie in memory, at a. -/
def ToksAt (w : World) (a : Option Addr) (ts : List Tok) : Prop :=
  ts = [] ∨ ∃ b off, a = some ⟨b, off, none⟩ ∧ b < w.heap.size ∧ ∀ i (hi : i < ts.length),
    w.cell? ⟨b, off + i * 3, none⟩ = some (.int .i64 ts[i].len) ∧ w.cell? ⟨b, off + i * 3 + 1, none⟩ = some (.int .i64 ts[i].dist) ∧ w.cell? ⟨b, off + i * 3 + 2, none⟩ = some (.int .i64 ts[i].byte)

theorem ToksAt.below {w w' : World} {a : Option Addr} {ts : List Tok} (h : ToksAt w a ts) (hb : Below w.heap.size w w') : ToksAt w' a ts := by
  rcases h with h | ⟨b, off, rfl, hlt, h⟩
  · exact .inl h
  · refine .inr ⟨b, off, rfl, Nat.lt_of_lt_of_le hlt hb.size, fun i hi => ?_⟩
    rw [hb.cell (p := ⟨b, _, none⟩) hlt, hb.cell (p := ⟨b, _, none⟩) hlt, hb.cell (p := ⟨b, _, none⟩) hlt]
    exact h i hi

theorem bcell {W w1 : World} (hb : Below W.heap.size W w1) : (∀ b o, b < W.heap.size → w1.cell? ⟨b, o, none⟩ = W.cell? ⟨b, o, none⟩) ∧ (∀ b o, b < W.heap.size → w1.frozen? ⟨b, o, none⟩ = W.frozen? ⟨b, o, none⟩) :=
  ⟨fun b o h => hb.cell (p := ⟨b, o, none⟩) h, fun b o h => hb.frozen (p := ⟨b, o, none⟩) h⟩

theorem ret_two {a b c d : Value} (h : a = c) (k : b = d) : Ending.returned (.tuple #[a, b]) = .returned (.tuple #[c, d]) := by rw [h, k]

set_option maxHeartbeats 400000 in
theorem cost_calls (a : Option Addr) (ts : List Tok) (cap : Nat) (w : World) (hl : ts.length ≤ 9223372036854775807) (ht : ToksAt w a ts) :
    Calls Try.prog 41 #[.slice a ts.length cap] w fun e w' => Below w.heap.size w w' ∧
      e = .returned (.tuple #[.int .i64 (Tok.costAns ts), .bool (Tok.okB ts)]) := by
  have HT : Hid (ToksAt w a ts) := ht
  clear ht
  go_enter Try.func41, Try.ntmps41
  go_wp2
  go_loopw [4, 5, 10] (fun m c i wr => ∃ (k : Nat) (out : List UInt8), k ≤ ts.length ∧ i = .int .i64 k ∧ Hid (Tok.expand [] (ts.take k) = some out) ∧ out.length ≤ 64 ∧ m = .int .i64 out.length ∧ c = .int .i64 (Tok.costs (ts.take k)) ∧ Tok.costs (ts.take k) ≤ 31 * k ∧ k ≤ out.length ∧ Below w.heap.size w wr) (fun _ _ i _ => ts.length - (intOf i).toNat)
  case atStart => exact ⟨0, [], Nat.zero_le _, rfl, rfl, by simp, rfl, rfl, by simp [Tok.costs], by simp, Below.refl _ _⟩
  case round =>
    obtain ⟨k, out, hk, rfl, he, hm, rfl, rfl, hcb, hko, hb⟩ := hrel
    by_cases hlt : k < ts.length
    · obtain ⟨b, off, ha, hbl, hcell⟩ : ∃ b off, a = some ⟨b, off, none⟩ ∧ b < wr.heap.size ∧ ∀ i (hi : i < ts.length),
          wr.cell? ⟨b, off + i * 3, none⟩ = some (.int .i64 ts[i].len) ∧ wr.cell? ⟨b, off + i * 3 + 1, none⟩ = some (.int .i64 ts[i].dist) ∧ wr.cell? ⟨b, off + i * 3 + 2, none⟩ = some (.int .i64 ts[i].byte) := by
        rcases HT.out.below hb with h | h
        · rw [h] at hlt; simp at hlt
        · exact h
      subst ha
      obtain ⟨c0, c1, c2⟩ := hcell k hlt
      clear hcell
      have HN := Tok.expand_next ts k hlt out he.out
      have HC : Tok.costs (ts.take (k + 1)) = Tok.costs (ts.take k) + Tok.cost ts[k] := by rw [Tok.take_snoc ts k hlt, Tok.costs_snoc]
      generalize ts[k] = t at *
      obtain ⟨l, d, x⟩ := t
      simp only at c0 c1 c2
      generalize hC : Tok.costs (ts.take k) = C at *
      have HN' : Hid _ := HN
      have HC' : Hid _ := HC
      have HC0 : Hid _ := hC
      clear HN HC hC
      go_wp2_with fail
      refine (fits_calls l d x _ _ (by omega) (by omega)).mono ?_
      rintro e w1 ⟨rfl, hb1⟩
      have hz1 : wr.heap.size + 1 ≤ w1.heap.size := by have := hb1.size; simpa using this
      obtain ⟨hc, hf⟩ := bcell hb1
      have hbw : Below w.heap.size w w1 := (hb.alloc (by have := hb.size; omega) _).trans (hb1.mono (by have := hb.size; simp; omega))
      by_cases hfit : Tok.fitsB ⟨l, d, x⟩ out.length = true
      · have hi := (Tok.fits_iff _ _).1 hfit
        have hcl := Tok.cost_le _ _ (by omega) hfit
        have hsl := Tok.step_length out _ _ hfit
        simp only at hi hsl
        have HN'' : Tok.expand [] (ts.take (k + 1)) = some (Tok.step out ⟨l, d, x⟩) := by rw [HN'.out, if_pos hfit]
        have HN3 : Hid _ := HN''
        clear HN'' HN' hb1
        have hl64 : l ≤ 64 - (out.length : Int) := by omega
        have hl1 : 1 ≤ l := by omega
        have hdl : d = 0 ∨ 1 ≤ d ∧ d ≤ 32 ∧ 2 ≤ l ∧ l ≤ 64 := by omega
        have HI : Hid _ := hi
        clear hi
        go_wp2_with fail
        refine (costOf_calls l d x _ hdl).mono ?_
        rintro e w2 ⟨rfl, hb2⟩
        have hbw2 : Below w.heap.size w w2 := hbw.trans (hb2.mono (by have := hb.size; omega))
        generalize hT : Tok.cost ⟨l, d, x⟩ = c at *
        have HT' : Hid _ := hT
        clear hT
        go_wp2
        go_roundw
        case rel =>
          have e1 : Tok.costs (ts.take (k + 1)) = C + c := by rw [HC'.out]
          exact ⟨k + 1, _, by omega, by go_num, HN3, by omega, by go_num, by rw [e1]; go_num, by rw [e1]; omega, by omega, hbw2⟩
        case measure => simp [intOf]; omega
      · have hff : Tok.fitsB ⟨l, d, x⟩ out.length = false := by simpa using hfit
        have HE : Hid (Tok.expand [] ts = none) := Tok.expand_stop ts k (by rw [HN'.out, hff]; rfl)
        clear hfit hb1
        go_wp2
        go_ret2
        exact ⟨hbw, by rw [Tok.okB_none HE.out, Tok.costAns_none HE.out]; rfl⟩
    · have hke : k = ts.length := by omega
      have HE : Hid (Tok.expand [] ts = some out) := by have := he.out; rw [hke, List.take_length] at this; exact this
      have HC : Hid (Tok.costs (ts.take k) = Tok.costs ts) := by rw [hke, List.take_length]; rfl
      clear hke
      generalize hC : Tok.costs (ts.take k) = C at *
      have HC0 : Hid _ := hC
      clear hC
      go_wp2
      go_ret2
      refine ⟨hb, ret_two ?_ ?_⟩
      · rw [Tok.costAns_some HE.out, ← HC.out]; rfl
      · rw [Tok.okB_some HE.out]; rfl
end Go.Proofs.Ytnpnaglgllcpfab
