/-
  The small functions of the laws that use no document's answer: pick, at, same.
-/
import Derived.Test.YtnpnaglgllcpfabRdA
namespace Go.Proofs.Ytnpnaglgllcpfab
set_option maxRecDepth 100000
open Go.RowKit

/-- A number of the machine's. -/
def In64 (c : Int) : Prop := -9223372036854775808 ≤ c ∧ c ≤ 9223372036854775807
/-- Raw numbers lie in memory, at a. -/
def RawAt (w : World) (a : Option Addr) (raw : List Int) : Prop :=
  raw = [] ∨ ∃ b off, a = some ⟨b, off, none⟩ ∧ b < w.heap.size ∧ ∀ i (hi : i < raw.length), w.cell? ⟨b, off + i, none⟩ = some (.int .i64 raw[i]) ∧ In64 raw[i]
theorem RawAt.below {w w' : World} {a : Option Addr} {raw : List Int} (h : RawAt w a raw) (hb : Below w.heap.size w w') : RawAt w' a raw := by
  rcases h with h | ⟨b, off, h1, h2, h⟩
  · exact .inl h
  · exact .inr ⟨b, off, h1, Nat.lt_of_lt_of_le h2 hb.size, fun i hi => by rw [hb.cell (p := ⟨b, _, none⟩) h2]; exact h i hi⟩

theorem pick_calls (c n : Int) (w : World) (hc : In64 c) (h1 : 1 ≤ n) (h2 : n ≤ 9223372036854775807) :
    Calls Try.prog 25 #[.int .i64 c, .int .i64 n] w fun e w' => (∃ r, 0 ≤ r ∧ r < n ∧ e = .returned (.int .i64 r)) ∧ w' = w := by
  obtain ⟨hc1, hc2⟩ := hc
  have hn0 : n ≠ 0 := by omega
  have hnb : (n == 0) = false := by simpa using hn0
  by_cases hneg : c < 0
  · go_enter Try.func25, Try.ntmps25
    go_wp2
    go_ret
    refine ⟨⟨_, ?_, ?_, rfl⟩, rfl⟩
    all_goals
      have e : (-(c + 1)).tmod n = (-(c + 1)) % n := Int.tmod_eq_emod_of_nonneg (by omega)
      have e1 := Int.emod_nonneg (-(c + 1)) hn0
      have e2 := Int.emod_lt_of_pos (-(c + 1)) (show 0 < n by omega)
      have e3 : (-(c + 1)).tmod n = -((c + 1).tmod n) := Int.neg_tmod _ _
      omega
  · go_enter Try.func25, Try.ntmps25
    go_wp2
    go_ret
    exact ⟨⟨_, Int.emod_nonneg _ hn0, Int.emod_lt_of_pos _ (by omega), rfl⟩, rfl⟩

theorem at_calls (a : Option Addr) (raw : List Int) (cap : Nat) (i : Int) (w : World) (hl : raw.length ≤ 9223372036854775807) (ht : RawAt w a raw) (h0 : 0 ≤ i) (h1 : i ≤ 9223372036854775807) :
    Calls Try.prog 39 #[.slice a raw.length cap, .int .i64 i] w fun e w' => (∃ r, In64 r ∧ e = .returned (.int .i64 r)) ∧ ∃ n, w' = w.drewN n := by
  by_cases hz : raw.length = 0
  · go_enter Try.func39, Try.ntmps39
    go_wp2
    go_ret
    exact ⟨⟨0, by unfold In64; omega, rfl⟩, 0, rfl⟩
  · rcases ht with h | ⟨b, off, rfl, hb, hcell⟩
    · exact absurd (by rw [h]; rfl) hz
    · obtain ⟨I, rfl⟩ := Int.eq_ofNat_of_zero_le h0
      have hm : I % raw.length < raw.length := Nat.mod_lt _ (by omega)
      obtain ⟨c0, c1⟩ := hcell (I % raw.length) hm
      clear hcell
      generalize raw[I % raw.length] = x at *
      generalize raw.length = len at *
      have hq : (((I % len : Nat) : Int)) = (I : Int) % (len : Int) := by omega
      go_enter Try.func39, Try.ntmps39
      go_wp2
      go_ret
      exact ⟨⟨x, c1, rfl⟩, 0, rfl⟩

set_option maxHeartbeats 1000000 in
theorem same_calls (a a' : Option Addr) (ts : List Tok) (cap cap' : Nat) (w : World) (hl : ts.length ≤ 9223372036854775807) (ht : ToksAt w a ts) (ht' : ToksAt w a' ts) :
    Calls Try.prog 26 #[.slice a ts.length cap, .slice a' ts.length cap'] w fun e w' => e = .returned (.bool true) ∧ ∃ n, w' = w.drewN n := by
  have HT : Hid (ToksAt w a ts) := ht
  have HT' : Hid (ToksAt w a' ts) := ht'
  clear ht ht'
  go_enter Try.func26, Try.ntmps26
  go_wp2
  go_loopw [5] (fun i wr => ∃ (k : Nat), k ≤ ts.length ∧ i = .int .i64 k ∧ ∃ n, wr = w.drewN n) (fun i _ => ts.length - (intOf i).toNat)
  case atStart => exact ⟨0, Nat.zero_le _, rfl, 0, rfl⟩
  case round =>
    obtain ⟨k, hk, rfl, nd, rfl⟩ := hrel
    by_cases hlt : k < ts.length
    · obtain ⟨b, off, ha, hbl, hcell⟩ : ∃ b off, a = some ⟨b, off, none⟩ ∧ b < w.heap.size ∧ ∀ i (hi : i < ts.length),
          w.cell? ⟨b, off + i * 3, none⟩ = some (.int .i64 ts[i].len) ∧ w.cell? ⟨b, off + i * 3 + 1, none⟩ = some (.int .i64 ts[i].dist) ∧ w.cell? ⟨b, off + i * 3 + 2, none⟩ = some (.int .i64 ts[i].byte) := by
        rcases HT.out with h | h
        · rw [h] at hlt; simp at hlt
        · exact h
      obtain ⟨b', off', ha', hbl', hcell'⟩ : ∃ b off, a' = some ⟨b, off, none⟩ ∧ b < w.heap.size ∧ ∀ i (hi : i < ts.length),
          w.cell? ⟨b, off + i * 3, none⟩ = some (.int .i64 ts[i].len) ∧ w.cell? ⟨b, off + i * 3 + 1, none⟩ = some (.int .i64 ts[i].dist) ∧ w.cell? ⟨b, off + i * 3 + 2, none⟩ = some (.int .i64 ts[i].byte) := by
        rcases HT'.out with h | h
        · rw [h] at hlt; simp at hlt
        · exact h
      subst ha ha'
      obtain ⟨c0, c1, c2⟩ := hcell k hlt
      obtain ⟨c0', c1', c2'⟩ := hcell' k hlt
      clear hcell hcell'
      generalize ts[k] = t at *
      obtain ⟨l, d, x⟩ := t
      simp only at c0 c1 c2 c0' c1' c2'
      have hix : 0 ≤ (k : Int) ∧ (k : Int) < (ts.length : Int) := by omega
      have e0 : (l != l) = false := by simp
      have e1 : (d != d) = false := by simp
      have e2 : (x != x) = false := by simp
      go_wp2_with fail
      go_quiet (fail)
      go_wp2
      go_roundw
      case rel => exact ⟨k + 1, by omega, by go_num, _, rfl⟩
      case measure => simp [intOf]; omega
    · go_wp2
      go_ret
      exact ⟨rfl, nd, rfl⟩

end Go.Proofs.Ytnpnaglgllcpfab
