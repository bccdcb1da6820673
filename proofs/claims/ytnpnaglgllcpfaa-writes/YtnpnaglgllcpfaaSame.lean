/-
  The laws' comparisons of tokens: lists of the same tokens are told the same.
-/
import Derived.Test.YtnpnaglgllcpfaaRd7
namespace Go.Proofs.Ytnpnaglgllcpfaa
set_option maxRecDepth 100000
open Go.RowKit

set_option maxHeartbeats 1000000 in
theorem sameTokens_calls (a a' : Option Addr) (ts : List Tok) (cap cap' : Nat) (w : World) (hl : ts.length ≤ 9223372036854775807) (ht : ToksAt w a ts) (ht' : ToksAt w a' ts) :
    Calls Try.prog 56 #[.slice a ts.length cap, .slice a' ts.length cap'] w fun e w' => e = .returned (.bool true) ∧ ∃ n, w' = w.drewN n := by
  have HT : Hid (ToksAt w a ts) := ht
  have HT' : Hid (ToksAt w a' ts) := ht'
  clear ht ht'
  go_enter Try.func56, Try.ntmps56
  go_wp2
  go_loopw [5] (fun i wr => ∃ (k : Nat), k ≤ ts.length ∧ i = .int .i64 k ∧ ∃ n, wr = w.drewN n) (fun i _ => ts.length - (intOf i).toNat)
  case atStart => exact ⟨0, Nat.zero_le _, rfl, 0, rfl⟩
  case round =>
    obtain ⟨k, hk, rfl, nd, rfl⟩ := hrel
    by_cases hlt : k < ts.length
    · obtain ⟨b, off, ha, hbl, hcell⟩ : ∃ b off, a = some ⟨b, off, none⟩ ∧ b < w.heap.size ∧ ∀ i (hi : i < ts.length),
          w.cell? ⟨b, off + i * 3, none⟩ = some (.int .i64 ts[i].len) ∧ w.cell? ⟨b, off + i * 3 + 1, none⟩ = some (.int .i64 ts[i].dist) ∧ w.cell? ⟨b, off + i * 3 + 2, none⟩ = some (.int .i64 ts[i].byte) := by
        rcases HT.out with h | h
        · rw [h] at hlt; simp at hlt
        · exact h
      obtain ⟨b', off', ha', hbl', hcell'⟩ : ∃ b off, a' = some ⟨b, off, none⟩ ∧ b < w.heap.size ∧ ∀ i (hi : i < ts.length),
          w.cell? ⟨b, off + i * 3, none⟩ = some (.int .i64 ts[i].len) ∧ w.cell? ⟨b, off + i * 3 + 1, none⟩ = some (.int .i64 ts[i].dist) ∧ w.cell? ⟨b, off + i * 3 + 2, none⟩ = some (.int .i64 ts[i].byte) := by
        rcases HT'.out with h | h
        · rw [h] at hlt; simp at hlt
        · exact h
      subst ha ha'
      obtain ⟨c0, c1, c2⟩ := hcell k hlt
      obtain ⟨c0', c1', c2'⟩ := hcell' k hlt
      clear hcell hcell'
      generalize ts[k] = t at *
      obtain ⟨l, d, x⟩ := t
      simp only at c0 c1 c2 c0' c1' c2'
      have hix : 0 ≤ (k : Int) ∧ (k : Int) < (ts.length : Int) := by omega
      have e0 : (l != l) = false := by simp
      have e1 : (d != d) = false := by simp
      have e2 : (x != x) = false := by simp
      go_wp2_with fail
      go_quiet (fail)
      go_wp2
      go_roundw
      case rel => exact ⟨k + 1, by omega, by go_num, _, rfl⟩
      case measure => simp [intOf]; omega
    · go_wp2
      go_ret
      exact ⟨rfl, nd, rfl⟩
set_option maxHeartbeats 1000000 in
theorem samePieces_calls (a a' : Option Addr) (ps : List (List Tok)) (cap cap' : Nat) (w : World) (hl : ps.length ≤ 9223372036854775807) (ht : PiecesAt w a ps) (ht' : PiecesAt w a' ps) :
    Calls Try.prog 47 #[.slice a ps.length cap, .slice a' ps.length cap'] w fun e w' => e = .returned (.bool true) ∧ ∃ n, w' = w.drewN n := by
  have HT : Hid (PiecesAt w a ps) := ht
  have HT' : Hid (PiecesAt w a' ps) := ht'
  clear ht ht'
  go_enter Try.func47, Try.ntmps47
  go_wp2
  go_loopw [5] (fun i wr => ∃ (k : Nat), k ≤ ps.length ∧ i = .int .i64 k ∧ ∃ n, wr = w.drewN n) (fun i _ => ps.length - (intOf i).toNat)
  case atStart => exact ⟨0, Nat.zero_le _, rfl, 0, rfl⟩
  case round =>
    obtain ⟨k, hk, rfl, nd, rfl⟩ := hrel
    by_cases hlt : k < ps.length
    · obtain ⟨b, off, ha, hbl, hcell⟩ : ∃ b off, a = some ⟨b, off, none⟩ ∧ b < w.heap.size ∧ ∀ i, i < ps.length → ∃ ai ci, w.cell? ⟨b, off + i, none⟩ = some (.slice ai (ps.getD i []).length ci) ∧ (ps.getD i []).length ≤ 9223372036854775807 ∧ ToksAt w ai (ps.getD i []) := by
        rcases HT.out with h | h
        · rw [h] at hlt; simp at hlt
        · exact h
      obtain ⟨b', off', ha', hbl', hcell'⟩ : ∃ b off, a' = some ⟨b, off, none⟩ ∧ b < w.heap.size ∧ ∀ i, i < ps.length → ∃ ai ci, w.cell? ⟨b, off + i, none⟩ = some (.slice ai (ps.getD i []).length ci) ∧ (ps.getD i []).length ≤ 9223372036854775807 ∧ ToksAt w ai (ps.getD i []) := by
        rcases HT'.out with h | h
        · rw [h] at hlt; simp at hlt
        · exact h
      subst ha ha'
      obtain ⟨ai, ci, c0, hl0, htk⟩ := hcell k hlt
      obtain ⟨ai', ci', c0', _, htk'⟩ := hcell' k hlt
      clear hcell hcell'
      generalize ps.getD k [] = ts at *
      have d0 : (w.drewN nd).cell? ⟨b, off + k, none⟩ = some (.slice ai ts.length ci) := c0
      have d0' : (w.drewN nd).cell? ⟨b', off' + k, none⟩ = some (.slice ai' ts.length ci') := c0'
      have HTK : Hid (ToksAt (w.drewN nd) ai ts) := htk.drewN _
      have HTK' : Hid (ToksAt (w.drewN nd) ai' ts) := htk'.drewN _
      have hix : 0 ≤ (k : Int) ∧ (k : Int) < (ps.length : Int) := by omega
      clear htk htk' c0 c0'
      generalize hw0 : w.drewN nd = w0 at *
      have HW0 : Hid (w.drewN nd = w0) := hw0
      clear hw0
      go_wp2_with fail
      go_quiet ((go_at_call 56; exact Calls.quiet_of (sameTokens_calls _ _ ts _ _ _ hl0 (by exact ToksAt.drewN HTK.out _) (by exact ToksAt.drewN HTK'.out _))))
      go_wp2
      go_roundw
      case rel => exact ⟨k + 1, by omega, by go_num, _, by rw [← HW0.out, World.drewN_drewN]⟩
      case measure => simp [intOf]; omega
    · go_wp2
      go_ret
      exact ⟨rfl, nd, rfl⟩
end Go.Proofs.Ytnpnaglgllcpfaa
