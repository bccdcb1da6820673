/-
  Plain facts on what a token makes, byte by byte.
-/
import Derived.Test.YtnpnaglgllcpfabMk
namespace Go.Proofs.Ytnpnaglgllcpfab
set_option maxRecDepth 100000
open Go.RowKit

/-- What Make has made of a token behind j rounds. -/
def mkN (t : Tok) (out : List UInt8) (j : Nat) : List UInt8 := if t.dist = 0 then out ++ List.replicate j (UInt8.ofNat t.byte.toNat) else Tok.copyN j t.dist.toNat out
theorem mkN_zero (t : Tok) (out : List UInt8) : mkN t out 0 = out := by unfold mkN; split <;> simp [Tok.copyN]
theorem mkN_length (t : Tok) (out : List UInt8) (j : Nat) : (mkN t out j).length = out.length + j := by
  unfold mkN; split
  · simp
  · rw [Tok.copyN_length]
theorem mkN_lit (t : Tok) (out : List UInt8) (j : Nat) (h : t.dist = 0) : mkN t out (j + 1) = mkN t out j ++ [UInt8.ofNat t.byte.toNat] := by
  simp only [mkN, if_pos h, List.replicate_succ', List.append_assoc]
theorem mkN_copy (t : Tok) (out : List UInt8) (j : Nat) (h : ¬ t.dist = 0) : mkN t out (j + 1) = mkN t out j ++ [(mkN t out j).getD ((mkN t out j).length - t.dist.toNat) 0] := by
  simp only [mkN, if_neg h]; exact Tok.copyN_succ _ _ _
theorem mkN_step (t : Tok) (out : List UInt8) (h : t.formB = true) : mkN t out t.len.toNat = Tok.step out t := by
  rw [Tok.form_iff] at h
  unfold mkN Tok.step
  split
  · have : t.len.toNat = 1 := by omega
    rw [this]; rfl
  · rfl
end Go.Proofs.Ytnpnaglgllcpfab
