/-
  What the document's Cost tells of tokens in memory.
-/
import Derived.Test.YtnpnaglgllcpfaaMake
import Derived.Laws.IdiomStrings
namespace Go.Proofs.Ytnpnaglgllcpfaa
set_option maxRecDepth 100000
open Go.RowKit

set_option maxHeartbeats 400000 in
theorem refCost_calls (a : Option Addr) (ts : List Tok) (cap : Nat) (w : World) (hl : ts.length ≤ 64) (ht : ToksAt w a ts) (hp : ∀ t ∈ ts, Tok.plainB t ∧ Tok.cost t ≤ 31) :
    Calls Try.prog 44 #[.slice a ts.length cap] w fun e w' => e = .returned (.int .i64 (Tok.costs ts)) ∧ Below w.heap.size w w' := by
  have HT : Hid (ToksAt w a ts) := ht
  have HP : Hid (∀ t ∈ ts, Tok.plainB t ∧ Tok.cost t ≤ 31) := hp
  clear ht hp
  go_enter Try.func44, Try.ntmps44
  go_wp2
  go_loopw [3, 4] (fun c i wr => ∃ (k : Nat), k ≤ ts.length ∧ i = .int .i64 k ∧ c = .int .i64 (Tok.costs (ts.take k)) ∧ Below w.heap.size w wr) (fun _ i _ => ts.length - (intOf i).toNat)
  case atStart => exact ⟨0, Nat.zero_le _, rfl, rfl, Below.refl _ _⟩
  case round =>
    obtain ⟨k, hk, rfl, rfl, hb⟩ := hrel
    have hle : Tok.costs (ts.take k) ≤ 31 * k := by
      have := Tok.costs_le (ts.take k) fun t ht => HP.out t (List.mem_of_mem_take ht)
      rw [List.length_take] at this; omega
    by_cases hlt : k < ts.length
    · obtain ⟨b, off, ha, hbl, hcell⟩ : ∃ b off, a = some ⟨b, off, none⟩ ∧ b < wr.heap.size ∧ ∀ i (hi : i < ts.length),
          wr.cell? ⟨b, off + i * 3, none⟩ = some (.int .i64 ts[i].len) ∧ wr.cell? ⟨b, off + i * 3 + 1, none⟩ = some (.int .i64 ts[i].dist) ∧ wr.cell? ⟨b, off + i * 3 + 2, none⟩ = some (.int .i64 ts[i].byte) := by
        rcases HT.out.below hb with h | h
        · rw [h] at hlt; simp at hlt
        · exact h
      subst ha
      obtain ⟨c0, c1, c2⟩ := hcell k hlt
      clear hcell
      have HC : Tok.costs (ts.take (k + 1)) = Tok.costs (ts.take k) + Tok.cost ts[k] := by rw [Tok.take_snoc ts k hlt, Tok.costs_snoc]
      have hpl := HP.out ts[k] (List.getElem_mem hlt)
      generalize ts[k] = t at *
      obtain ⟨l, d, x⟩ := t
      simp only at c0 c1 c2
      obtain ⟨hpl, hcl⟩ := hpl
      have hsz : Hid ((text (Tok.bits ⟨l, d, x⟩)).size = Tok.cost ⟨l, d, x⟩) := by
        show _ = _
        rw [← Tok.bits_length]; simp [text, ByteArray.size, chars_length]
      generalize hC : Tok.costs (ts.take k) = C at *
      have HC' : Hid _ := HC
      have HC0 : Hid _ := hC
      clear HC hC
      go_wp2_with fail
      refine (bits_calls l d x _ hpl).mono ?_
      rintro e w1 ⟨rfl, hb1⟩
      have hbw : Below w.heap.size w w1 := hb.trans (hb1.mono hb.size)
      have hs' : (text (Tok.bits ⟨l, d, x⟩)).size ≤ 31 := by rw [hsz.out]; exact hcl
      generalize text (Tok.bits ⟨l, d, x⟩) = s at *
      clear hb1
      go_wp2
      go_roundw
      case rel => exact ⟨k + 1, by omega, by go_num, by rw [HC'.out, ← hsz.out]; go_num, hbw⟩
      case measure => simp [intOf]; omega
    · have hke : k = ts.length := by omega
      have HC : Hid (Tok.costs (ts.take k) = Tok.costs ts) := by rw [hke, List.take_length]; rfl
      clear hke
      generalize hC : Tok.costs (ts.take k) = C at *
      clear hC
      go_wp2
      go_ret
      exact ⟨ret_i64 (by rw [← HC.out]), hb⟩
end Go.Proofs.Ytnpnaglgllcpfaa
