/-
  What the document's reader does to memory: bits taken, numbers, what fills a byte.
-/
import Derived.Test.YtnpnaglgllcpfaaRdA
import Derived.Test.YtnpnaglgllcpfaaWr
import Derived.Test.YtnpnaglgllcpfaaRefPk
import Derived.Deep.LoopGhost
import Derived.WalkSpells
namespace Go.Proofs.Ytnpnaglgllcpfaa
set_option maxRecDepth 100000
open Go.RowKit

/-- The reader in block q: all bits L, so many of them read, the error, its three lists. -/
def TextAt (w : World) (q : Nat) (L : List Bool) (n : Nat) (E : Int) (vP vD vE : Value) : Prop :=
  w.heap[q]? = some (.cells #[.string (text L), .int .i64 n, .int .i64 E, vP, vD, vE] 75 (0, 0))
theorem TextAt.cell {w : World} {q : Nat} {L : List Bool} {n : Nat} {E : Int} {vP vD vE : Value} (h : TextAt w q L n E vP vD vE) :
    (w.cell? ⟨q, 0, none⟩ = some (.string (text L)) ∧ w.cell? ⟨q, 1, none⟩ = some (.int .i64 n) ∧ w.cell? ⟨q, 2, none⟩ = some (.int .i64 E)) ∧ (w.frozen? ⟨q, 1, none⟩ = false ∧ w.frozen? ⟨q, 2, none⟩ = false) := by
  unfold TextAt at h
  simp [World.cell?, World.frozen?, h]
theorem TextAt.lists {w : World} {q : Nat} {L : List Bool} {n : Nat} {E : Int} {vP vD vE : Value} (h : TextAt w q L n E vP vD vE) :
    (w.cell? ⟨q, 3, none⟩ = some vP ∧ w.cell? ⟨q, 4, none⟩ = some vD ∧ w.cell? ⟨q, 5, none⟩ = some vE) ∧ (w.frozen? ⟨q, 3, none⟩ = false ∧ w.frozen? ⟨q, 4, none⟩ = false ∧ w.frozen? ⟨q, 5, none⟩ = false) := by
  unfold TextAt at h
  simp [World.cell?, World.frozen?, h]
theorem TextAt.lt {w : World} {q : Nat} {L : List Bool} {n : Nat} {E : Int} {vP vD vE : Value} (h : TextAt w q L n E vP vD vE) : q < w.heap.size := (Array.getElem?_eq_some_iff.1 h).1
theorem TextAt.setAt {w : World} {q : Nat} {L : List Bool} {n : Nat} {E : Int} {vP vD vE : Value} (h : TextAt w q L n E vP vD vE) (m : Nat) : TextAt (w.setCell ⟨q, 1, none⟩ (.int .i64 m)) q L m E vP vD vE := by
  unfold TextAt
  rw [set_block h]; rfl
theorem TextAt.setE {w : World} {q : Nat} {L : List Bool} {n : Nat} {E : Int} {vP vD vE : Value} (h : TextAt w q L n E vP vD vE) (e : Int) : TextAt (w.setCell ⟨q, 2, none⟩ (.int .i64 e)) q L n e vP vD vE := by
  unfold TextAt
  rw [set_block h]; rfl
theorem TextAt.below {w w' : World} {q : Nat} {L : List Bool} {n : Nat} {E : Int} {vP vD vE : Value} (h : TextAt w q L n E vP vD vE) (hb : Below w.heap.size w w') : TextAt w' q L n E vP vD vE := by
  unfold TextAt
  rw [hb.block q h.lt]; exact h
theorem err_keeps (q : Nat) (L : List Bool) (n : Nat) (E e : Int) (vP vD vE : Value) (w : World) (h : TextAt w q L n E vP vD vE) (hE : E ≠ 0) :
    Calls Try.prog 81 #[.pointer (some ⟨q, 0, none⟩), .int .i64 e] w fun r w' => r = .returned (.tuple #[]) ∧ w' = w := by
  obtain ⟨⟨c0, c1, c2⟩, f1, f2⟩ := h.cell
  clear h c0
  have hE' : (E == 0) = false := beq_eq_false_iff_ne.2 hE
  go_enter Try.func81, Try.ntmps81
  go_wp2
  go_end0
  exact ⟨rfl, rfl⟩
theorem err_sets (q : Nat) (L : List Bool) (n : Nat) (e : Int) (vP vD vE : Value) (w : World) (h : TextAt w q L n 0 vP vD vE) :
    Calls Try.prog 81 #[.pointer (some ⟨q, 0, none⟩), .int .i64 e] w fun r w' => r = .returned (.tuple #[]) ∧ TextAt w' q L n e vP vD vE ∧ OneKept w w' q := by
  obtain ⟨⟨c0, c1, c2⟩, f1, f2⟩ := h.cell
  have HT : Hid _ := h
  clear h c0
  go_enter Try.func81, Try.ntmps81
  go_wp2
  go_end0
  exact ⟨rfl, TextAt.setE HT.out e, (OneKept.refl _ _).set _⟩
theorem take_err (q : Nat) (L : List Bool) (n : Nat) (E m : Int) (vP vD vE : Value) (w : World) (h : TextAt w q L n E vP vD vE) (hE : E ≠ 0) :
    Calls Try.prog 100 #[.pointer (some ⟨q, 0, none⟩), .int .i64 m] w fun r w' => r = .returned (.string ⟨#[]⟩) ∧ w' = w := by
  obtain ⟨⟨c0, c1, c2⟩, f1, f2⟩ := h.cell
  clear h c0
  have hE' : (E != 0) = true := by simpa using hE
  go_enter Try.func100, Try.ntmps100
  go_wp2
  go_ret
  exact ⟨rfl, rfl⟩
theorem take_short (q : Nat) (L : List Bool) (n : Nat) (m : Int) (vP vD vE : Value) (w : World) (h : TextAt w q L n 0 vP vD vE) (hn : n ≤ L.length) (hl : L.length ≤ 100000) (hm0 : 0 ≤ m) (hm1 : m ≤ 1000) (hs : (L.length : Int) < n + m) :
    Calls Try.prog 100 #[.pointer (some ⟨q, 0, none⟩), .int .i64 m] w fun r w' => r = .returned (.string ⟨#[]⟩) ∧ TextAt w' q L n 4 vP vD vE ∧ OneKept w w' q := by
  obtain ⟨⟨c0, c1, c2⟩, f1, f2⟩ := h.cell
  have HT : Hid (TextAt w q L n 0 vP vD vE) := h
  have hsz : (text L).size = L.length := text_len L
  have hs' : ((text L).size : Int) < n + m := by rw [hsz]; exact hs
  have hs2 : (text L).size ≤ 100000 := by omega
  clear h hs hsz
  generalize hS : text L = S at *
  have HS : Hid _ := hS
  clear hS
  go_enter Try.func100, Try.ntmps100
  go_wp2_with fail
  go_quiet (fail)
  go_wp2_with fail
  refine (err_sets q L n 4 vP vD vE _ (by exact HT.out)).mono ?_
  rintro e w1 ⟨rfl, ht1, hk1⟩
  have HT1 : Hid _ := ht1
  clear ht1
  go_wp2
  go_ret
  exact ⟨rfl, HT1.out, hk1.os, hk1.tape, hk1.output, hk1.size, hk1.heap⟩
theorem text_cut (L : List Bool) (a n : Nat) : (text L).extract a (a + n) = text ((L.drop a).take n) := by
  apply ByteArray.ext
  rw [ByteArray.data_extract]
  simp [text, chars]
theorem take_ok (q : Nat) (L : List Bool) (n m : Nat) (vP vD vE : Value) (w : World) (h : TextAt w q L n 0 vP vD vE) (hl : L.length ≤ 100000) (hs : n + m ≤ L.length) :
    Calls Try.prog 100 #[.pointer (some ⟨q, 0, none⟩), .int .i64 m] w fun r w' => r = .returned (.string (text ((L.drop n).take m))) ∧ TextAt w' q L (n + m) 0 vP vD vE ∧ OneKept w w' q := by
  obtain ⟨⟨c0, c1, c2⟩, f1, f2⟩ := h.cell
  have HT : Hid (TextAt w q L n 0 vP vD vE) := h
  have hsz : (text L).size = L.length := text_len L
  have HC : Hid ((text L).extract n (n + m) = text ((L.drop n).take m)) := text_cut L n m
  have hs' : n + m ≤ (text L).size := by rw [hsz]; exact hs
  have hs2 : (text L).size ≤ 100000 := by omega
  have hcast : (n : Int) + (m : Int) = ((n + m : Nat) : Int) := by omega
  have HCA : Hid _ := hcast
  clear h hs hsz hcast
  generalize hS : text L = S at *
  have HS : Hid _ := hS
  clear hS
  go_enter Try.func100, Try.ntmps100
  go_wp2_with fail
  go_quiet (fail)
  go_wp2_with fail
  go_quiet (fail)
  go_wp2
  go_ret
  refine ⟨ret_str HC.out, ?_, ?_⟩
  · have h2 := TextAt.setAt HT.out (n + m)
    rw [← HCA.out] at h2
    exact h2
  · exact (((OneKept.refl w q).set (i := 1) (.int .i64 ((n : Int) + (m : Int)))).drewN _).drewN _
theorem value_calls (l : List Bool) (w : World) (hl : l.length ≤ 16) :
    Calls Try.prog 101 #[.string (text l)] w fun r w' => r = .returned (.int .i64 (valB l)) ∧ w' = w := by
  have hsz : (text l).size = l.length := text_len l
  have HG : Hid (∀ i (h : i < (text l).size) (h' : i < l.length), (((text l)[i]'h).toNat : Int) = 48 + (l[i].toNat : Int)) := text_get l
  generalize text l = s at *
  have hs1 : s.size ≤ 16 := by omega
  have HSZ : Hid _ := hsz
  clear hsz
  go_enter Try.func101, Try.ntmps101
  go_wp2
  go_loopw [3, 4] (fun x k wq => ∃ (K : Nat), K ≤ s.size ∧ k = .int .i64 K ∧ x = .int .i64 (valB (l.take K)) ∧ wq = w) (fun _ k _ => s.size - (intOf k).toNat)
  case atStart => exact ⟨0, by omega, rfl, rfl, rfl⟩
  case round =>
    obtain ⟨K, hK, rfl, rfl, rfl⟩ := hrel
    have hvl : valB (l.take K) < 65536 := Nat.lt_of_lt_of_le (valB_lt _) (Nat.pow_le_pow_right (n := 2) (by omega) (show (l.take K).length ≤ 16 by rw [List.length_take]; omega))
    by_cases hlt : K < s.size
    · have hLK : K < l.length := by have := HSZ.out; omega
      have HV : Hid ((valB (l.take (K + 1)) : Int) = 2 * (valB (l.take K) : Int) + (l[K].toNat : Int)) := by
        show _ = _
        rw [List.take_succ_eq_append_getElem hLK, valB_snoc]
        simp
      have hix : 0 ≤ (K : Int) ∧ (K : Int) < (s.size : Int) := by omega
      generalize valB (l.take K) = y at *
      go_wp2
      go_roundw
      case rel =>
        refine ⟨K + 1, by omega, by go_num, ?_, by first | trivial | rfl⟩
        have hg := HG.out K hlt hLK
        have hbt : l[K].toNat ≤ 1 := Bool.toNat_le _
        rw [HV.out, hg]
        have : (48 + (l[K].toNat : Int) - 48) % 256 = (l[K].toNat : Int) := by omega
        rw [this]
      case measure => simp [intOf]; omega
    · have HE : Hid (valB (l.take K) = valB l) := by show _ = _; rw [List.take_of_length_le (by have := HSZ.out; omega)]
      go_wp2
      go_ret
      exact ⟨ret_i64 (by rw [HE.out]), rfl⟩
theorem text_one (b : Bool) : text [b] = ⟨#[if b then 49 else 48]⟩ := by cases b <;> rfl
/-- How number ends. -/
def NumAns (w w' : World) (q : Nat) (L : List Bool) (n : Nat) (e : Int) (vP vD vE : Value) (r : Ending) : Prop :=
  OneKept w w' q ∧ ((∃ c m, rNum e 0 (L.drop n) = .error c ∧ c ≠ 0 ∧ m ≤ L.length ∧ r = .returned (.int .i64 0) ∧ TextAt w' q L m c vP vD vE) ∨
    ∃ v m, rNum e 0 (L.drop n) = .ok (v, L.drop m) ∧ n < m ∧ m ≤ L.length ∧ 1 ≤ v ∧ v ≤ 127 ∧ r = .returned (.int .i64 v) ∧ TextAt w' q L m 0 vP vD vE)
/-- What holds at the head of number's loop: z noughts so far; the bit read last, or an error. -/
def NumRel (w : World) (q : Nat) (L : List Bool) (n : Nat) (e : Int) (vP vD vE : Value) (z : Nat) (s : ByteArray) : Prop :=
  (∃ b m, s = text [b] ∧ n < m ∧ m ≤ L.length ∧ z ≤ 6 ∧ rNum e 0 (L.drop n) = rNum e z (b :: L.drop m) ∧ TextAt w q L m 0 vP vD vE) ∨
  (∃ c m, s = ⟨#[]⟩ ∧ m ≤ L.length ∧ c ≠ 0 ∧ z ≤ 7 ∧ rNum e 0 (L.drop n) = .error c ∧ TextAt w q L m c vP vD vE)
end Go.Proofs.Ytnpnaglgllcpfaa
