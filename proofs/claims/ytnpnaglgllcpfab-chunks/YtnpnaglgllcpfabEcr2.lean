/-
  What the program's Encoder answers: Write and Close.
-/
import Derived.Test.YtnpnaglgllcpfabEcr
namespace Go.Proofs.Ytnpnaglgllcpfab
set_option maxRecDepth 100000
open Go.RowKit

/-- The Encoder in block q has taken the data d; has it begun? -/
def EncAt (w : World) (q : Nat) (d : List UInt8) (b : Bool) : Prop :=
  ∃ pc, EncBox w q true b d.length pc ∧ pc.length = 64 ∧ pc.take (d.length % 64) = d.drop (64 * (d.length / 64)) ∧ d.length ≤ 2048 ∧ (b = false → d = [])
/-- An Encoder that is closed. -/
def EncShut (w : World) (q : Nat) : Prop := ∃ b n pc, EncBox w q false b n pc
theorem EncAt.lt {w : World} {q : Nat} {d : List UInt8} {b : Bool} (h : EncAt w q d b) : q < w.heap.size := by
  obtain ⟨pc, h, _⟩ := h
  exact (Array.getElem?_eq_some_iff.1 h).1
theorem EncAt.kept {w w' : World} {q : Nat} {d : List UInt8} {b : Bool} (h : EncAt w q d b) (hk : w'.heap[q]? = w.heap[q]?) : EncAt w' q d b := by
  obtain ⟨pc, h, r⟩ := h
  exact ⟨pc, hk.trans h, r⟩
/-- What has come out of an Encoder, as bits. -/
def sofar (b : Bool) (d : List UInt8) : List Bool := bif b then magicBits ++ fullBits parseOf d else []
theorem sofar_full (b : Bool) (d : List UInt8) : (sofar b d).length % 8 = 0 := by
  cases b
  · rfl
  · show (magicBits ++ fullBits parseOf d).length % 8 = 0
    have := fullBits_fits parseOf d
    rw [List.length_append, magic_length]; omega
theorem set_take (pc : List UInt8) (r : Nat) (x : UInt8) (h : r < pc.length) : (pc.set r x).take (r + 1) = pc.take r ++ [x] := by
  rw [List.take_succ_eq_append_getElem (by rw [List.length_set]; exact h)]
  simp [List.take_set_of_le]
/-- One byte more. -/
theorem piece_more {d pc : List UInt8} {x : UInt8} (hp : pc.length = 64) (ht : pc.take (d.length % 64) = d.drop (64 * (d.length / 64))) :
    (pc.set (d.length % 64) x).take ((d ++ [x]).length % 64) = (d ++ [x]).drop (64 * ((d ++ [x]).length / 64)) ∧ ((d.length + 1) % 64 = 0 → pc.set (d.length % 64) x = d.drop (64 * (d.length / 64)) ++ [x]) := by
  have hl : (d ++ [x]).length = d.length + 1 := by simp
  have hr : d.length % 64 < 64 := by omega
  have h1 := set_take pc (d.length % 64) x (by omega)
  rw [ht] at h1
  rw [hl]
  by_cases h0 : (d.length + 1) % 64 = 0
  · refine ⟨?_, fun _ => ?_⟩
    · rw [h0, List.take_zero, List.drop_of_length_le (by rw [hl]; omega)]
    · rw [← h1, List.take_of_length_le (by rw [List.length_set]; omega)]
  · refine ⟨?_, fun h => absurd h h0⟩
    rw [show (d.length + 1) % 64 = d.length % 64 + 1 by omega, show (d.length + 1) / 64 = d.length / 64 by omega, h1, List.drop_append_of_le_length (by omega)]
theorem taken_is {d pc : List UInt8} {x : UInt8} {L : List Bool} {b : Bool} {d0 : List UInt8} (hp : pc.length = 64) (ht : pc.take (d.length % 64) = d.drop (64 * (d.length / 64))) (hL : sofar b d0 ++ L = magicBits ++ fullBits parseOf d) :
    sofar b d0 ++ taken L d.length (pc.set (d.length % 64) x) = magicBits ++ fullBits parseOf (d ++ [x]) := by
  unfold taken
  by_cases h0 : (d.length + 1) % 64 = 0
  · rw [if_pos h0, (piece_more hp ht).2 h0, fullBits_full _ _ _ h0, ← List.append_assoc, hL, List.append_assoc]
  · rw [if_neg h0, fullBits_some _ _ _ h0, hL]
theorem fullBits_le (d : List UInt8) : (fullBits parseOf d).length ≤ 620 * (d.length / 64) := by
  rw [← frames_full_is parse_chosen]
  exact frames_chosen parse_chosen d _ (by rw [toksOf_length]; unfold cutN; omega)

theorem newEncoder_calls (w : World) : Calls Try.prog 50 #[] w fun e w' => e = .returned (.pointer (some ⟨w.heap.size, 0, none⟩)) ∧ Below w.heap.size w w' ∧ w'.heap.size = w.heap.size + 1 ∧ EncAt w' w.heap.size [] false := by
  go_enter Try.func50, Try.ntmps50
  go_wp2
  go_ret
  refine ⟨rfl, (Below.refl _ _).alloc (Nat.le_refl _) _, by simp, List.replicate 64 0, ?_, by simp, by simp, by simp, fun _ => rfl⟩
  exact heap_alloc_new w _

theorem begin_no (q wq : Nat) (n : Int) (pc : List UInt8) (w : World) (h : EncBox w q true true n pc) :
    Calls Try.prog 65 #[.pointer (some ⟨q, 0, none⟩), .pointer (some ⟨wq, 0, none⟩)] w fun e w' => e = .returned (.tuple #[]) ∧ w' = w := by
  obtain ⟨⟨c0, c1, c2⟩, _⟩ := h.cells
  clear h
  go_enter Try.func65, Try.ntmps65
  go_wp2
  go_end0
  exact ⟨rfl, rfl⟩
set_option maxHeartbeats 1000000 in
theorem begin_yes (q wq : Nat) (n : Int) (pc : List UInt8) (w : World) (h : EncBox w q true false n pc) (hw : WrAt w wq wq (.slice none 0 0) []) (hq : q < wq) :
    Calls Try.prog 65 #[.pointer (some ⟨q, 0, none⟩), .pointer (some ⟨wq, 0, none⟩)] w fun e w' => e = .returned (.tuple #[]) ∧ EncBox w' q true true n pc ∧ ∃ v', WrAt w' wq wq v' magicBits ∧ KeptBut w w' [q, wq] := by
  obtain ⟨⟨c0, c1, c2⟩, _⟩ := h.cells
  have HBX : Hid _ := h
  have hwl := hw.lt
  have HW : Hid _ := writeBegin_calls wq wq (.slice none 0 0) w hw (by omega)
  clear h hw
  go_enter Try.func65, Try.ntmps65
  go_wp2_with fail
  refine Calls.mono HW.out ?_
  rintro r w1 ⟨rfl, v1, hw1, hk1⟩
  have hb1 : EncBox w1 q true false n pc := (hk1.heap q (by omega) (by omega) (by simp [Value.ownBlock])).trans HBX.out
  obtain ⟨⟨c0, c1, c2⟩, f0, f1, f2⟩ := EncBox.cells hb1
  have HB2 : Hid (EncBox (w1.setCell ⟨q, 1, none⟩ (.bool true)) q true true n pc) := EncBox.setB hb1 true
  have hvq : v1.ownBlock ≠ some q := fun e => by have := (World.ownsRow.lt hw1.own q e).1; omega
  have HW2 : Hid (WrAt (w1.setCell ⟨q, 1, none⟩ (.bool true)) wq wq v1 magicBits) := ⟨(set_other _ (by omega)).trans hw1.block, hw1.own.set _ hvq⟩
  have HK2 : Hid (KeptBut w (w1.setCell ⟨q, 1, none⟩ (.bool true)) [q, wq]) := KeptBut.set ⟨hk1.os, hk1.tape, hk1.output, hk1.size, fun k h1 h2 => hk1.heap k h1 (fun e => h2 (by simp [e])) (by simp [Value.ownBlock])⟩ (by simp) _
  clear hb1 hw1 hk1 HW
  go_wp2
  go_end0
  exact ⟨rfl, HB2.out, v1, HW2.out, HK2.out⟩
/-- begin, of an Encoder that has begun or not. -/
theorem begin_calls (q wq : Nat) (d : List UInt8) (b : Bool) (w : World) (h : EncAt w q d b) (hw : WrAt w wq wq (.slice none 0 0) []) (hq : q < wq) :
    Calls Try.prog 65 #[.pointer (some ⟨q, 0, none⟩), .pointer (some ⟨wq, 0, none⟩)] w fun e w' => e = .returned (.tuple #[]) ∧ EncAt w' q d true ∧ ∃ v' L, WrAt w' wq wq v' L ∧ sofar b d ++ L = magicBits ++ fullBits parseOf d ∧ KeptBut w w' [q, wq] := by
  obtain ⟨pc, h1, h2, h3, h4, h5⟩ := h
  cases b with
  | true =>
    refine (begin_no q wq d.length pc w h1).mono ?_
    rintro e w' ⟨rfl, rfl⟩
    exact ⟨rfl, ⟨pc, h1, h2, h3, h4, fun e => by cases e⟩, .slice none 0 0, [], hw, by simp [sofar], KeptBut.refl _ _⟩
  | false =>
    refine (begin_yes q wq d.length pc w h1 hw hq).mono ?_
    rintro e w' ⟨rfl, g1, v', g2, g3⟩
    obtain rfl := h5 rfl
    exact ⟨rfl, ⟨pc, g1, h2, h3, h4, fun e => by cases e⟩, v', magicBits, g2, by simp [sofar, fullBits_nil], g3⟩
end Go.Proofs.Ytnpnaglgllcpfab
