/-
  Lemmas for the law All: StA.
-/
import Derived.Test.YtnpnaglgllcpfaaGreatM04
import Derived.Test.YtnpnaglgllcpfaaGreatM15
import Derived.Test.YtnpnaglgllcpfaaGreatM09
import Derived.Test.YtnpnaglgllcpfaaGreatM13
import Derived.Laws.BytesArg
import Derived.BigQuiet
/- Least costs, best lists, their order; data in pieces and its stream, plainly; what Parse, Ways, Nth and Compress are to answer. -/
namespace Go.Proofs.YtnpnaglgllcpfaaGreat
set_option maxRecDepth 100000
open Go.RowKit

theorem bytesAt_below2 {w w' : World} {a : Option Addr} {l : List UInt8} (h : BytesAt w a l) (hb : Below w.heap.size w w') : BytesAt w' a l := by
  rcases h with h | ⟨b, off, h1, h⟩
  · exact .inl h
  · rcases Nat.eq_zero_or_pos l.length with h0 | h0
    · exact .inl (List.eq_nil_of_length_eq_zero h0)
    · have hlt : b < w.heap.size := World.block_lt_of_cell? w _ (h 0 h0)
      exact .inr ⟨b, off, h1, fun i hi => by rw [hb.cell (p := ⟨b, _, none⟩) hlt]; exact h i hi⟩
theorem numLen_le (j : Nat) (h : j < 256) : Tok.numLen j ≤ 15 := by have := Tok.log2_le_self j h; unfold Tok.numLen; omega
/-- The least cost of a piece; how many lists have it, cut. -/
def leastC (p : List UInt8) : Nat := match (net p).to 0 with | some (m, _) => m | none => 0
def leastW (p : List UInt8) : Nat := match (net p).to 0 with | some (_, u) => u | none => 0
theorem least_is (p : List UInt8) : (net p).to 0 = some (leastC p, leastW p) := by
  obtain ⟨m, u, h, _⟩ := to_some p 0 (by omega)
  unfold leastC leastW
  rw [h]
theorem leastC_le (p : List UInt8) : leastC p ≤ 9 * p.length := by
  obtain ⟨m, u, h, h1, _⟩ := to_some p 0 (by omega)
  rw [least_is] at h
  simp at h
  omega
theorem leastW_pos (p : List UInt8) : 1 ≤ leastW p := by
  obtain ⟨m, u, h, _, h1⟩ := to_some p 0 (by omega)
  rw [least_is] at h
  simp at h
  omega
theorem conv_bytes {w : World} {a : Option Addr} {p : List UInt8} (cap : Nat) (h : BytesAt w a p) : (convert 37 9 (.slice a p.length cap)).run Tryz.prog w = .ok (.string ⟨p.toArray⟩) w := by
  rcases Nat.eq_zero_or_pos p.length with h0 | h0
  · have ho : p = [] := List.eq_nil_of_length_eq_zero h0
    subst ho
    rcases a with _ | ad
    · exact run_convert_bytes_nil w 37 5 Tryz.underlying37 Tryz.underlying5 0 cap 9 Tryz.underlying9
    · exact run_convert_bytes_back w 37 9 5 ad cap [] Tryz.underlying37 Tryz.underlying5 Tryz.underlying9 (fun j hj => by simp at hj)
  · rcases h with h | ⟨b, off, rfl, hc⟩
    · rw [h] at h0; simp at h0
    · refine run_convert_bytes_back w 37 9 5 ⟨b, off, none⟩ cap p Tryz.underlying37 Tryz.underlying5 Tryz.underlying9 (fun j hj => ?_)
      have hadd : (⟨b, off, none⟩ : Addr).add j = ⟨b, off + j, none⟩ := by unfold Addr.add; split <;> simp_all
      rw [hadd, hc j hj]
      simp [List.getD, hj]
/-- Right tokens that make the piece, of the least cost. -/
def bestB (p : List UInt8) (ts : List Tok) : Bool := match Tok.expand [] ts with | some o => decide (o = p) && decide (Tok.costs ts = leastC p) | none => false
theorem bestB_iff (p : List UInt8) (ts : List Tok) : bestB p ts = true ↔ Tok.expand [] ts = some p ∧ Tok.costs ts = leastC p := by
  unfold bestB
  rcases h : Tok.expand [] ts with _ | o
  · simp
  · simp
/-- Tokens of the least cost, for every piece. -/
def Chosen (f : List UInt8 → List Tok) : Prop := ∀ p, p.length ≤ 64 → bestB p (f p) = true
/-- What Parse answers of bytes in memory. -/
def ParseSaid (f : List UInt8 → List Tok) : Prop := ∀ (a : Option Addr) (p : List UInt8) (cap : Nat) (w : World), p.length ≤ 9223372036854775807 → BytesAt w a p →
  Calls Tryz.prog 52 #[.slice a p.length cap] w fun e w' => Below w.heap.size w w' ∧ ((64 < p.length ∧ ∃ ta c, e = .returned (.tuple #[.slice ta 0 c, .int .i64 1])) ∨
    (p.length ≤ 64 ∧ ∃ v, e = .returned (.tuple #[v, .int .i64 0]) ∧ TokRow w' w.heap.size v (f p)))
/-- What Ways answers of bytes in memory. -/
def WaysSaid : Prop := ∀ (a : Option Addr) (p : List UInt8) (cap : Nat) (w : World), p.length ≤ 9223372036854775807 → BytesAt w a p →
  Calls Tryz.prog 54 #[.slice a p.length cap] w fun e w' => Below w.heap.size w w' ∧ ((64 < p.length ∧ e = .returned (.tuple #[.int .i64 0, .int .i64 0, .int .i64 1])) ∨
    (p.length ≤ 64 ∧ e = .returned (.tuple #[.int .i64 (leastC p), .int .i64 (cap9 (leastW p)), .int .i64 0])))
/-- Does the one token go ahead of the other? -/
def beforeB (a b : Tok) : Bool :=
  if a.dist = 0 ∨ b.dist = 0 then decide (a.dist = 0) && !decide (b.dist = 0)
  else decide (a.len < b.len) || (decide (a.len = b.len) && decide (a.dist < b.dist))
theorem retB {a b : Bool} (h : b = a) : Ending.returned (.bool a) = .returned (.bool b) := by rw [h]
theorem cell_kept {W V : World} {a : Addr} {v : Value} (hb : Below W.heap.size W V) (h : W.cell? a = some v) : V.cell? a = some v := by
  rw [hb.cell (World.block_lt_of_cell? W a h)]; exact h
open Classical in
/-- Some world in which all of W is as it was. -/
noncomputable def above (W X : World) : World := if Below W.heap.size W X then X else W
theorem above_below (W X : World) : Below W.heap.size W (above W X) := by
  unfold above
  split
  · assumption
  · exact Below.refl _ _
theorem above_eq {W X : World} (h : Below W.heap.size W X) : above W X = X := if_pos h
theorem above_cell {W : World} {a : Addr} {v : Value} (h : W.cell? a = some v) (X : World) : (above W X).cell? a = some v := cell_kept (above_below W X) h
theorem wp_region_above {P : Program} {id : Nat} {Q : Exit → Act → World → Prop} {a : Act} {w W : World} {l : List Oper} (hW : Below W.heap.size W w) (hm : P.follows .mixedOrders = true) (hB : Region.lexB .any l.toArray = true)
    (h : wpQuiet P l.toArray (fun w' => ∃ X, w' = above W X) (fun a' => ∀ w', (∃ X, w' = above W X) → Q .normal a' w') l a) : (Code.region id l.toArray true).wp P Q a w :=
  wp_region_quiet (C := fun w' => ∃ X, w' = above W X) hm hB ⟨w.drew, (above_eq hW.drew).symm⟩ (by simpa using h)
theorem Calls.above_of {P : Program} {f : FuncId} {args : Array Value} {W X : World} {v : Value}
    (h : Calls P f args (above W X) fun e w' => e = .returned v ∧ Below (above W X).heap.size (above W X) w') : Calls P f args (above W X) fun e w'' => e = .returned v ∧ ∃ Y, w'' = above W Y :=
  h.mono fun _ w'' ⟨he, hb⟩ => ⟨he, w'', (above_eq ((above_below W X).trans (hb.mono (above_below W X).size))).symm⟩
/-- From a place to the end: the least cost; how many lists have it, cut. -/
def toC (p : List UInt8) (j : Nat) : Nat := match (net p).to j with | some (m, _) => m | none => 0
def capW (p : List UInt8) (j : Nat) : Nat := match (net p).to j with | some (_, u) => min u 1000000000 | none => 0
theorem capW_le (p : List UInt8) (j : Nat) : capW p j ≤ 1000000000 := by
  unfold capW
  split <;> omega
theorem toC_le (p : List UInt8) (j : Nat) (h : j ≤ p.length) : toC p j ≤ 9 * (p.length - j) := by
  obtain ⟨m, u, h1, h2, _⟩ := to_some p j h
  unfold toC
  rw [h1]; exact h2
theorem Rep.toAt {p : List UInt8} {cs ws : List Int} (h : Rep p.length cs ws (fun j => (net p).to j)) (j : Nat) (hj : j ≤ p.length) : cs.getD j 0 = (toC p j : Int) ∧ ws.getD j 0 = (capW p j : Int) := by
  have h1 := h.at' j hj
  obtain ⟨m, u, h2, _⟩ := to_some p j hj
  simp only [h2] at h1
  unfold toC capW
  rw [h2]
  refine ⟨h1.1, ?_⟩
  rw [h1.2]
  unfold cap9
  simp only
  omega
/-- How many best lists go by the token x, if it goes ahead of t. -/
def aw (p : List UInt8) (i : Nat) (t x : Tok) : Nat := if beforeB x t = true ∧ x.cost + toC p (i + x.len.toNat) = toC p i then capW p (i + x.len.toNat) else 0
def aheadN (p : List UInt8) (i : Nat) (t : Tok) : Nat := ((outToks p i).map (aw p i t)).sum
theorem aw_le (p : List UInt8) (i : Nat) (t x : Tok) : aw p i t x ≤ 1000000000 := by
  unfold aw
  split
  · exact capW_le _ _
  · omega
/-- The first j copies from one distance; those from the distances 1 to D, and the literal. -/
def awIn (p : List UInt8) (i : Nat) (t : Tok) (d j : Nat) : Nat := ((List.range j).map fun (l : Nat) => aw p i t ⟨(l : Int) + 2, (d : Int), 0⟩).sum
def awTo (p : List UInt8) (i : Nat) (t : Tok) (D : Nat) : Nat := aw p i t (literal p i) + ((List.range D).map fun d => awIn p i t (d + 1) (alk p i (d + 1) - 1)).sum
theorem awIn_succ (p : List UInt8) (i : Nat) (t : Tok) (d j : Nat) : awIn p i t d (j + 1) = awIn p i t d j + aw p i t ⟨(j : Int) + 2, (d : Int), 0⟩ := by simp [awIn, List.range_succ]
theorem awTo_succ (p : List UInt8) (i : Nat) (t : Tok) (D : Nat) : awTo p i t (D + 1) = awTo p i t D + awIn p i t (D + 1) (alk p i (D + 1) - 1) := by
  simp [awTo, List.range_succ]
  omega
theorem awIn_le (p : List UInt8) (i : Nat) (t : Tok) (d : Nat) : ∀ j, awIn p i t d j ≤ 1000000000 * j
  | 0 => by simp [awIn]
  | j + 1 => by
    have h1 := awIn_le p i t d j
    have h2 := aw_le p i t ⟨(j : Int) + 2, (d : Int), 0⟩
    rw [awIn_succ]
    omega
theorem alk_le (p : List UInt8) (i d : Nat) (hp : p.length ≤ 64) (hi : i ≤ p.length) : alk p i d ≤ 64 := by
  have := (alk_most p i d hi).1.1
  omega
theorem awTo_le (p : List UInt8) (i : Nat) (t : Tok) (hp : p.length ≤ 64) (hi : i ≤ p.length) : ∀ D, awTo p i t D ≤ 1000000000 + 63000000000 * D
  | 0 => by
    have := aw_le p i t (literal p i)
    simp [awTo]
    omega
  | D + 1 => by
    have h1 := awTo_le p i t hp hi D
    have h2 := awIn_le p i t (D + 1) (alk p i (D + 1) - 1)
    have h3 := alk_le p i (D + 1) hp hi
    rw [awTo_succ]
    omega
theorem flatMap_sum {α β : Type} (f : α → List β) (g : β → Nat) : ∀ l : List α, ((l.flatMap f).map g).sum = (l.map fun x => ((f x).map g).sum).sum
  | [] => rfl
  | x :: l => by simp [flatMap_sum f g l]
theorem aheadN_is (p : List UInt8) (i : Nat) (t : Tok) : aheadN p i t = awTo p i t (min 32 i) := by
  unfold aheadN outToks awTo
  rw [List.map_cons, List.sum_cons, flatMap_sum]
  congr 1
  unfold copies awIn
  simp only [List.map_map]
  rfl
/-- How many best lists go ahead, token by token, cut. -/
def rankGo (p : List UInt8) : Nat → Nat → List Tok → Nat
  | _, acc, [] => acc
  | i, acc, t :: ts => rankGo p (i + t.len.toNat) (min (acc + aheadN p i t) 1000000000) ts
def rankN (p : List UInt8) (ts : List Tok) : Nat := rankGo p 0 0 ts
theorem aheadN_le (p : List UInt8) (i : Nat) (t : Tok) (hp : p.length ≤ 64) (hi : i ≤ p.length) : aheadN p i t ≤ 3000000000000 := by
  rw [aheadN_is]
  have := awTo_le p i t hp hi (min 32 i)
  omega
/-- What Nth may answer. -/
def NumOk (p : List UInt8) (k : Int) (ts : List Tok) (e : Int) : Prop :=
  (64 < p.length ∧ e = 1 ∧ ts = []) ∨ (p.length ≤ 64 ∧ (k < 0 ∨ cap9 (leastW p) ≤ k) ∧ e = 11 ∧ ts = []) ∨
  (p.length ≤ 64 ∧ 0 ≤ k ∧ k < cap9 (leastW p) ∧ e = 0 ∧ bestB p ts = true ∧ (rankN p ts : Int) = k)
/-- What Nth answers of bytes in memory. -/
def NthSaid (f : List UInt8 → Int → List Tok) : Prop := ∀ (a : Option Addr) (p : List UInt8) (cap : Nat) (k : Int) (w : World), p.length ≤ 9223372036854775807 → BytesAt w a p →
  Calls Tryz.prog 56 #[.slice a p.length cap, .int .i64 k] w fun e w' => Below w.heap.size w w' ∧ ∃ v ts c, e = .returned (.tuple #[v, .int .i64 c]) ∧ TokRow w' w.heap.size v ts ∧ NumOk p k ts c ∧ (c = 0 → ts = f p k)
/-- How many pieces; each of them; all. -/
def cutN (data : List UInt8) : Nat := (data.length + 63) / 64
def pieceAt (data : List UInt8) (i : Nat) : List UInt8 := (data.drop (64 * i)).take 64
def cutP (data : List UInt8) : List (List UInt8) := (List.range (cutN data)).map (pieceAt data)
theorem cutP_length (data : List UInt8) : (cutP data).length = cutN data := by simp [cutP]
theorem pieceAt_length (data : List UInt8) (i : Nat) : (pieceAt data i).length = min 64 (data.length - 64 * i) := by simp [pieceAt]
theorem cutP_getD (data : List UInt8) (i : Nat) (h : i < cutN data) : (cutP data).getD i [] = pieceAt data i := by simp [cutP, List.getD, h]
theorem cut_join : ∀ (n : Nat) (data : List UInt8), ((List.range n).map (pieceAt data)).flatten = data.take (64 * n)
  | 0, data => by simp
  | n + 1, data => by
    rw [List.range_succ, List.map_append, List.flatten_append, cut_join n data, show 64 * (n + 1) = 64 * n + 64 by omega, List.take_add]
    simp [pieceAt]
theorem cutP_join (data : List UInt8) : (cutP data).flatten = data := by
  unfold cutP
  rw [cut_join, List.take_of_length_le]
  unfold cutN
  omega
/-- The tokens of all pieces. -/
def toksOf (f : List UInt8 → List Tok) (data : List UInt8) : List (List Tok) := (cutP data).map f
theorem toksOf_length (f : List UInt8 → List Tok) (data : List UInt8) : (toksOf f data).length = cutN data := by simp [toksOf, cutP]
theorem toksOf_getD (f : List UInt8 → List Tok) (data : List UInt8) (i : Nat) (h : i < cutN data) : (toksOf f data).getD i [] = f (pieceAt data i) := by simp [toksOf, cutP, List.getD, h]
theorem chosen_made {f : List UInt8 → List Tok} (hf : Chosen f) (p : List UInt8) (hp : p.length ≤ 64) : Tok.expand [] (f p) = some p ∧ made (f p) = p ∧ Tok.costs (f p) ≤ 9 * p.length := by
  have h := (bestB_iff p (f p)).1 (hf p hp)
  refine ⟨h.1, by simp [made, h.1], ?_⟩
  rw [h.2]; exact leastC_le p
theorem piece_le (data : List UInt8) (i : Nat) : (pieceAt data i).length ≤ 64 := by rw [pieceAt_length]; omega
theorem toks_ok {f : List UInt8 → List Tok} (hf : Chosen f) (data : List UInt8) : ∀ i, i < (toksOf f data).length → okAt (toksOf f data).length i ((toksOf f data).getD i []) = true := fun i hi => by
  rw [toksOf_length] at hi
  rw [toksOf_getD f data i hi, toksOf_length]
  obtain ⟨h1, _, _⟩ := chosen_made hf (pieceAt data i) (piece_le data i)
  refine okAt_made h1 ?_
  have hl := pieceAt_length data i
  unfold cutN at *
  omega
theorem toks_made {f : List UInt8 → List Tok} (hf : Chosen f) (data : List UInt8) : (toksOf f data).flatMap made = data := by
  have : (toksOf f data).flatMap made = (cutP data).flatten := by
    unfold toksOf
    rw [List.flatMap_map, List.flatMap_def]
    congr 1
    conv => rhs; rw [← List.map_id (cutP data)]
    apply List.map_congr_left
    intro p hp
    unfold cutP at hp
    obtain ⟨i, _, rfl⟩ := List.mem_map.1 hp
    exact (chosen_made hf _ (piece_le data i)).2.1
  rw [this, cutP_join]
theorem frame_chosen {f : List UInt8 → List Tok} (hf : Chosen f) (p : List UInt8) (hp : p.length ≤ 64) : (frameBits (f p) (made (f p))).length ≤ 620 := by
  obtain ⟨h1, h2, h3⟩ := chosen_made hf p hp
  rw [h2]
  unfold frameBits
  have h4 := fill_short (numBits (p.length + 1) ++ bitsOf (f p))
  have h5 := numBits_short (p.length + 1) (by omega)
  have h6 := bitsOf_length (f p)
  simp only [List.length_append, bin_length] at h4 ⊢
  omega
theorem frames_chosen {f : List UInt8 → List Tok} (hf : Chosen f) (data : List UInt8) : ∀ k, k ≤ (toksOf f data).length → (frames (toksOf f data) k).length ≤ 620 * k
  | 0, _ => by simp [frames]
  | k + 1, h => by
    have ih := frames_chosen hf data k (by omega)
    have hk : k < cutN data := by rw [toksOf_length] at h; omega
    rw [frames_succ _ k (by omega), List.length_append, toksOf_getD f data k hk]
    have := frame_chosen hf (pieceAt data k) (piece_le data k)
    omega
/-- The stream of data by the tokens that are chosen of each piece. -/
def streamOf (f : List UInt8 → List Tok) (data : List UInt8) : List UInt8 := toBytes (streamBits (toksOf f data))
theorem stream_read {f : List UInt8 → List Tok} (hf : Chosen f) (data : List UInt8) (hd : data.length ≤ 2048) : ∃ ends, rRead (streamOf f data) = (0, toksOf f data, data, ends) := by
  have hl : (streamBits (toksOf f data)).length ≤ 32768 := by
    have := frames_chosen hf data (toksOf f data).length (Nat.le_refl _)
    rw [toksOf_length] at this
    unfold streamBits
    simp only [List.length_append, magic_length, endBits_length]
    rw [toksOf_length]
    unfold cutN at *
    omega
  obtain ⟨en, h⟩ := rRead_stream _ (toks_ok hf data) hl
  exact ⟨en, by unfold streamOf; rw [h, toks_made hf data]⟩
/-- What Compress answers of bytes in memory. -/
def CompressSaid (f : List UInt8 → List Tok) : Prop := ∀ (a : Option Addr) (data : List UInt8) (cap : Nat) (w : World), data.length ≤ 9223372036854775807 → data.length ≤ cap → BytesAt w a data →
  Calls Tryz.prog 58 #[.slice a data.length cap] w fun e w' => Below w.heap.size w w' ∧ ((2048 < data.length ∧ ∃ ta c, e = .returned (.tuple #[.slice ta 0 c, .int .i64 1])) ∨
    (data.length ≤ 2048 ∧ ∃ v, e = .returned (.tuple #[v, .int .i64 0]) ∧ OwnB w' w.heap.size v (streamOf f data)))
/-- A part of bytes in memory. -/
theorem BytesAt.part {w : World} {b off : Nat} {l : List UInt8} (h : ∀ i, i < l.length → w.cell? ⟨b, off + i, none⟩ = some (.int .u8 (l.getD i 0).toNat)) (k n : Nat) : BytesAt w (some ⟨b, off + k, none⟩) ((l.drop k).take n) := by
  refine .inr ⟨b, off + k, rfl, fun i hi => ?_⟩
  rw [List.length_take, List.length_drop] at hi
  have := h (k + i) (by omega)
  rw [show off + k + i = off + (k + i) by omega, this]
  have e : ((l.drop k).take n).getD i 0 = l.getD (k + i) 0 := by
    simp only [List.getD, List.getElem?_take, List.getElem?_drop]
    rw [if_pos (by omega)]
  rw [e]
theorem ownB_bytes {w : World} {B : Nat} {a : Option Addr} {cap : Nat} {out : List UInt8} (h : OwnB w B (.slice a out.length cap) out) : BytesAt w a out := by
  rcases Nat.eq_zero_or_pos out.length with h0 | h0
  · exact .inl (List.eq_nil_of_length_eq_zero h0)
  · obtain ⟨g, c, hv, _, _, hc⟩ := h.at h0
    simp at hv
    exact .inr ⟨g, 0, hv.1, fun i hi => by rw [Nat.zero_add]; exact hc i hi⟩
end Go.Proofs.YtnpnaglgllcpfaaGreat
