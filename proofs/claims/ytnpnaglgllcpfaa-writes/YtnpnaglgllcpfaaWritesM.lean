/-
  The law Writes returns true of every list of strings and every number: an Encoder that is given these texts, one by one, and closed behind the k-th, answers the stream that Compress tells, up to where it is certain, call by call.
-/
import Derived.Test.YtnpnaglgllcpfaaStA
import Derived.Test.YtnpnaglgllcpfaaRdA
import Derived.Laws.AppendOwnNone
import Derived.Test.YtnpnaglgllcpfaaCmd
import Derived.BigRegion
import Derived.Laws.Tables
import Derived.Test.YtnpnaglgllcpfaaCmp1
import Derived.ProofKit
import Derived.OpenShut
import Derived.ChangeOld
import Derived.Carry
import Derived.Deep.Slices
import Derived.Deep.Strs
import Derived.Lib.SlBytesConst
import Derived.SizedLaws
import Derived.ShutString
import Derived.ChangeSlices
/-! Where the frames of a stream end; what an Encoder has laid down: plain facts, of no program. -/
namespace Go.Proofs.Ytnpnaglgllcpfaa
set_option maxRecDepth 100000

theorem frames_zero (ps : List (List Tok)) : frames ps 0 = [] := by simp [frames]
theorem frames_cons (ts : List Tok) (qs : List (List Tok)) (k : Nat) : frames (ts :: qs) (k + 1) = frameBits ts (made ts) ++ frames qs k := by simp [frames]
theorem rMain_ends (L : List Bool) : ∀ (qs ps : List (List Tok)) (f : Nat) (data : List UInt8) (ends : List Nat) (b : Nat), (∀ i, i < qs.length → okAt (ps.length + qs.length) (ps.length + i) (qs.getD i []) = true) → (data.length = 64 * ps.length ∨ qs = []) → qs.length + 1 ≤ f → L.length = b + (framesOf qs ++ endBits).length →
    rMain L f ps data ends (framesOf qs ++ endBits) = (0, ps ++ qs, data ++ qs.flatMap made, ends ++ (List.range qs.length).map fun i => (b + (frames qs (i + 1)).length) / 8)
  | [], ps, f, data, ends, b, _, _, hf, _ => by
    obtain ⟨f, rfl⟩ : ∃ f', f = f' + 1 := ⟨f - 1, by simp at hf; omega⟩
    have := rMain_stop L f ps data ends
    simpa [framesOf] using this
  | ts :: qs, ps, f, data, ends, b, hok, hd, hf, hL => by
    obtain ⟨f, rfl⟩ : ∃ f', f = f' + 1 := ⟨f - 1, by simp at hf; omega⟩
    replace hd : data.length = 64 * ps.length := hd.resolve_right (by simp)
    have h0 := okAt_facts (hok 0 (by simp))
    simp only [List.getD_cons_zero] at h0
    obtain ⟨h1, h2, h3, h4⟩ := h0
    have e : framesOf (ts :: qs) ++ endBits = frameBits ts (made ts) ++ (framesOf qs ++ endBits) := by simp [framesOf]
    have hR : (framesOf qs ++ endBits).length % 8 = 0 := by
      have := framesOf_full qs
      rw [List.length_append, endBits_length]; omega
    rw [e, List.length_append] at hL
    have hLl : L.length - (framesOf qs ++ endBits).length = b + (frameBits ts (made ts)).length := by omega
    rw [e, rMain_frame L f ps data ends ts (made ts) _ h1 h2 h3 hR hd]
    have hen := rMain_ends L qs (ps ++ [ts]) f (data ++ made ts) (ends ++ [(L.length - (framesOf qs ++ endBits).length) / 8]) (b + (frameBits ts (made ts)).length) (fun i hi => by
      have := hok (i + 1) (by simp; omega)
      rw [List.getD_cons_succ] at this
      simp only [List.length_append, List.length_cons, List.length_nil] at this ⊢
      rwa [show ps.length + (0 + 1) + qs.length = ps.length + (qs.length + 1) by omega, show ps.length + (0 + 1) + i = ps.length + (i + 1) by omega]) (by
      rcases h4 with h4 | h4
      · left; simp; omega
      · right; exact List.eq_nil_of_length_eq_zero (by simp only [List.length_cons] at h4; omega)) (by simp at hf; omega) (by omega)
    rw [hen, hLl]
    have e2 : (List.range (ts :: qs).length).map (fun i => (b + (frames (ts :: qs) (i + 1)).length) / 8) = (b + (frameBits ts (made ts)).length) / 8 :: (List.range qs.length).map (fun i => (b + (frameBits ts (made ts)).length + (frames qs (i + 1)).length) / 8) := by
      rw [List.length_cons, List.range_succ_eq_map, List.map_cons, List.map_map]
      congr 1
      · rw [frames_cons, frames_zero]; simp
      · apply List.map_congr_left
        intro i _
        simp only [Function.comp]
        rw [frames_cons, List.length_append]
        congr 1; omega
    rw [e2]
    simp

theorem rRead_ends (ps : List (List Tok)) (hok : ∀ i, i < ps.length → okAt ps.length i (ps.getD i []) = true) (hl : (streamBits ps).length ≤ 32768) :
    rRead (toBytes (streamBits ps)) = (0, ps, ps.flatMap made, (List.range ps.length).map fun i => (24 + (frames ps (i + 1)).length) / 8) := by
  have hf := streamBits_full ps
  have hb : bitsIn (toBytes (streamBits ps)) = streamBits ps := bitsIn_toBytes ((streamBits ps).length / 8) _ (by omega)
  have hlen := toBytes_length (streamBits ps)
  unfold rRead
  rw [if_neg (by omega), hb]
  have hm : rMagic [80, 90, 49] (streamBits ps) = .ok (framesOf ps ++ endBits) := by
    unfold streamBits
    rw [frames_all, List.append_assoc, rMagic_bits]
  rw [hm]
  simp only
  have hcount : ∀ qs : List (List Tok), qs.length ≤ (framesOf qs).length := fun qs => by
    induction qs with
    | nil => simp
    | cons t qs ih =>
      have : 1 ≤ (frameBits t (made t)).length := by
        rw [frame_split]
        unfold tailBits
        simp only [List.length_append, bin_length]
        omega
      simp only [framesOf, List.flatMap_cons, List.length_append, List.length_cons] at *
      omega
  have hc : ps.length + 1 ≤ (streamBits ps).length + 1 := by
    have := hcount ps
    unfold streamBits
    rw [frames_all, List.length_append, List.length_append]
    omega
  have hen := rMain_ends (streamBits ps) ps [] ((streamBits ps).length + 1) [] [] 24 (fun i hi => by simpa using hok i hi) (.inl rfl) hc (by
    unfold streamBits
    rw [frames_all, List.length_append, List.length_append, magic_length, List.length_append]; omega)
  simpa using hen

/-- The frames of the full pieces of data. -/
def fullBits (f : List UInt8 → List Tok) (data : List UInt8) : List Bool := (List.range (data.length / 64)).flatMap fun i => frameBits (f (pieceAt data i)) (pieceAt data i)
theorem fullBits_nil (f : List UInt8 → List Tok) : fullBits f [] = [] := by simp [fullBits]
theorem pieceAt_append (d p : List UInt8) (i : Nat) (h : i < d.length / 64) : pieceAt (d ++ p) i = pieceAt d i := by
  unfold pieceAt
  rw [List.drop_append_of_le_length (by omega), List.take_append_of_le_length (by rw [List.length_drop]; omega)]
theorem fullBits_append (f : List UInt8 → List Tok) (d p : List UInt8) : fullBits f (d ++ p) = fullBits f d ++ (List.range ((d ++ p).length / 64 - d.length / 64)).flatMap fun i => frameBits (f (pieceAt (d ++ p) (d.length / 64 + i))) (pieceAt (d ++ p) (d.length / 64 + i)) := by
  unfold fullBits
  have hle : d.length / 64 ≤ (d ++ p).length / 64 := by rw [List.length_append]; omega
  conv => lhs; rw [show (d ++ p).length / 64 = d.length / 64 + ((d ++ p).length / 64 - d.length / 64) by omega, List.range_add, List.flatMap_append, List.flatMap_map]
  congr 1
  have : ∀ (l : List Nat), (∀ i ∈ l, i < d.length / 64) → l.flatMap (fun i => frameBits (f (pieceAt (d ++ p) i)) (pieceAt (d ++ p) i)) = l.flatMap (fun i => frameBits (f (pieceAt d i)) (pieceAt d i)) := by
    intro l
    induction l with
    | nil => intro _; rfl
    | cons i l ih =>
      intro hm
      rw [List.flatMap_cons, List.flatMap_cons, pieceAt_append d p i (hm i (by simp)), ih (fun j hj => hm j (by simp [hj]))]
  exact this _ (fun i hi => by simpa using hi)
/-- One byte more that fills no piece. -/
theorem fullBits_some (f : List UInt8 → List Tok) (d : List UInt8) (b : UInt8) (h : (d.length + 1) % 64 ≠ 0) : fullBits f (d ++ [b]) = fullBits f d := by
  rw [fullBits_append]
  have : (d ++ [b]).length / 64 - d.length / 64 = 0 := by rw [List.length_append]; simp only [List.length_cons, List.length_nil]; omega
  rw [this]
  simp
/-- The last piece of some data, a full one. -/
theorem pieceAt_last (d : List UInt8) (b : UInt8) (h : (d.length + 1) % 64 = 0) : pieceAt (d ++ [b]) (d.length / 64) = d.drop (64 * (d.length / 64)) ++ [b] := by
  unfold pieceAt
  rw [List.drop_append_of_le_length (by omega), List.take_of_length_le (by rw [List.length_append, List.length_drop]; simp only [List.length_cons, List.length_nil]; omega)]
/-- One byte more that fills a piece. -/
theorem fullBits_full (f : List UInt8 → List Tok) (d : List UInt8) (b : UInt8) (h : (d.length + 1) % 64 = 0) : fullBits f (d ++ [b]) = fullBits f d ++ frameBits (f (d.drop (64 * (d.length / 64)) ++ [b])) (d.drop (64 * (d.length / 64)) ++ [b]) := by
  rw [fullBits_append]
  have : (d ++ [b]).length / 64 - d.length / 64 = 1 := by rw [List.length_append]; simp only [List.length_cons, List.length_nil]; omega
  rw [this, ← pieceAt_last d b h]
  simp [List.range_succ]
theorem fullBits_fits (f : List UInt8 → List Tok) (data : List UInt8) : (fullBits f data).length % 8 = 0 := by
  unfold fullBits
  have : ∀ l : List Nat, (l.flatMap fun i => frameBits (f (pieceAt data i)) (pieceAt data i)).length % 8 = 0 := by
    intro l
    induction l with
    | nil => rfl
    | cons i l ih =>
      rw [List.flatMap_cons, List.length_append]
      have := frameBits_full (f (pieceAt data i)) (pieceAt data i)
      omega
  exact this _
/-- The frames of full pieces are those of the stream, so far. -/
theorem frames_full_is {f : List UInt8 → List Tok} (hf : Chosen f) (data : List UInt8) : frames (toksOf f data) (data.length / 64) = fullBits f data := by
  have key : ∀ n, n ≤ data.length / 64 → frames (toksOf f data) n = (List.range n).flatMap fun i => frameBits (f (pieceAt data i)) (pieceAt data i) := by
    intro n
    induction n with
    | zero => intro _; simp [frames_zero]
    | succ n ih =>
      intro hn
      have hlt : n < cutN data := by unfold cutN; omega
      rw [frames_succ _ n (by rw [toksOf_length]; exact hlt), ih (by omega), toksOf_getD f data n hlt, (chosen_made hf _ (piece_le data n)).2.1, List.range_succ]
      simp
  exact key _ (Nat.le_refl _)
/-- What is left behind the full pieces, and the stream whole. -/
theorem stream_is {f : List UInt8 → List Tok} (hf : Chosen f) (data : List UInt8) : streamBits (toksOf f data) = magicBits ++ fullBits f data ++ (if data.length % 64 = 0 then [] else frameBits (f (data.drop (64 * (data.length / 64)))) (data.drop (64 * (data.length / 64)))) ++ endBits := by
  unfold streamBits
  congr 1
  rw [List.append_assoc]
  congr 1
  rw [← frames_full_is hf, toksOf_length]
  by_cases h0 : data.length % 64 = 0
  · rw [if_pos h0, show cutN data = data.length / 64 by unfold cutN; omega]; simp
  · have hlt : data.length / 64 < cutN data := by unfold cutN; omega
    rw [if_neg h0, show cutN data = data.length / 64 + 1 by unfold cutN; omega, frames_succ _ _ (by rw [toksOf_length]; exact hlt), toksOf_getD f data _ hlt, (chosen_made hf _ (piece_le data _)).2.1]
    have : pieceAt data (data.length / 64) = data.drop (64 * (data.length / 64)) := by
      unfold pieceAt
      exact List.take_of_length_le (by rw [List.length_drop]; omega)
    rw [this]
/-- Up to where a stream is certain. -/
def upTo (f : List UInt8 → List Tok) (data : List UInt8) : Nat := (24 + (fullBits f data).length) / 8
theorem stream_take {f : List UInt8 → List Tok} (hf : Chosen f) (data : List UInt8) : upTo f data ≤ (streamOf f data).length ∧ (streamOf f data).take (upTo f data) = toBytes (magicBits ++ fullBits f data) := by
  have h1 := fullBits_fits f data
  have h2 : (magicBits ++ fullBits f data).length % 8 = 0 := by rw [List.length_append, magic_length]; omega
  have hl : (toBytes (magicBits ++ fullBits f data)).length = upTo f data := by rw [toBytes_length, List.length_append, magic_length]; rfl
  have e : streamOf f data = toBytes (magicBits ++ fullBits f data) ++ toBytes ((if data.length % 64 = 0 then [] else frameBits (f (data.drop (64 * (data.length / 64)))) (data.drop (64 * (data.length / 64)))) ++ endBits) := by
    unfold streamOf
    rw [stream_is hf, List.append_assoc, toBytes_append _ _ h2]
  rw [e]
  refine ⟨by rw [List.length_append, hl]; omega, ?_⟩
  rw [← hl, List.take_left']
  rfl
/-- What is read of a stream: where the frames end too. -/
theorem stream_ends {f : List UInt8 → List Tok} (hf : Chosen f) (data : List UInt8) (hd : data.length ≤ 2048) : rRead (streamOf f data) = (0, toksOf f data, data, (List.range (cutN data)).map fun i => (24 + (frames (toksOf f data) (i + 1)).length) / 8) := by
  have hn : cutN data ≤ 32 := by unfold cutN; omega
  have := rRead_ends (toksOf f data) (toks_ok hf data) (by
    have := frames_chosen hf data _ (Nat.le_refl _)
    unfold streamBits
    rw [List.length_append, List.length_append, endBits_length, magic_length]
    rw [toksOf_length] at this ⊢
    omega)
  rw [toks_made hf, toksOf_length] at this
  exact this
end Go.Proofs.Ytnpnaglgllcpfaa

/-! A row that the call owns, appended to another that it owns; memory but for one block. -/
namespace Go.Proofs.Ytnpnaglgllcpfaa
set_option maxRecDepth 100000
open Go.RowKit

theorem grown_refl (w : World) (r : Option Nat) : w.grownBy w r := ⟨rfl, rfl, rfl, Nat.le_refl _, fun _ _ _ => rfl⟩
theorem grown_trans {w w1 w2 : World} {r : Option Nat} (h : w.grownBy w1 r) (k : w1.grownBy w2 r) : w.grownBy w2 r :=
  ⟨k.os.trans h.os, k.tape.trans h.tape, k.output.trans h.output, Nat.le_trans h.size k.size, fun i hi hq => (k.block i (Nat.lt_of_lt_of_le hi h.size) hq).trans (h.block i hi hq)⟩
theorem grown_set {w w' : World} {r : Option Nat} {g : Nat} (h : w.grownBy w' r) (hr : r = some g) (i : Nat) (u : Value) : w.grownBy (w'.setCell ⟨g, i, none⟩ u) r :=
  ⟨h.os, h.tape, h.output, by rw [set_size]; exact h.size, fun k hk hq => by rw [set_other u (by rintro rfl; exact hq hr.symm)]; exact h.block k hk hq⟩
theorem grown_alloc {w w' : World} {r : Option Nat} (h : w.grownBy w' r) (o : Obj) : w.grownBy (w'.alloc o) r :=
  ⟨h.os, h.tape, h.output, by have := h.size; simp; omega, fun k hk hq => by rw [Below.heap_alloc w' o k (Nat.lt_of_lt_of_le hk h.size)]; exact h.block k hk hq⟩
theorem grown_below {w w1 w2 : World} {r : Option Nat} (h : w.grownBy w1 r) (hb : Below w1.heap.size w1 w2) : w.grownBy w2 r :=
  ⟨hb.os.trans h.os, hb.tape.trans h.tape, hb.output.trans h.output, Nat.le_trans h.size hb.size, fun k hk hq => (hb.block k (Nat.lt_of_lt_of_le hk h.size)).trans (h.block k hk hq)⟩

theorem wpList_append_row {P : Program} {w : World} {ops : Array Oper} {rest : List Oper} {o : Oper} {a : Act} {Q : Exit → Act → World → Prop} (hgd : o.guard = none) (s x : Operand) (t : TypeId)
    (ho : o.op = .call { callee := .builtin .append, args := #[s, x], argTypes := #[t, t] })
    (base : Nat) (e : TypeId) (i : TypeInfo) (z : Value) (size bytes : Nat) (ht : P.underlying t = some (.slice e)) (hi : P.info? e = some i) (hz : i.zero = some z)
    (hsize : i.size = size) (hby : i.bytes = bytes) (hzs : z.cells.size = size) (hsz : 0 < size)
    (v : Value) (n : Nat) (xs : List Value) (hs : a.eval s = v) (hown : w.ownsRow base e size v n xs)
    (B' : Nat) (sv : Value) (m : Nat) (news : List Value) (hx : a.eval x = sv) (hsrc : w.ownsRow B' e size sv m news) (h1 : ∀ u ∈ news, u.oneCell' = true)
    (h63 : n + m ≤ maxLen) (hbytes : (n + m) * bytes ≤ 140737488355328) (hbase : base ≤ w.heap.size)
    (h : ∀ v' w', w'.ownsRow base e size v' (n + m) (xs ++ news) → w.grownBy w' v.ownBlock → wpList P ops Q rest (a.put o.dst v') w') : wpList P ops Q (o :: rest) a w := by
  have hsrc' := hsrc
  obtain ⟨hl, ⟨rfl, rfl⟩ | ⟨g, c, cur, rfl, hb, hg, _⟩⟩ := hsrc
  · have hn : news = [] := List.eq_nil_of_length_eq_zero (by omega)
    subst hn
    refine wpList_append_own_none hgd s x t ho base e i size ht hi v n xs hs hown hx (h v w ?_ (grown_refl _ _))
    simpa using hown
  · exact wpList_append_own w hgd s x t ho base e i z size bytes ht hi hz hsize hby hzs hsz v n xs hs hown ⟨g, 0, none⟩ m c news hx hl (fun j u hj => World.ownsRow.cells hsrc' (g := g) rfl j u hj) h1 h63 hbytes hbase (fun v' w' k1 k2 _ => h v' w' k1 k2)
end Go.Proofs.Ytnpnaglgllcpfaa

/-! Bytes in memory appended to a row of bytes, and where the new row lies; memory but for some blocks. -/
namespace Go.Proofs.Ytnpnaglgllcpfaa
set_option maxRecDepth 100000
open Go.RowKit

theorem news_bytes {w : World} {ad : Addr} {l : List UInt8} (hb : BytesAt w (some ad) l) : ∀ j u, (cellsB l)[j]? = some u → w.cell? (ad.add j) = some u := by
  intro j u hj
  rcases hb with rfl | ⟨b, off, h1, h2⟩
  · simp [cellsB] at hj
  · have hjl : j < l.length := by
      have := (List.getElem?_eq_some_iff.1 hj).1
      simpa [cellsB] using this
    simp at h1
    subst h1
    have hadd : (⟨b, off, none⟩ : Addr).add j = ⟨b, off + j, none⟩ := by unfold Addr.add; split <;> simp_all
    rw [hadd, h2 j hjl]
    simp [cellsB, hjl] at hj
    rw [← hj]
    simp [List.getD, hjl]
theorem run_append_bytes {w : World} {ty : TypeId} (base : Nat) (v : Value) (out : List UInt8) (hown : OwnB w base v out) (sa : Option Addr) (l : List UInt8) (cap : Nat) (hb : BytesAt w sa l) (hc : sa = none → l.length = 0 ∧ cap = 0)
    (h63 : out.length + l.length ≤ 140737488355328) (hbase : base ≤ w.heap.size) :
    ∃ v' w', (Builtin.append_ #[22, 22] ty #[v, .slice sa l.length cap]).run Try.prog w = .ok v' w' ∧ OwnB w' base v' (out ++ l) ∧ w.grownBy w' v.ownBlock ∧ (v'.ownBlock = v.ownBlock ∨ v'.ownBlock = some w.heap.size) := by
  obtain ⟨i0, hi, hz0, hz1, hz2⟩ := info_parts info8
  rcases sa with _ | ad
  · obtain ⟨h0, rfl⟩ := hc rfl
    obtain rfl : l = [] := List.eq_nil_of_length_eq_zero h0
    exact ⟨v, w, run_append_owned_none w base 22 ty 5 i0 1 Try.underlying22 hi v out.length (cellsB out) hown, by rw [List.append_nil]; exact hown, grown_refl _ _, .inl rfl⟩
  · obtain ⟨v', w', hr, h2, h3, _, h5⟩ := run_append_own_at (P := Try.prog) w base 22 ty 5 i0 (.int .u8 0) 1 1 Try.underlying22 hi hz0 hz1 hz2 rfl (by decide) v out.length (cellsB out) hown ad l.length cap (cellsB l) (by simp [cellsB]) (news_bytes hb) (fun u hu => by simp [cellsB] at hu; obtain ⟨_, _, rfl⟩ := hu; rfl) (by unfold maxLen; omega) (by omega) hbase
    refine ⟨v', w', hr, ?_, h3, h5⟩
    show w'.ownsRow _ _ _ _ _ _
    rw [List.length_append, show cellsB (out ++ l) = cellsB out ++ cellsB l by simp [cellsB]]
    exact h2
theorem wp_append_at {w : World} {o : Oper} {a : Act} {K : Act → World → Prop} {Q : Exit → Act → World → Prop} (s x : Operand)
    (ho : o.op = .call { callee := .builtin .append, args := #[s, x], argTypes := #[22, 22] })
    (base : Nat) (v : Value) (out : List UInt8) (hs : a.eval s = v) (hown : OwnB w base v out) (sa : Option Addr) (l : List UInt8) (cap : Nat) (hx : a.eval x = .slice sa l.length cap) (hb : BytesAt w sa l) (hc : sa = none → l.length = 0 ∧ cap = 0)
    (h63 : out.length + l.length ≤ 140737488355328) (hbase : base ≤ w.heap.size)
    (h : ∀ v' w', OwnB w' base v' (out ++ l) → w.grownBy w' v.ownBlock → (v'.ownBlock = v.ownBlock ∨ v'.ownBlock = some w.heap.size) → K (a.put o.dst v') w') : o.wp Try.prog a w K Q := by
  obtain ⟨v', w', hr, h2, h3, h4⟩ := run_append_bytes (ty := o.type) base v out hown sa l cap hb hc h63 hbase
  unfold Oper.wp execOp
  simp only [ho, resolve, invoke, builtin, Sem.run_bind, Sem.run_pure, Result.andThen_ok, List.map_toArray, List.map_cons, List.map_nil, hs, hx, hr]
  exact h v' w' h2 h3 h4
theorem wpList_append_at {w : World} {ops : Array Oper} {rest : List Oper} {o : Oper} {a : Act} {Q : Exit → Act → World → Prop} (hgd : o.guard = none) (s x : Operand)
    (ho : o.op = .call { callee := .builtin .append, args := #[s, x], argTypes := #[22, 22] })
    (base : Nat) (v : Value) (out : List UInt8) (hs : a.eval s = v) (hown : OwnB w base v out) (sa : Option Addr) (l : List UInt8) (cap : Nat) (hx : a.eval x = .slice sa l.length cap) (hb : BytesAt w sa l) (hc : sa = none → l.length = 0 ∧ cap = 0)
    (h63 : out.length + l.length ≤ 140737488355328) (hbase : base ≤ w.heap.size)
    (h : ∀ v' w', OwnB w' base v' (out ++ l) → w.grownBy w' v.ownBlock → (v'.ownBlock = v.ownBlock ∨ v'.ownBlock = some w.heap.size) → wpList Try.prog ops Q rest (a.put o.dst v') w') : wpList Try.prog ops Q (o :: rest) a w :=
  wpList_plain hgd fun _ hK => wp_append_at s x ho base v out hs hown sa l cap hx hb hc h63 hbase fun v' w' h2 h3 h4 => hK _ _ (h v' w' h2 h3 h4)
theorem step_append_at {w : World} {ops : Array Oper} {o : Oper} {a : Act} {K : Act → World → Prop} {Q : Exit → Act → World → Prop} {E : Prop} (hgd : o.guard = none) (s x : Operand)
    (ho : o.op = .call { callee := .builtin .append, args := #[s, x], argTypes := #[22, 22] })
    (base : Nat) (v : Value) (out : List UInt8) (hs : a.eval s = v) (hown : OwnB w base v out) (sa : Option Addr) (l : List UInt8) (cap : Nat) (hx : a.eval x = .slice sa l.length cap) (hb : BytesAt w sa l) (hc : sa = none → l.length = 0 ∧ cap = 0)
    (h63 : out.length + l.length ≤ 140737488355328) (hbase : base ≤ w.heap.size)
    (h : ∀ v' w', OwnB w' base v' (out ++ l) → w.grownBy w' v.ownBlock → (v'.ownBlock = v.ownBlock ∨ v'.ownBlock = some w.heap.size) → K (a.put o.dst v') w') :
    if Region.wanted o (yielded ops a.tmps) = true then Oper.wp Try.prog o a w K Q else E := by
  have hw : Region.wanted o (yielded ops a.tmps) = true := by simp [Region.wanted, hgd]
  rw [if_pos hw]
  exact wp_append_at s x ho base v out hs hown sa l cap hx hb hc h63 hbase h

/-- What was there is there, but for these blocks. -/
structure KeptBut (w w' : World) (F : List Nat) : Prop where
  os : w'.os = w.os
  tape : w'.tape = w.tape
  output : w'.output = w.output
  size : w.heap.size ≤ w'.heap.size
  heap : ∀ k, k < w.heap.size → k ∉ F → w'.heap[k]? = w.heap[k]?
theorem KeptBut.refl (w : World) (F : List Nat) : KeptBut w w F := ⟨rfl, rfl, rfl, Nat.le_refl _, fun _ _ _ => rfl⟩
theorem KeptBut.trans {w w1 w2 : World} {F : List Nat} (h : KeptBut w w1 F) (k : KeptBut w1 w2 F) : KeptBut w w2 F :=
  ⟨k.os.trans h.os, k.tape.trans h.tape, k.output.trans h.output, Nat.le_trans h.size k.size, fun i hi hq => (k.heap i (Nat.lt_of_lt_of_le hi h.size) hq).trans (h.heap i hi hq)⟩
/-- A step that changed other blocks too, which are new. -/
theorem KeptBut.step {w w1 w2 : World} {F G : List Nat} (h : KeptBut w w1 F) (k : KeptBut w1 w2 G) (hG : ∀ i ∈ G, i ∈ F ∨ w.heap.size ≤ i) : KeptBut w w2 F :=
  ⟨k.os.trans h.os, k.tape.trans h.tape, k.output.trans h.output, Nat.le_trans h.size k.size, fun i hi hq => (k.heap i (Nat.lt_of_lt_of_le hi h.size) (fun hg => by rcases hG i hg with h1 | h1; exact hq h1; omega)).trans (h.heap i hi hq)⟩
theorem KeptBut.below {w w' : World} {F : List Nat} (h : Below w.heap.size w w') : KeptBut w w' F := ⟨h.os, h.tape, h.output, h.size, fun k hk _ => h.block k hk⟩
theorem KeptBut.one {w w' : World} {F : List Nat} {q : Nat} (h : OneKept w w' q) (hq : q ∈ F) : KeptBut w w' F := ⟨h.os, h.tape, h.output, h.size, fun k hk hF => h.heap k hk (fun e => hF (e ▸ hq))⟩
theorem KeptBut.grown {w w' : World} {F : List Nat} {r : Option Nat} (h : w.grownBy w' r) (hr : ∀ k, r = some k → k ∈ F) : KeptBut w w' F := ⟨h.os, h.tape, h.output, h.size, fun k hk hF => h.block k hk (fun e => hF (hr k e.symm))⟩
theorem KeptBut.none {w w' : World} (h : KeptBut w w' []) : Below w.heap.size w w' := ⟨h.os, h.tape, h.output, h.size, fun k hk => h.heap k hk (by simp)⟩
theorem KeptBut.set {w w' : World} {F : List Nat} {q i : Nat} (h : KeptBut w w' F) (hq : q ∈ F) (u : Value) : KeptBut w (w'.setCell ⟨q, i, Option.none⟩ u) F :=
  ⟨h.os, h.tape, h.output, by rw [set_size]; exact h.size, fun k hk hF => by rw [set_other u (by rintro rfl; exact hF hq)]; exact h.heap k hk hF⟩
theorem KeptBut.row {w w' : World} {F : List Nat} {B n z : Nat} {e : TypeId} {v : Value} {xs : List Value} (k : KeptBut w w' F) (h : w.ownsRow B e z v n xs) (hv : ∀ b, v.ownBlock = some b → b ∉ F) : w'.ownsRow B e z v n xs := by
  refine ⟨h.1, ?_⟩
  rcases h.2 with h' | ⟨g, cap, cur, h1, h2, hg, r⟩
  · exact .inl h'
  · refine .inr ⟨g, cap, cur, h1, h2, ?_, r⟩
    rw [k.heap g (Array.getElem?_eq_some_iff.1 hg).1 (hv g (by rw [h1]; rfl))]
    exact hg
end Go.Proofs.Ytnpnaglgllcpfaa

/-! What the program's Encoder does: one byte more. -/
namespace Go.Proofs.Ytnpnaglgllcpfaa
set_option maxRecDepth 100000
open Go.RowKit

/-- The cells of an Encoder. -/
def encCells (o b : Bool) (n : Int) (pc : List UInt8) : Array Value := (.bool o :: .bool b :: .int .i64 n :: cellsB pc).toArray
/-- The Encoder in block q: is it open, has it begun, how much was taken, its piece. -/
abbrev EncBox (w : World) (q : Nat) (o b : Bool) (n : Int) (pc : List UInt8) : Prop := w.heap[q]? = some (.cells (encCells o b n pc) 90 (0, 0))
theorem EncBox.cells {w : World} {q : Nat} {o b : Bool} {n : Int} {pc : List UInt8} (h : EncBox w q o b n pc) :
    (w.cell? ⟨q, 0, none⟩ = some (.bool o) ∧ w.cell? ⟨q, 1, none⟩ = some (.bool b) ∧ w.cell? ⟨q, 2, none⟩ = some (.int .i64 n)) ∧ (w.frozen? ⟨q, 0, none⟩ = false ∧ w.frozen? ⟨q, 1, none⟩ = false ∧ w.frozen? ⟨q, 2, none⟩ = false) := by
  simp [World.cell?, World.frozen?, h, encCells]
theorem EncBox.piece {w : World} {q : Nat} {o b : Bool} {n : Int} {pc : List UInt8} (h : EncBox w q o b n pc) (i : Nat) (hi : i < pc.length) :
    w.cell? ⟨q, 3 + i, none⟩ = some (.int .u8 (pc.getD i 0).toNat) ∧ w.frozen? ⟨q, 3 + i, none⟩ = false := by
  have e : (encCells o b n pc)[3 + i]? = some (.int .u8 (pc.getD i 0).toNat) := by
    simp only [encCells, List.getElem?_toArray]
    rw [show 3 + i = i + 1 + 1 + 1 by omega]
    simp [cellsB, List.getD, hi]
  simp [World.cell?, World.frozen?, h, e]
theorem EncBox.setN {w : World} {q : Nat} {o b : Bool} {n : Int} {pc : List UInt8} (h : EncBox w q o b n pc) (m : Int) : EncBox (w.setCell ⟨q, 2, none⟩ (.int .i64 m)) q o b m pc := by
  have := set_block (i := 2) h (.int .i64 m)
  unfold EncBox
  rw [this]
  simp [encCells]
theorem EncBox.setB {w : World} {q : Nat} {o b : Bool} {n : Int} {pc : List UInt8} (h : EncBox w q o b n pc) (c : Bool) : EncBox (w.setCell ⟨q, 1, none⟩ (.bool c)) q o c n pc := by
  have := set_block (i := 1) h (.bool c)
  unfold EncBox
  rw [this]
  simp [encCells]
theorem EncBox.setP {w : World} {q : Nat} {o b : Bool} {n : Int} {pc : List UInt8} (h : EncBox w q o b n pc) (i : Nat) (x : UInt8) : EncBox (w.setCell ⟨q, 3 + i, none⟩ (.int .u8 x.toNat)) q o b n (pc.set i x) := by
  have := set_block (i := 3 + i) h (.int .u8 x.toNat)
  unfold EncBox
  rw [this]
  congr 2
  unfold encCells
  rw [show 3 + i = i + 1 + 1 + 1 by omega]
  simp [cellsB, List.map_set]
theorem EncBox.bytes {w : World} {q : Nat} {o b : Bool} {n : Int} {pc : List UInt8} (h : EncBox w q o b n pc) (k : Nat) : BytesAt w (some ⟨q, 3, none⟩) (pc.take k) :=
  .inr ⟨q, 3, rfl, fun i hi => by
    rw [List.length_take] at hi
    rw [(h.piece i (by omega)).1]
    congr 3
    simp only [List.getD]
    rw [List.getElem?_take_of_lt (by omega)]⟩

/-- What is laid down behind one byte more, which makes the piece pc. -/
def taken (L : List Bool) (n : Nat) (pc : List UInt8) : List Bool := if (n + 1) % 64 = 0 then L ++ frameBits (parseOf pc) pc else L
set_option maxHeartbeats 1000000 in
theorem take_calls (q wq B : Nat) (v : Value) (L : List Bool) (n : Nat) (pc : List UInt8) (x : UInt8) (w : World) (h : EncBox w q true true n pc) (hp : pc.length = 64) (hn : n < 2048) (hw : WrAt w wq B v L) (hB : B ≤ w.heap.size) (hl : L.length ≤ 5000000) (hfull : L.length % 8 = 0) (hqw : q ≠ wq) (hqv : v.ownBlock ≠ some q) :
    Calls Try.prog 89 #[.pointer (some ⟨q, 0, none⟩), .pointer (some ⟨wq, 0, none⟩), .int .u8 x.toNat] w fun e w' => e = .returned (.tuple #[]) ∧
      EncBox w' q true true ((n + 1 : Nat) : Int) (pc.set (n % 64) x) ∧ ∃ v', WrAt w' wq B v' (taken L n (pc.set (n % 64) x)) ∧ (∀ k, v'.ownBlock = some k → v.ownBlock = some k ∨ w.heap.size ≤ k) ∧ KeptBut w w' (q :: wq :: v.ownBlock.toList) := by
  obtain ⟨⟨c0, c1, c2⟩, f0, f1, f2⟩ := h.cells
  have hr : n % 64 < 64 := by omega
  obtain ⟨c3, f3⟩ := h.piece (n % 64) (by omega)
  have HBX : Hid _ := h
  have HW : Hid _ := hw
  have hq := (Array.getElem?_eq_some_iff.1 h).1
  clear h hw
  go_enter Try.func89, Try.ntmps89
  have hRm : (n : Int).tmod 64 = (n : Int) % 64 := Int.tmod_eq_emod_of_nonneg (by omega)
  have hRN : ((n : Int) % 64).toNat = n % 64 := by omega
  have hb1 : (0 : Int) ≤ (n : Int) % 64 ∧ (n : Int) % 64 < 64 := by omega
  have hb2 : (0 : Int) ≤ (n : Int).tmod 64 ∧ (n : Int).tmod 64 < 64 := by rw [hRm]; exact hb1
  have HRM : Hid _ := hRm
  have HRN : Hid _ := hRN
  have hb3 : (0 : Int) ≤ (n : Int) % 64 := by omega
  have hb4 : (n : Int) % 64 < 64 := by omega
  clear hRm hRN
  go_wp2_with fail
  go_region
  have HBX1 : Hid (EncBox ((w.setCell ⟨q, 3 + n % 64, none⟩ (.int .u8 x.toNat)).drew) q true true n (pc.set (n % 64) x)) := EncBox.setP HBX.out _ _
  have HW1 : Hid (WrAt ((w.setCell ⟨q, 3 + n % 64, none⟩ (.int .u8 x.toNat)).drew) wq B v L) := ⟨(set_other _ (Ne.symm hqw)).trans HW.out.block, HW.out.own.set _ hqv⟩
  have HK1 : Hid (KeptBut w ((w.setCell ⟨q, 3 + n % 64, none⟩ (.int .u8 x.toNat)).drew) (q :: wq :: v.ownBlock.toList)) := ((KeptBut.refl _ _).set (by simp) _).trans (KeptBut.below (below_drewN (Below.refl _ _) 1))
  have hs1 : ((w.setCell ⟨q, 3 + n % 64, none⟩ (.int .u8 x.toNat)).drew).heap.size = w.heap.size := set_size _ _ _
  have hp1 : (pc.set (n % 64) x).length = 64 := by rw [List.length_set]; exact hp
  generalize hpc : pc.set (n % 64) x = pc1 at *
  have HPC : Hid _ := hpc
  clear hpc HBX HW c0 c1 c2 c3 f0 f1 f2 f3 hb1 hb2 hb3 hb4
  generalize (w.setCell ⟨q, 3 + n % 64, none⟩ (.int .u8 x.toNat)).drew = w1 at *
  obtain ⟨⟨c0, c1, c2⟩, f0, f1, f2⟩ := HBX1.out.cells
  have HBX2 : Hid (EncBox (w1.setCell ⟨q, 2, none⟩ (.int .i64 ((n : Int) + 1))) q true true ((n : Int) + 1) pc1) := HBX1.out.setN _
  have HW2 : Hid (WrAt (w1.setCell ⟨q, 2, none⟩ (.int .i64 ((n : Int) + 1))) wq B v L) := ⟨(set_other _ (Ne.symm hqw)).trans HW1.out.block, HW1.out.own.set _ hqv⟩
  have HK2 : Hid (KeptBut w (w1.setCell ⟨q, 2, none⟩ (.int .i64 ((n : Int) + 1))) (q :: wq :: v.ownBlock.toList)) := HK1.out.set (by simp) _
  have hs2 : (w1.setCell ⟨q, 2, none⟩ (.int .i64 ((n : Int) + 1))).heap.size = w1.heap.size := set_size _ _ _
  by_cases h0 : (n + 1) % 64 = 0
  · have h0b : (((n : Int) + 1) % 64 == 0) = true := by simp; omega
    have HT : Hid (taken L n pc1 = L ++ frameBits (parseOf pc1) pc1) := if_pos h0
    have HWP : Hid (Calls Try.prog 87 #[.pointer (some ⟨wq, 0, none⟩), .slice (some ⟨q, 3, none⟩) 64 64] (w1.setCell ⟨q, 2, none⟩ (.int .i64 ((n : Int) + 1))) fun e w' => e = .returned (.tuple #[]) ∧ WrDone (w1.setCell ⟨q, 2, none⟩ (.int .i64 ((n : Int) + 1))) w' wq B v (L ++ frameBits (parseOf pc1) pc1)) := by
      have hbb := HBX2.out.bytes 64
      rw [List.take_of_length_le (by omega)] at hbb
      have := writePiece_calls wq B v L (some ⟨q, 3, none⟩) pc1 64 (w1.setCell ⟨q, 2, none⟩ (.int .i64 ((n : Int) + 1))) HW2.out (by omega) (by omega) hfull (by omega) hbb (fun b off e => by
        simp at e
        obtain ⟨rfl, _⟩ := e
        exact ⟨by omega, hqw, hqv⟩)
      rw [hp1] at this
      exact this
    clear h0 hp hp1
    go_wp2_with fail
    refine Calls.mono HWP.out ?_
    rintro r w3 ⟨rfl, v3, hw3, hk3⟩
    have HW3 : Hid _ := hw3
    have HBX3 : Hid (EncBox w3 q true true ((n : Int) + 1) pc1) := (hk3.heap q (by omega) hqw hqv).trans HBX2.out
    have HM3 : Hid (∀ k, v3.ownBlock = some k → v.ownBlock = some k ∨ w.heap.size ≤ k) := fun k hk => by
      rcases hk3.moved k hk with h | h
      · exact .inl h
      · right; omega
    have HK3 : Hid (KeptBut w w3 (q :: wq :: v.ownBlock.toList)) := HK2.out.trans ⟨hk3.os, hk3.tape, hk3.output, hk3.size, fun k h1 h2 => hk3.heap k h1 (fun e => h2 (by simp [e])) (fun e => h2 (by simp [e]))⟩
    clear hw3 hk3 HWP
    go_wp2
    go_end0
    exact ⟨rfl, by rw [HPC.out]; exact HBX3.out, v3, by rw [HPC.out, HT.out]; exact HW3.out, HM3.out, HK3.out⟩
  · have h0b : (((n : Int) + 1) % 64 == 0) = false := by simp; omega
    have HT : Hid (taken L n pc1 = L) := if_neg h0
    clear h0
    go_wp2
    go_end0
    exact ⟨rfl, by rw [HPC.out]; exact HBX2.out, v, by rw [HPC.out, HT.out]; exact HW2.out, fun k hk => .inl hk, HK2.out⟩
end Go.Proofs.Ytnpnaglgllcpfaa

/-! What the program's Encoder answers: Write and Close. -/
namespace Go.Proofs.Ytnpnaglgllcpfaa
set_option maxRecDepth 100000
open Go.RowKit

/-- The Encoder in block q has taken the data d; has it begun? -/
def EncAt (w : World) (q : Nat) (d : List UInt8) (b : Bool) : Prop :=
  ∃ pc, EncBox w q true b d.length pc ∧ pc.length = 64 ∧ pc.take (d.length % 64) = d.drop (64 * (d.length / 64)) ∧ d.length ≤ 2048 ∧ (b = false → d = [])
/-- An Encoder that is closed. -/
def EncShut (w : World) (q : Nat) : Prop := ∃ b n pc, EncBox w q false b n pc
theorem EncAt.lt {w : World} {q : Nat} {d : List UInt8} {b : Bool} (h : EncAt w q d b) : q < w.heap.size := by
  obtain ⟨pc, h, _⟩ := h
  exact (Array.getElem?_eq_some_iff.1 h).1
theorem EncAt.kept {w w' : World} {q : Nat} {d : List UInt8} {b : Bool} (h : EncAt w q d b) (hk : w'.heap[q]? = w.heap[q]?) : EncAt w' q d b := by
  obtain ⟨pc, h, r⟩ := h
  exact ⟨pc, hk.trans h, r⟩
/-- What has come out of an Encoder, as bits. -/
def sofar (b : Bool) (d : List UInt8) : List Bool := bif b then magicBits ++ fullBits parseOf d else []
theorem sofar_full (b : Bool) (d : List UInt8) : (sofar b d).length % 8 = 0 := by
  cases b
  · rfl
  · show (magicBits ++ fullBits parseOf d).length % 8 = 0
    have := fullBits_fits parseOf d
    rw [List.length_append, magic_length]; omega
theorem set_take (pc : List UInt8) (r : Nat) (x : UInt8) (h : r < pc.length) : (pc.set r x).take (r + 1) = pc.take r ++ [x] := by
  rw [List.take_succ_eq_append_getElem (by rw [List.length_set]; exact h)]
  simp [List.take_set_of_le]
/-- One byte more. -/
theorem piece_more {d pc : List UInt8} {x : UInt8} (hp : pc.length = 64) (ht : pc.take (d.length % 64) = d.drop (64 * (d.length / 64))) :
    (pc.set (d.length % 64) x).take ((d ++ [x]).length % 64) = (d ++ [x]).drop (64 * ((d ++ [x]).length / 64)) ∧ ((d.length + 1) % 64 = 0 → pc.set (d.length % 64) x = d.drop (64 * (d.length / 64)) ++ [x]) := by
  have hl : (d ++ [x]).length = d.length + 1 := by simp
  have hr : d.length % 64 < 64 := by omega
  have h1 := set_take pc (d.length % 64) x (by omega)
  rw [ht] at h1
  rw [hl]
  by_cases h0 : (d.length + 1) % 64 = 0
  · refine ⟨?_, fun _ => ?_⟩
    · rw [h0, List.take_zero, List.drop_of_length_le (by rw [hl]; omega)]
    · rw [← h1, List.take_of_length_le (by rw [List.length_set]; omega)]
  · refine ⟨?_, fun h => absurd h h0⟩
    rw [show (d.length + 1) % 64 = d.length % 64 + 1 by omega, show (d.length + 1) / 64 = d.length / 64 by omega, h1, List.drop_append_of_le_length (by omega)]
theorem taken_is {d pc : List UInt8} {x : UInt8} {L : List Bool} {b : Bool} {d0 : List UInt8} (hp : pc.length = 64) (ht : pc.take (d.length % 64) = d.drop (64 * (d.length / 64))) (hL : sofar b d0 ++ L = magicBits ++ fullBits parseOf d) :
    sofar b d0 ++ taken L d.length (pc.set (d.length % 64) x) = magicBits ++ fullBits parseOf (d ++ [x]) := by
  unfold taken
  by_cases h0 : (d.length + 1) % 64 = 0
  · rw [if_pos h0, (piece_more hp ht).2 h0, fullBits_full _ _ _ h0, ← List.append_assoc, hL, List.append_assoc]
  · rw [if_neg h0, fullBits_some _ _ _ h0, hL]
theorem fullBits_le (d : List UInt8) : (fullBits parseOf d).length ≤ 620 * (d.length / 64) := by
  rw [← frames_full_is parse_chosen]
  exact frames_chosen parse_chosen d _ (by rw [toksOf_length]; unfold cutN; omega)

theorem newEncoder_calls (w : World) : Calls Try.prog 25 #[] w fun e w' => e = .returned (.pointer (some ⟨w.heap.size, 0, none⟩)) ∧ Below w.heap.size w w' ∧ w'.heap.size = w.heap.size + 1 ∧ EncAt w' w.heap.size [] false := by
  go_enter Try.func25, Try.ntmps25
  go_wp2
  go_ret
  refine ⟨rfl, (Below.refl _ _).alloc (Nat.le_refl _) _, by simp, List.replicate 64 0, ?_, by simp, by simp, by simp, fun _ => rfl⟩
  exact heap_alloc_new w _

theorem begin_no (q wq : Nat) (n : Int) (pc : List UInt8) (w : World) (h : EncBox w q true true n pc) :
    Calls Try.prog 88 #[.pointer (some ⟨q, 0, none⟩), .pointer (some ⟨wq, 0, none⟩)] w fun e w' => e = .returned (.tuple #[]) ∧ w' = w := by
  obtain ⟨⟨c0, c1, c2⟩, _⟩ := h.cells
  clear h
  go_enter Try.func88, Try.ntmps88
  go_wp2
  go_end0
  exact ⟨rfl, rfl⟩
set_option maxHeartbeats 1000000 in
theorem begin_yes (q wq : Nat) (n : Int) (pc : List UInt8) (w : World) (h : EncBox w q true false n pc) (hw : WrAt w wq wq (.slice none 0 0) []) (hq : q < wq) :
    Calls Try.prog 88 #[.pointer (some ⟨q, 0, none⟩), .pointer (some ⟨wq, 0, none⟩)] w fun e w' => e = .returned (.tuple #[]) ∧ EncBox w' q true true n pc ∧ ∃ v', WrAt w' wq wq v' magicBits ∧ KeptBut w w' [q, wq] := by
  obtain ⟨⟨c0, c1, c2⟩, _⟩ := h.cells
  have HBX : Hid _ := h
  have hwl := hw.lt
  have HW : Hid _ := writeBegin_calls wq wq (.slice none 0 0) w hw (by omega)
  clear h hw
  go_enter Try.func88, Try.ntmps88
  go_wp2_with fail
  refine Calls.mono HW.out ?_
  rintro r w1 ⟨rfl, v1, hw1, hk1⟩
  have hb1 : EncBox w1 q true false n pc := (hk1.heap q (by omega) (by omega) (by simp [Value.ownBlock])).trans HBX.out
  obtain ⟨⟨c0, c1, c2⟩, f0, f1, f2⟩ := EncBox.cells hb1
  have HB2 : Hid (EncBox (w1.setCell ⟨q, 1, none⟩ (.bool true)) q true true n pc) := EncBox.setB hb1 true
  have hvq : v1.ownBlock ≠ some q := fun e => by have := (World.ownsRow.lt hw1.own q e).1; omega
  have HW2 : Hid (WrAt (w1.setCell ⟨q, 1, none⟩ (.bool true)) wq wq v1 magicBits) := ⟨(set_other _ (by omega)).trans hw1.block, hw1.own.set _ hvq⟩
  have HK2 : Hid (KeptBut w (w1.setCell ⟨q, 1, none⟩ (.bool true)) [q, wq]) := KeptBut.set ⟨hk1.os, hk1.tape, hk1.output, hk1.size, fun k h1 h2 => hk1.heap k h1 (fun e => h2 (by simp [e])) (by simp [Value.ownBlock])⟩ (by simp) _
  clear hb1 hw1 hk1 HW
  go_wp2
  go_end0
  exact ⟨rfl, HB2.out, v1, HW2.out, HK2.out⟩
/-- begin, of an Encoder that has begun or not. -/
theorem begin_calls (q wq : Nat) (d : List UInt8) (b : Bool) (w : World) (h : EncAt w q d b) (hw : WrAt w wq wq (.slice none 0 0) []) (hq : q < wq) :
    Calls Try.prog 88 #[.pointer (some ⟨q, 0, none⟩), .pointer (some ⟨wq, 0, none⟩)] w fun e w' => e = .returned (.tuple #[]) ∧ EncAt w' q d true ∧ ∃ v' L, WrAt w' wq wq v' L ∧ sofar b d ++ L = magicBits ++ fullBits parseOf d ∧ KeptBut w w' [q, wq] := by
  obtain ⟨pc, h1, h2, h3, h4, h5⟩ := h
  cases b with
  | true =>
    refine (begin_no q wq d.length pc w h1).mono ?_
    rintro e w' ⟨rfl, rfl⟩
    exact ⟨rfl, ⟨pc, h1, h2, h3, h4, fun e => by cases e⟩, .slice none 0 0, [], hw, by simp [sofar], KeptBut.refl _ _⟩
  | false =>
    refine (begin_yes q wq d.length pc w h1 hw hq).mono ?_
    rintro e w' ⟨rfl, g1, v', g2, g3⟩
    obtain rfl := h5 rfl
    exact ⟨rfl, ⟨pc, g1, h2, h3, h4, fun e => by cases e⟩, v', magicBits, g2, by simp [sofar, fullBits_nil], g3⟩
end Go.Proofs.Ytnpnaglgllcpfaa

/-! What the program's Encoder answers: Write. -/
namespace Go.Proofs.Ytnpnaglgllcpfaa
set_option maxRecDepth 100000
open Go.RowKit

/-- How Write of an open Encoder ends. -/
def WriteAns (w w' : World) (q : Nat) (d p : List UInt8) (b : Bool) (r : Ending) : Prop :=
  OneKept w w' q ∧ EncAt w' q (d ++ p) true ∧ ∃ L vy, r = .returned (.tuple #[vy, .int .i64 0]) ∧ sofar b d ++ L = magicBits ++ fullBits parseOf (d ++ p) ∧ OwnB w' w.heap.size vy (toBytes L)

set_option maxHeartbeats 2000000 in
theorem ewrite_calls (q : Nat) (d p : List UInt8) (b : Bool) (pa : Option Addr) (pc : Nat) (w : World) (h : EncAt w q d b) (hp : BytesAt w pa p) (hpq : ∀ k off, pa = some ⟨k, off, none⟩ → k ≠ q) (hl : d.length + p.length ≤ 2048) :
    Calls Try.prog 57 #[.pointer (some ⟨q, 0, none⟩), .slice pa p.length pc] w fun r w' => WriteAns w w' q d p b r := by
  have hq := h.lt
  have HE : Hid (EncAt w q d b) := h
  have HP : Hid (BytesAt w pa p) := hp
  have HPQ : Hid (∀ k off, pa = some ⟨k, off, none⟩ → k ≠ q) := hpq
  obtain ⟨⟨c0, c1, c2⟩, _⟩ : (w.cell? ⟨q, 0, none⟩ = some (.bool true) ∧ w.cell? ⟨q, 1, none⟩ = some (.bool b) ∧ w.cell? ⟨q, 2, none⟩ = some (.int .i64 d.length)) ∧ _ := by
    obtain ⟨pc, h1, _⟩ := h
    exact h1.cells
  have hlp : ¬ (2048 : Int) - (d.length : Int) < (p.length : Int) := by omega
  have hd : d.length ≤ 2048 := by omega
  clear h hp hpq
  go_enter Try.func57, Try.ntmps57
  go_wp2_with fail
  refine (begin_calls q w.heap.size d b _ (EncAt.kept HE.out (Below.heap_alloc _ _ _ hq)) (wr_new w) hq).mono ?_
  rintro r w1 ⟨rfl, he1, v1, L1, hw1, hL1, hk1⟩
  have hs1 := hk1.size
  simp at hs1
  have HE1 : Hid (EncAt w1 q d true) := he1
  have HW1 : Hid (WrAt w1 w.heap.size w.heap.size v1 L1) := hw1
  have HL1 : Hid _ := hL1
  have HK1 : Hid (OneKept w w1 q) := ⟨hk1.os, hk1.tape, hk1.output, by omega, fun k h1 h2 => (hk1.heap k (by simp; omega) (by simp; omega)).trans (Below.heap_alloc _ _ _ h1)⟩
  clear he1 hw1 hL1 hk1
  go_wp2_with fail
  go_loopw [33] (fun i wr => ∃ (k : Nat) (v : Value) (L : List Bool), k ≤ p.length ∧ i = .int .i64 k ∧ Hid (EncAt wr q (d ++ p.take k) true) ∧ Hid (WrAt wr w.heap.size w.heap.size v L) ∧ Hid (sofar b d ++ L = magicBits ++ fullBits parseOf (d ++ p.take k)) ∧ Hid (OneKept w wr q)) (fun i _ => p.length - (intOf i).toNat)
  case atStart => exact ⟨0, v1, L1, by omega, rfl, by rw [List.take_zero, List.append_nil]; exact HE1, HW1, by rw [List.take_zero, List.append_nil]; exact HL1, HK1⟩
  case round =>
    clear HE1 HW1 HL1 HK1
    obtain ⟨k, v, L, hk, rfl, HEk, HWk, HLk, HKk⟩ := hrel
    have hsk := HKk.out.size
    have hwl := HWk.out.lt
    by_cases hlt : k < p.length
    · obtain ⟨pb, off, rfl, hpl, hpbq, hcell⟩ : ∃ pb off, pa = some ⟨pb, off, none⟩ ∧ pb < w.heap.size ∧ pb ≠ q ∧ wr.cell? ⟨pb, off + k, none⟩ = some (.int .u8 (p.getD k 0).toNat) := by
        rcases HP.out with h | ⟨pb, off, h1, h2⟩
        · rw [h] at hlt; simp at hlt
        · have hpl : pb < w.heap.size := World.block_lt_of_cell? w _ (h2 k hlt)
          have hpq := HPQ.out pb off h1
          exact ⟨pb, off, h1, hpl, hpq, by rw [World.cell?_of_block (HKk.out.heap pb hpl hpq)]; exact h2 k hlt⟩
      obtain ⟨pcs, e1, e2, e3, e4, _⟩ := HEk.out
      have HTK : Hid (p.take (k + 1) = p.take k ++ [p.getD k 0]) := by show _ = _; rw [List.take_succ_eq_append_getElem hlt]; simp [List.getD, hlt]
      have hdl : (d ++ p.take k).length = d.length + k := by rw [List.length_append, List.length_take]; omega
      have hvq : v.ownBlock ≠ some q := fun e => by have := (World.ownsRow.lt HWk.out.own q e).1; omega
      have hfb := fullBits_le (d ++ p.take k)
      have hLl : (sofar b d).length + L.length = 24 + (fullBits parseOf (d ++ p.take k)).length := by
        have := congrArg List.length HLk.out
        rw [List.length_append, List.length_append, magic_length] at this
        exact this
      have hLf : L.length % 8 = 0 := by
        have h1 := sofar_full b d
        have h2 := fullBits_fits parseOf (d ++ p.take k)
        omega
      have HTC : Hid _ := take_calls q w.heap.size w.heap.size v L (d ++ p.take k).length pcs (p.getD k 0) wr e1 e2 (by omega) HWk.out (by omega) (by omega) hLf (by omega) hvq
      have HNX : Hid _ := taken_is (x := p.getD k 0) e2 e3 HLk.out
      have HPM : Hid _ := (piece_more (x := p.getD k 0) e2 e3).1
      have HPL : Hid _ := e2
      clear hfb hLl hLf e1 e2 e3 e4 HLk
      have hb0 : (0 : Int) ≤ (k : Int) ∧ (k : Int) < (p.length : Int) := by omega
      have HD1 : Hid ((d ++ p.take k ++ [p.getD k 0]).length = (d ++ p.take k).length + 1) := by show _ = _; rw [List.length_append]; rfl
      have HD2 : Hid (d ++ p.take (k + 1) = d ++ p.take k ++ [p.getD k 0]) := by show _ = _; rw [HTK.out, List.append_assoc]
      have HDL : Hid ((d ++ p.take k).length = d.length + k) := hdl
      clear hdl
      generalize d ++ p.take k = dk at *
      generalize p.getD k 0 = x at *
      go_wp2_with fail
      refine Calls.mono HTC.out ?_
      rintro r w2 ⟨rfl, hb2, v2, hw2, hm2, hk2⟩
      have hs2 := hk2.size
      have HE2 : Hid (EncAt w2 q (dk ++ [x]) true) := ⟨_, by rw [HD1.out]; exact hb2, by rw [List.length_set]; exact HPL.out, HPM.out, by rw [HD1.out, HDL.out]; omega, fun h => by cases h⟩
      have HW2 : Hid _ := hw2
      have HK2 : Hid (OneKept w w2 q) := ⟨hk2.os.trans HKk.out.os, hk2.tape.trans HKk.out.tape, hk2.output.trans HKk.out.output, by omega, fun i h1 h2 => (hk2.heap i (by omega) (fun hm => by
        simp only [List.mem_cons, Option.mem_toList] at hm
        rcases hm with rfl | rfl | hm
        · exact h2 rfl
        · omega
        · have := (World.ownsRow.lt HWk.out.own i hm).1
          omega)).trans (HKk.out.heap i h1 h2)⟩
      clear hb2 hw2 hm2 hk2 HTC
      go_wp2
      go_roundw
      case rel => exact ⟨k + 1, v2, _, by omega, by go_num, by rw [HD2.out]; exact HE2, HW2, by rw [HD2.out]; exact HNX, HK2⟩
      case measure => simp [intOf]; omega
    · have hke : k = p.length := by omega
      have HF : Hid (d ++ p.take k = d ++ p) := by show _ = _; rw [hke, List.take_length]
      have hfull : L.length % 8 = 0 := by
        have h1 := sofar_full b d
        have h2 := fullBits_fits parseOf (d ++ p.take k)
        have := congrArg List.length HLk.out
        rw [List.length_append, List.length_append, magic_length] at this
        omega
      go_wp2_with fail
      refine (bytes_calls _ _ _ _ _ HWk.out).mono ?_
      rintro r w2 ⟨rfl, rfl⟩
      obtain ⟨vo, vc, rfl⟩ := OwnB.form HWk.out.own
      go_wp2
      go_ret2
      exact ⟨HKk.out, by rw [← HF.out]; exact HEk.out, L, _, rfl, by rw [← HF.out]; exact HLk.out, HWk.out.own⟩
end Go.Proofs.Ytnpnaglgllcpfaa

/-! What the program's Encoder answers: Write of one that is closed, or of too much; Close. -/
namespace Go.Proofs.Ytnpnaglgllcpfaa
set_option maxRecDepth 100000
open Go.RowKit

theorem ewrite_nil (pa : Option Addr) (pn pc : Nat) (w : World) :
    Calls Try.prog 57 #[.pointer none, .slice pa pn pc] w fun r w' => r = .returned (.tuple #[.slice none 0 0, .int .i64 10]) ∧ w' = w := by
  go_enter Try.func57, Try.ntmps57
  go_wp2
  go_ret2
  exact ⟨rfl, rfl⟩
theorem ewrite_shut (q : Nat) (pa : Option Addr) (pn pc : Nat) (w : World) (h : EncShut w q) :
    Calls Try.prog 57 #[.pointer (some ⟨q, 0, none⟩), .slice pa pn pc] w fun r w' => r = .returned (.tuple #[.slice none 0 0, .int .i64 10]) ∧ w' = w := by
  obtain ⟨b, n, pcs, h⟩ := h
  obtain ⟨⟨c0, c1, c2⟩, _⟩ := h.cells
  clear h
  go_enter Try.func57, Try.ntmps57
  go_wp2
  go_ret2
  exact ⟨rfl, rfl⟩
theorem ewrite_long (q : Nat) (d : List UInt8) (b : Bool) (pa : Option Addr) (pn pc : Nat) (w : World) (h : EncAt w q d b) (hl : 2048 < d.length + pn) :
    Calls Try.prog 57 #[.pointer (some ⟨q, 0, none⟩), .slice pa pn pc] w fun r w' => r = .returned (.tuple #[.slice none 0 0, .int .i64 1]) ∧ w' = w := by
  obtain ⟨pcs, h, _, _, hd, _⟩ := h
  obtain ⟨⟨c0, c1, c2⟩, _⟩ := h.cells
  have hlp : (2048 : Int) - (d.length : Int) < (pn : Int) := by omega
  clear h
  go_enter Try.func57, Try.ntmps57
  go_wp2
  go_ret2
  exact ⟨rfl, rfl⟩
theorem eclose_nil (w : World) :
    Calls Try.prog 58 #[.pointer none] w fun r w' => r = .returned (.tuple #[.slice none 0 0, .int .i64 10]) ∧ w' = w := by
  go_enter Try.func58, Try.ntmps58
  go_wp2
  go_ret2
  exact ⟨rfl, rfl⟩
theorem eclose_shut (q : Nat) (w : World) (h : EncShut w q) :
    Calls Try.prog 58 #[.pointer (some ⟨q, 0, none⟩)] w fun r w' => r = .returned (.tuple #[.slice none 0 0, .int .i64 10]) ∧ w' = w := by
  obtain ⟨b, n, pcs, h⟩ := h
  obtain ⟨⟨c0, c1, c2⟩, _⟩ := h.cells
  clear h
  go_enter Try.func58, Try.ntmps58
  go_wp2
  go_ret2
  exact ⟨rfl, rfl⟩
theorem setRow_block {w : World} {g : Nat} {cs cur : Array Value} {t : TypeId} {m : Nat × Nat} (h : w.heap[g]? = some (.cells cur t m)) : (w.setRow g cs).heap[g]? = some (.cells cs t m) := by
  have hlt := (Array.getElem?_eq_some_iff.1 h).1
  have h' : w.heap[g] = .cells cur t m := (Array.getElem?_eq_some_iff.1 h).2
  show (w.heap.modify g _)[g]? = _
  rw [Array.getElem?_eq_getElem (by simpa using hlt), Array.getElem_modify_self, h']
theorem setRow_other {w : World} {g k : Nat} {cs : Array Value} (h : k ≠ g) : (w.setRow g cs).heap[k]? = w.heap[k]? := by
  show (w.heap.modify g _)[k]? = _
  rw [Array.getElem?_modify]
  simp [Ne.symm h]
theorem setRow_size (w : World) (g : Nat) (cs : Array Value) : (w.setRow g cs).heap.size = w.heap.size := by
  show (w.heap.modify g _).size = _
  simp
theorem zeroEnc : Try.zeroCells90 = encCells false false 0 (List.replicate 64 0) := by kernel_rfl
/-- An Encoder is overwritten by one of noughts. -/
theorem store_enc {w : World} {q : Nat} {o b : Bool} {n : Int} {pc : List UInt8} (h : EncBox w q o b n pc) (hp : pc.length = 64) : (storeCells ⟨q, 0, none⟩ Try.zeroCells90.toList).run Try.prog w = .ok () (w.setRow q Try.zeroCells90) := by
  have := run_storeCells_from (P := Try.prog) q 90 Try.zeroCells90.toList 0 (encCells o b n pc) w h (by rw [zeroEnc]; simp [encCells, cellsB, hp]) (by
    intro v hv
    rw [zeroEnc] at hv
    simp [encCells, cellsB] at hv
    rcases hv with rfl | rfl | rfl <;> rfl)
  simpa using this
/-- How Close of an open Encoder ends. -/
def CloseAns (w w' : World) (q : Nat) (d : List UInt8) (b : Bool) (r : Ending) : Prop :=
  OneKept w w' q ∧ EncShut w' q ∧ ∃ L vy, r = .returned (.tuple #[vy, .int .i64 0]) ∧ sofar b d ++ L = streamBits (toksOf parseOf d) ∧ OwnB w' w.heap.size vy (toBytes L)

theorem close_fin {w w1 w2 : World} {q : Nat} {d : List UInt8} {b : Bool} {v1 v2 : Value} {L : List Bool} {o c : Bool} {n : Int} {pc : List UInt8} (hq : q < w.heap.size) (hs1 : w.heap.size ≤ w1.heap.size) (hk1 : OneKept w w1 q) (hw1 : WrAt w1 w.heap.size w.heap.size v1 L) (hk2 : WrKept w1 w2 w.heap.size v1 v2) (hw2 : WrAt w2 w.heap.size w.heap.size v2 (L ++ endBits)) (hb2 : EncBox w2 q o c n pc)
    (hL : sofar b d ++ (L ++ endBits) = streamBits (toksOf parseOf d)) : CloseAns w (w2.setRow q Try.zeroCells90) q d b (.returned (.tuple #[v2, .int .i64 0])) ∧ WrAt (w2.setRow q Try.zeroCells90) w.heap.size w.heap.size v2 (L ++ endBits) := by
  have hs2 := hk2.size
  have hv2 : ∀ k, v2.ownBlock = some k → k ≠ q := fun k hk e => by have := (World.ownsRow.lt hw2.own k hk).1; omega
  have hown : OwnB (w2.setRow q Try.zeroCells90) w.heap.size v2 (wrun (L ++ endBits)).1 := by
    refine ⟨hw2.own.1, ?_⟩
    rcases hw2.own.2 with h | ⟨g, cap, cur, g1, g2, g3, g4⟩
    · exact .inl h
    · exact .inr ⟨g, cap, cur, g1, g2, by rw [setRow_other (hv2 g (by rw [g1]; rfl))]; exact g3, g4⟩
  refine ⟨⟨⟨hk2.os.trans hk1.os, hk2.tape.trans hk1.tape, hk2.output.trans hk1.output, by rw [setRow_size]; omega, fun k h1 h2 => ?_⟩, ⟨false, 0, List.replicate 64 0, by show _ = _; rw [setRow_block hb2, zeroEnc]⟩, L ++ endBits, v2, rfl, hL, hown⟩, by rw [setRow_other (by omega)]; exact hw2.block, hown⟩
  rw [setRow_other h2, hk2.heap k (by omega) (by omega) (fun e => by have := (World.ownsRow.lt hw1.own k e).1; omega)]
  exact hk1.heap k h1 h2

set_option maxHeartbeats 4000000 in
theorem eclose_calls (q : Nat) (d : List UInt8) (b : Bool) (w : World) (h : EncAt w q d b) :
    Calls Try.prog 58 #[.pointer (some ⟨q, 0, none⟩)] w fun r w' => CloseAns w w' q d b r := by
  have hq := h.lt
  have HE : Hid (EncAt w q d b) := h
  obtain ⟨⟨c0, c1, c2⟩, _⟩ : (w.cell? ⟨q, 0, none⟩ = some (.bool true) ∧ w.cell? ⟨q, 1, none⟩ = some (.bool b) ∧ w.cell? ⟨q, 2, none⟩ = some (.int .i64 d.length)) ∧ _ := by
    obtain ⟨pc, h1, _⟩ := h
    exact h1.cells
  clear h
  go_enter Try.func58, Try.ntmps58
  go_wp2_with fail
  refine (begin_calls q w.heap.size d b _ (EncAt.kept HE.out (Below.heap_alloc _ _ _ hq)) (wr_new w) hq).mono ?_
  rintro r w1 ⟨rfl, he1, v1, L1, hw1, hL1, hk1⟩
  have hs1 := hk1.size
  simp at hs1
  have HW1 : Hid (WrAt w1 w.heap.size w.heap.size v1 L1) := hw1
  have HL1 : Hid _ := hL1
  have HK1 : Hid (OneKept w w1 q) := ⟨hk1.os, hk1.tape, hk1.output, by omega, fun k h1 h2 => (hk1.heap k (by simp; omega) (by simp; omega)).trans (Below.heap_alloc _ _ _ h1)⟩
  obtain ⟨pcs, e1, e2, e3, e4, _⟩ := he1
  have HB1 : Hid _ := e1
  obtain ⟨⟨c0, c1, c2⟩, f0, f1, f2⟩ := e1.cells
  have hvq : v1.ownBlock ≠ some q := fun e => by have := (World.ownsRow.lt hw1.own q e).1; omega
  have hfb := fullBits_le d
  have hLl : (sofar b d).length + L1.length = 24 + (fullBits parseOf d).length := by
    have := congrArg List.length hL1
    rw [List.length_append, List.length_append, magic_length] at this
    exact this
  have hLf : L1.length % 8 = 0 := by
    have h1 := sofar_full b d
    have h2 := fullBits_fits parseOf d
    omega
  have hL5 : L1.length ≤ 5000000 := by omega
  clear hw1 hL1 hk1 hfb hLl
  by_cases h0 : d.length % 64 = 0
  · have h0b : ¬ (0 : Int) < (d.length : Int) % 64 := by omega
    go_wp2_with fail
    refine (writeEnd_calls w.heap.size w.heap.size v1 L1 w1 HW1.out (by omega) (by omega) hLf).mono ?_
    rintro r w2 ⟨rfl, v2, hw2, hk2⟩
    have hb2 : EncBox w2 q true true d.length pcs := (hk2.heap q (by omega) (by omega) hvq).trans HB1.out
    obtain ⟨⟨c0, c1, c2⟩, f0, f1, f2⟩ := EncBox.cells hb2
    have hst := store_enc hb2 e2
    obtain ⟨hfin, hw3⟩ := close_fin hq (by omega) HK1.out HW1.out hk2 hw2 hb2 (by rw [stream_is parse_chosen, if_pos h0, ← List.append_assoc, HL1.out]; simp : sofar b d ++ (L1 ++ endBits) = _)
    have HFIN : Hid (CloseAns w (w2.setRow q Try.zeroCells90) q d b (.returned (.tuple #[v2, .int .i64 0]))) := hfin
    have HW3 : Hid _ := hw3
    obtain ⟨vo, vc, rfl⟩ := OwnB.form hw2.own
    clear hw2 hk2 hb2 hw3 e1 e2 e3 hfin
    go_wp2_with fail
    refine (bytes_calls _ _ _ _ _ HW3.out).mono ?_
    rintro r w4 ⟨rfl, rfl⟩
    go_wp2
    go_ret2
    exact HFIN.out
  · have h0b : (0 : Int) < (d.length : Int) % 64 := by omega
    have hpl : (d.drop (64 * (d.length / 64))).length = d.length % 64 := by rw [List.length_drop]; omega
    have HWP : Hid (Calls Try.prog 87 #[.pointer (some ⟨w.heap.size, 0, none⟩), .slice (some ⟨q, 3, none⟩) (d.length % 64) 64] w1 fun e w' => e = .returned (.tuple #[]) ∧ WrDone w1 w' w.heap.size w.heap.size v1 (L1 ++ frameBits (parseOf (d.drop (64 * (d.length / 64)))) (d.drop (64 * (d.length / 64))))) := by
      have hbb := e1.bytes (d.length % 64)
      rw [e3] at hbb
      have := writePiece_calls w.heap.size w.heap.size v1 L1 (some ⟨q, 3, none⟩) (d.drop (64 * (d.length / 64))) 64 w1 HW1.out (by omega) (by omega) hLf (by omega) hbb (fun b off e => by
        simp at e
        obtain ⟨rfl, _⟩ := e
        exact ⟨by omega, by omega, hvq⟩)
      rw [hpl] at this
      exact this
    have hFF := frameBits_full (parseOf (d.drop (64 * (d.length / 64)))) (d.drop (64 * (d.length / 64)))
    have hFL := frame_chosen parse_chosen (d.drop (64 * (d.length / 64))) (by omega)
    rw [(chosen_made parse_chosen _ (show (d.drop (64 * (d.length / 64))).length ≤ 64 by omega)).2.1] at hFL
    have HSI : Hid _ := stream_is parse_chosen d
    rw [if_neg h0] at HSI
    generalize frameBits (parseOf (d.drop (64 * (d.length / 64)))) (d.drop (64 * (d.length / 64))) = FB at *
    clear hpl
    have hb1 : (0 : Int) ≤ (d.length : Int) % 64 ∧ (d.length : Int) % 64 ≤ 64 := by omega
    have hb1' : (0 : Int) ≤ (d.length : Int).tmod 64 ∧ (d.length : Int).tmod 64 ≤ 64 := by rw [Int.tmod_eq_emod_of_nonneg (by omega)]; exact hb1
    have hb3 : ¬ (64 : Int) < (d.length : Int) % 64 := by omega
    go_wp2_with fail
    refine Calls.mono HWP.out ?_
    rintro r w2 ⟨rfl, v2, hw2, hk2⟩
    have hs2 := hk2.size
    have hb2 : EncBox w2 q true true d.length pcs := (hk2.heap q (by omega) (by omega) hvq).trans HB1.out
    have hv2q : v2.ownBlock ≠ some q := fun e => by have := (World.ownsRow.lt hw2.own q e).1; omega
    have HB2 : Hid _ := hb2
    have HW2 : Hid _ := hw2
    have HK2 : Hid (OneKept w w2 q) := ⟨hk2.os.trans HK1.out.os, hk2.tape.trans HK1.out.tape, hk2.output.trans HK1.out.output, by omega, fun k h1 h2 => (hk2.heap k (by omega) (by omega) (fun e => by have := (World.ownsRow.lt HW1.out.own k e).1; omega)).trans (HK1.out.heap k h1 h2)⟩
    clear hw2 hk2 hb2 HWP
    go_wp2_with fail
    refine (writeEnd_calls w.heap.size w.heap.size v2 (L1 ++ FB) w2 HW2.out (by omega) (by rw [List.length_append]; omega) (by rw [List.length_append]; omega)).mono ?_
    rintro r w3 ⟨rfl, v3, hw3, hk3⟩
    have hb3 : EncBox w3 q true true d.length pcs := (hk3.heap q (by omega) (by omega) hv2q).trans HB2.out
    have hst := store_enc hb3 e2
    obtain ⟨hfin, hw4⟩ := close_fin hq (by omega) HK2.out HW2.out hk3 hw3 hb3 (by rw [HSI.out, ← HL1.out]; simp : sofar b d ++ (L1 ++ FB ++ endBits) = _)
    have HFIN : Hid (CloseAns w (w3.setRow q Try.zeroCells90) q d b (.returned (.tuple #[v3, .int .i64 0]))) := hfin
    have HW4 : Hid _ := hw4
    obtain ⟨⟨c0, c1, c2⟩, f0, f1, f2⟩ := EncBox.cells hb3
    obtain ⟨vo, vc, rfl⟩ := OwnB.form hw3.own
    clear hw3 hk3 hb3 hw4 e1 e2 e3 hfin
    generalize (wrun (L1 ++ FB ++ endBits)).1.length = NL at *
    go_wp2_with fail
    refine (bytes_calls _ _ _ _ _ HW4.out).mono ?_
    rintro r w4 ⟨rfl, rfl⟩
    go_wp2
    go_ret2
    exact HFIN.out
end Go.Proofs.Ytnpnaglgllcpfaa

/-! What the law's compressed answers: the stream too. -/
namespace Go.Proofs.Ytnpnaglgllcpfaa
set_option maxRecDepth 100000
open Go.RowKit

set_option maxHeartbeats 2000000 in
theorem compressed2_calls (f : List UInt8 → List Tok) (hf : Chosen f) (hP : ParseSaid f) (hC : CompressSaid f) (a : Option Addr) (data : List UInt8) (cap : Nat) (w : World) (hl : data.length ≤ 9223372036854775807) (hcap : data.length ≤ cap) (hb : BytesAt w a data) :
    Calls Try.prog 23 #[.slice a data.length cap] w fun e w' => Below w.heap.size w w' ∧ ∃ v, e = .returned (.tuple #[v, .bool true]) ∧ (data.length ≤ 2048 → OwnB w' w.heap.size v (streamOf f data)) := by
  have HB : Hid (BytesAt w a data) := hb
  have HF : Hid (Chosen f) := hf
  have HP : Hid (ParseSaid f) := hP
  have HC : Hid (CompressSaid f) := hC
  clear hb hf hP hC
  go_enter Try.func23, Try.ntmps23
  go_wp2_with fail
  refine (HC.out a data cap w hl hcap HB.out).mono ?_
  rintro e w1 ⟨hb1, ⟨hlong, ta, tc, rfl⟩ | ⟨hshort, v, rfl, hown⟩⟩
  · have HB1 : Hid (Below w.heap.size w w1) := hb1
    clear hb1
    go_wp2_with ((go_at_call 43; go_in))
    refine (compressedLong_calls a ta data cap tc _ hlong hl).mono ?_
    rintro e w2 ⟨rfl, rfl⟩
    go_wp2
    go_ret2
    exact ⟨HB1.out, _, rfl, fun h => by omega⟩
  · have HB1 : Hid (Below w.heap.size w w1) := hb1
    have HO1 : Hid (OwnB w1 w.heap.size v (streamOf f data)) := hown
    have hsm := own_max hown
    obtain ⟨so, sc, rfl⟩ := hown.form
    have HS1 : Hid (BytesAt w1 so (streamOf f data)) := ownB_bytes hown
    clear hb1 hown
    go_wp2_with ((go_at_call 43; go_in))
    refine (compressedRef_calls f HF.out a so data cap sc _ hshort hcap (bytesAt_below2 HB.out HB1.out) HS1.out hsm).mono ?_
    rintro e w2 ⟨hb2, rfl⟩
    have HB2 : Hid (Below w.heap.size w w2) := HB1.out.trans (hb2.mono HB1.out.size)
    have HS2 : Hid (BytesAt w2 so (streamOf f data)) := bytesAt_below2 HS1.out hb2
    have HO2 : Hid (OwnB w2 w.heap.size (.slice so (streamOf f data).length sc) (streamOf f data)) := OwnB.below HO1.out hb2
    obtain ⟨ends, hrd⟩ := stream_read HF.out data hshort
    have HRD : Hid _ := hrd
    clear hb2 hrd
    go_wp2_with fail
    refine (read_calls so (streamOf f data) sc w2 hsm HS2.out).mono ?_
    rintro e w3 ⟨hb3, rfl, L, n, vP, vD, vE, ht3, hl3⟩
    rw [HRD.out] at ht3 hl3
    have HB3 : Hid (Below w.heap.size w w3) := HB2.out.trans (hb3.mono HB2.out.size)
    have HO3 : Hid (OwnB w3 w.heap.size (.slice so (streamOf f data).length sc) (streamOf f data)) := OwnB.below HO2.out hb3
    obtain ⟨pa, pc, hvp, hpm, hat⟩ := hl3.at
    subst hvp
    have HAT : Hid (PiecesAt w3 pa (toksOf f data)) := hat
    obtain ⟨⟨d3, d4, d5⟩, _⟩ := ht3.lists
    have hcn : (toksOf f data).length = cutN data := toksOf_length f data
    have hc33 : cutN data ≤ 33 := by unfold cutN; omega
    rw [hcn] at d3
    have HD3 : Hid (w3.cell? ⟨w2.heap.size, 3, none⟩ = some (.slice pa (cutN data) pc)) := d3
    have HCN : Hid ((toksOf f data).length = cutN data) := hcn
    have hn1 : 64 * cutN data ≤ data.length + 63 := by unfold cutN; omega
    have hn2 : data.length ≤ 64 * cutN data := by unfold cutN; omega
    clear hb3 ht3 hl3 hat d3 d4 d5 hpm hcn
    generalize hNN : cutN data = N at *
    have HNN : Hid (cutN data = N) := hNN
    clear hNN
    generalize w2.heap.size = xq at *
    go_wp2_with fail
    go_loopg [8] N (fun g iv wr => ∃ k : Nat, k ≤ N ∧ g = N - k ∧ iv = .int .i64 k ∧ Hid (Below w3.heap.size w3 wr))
    case atStart => exact ⟨0, by omega, rfl, rfl, Below.refl _ _⟩
    case round =>
      obtain ⟨k, hk, hg, rfl, HBW⟩ := hrel
      have HG : Hid _ := hg
      have g3 := cell_kept HBW.out HD3.out
      clear hg
      by_cases hlt : k < N
      · obtain ⟨b, off, ha, hcell⟩ : ∃ b off, a = some ⟨b, off, none⟩ ∧ ∀ j, j < data.length → wr.cell? ⟨b, off + j, none⟩ = some (.int .u8 (data.getD j 0).toNat) := by
          rcases bytesAt_below2 HB.out (HB3.out.trans (HBW.out.mono HB3.out.size)) with h | h
          · exfalso
            rw [h] at hn1
            simp at hn1
            omega
          · exact h
        subst ha
        have HPT : Hid (BytesAt wr (some ⟨b, off + 64 * k, none⟩) (pieceAt data k)) := BytesAt.part hcell (64 * k) 64
        have hpl := pieceAt_length data k
        obtain ⟨pb, po, hpa, hpl2, hpc⟩ : ∃ pb po, pa = some ⟨pb, po, none⟩ ∧ pb < wr.heap.size ∧ ∀ i, i < (toksOf f data).length → ∃ ai ci, wr.cell? ⟨pb, po + i, none⟩ = some (.slice ai ((toksOf f data).getD i []).length ci) ∧ ((toksOf f data).getD i []).length ≤ 9223372036854775807 ∧ ToksAt wr ai ((toksOf f data).getD i []) := by
          rcases HAT.out.below HBW.out with h | h
          · exfalso
            have h1 := HCN.out
            rw [h] at h1
            simp at h1
            omega
          · exact h
        subst hpa
        obtain ⟨ai, ci, p1, p2, p3⟩ := hpc k (by rw [HCN.out]; exact hlt)
        rw [toksOf_getD f data k (by rw [HNN.out]; exact hlt)] at p1 p2 p3
        have HTK : Hid (ToksAt wr ai (f (pieceAt data k))) := p3
        clear hcell hpc p3
        by_cases hto : data.length < 64 * (k + 1)
        · have hto' : (data.length : Int) < ((k : Int) + 1) * 64 := by omega
          obtain ⟨K, hK⟩ : ∃ K : Nat, K = 64 * k := ⟨_, rfl⟩
          have hTK : (pieceAt data k).length = data.length - K := by omega
          have hple := piece_le data k
          have HPAR : Hid (∀ W, Below wr.heap.size wr W → Calls Try.prog 48 #[.slice (some ⟨b, off + K, none⟩) (data.length - K) (cap - K)] W fun e w' => Below W.heap.size W w' ∧ ∃ v, e = .returned (.tuple #[v, .int .i64 0]) ∧ TokRow w' W.heap.size v (f (pieceAt data k))) := fun W hW => by
            have h := HP.out (some ⟨b, off + K, none⟩) (pieceAt data k) (cap - K) W (by omega) (bytesAt_below2 (by rw [hK]; exact HPT.out) hW)
            rw [hTK] at h
            exact h.mono fun e w' hh => ⟨hh.1, by rcases hh.2 with h2 | h2; omega; exact h2.2⟩
          have hkK : IntKind.i64.wrap ((k : Int) * 64) = (K : Int) := by rw [wrapEq _ (by omega)]; omega
          have hkK2 : (k : Int) * 64 = (K : Int) := by omega
          have hb1 : (0 : Int) ≤ (K : Int) ∧ (K : Int) ≤ (data.length : Int) ∧ (data.length : Int) ≤ (cap : Int) := by omega
          have hb2 : ¬ (cap : Int) < (data.length : Int) := by omega
          have hb3 : ¬ (data.length : Int) < (K : Int) := by omega
          have hcK : ¬ cap = K := by omega
          have hkI : 0 ≤ (k : Int) ∧ (k : Int) < (N : Int) := by omega
          clear hK hTK
          go_wp2_with fail
          refine (HPAR.out wr (Below.refl _ _)).mono ?_
          rintro e w5 ⟨hb5, v, rfl, hrow⟩
          have HB5 : Hid (Below w3.heap.size w3 w5) := HBW.out.trans (hb5.mono HBW.out.size)
          have q3 := cell_kept hb5 g3
          have q1 := cell_kept hb5 p1
          have HTK5 : Hid (ToksAt w5 ai (f (pieceAt data k))) := HTK.out.below hb5
          obtain ⟨to, tc, rfl⟩ := hrow.form
          have HTS5 : Hid (ToksAt w5 to (f (pieceAt data k))) := TokRow.toks hrow
          clear hb5 hrow g3 p1
          generalize f (pieceAt data k) = ts at *
          go_wp2_with fail
          refine (sameTokens_calls to ai ts tc ci _ p2 HTS5.out HTK5.out).mono ?_
          rintro e w6 ⟨rfl, nd, rfl⟩
          have HB6 : Hid (Below w3.heap.size w3 (w5.drewN nd)) := below_drewN HB5.out nd
          clear q3 q1
          generalize w5.drewN nd = w6 at *
          go_wp2_with ((go_at_call 43; go_in))
          go_roundg (N - (k + 1))
          case measure => have := HG.out; omega
          case rel => exact ⟨k + 1, by omega, rfl, by go_num, HB6⟩
        · have hto' : ¬ (data.length : Int) < ((k : Int) + 1) * 64 := by omega
          obtain ⟨T, hT⟩ : ∃ T : Nat, T = 64 * (k + 1) := ⟨_, rfl⟩
          obtain ⟨K, hK⟩ : ∃ K : Nat, K = 64 * k := ⟨_, rfl⟩
          have hTK : (pieceAt data k).length = T - K := by omega
          have hple := piece_le data k
          have HPAR : Hid (∀ W, Below wr.heap.size wr W → Calls Try.prog 48 #[.slice (some ⟨b, off + K, none⟩) (T - K) (cap - K)] W fun e w' => Below W.heap.size W w' ∧ ∃ v, e = .returned (.tuple #[v, .int .i64 0]) ∧ TokRow w' W.heap.size v (f (pieceAt data k))) := fun W hW => by
            have h := HP.out (some ⟨b, off + K, none⟩) (pieceAt data k) (cap - K) W (by omega) (bytesAt_below2 (by rw [hK]; exact HPT.out) hW)
            rw [hTK] at h
            exact h.mono fun e w' hh => ⟨hh.1, by rcases hh.2 with h2 | h2; omega; exact h2.2⟩
          have hkK : IntKind.i64.wrap ((k : Int) * 64) = (K : Int) := by rw [wrapEq _ (by omega)]; omega
          have hkK2 : (k : Int) * 64 = (K : Int) := by omega
          have hb1 : (0 : Int) ≤ (K : Int) ∧ (K : Int) ≤ (T : Int) ∧ (T : Int) ≤ (cap : Int) := by omega
          have hb2 : ¬ (cap : Int) < (T : Int) := by omega
          have hb3 : ¬ (T : Int) < (K : Int) := by omega
          have hcK : ¬ cap = K := by omega
          have hkI : 0 ≤ (k : Int) ∧ (k : Int) < (N : Int) := by omega
          have HTE : Hid ((k + 1) * 64 = T) := by show _ = _; omega
          clear hT hK hTK
          go_wp2_with fail
          rw [HTE.out]
          refine (HPAR.out wr (Below.refl _ _)).mono ?_
          rintro e w5 ⟨hb5, v, rfl, hrow⟩
          have HB5 : Hid (Below w3.heap.size w3 w5) := HBW.out.trans (hb5.mono HBW.out.size)
          have q3 := cell_kept hb5 g3
          have q1 := cell_kept hb5 p1
          have HTK5 : Hid (ToksAt w5 ai (f (pieceAt data k))) := HTK.out.below hb5
          obtain ⟨to, tc, rfl⟩ := hrow.form
          have HTS5 : Hid (ToksAt w5 to (f (pieceAt data k))) := TokRow.toks hrow
          clear hb5 hrow g3 p1
          generalize f (pieceAt data k) = ts at *
          go_wp2_with fail
          refine (sameTokens_calls to ai ts tc ci _ p2 HTS5.out HTK5.out).mono ?_
          rintro e w6 ⟨rfl, nd, rfl⟩
          have HB6 : Hid (Below w3.heap.size w3 (w5.drewN nd)) := below_drewN HB5.out nd
          clear q3 q1
          generalize w5.drewN nd = w6 at *
          go_wp2_with ((go_at_call 43; go_in))
          go_roundg (N - (k + 1))
          case measure => have := HG.out; omega
          case rel => exact ⟨k + 1, by omega, rfl, by go_num, HB6⟩
      · have hlt' : ¬ (k : Int) < (N : Int) := by omega
        go_wp2
        go_ret2
        exact ⟨HB3.out.trans (HBW.out.mono HB3.out.size), _, rfl, OwnB.below HO3.out HBW.out⟩
end Go.Proofs.Ytnpnaglgllcpfaa

/-! The law's Encoder: what it holds, up to where a stream is certain, and a Write of it. -/
namespace Go.Proofs.Ytnpnaglgllcpfaa
set_option maxRecDepth 100000
open Go.RowKit

/-- The law's encoder in block cb: the Encoder, its data, what came out, was it closed. -/
abbrev EBox (w : World) (cb q : Nat) (vd vo : Value) (closed : Bool) : Prop := w.heap[cb]? = some (.cells #[.pointer (some ⟨q, 0, none⟩), vd, vo, .bool closed] 45 (0, 0))
theorem quad_cell {w : World} {q : Nat} {a b c d : Value} {t : TypeId} (h : w.heap[q]? = some (.cells #[a, b, c, d] t (0, 0))) :
    (w.cell? ⟨q, 0, none⟩ = some a ∧ w.cell? ⟨q, 1, none⟩ = some b ∧ w.cell? ⟨q, 2, none⟩ = some c ∧ w.cell? ⟨q, 3, none⟩ = some d) ∧ (w.frozen? ⟨q, 0, none⟩ = false ∧ w.frozen? ⟨q, 1, none⟩ = false ∧ w.frozen? ⟨q, 2, none⟩ = false ∧ w.frozen? ⟨q, 3, none⟩ = false) := by
  simp [World.cell?, World.frozen?, h]
/-- The law's encoder in block cb, which lies in the blocks F. -/
def LEnc (w : World) (cb : Nat) (F : List Nat) : Prop := ∃ (q : Nat) (vd vo : Value),
  (∃ d b, EBox w cb q vd vo false ∧ EncAt w q d b ∧ OwnB w 0 vd d ∧ OwnB w 0 vo (toBytes (sofar b d)) ∧ (∀ k, vd.ownBlock = some k → vo.ownBlock ≠ some k) ∧ F = cb :: q :: (vd.ownBlock.toList ++ vo.ownBlock.toList)) ∨
  (EBox w cb q vd vo true ∧ EncShut w q ∧ F = [cb, q])
theorem LEnc.lt {w : World} {cb : Nat} {F : List Nat} (h : LEnc w cb F) : cb ∈ F ∧ ∀ k ∈ F, k < w.heap.size := by
  obtain ⟨q, vd, vo, ⟨d, b, h1, h2, h3, h4, _, rfl⟩ | ⟨h1, ⟨_, _, _, h2⟩, rfl⟩⟩ := h
  · refine ⟨by simp, fun k hk => ?_⟩
    simp only [List.mem_cons, List.mem_append, Option.mem_toList] at hk
    rcases hk with rfl | rfl | hk | hk
    · exact (Array.getElem?_eq_some_iff.1 h1).1
    · exact h2.lt
    · exact (World.ownsRow.lt h3 k hk).2
    · exact (World.ownsRow.lt h4 k hk).2
  · refine ⟨by simp, fun k hk => ?_⟩
    simp only [List.mem_cons, List.not_mem_nil, or_false] at hk
    rcases hk with rfl | rfl
    · exact (Array.getElem?_eq_some_iff.1 h1).1
    · exact (Array.getElem?_eq_some_iff.1 h2).1
theorem LEnc.kept {w w' : World} {cb : Nat} {F G : List Nat} (h : LEnc w cb F) (k : KeptBut w w' G) (hF : ∀ i ∈ F, i ∉ G) : LEnc w' cb F := by
  have hlt := h.lt.2
  obtain ⟨q, vd, vo, ⟨d, b, h1, h2, h3, h4, h5, rfl⟩ | ⟨h1, ⟨x, y, z, h2⟩, rfl⟩⟩ := h
  · exact ⟨q, vd, vo, .inl ⟨d, b, (k.heap cb (hlt cb (by simp)) (hF cb (by simp))).trans h1, h2.kept (k.heap q (hlt q (by simp)) (hF q (by simp))), k.row h3 (fun b hb => hF b (by simp [hb])), k.row h4 (fun b hb => hF b (by simp [hb])), h5, rfl⟩⟩
  · exact ⟨q, vd, vo, .inr ⟨(k.heap cb (hlt cb (by simp)) (hF cb (by simp))).trans h1, ⟨x, y, z, (k.heap q (hlt q (by simp)) (hF q (by simp))).trans h2⟩, rfl⟩⟩

theorem ends_at {data : List UInt8} (n : Nat) (hn : n < data.length / 64) : ((List.range (cutN data)).map fun i => (24 + (frames (toksOf parseOf data) (i + 1)).length) / 8)[n]? = some ((24 + (frames (toksOf parseOf data) (n + 1)).length) / 8) := by
  have : n < cutN data := by unfold cutN; omega
  simp [this]

set_option maxHeartbeats 1000000 in
theorem certain_calls (sa da : Option Addr) (sc dc : Nat) (data : List UInt8) (w : World) (hd : data.length ≤ 2048) (hb : BytesAt w sa (streamOf parseOf data)) (hsm : (streamOf parseOf data).length ≤ 9223372036854775807) :
    Calls Try.prog 59 #[.slice sa (streamOf parseOf data).length sc, .slice da data.length dc] w fun e w' => e = .returned (.int .i64 (upTo parseOf data : Int)) ∧ Below w.heap.size w w' := by
  have HRC : Hid _ := read_calls sa (streamOf parseOf data) sc w hsm hb
  have HRD : Hid _ := stream_ends parse_chosen data hd
  clear hb
  go_enter Try.func59, Try.ntmps59
  go_wp2_with fail
  refine Calls.mono HRC.out ?_
  rintro r w1 ⟨hb1, rfl, L, n, vP, vD, vE, ht1, hl1⟩
  rw [HRD.out] at ht1 hl1
  have HB1 : Hid (Below w.heap.size w w1) := hb1
  obtain ⟨⟨_, _, t5⟩, _⟩ := ht1.lists
  have hqt : w.heap.size < w1.heap.size := ht1.lt
  have hE := hl1.ends
  simp only [List.length_map, List.length_range] at hE
  have hc2 : data.length / 64 ≤ cutN data := by unfold cutN; omega
  have hc3 : cutN data ≤ 32 := by unfold cutN; omega
  have HE : Hid _ := hE
  obtain ⟨eo, ec, rfl⟩ := row_form hE
  clear hb1 ht1 hl1 hE HRC HRD
  by_cases h0 : data.length / 64 = 0
  · have hu : upTo parseOf data = 3 := by
      unfold upTo fullBits
      rw [h0]; simp
    have h0b : ((data.length : Int) / 64 == 0) = true := by simp; omega
    go_wp2
    go_ret
    exact ⟨by rw [hu]; rfl, HB1.out⟩
  · obtain ⟨M, hM⟩ : ∃ M : Nat, data.length / 64 = M + 1 := ⟨data.length / 64 - 1, by omega⟩
    have hu : upTo parseOf data = (24 + (frames (toksOf parseOf data) (M + 1)).length) / 8 := by
      unfold upTo
      rw [← frames_full_is parse_chosen, hM]
    obtain ⟨g, he, hcell⟩ : ∃ g, eo = some ⟨g, 0, none⟩ ∧ w1.cell? ⟨g, M, none⟩ = some (.int .i64 (((24 + (frames (toksOf parseOf data) (M + 1)).length) / 8 : Nat) : Int)) := by
      rcases HE.out.2 with ⟨_, h2⟩ | ⟨g, cap, cur, h1, _, hg, _⟩
      · omega
      · simp at h1
        refine ⟨g, h1.1, ?_⟩
        have hadd : (⟨g, 0, none⟩ : Addr).add M = ⟨g, M, none⟩ := by unfold Addr.add; split <;> simp_all
        rw [← hadd]
        refine World.ownsRow.cells HE.out (g := g) (by rw [h1.1]; rfl) M _ ?_
        have hlt : M < cutN data := by omega
        simp [hlt]
    subst he
    have HU : Hid _ := hu
    generalize (24 + (frames (toksOf parseOf data) (M + 1)).length) / 8 = U at *
    have h0b : ((data.length : Int) / 64 == 0) = false := by simp; omega
    have h1b : ¬ (cutN data : Int) < (data.length : Int) / 64 := by omega
    have hMi : (data.length : Int) / 64 - 1 = (M : Int) := by omega
    have hMb : (0 : Int) ≤ (M : Int) ∧ (M : Int) < (cutN data : Int) := by omega
    clear hM h0 HE hu
    go_wp2
    go_ret
    exact ⟨by rw [HU.out]; rfl, HB1.out⟩

theorem own_cap {w : World} {B : Nat} {a : Option Addr} {cap : Nat} {out : List UInt8} (h : OwnB w B (.slice a out.length cap) out) : out.length ≤ cap ∧ (a = none → out.length = 0 ∧ cap = 0) := by
  rcases h.2 with ⟨h1, h2⟩ | ⟨g, c, cur, h1, _, _, hl, _⟩
  · simp at h1
    exact ⟨by omega, fun _ => ⟨h2, h1.2.2⟩⟩
  · simp at h1
    exact ⟨by omega, fun h => by rw [h1.1] at h; cases h⟩
theorem cellE_ne {w : World} {B n z k : Nat} {e t : TypeId} {v : Value} {xs : List Value} {cs : Array Value} {m : Nat × Nat} (h : w.ownsRow B e z v n xs) (hk : w.heap[k]? = some (.cells cs t m)) (hne : e ≠ t) : v.ownBlock ≠ some k := fun h' => by
  rcases h.2 with ⟨h2, _⟩ | ⟨g, cap, cur, h2, _, hg, _⟩
  · rw [h2] at h'; simp [Value.ownBlock] at h'
  · rw [h2] at h'
    simp [Value.ownBlock] at h'
    subst h'
    rw [hk] at hg
    simp at hg
    exact hne hg.2.1.symm

set_option maxHeartbeats 1000000 in
theorem goes_calls (cb q : Nat) (vd : Value) (closed : Bool) (oo yo so : Option Addr) (oc yc sc to : Nat) (O Y S : List UInt8) (w : World) (hbox : EBox w cb q vd (.slice oo O.length oc) closed) (ho : OwnB w 0 (.slice oo O.length oc) O) (hy : OwnB w 0 (.slice yo Y.length yc) Y) (hs : OwnB w 0 (.slice so S.length sc) S)
    (hne : ∀ k, (Value.slice oo O.length oc).ownBlock = some k → (Value.slice so S.length sc).ownBlock ≠ some k) (hto : to ≤ S.length) (heq : O ++ Y = S.take to) (hsl : S.length ≤ 100000) :
    Calls Try.prog 60 #[.pointer (some ⟨cb, 0, none⟩), .slice yo Y.length yc, .slice so S.length sc, .int .i64 (to : Int)] w fun e w' => e = .returned (.bool true) ∧ ∃ vo', EBox w' cb q vd vo' closed ∧ OwnB w' 0 vo' (O ++ Y) ∧ (vo'.ownBlock = (Value.slice oo O.length oc).ownBlock ∨ vo'.ownBlock = some w.heap.size) ∧ KeptBut w w' (cb :: (Value.slice oo O.length oc).ownBlock.toList) := by
  obtain ⟨⟨c0, c1, c2, c3⟩, f0, f1, f2, f3⟩ := quad_cell hbox
  have hlen := congrArg List.length heq
  rw [List.length_append, List.length_take] at hlen
  have hocb : (Value.slice oo O.length oc).ownBlock ≠ some cb := cellE_ne ho hbox (by decide)
  have hscb : (Value.slice so S.length sc).ownBlock ≠ some cb := cellE_ne hs hbox (by decide)
  have hcb := (Array.getElem?_eq_some_iff.1 hbox).1
  obtain ⟨hscap, hsnone⟩ := own_cap hs
  have HBOX : Hid _ := hbox
  have HO : Hid (OwnB w 0 (.slice oo O.length oc) O) := ho
  have HY : Hid (BytesAt w yo Y) := ownB_bytes hy
  have HYC : Hid _ := (own_cap hy).2
  have HS : Hid (OwnB w 0 (.slice so S.length sc) S) := hs
  have HNE : Hid _ := hne
  have HEQ : Hid _ := heq
  clear hbox ho hy hs hne heq
  go_enter Try.func60, Try.ntmps60
  go_wp2_with (at_builtin; refine wpList_append_at rfl _ _ rfl 0 _ O rfl HO.out yo Y yc rfl HY.out HYC.out ?b1 (Nat.zero_le _) ?_)
  case b1 => omega
  intro vo' w1 hvo hg1 hat
  obtain ⟨oo', oc', rfl⟩ := hvo.form
  have hb1 : EBox w1 cb q vd (.slice oo O.length oc) closed := (hg1.block cb hcb (fun h => hocb h.symm)).trans HBOX.out
  have hs1 : OwnB w1 0 (.slice so S.length sc) S := World.ownsRow.kept HS.out hg1 (by
    cases h : (Value.slice so S.length sc).ownBlock with
    | none => exact .inl rfl
    | some k => exact .inr (fun e => HNE.out k e.symm h))
  have hocb1 : (Value.slice oo' (O ++ Y).length oc').ownBlock ≠ some cb := cellE_ne hvo hb1 (by decide)
  obtain ⟨⟨c0, c1, c2, c3⟩, f0, f1, f2, f3⟩ := quad_cell hb1
  have hsz := hg1.size
  have HFIN : Hid (∀ nd, EBox ((w1.setCell ⟨cb, 2, none⟩ (.slice oo' (O ++ Y).length oc')).drewN nd) cb q vd (.slice oo' (O ++ Y).length oc') closed ∧ OwnB ((w1.setCell ⟨cb, 2, none⟩ (.slice oo' (O ++ Y).length oc')).drewN nd) 0 (.slice oo' (O ++ Y).length oc') (O ++ Y) ∧ ((Value.slice oo' (O ++ Y).length oc').ownBlock = (Value.slice oo O.length oc).ownBlock ∨ (Value.slice oo' (O ++ Y).length oc').ownBlock = some w.heap.size) ∧ KeptBut w ((w1.setCell ⟨cb, 2, none⟩ (.slice oo' (O ++ Y).length oc')).drewN nd) (cb :: (Value.slice oo O.length oc).ownBlock.toList)) := fun nd =>
    ⟨set_block (i := 2) hb1 _, hvo.set _ hocb1, hat, ((KeptBut.grown hg1 (fun k hk => by simp [hk])).set (by simp) _).trans (KeptBut.below (below_drewN (Below.refl _ _) _))⟩
  have k1 : ∀ n, (convert 22 9 (.slice oo' (O ++ Y).length oc')).run Try.prog ((w1.setCell ⟨cb, 2, none⟩ (.slice oo' (O ++ Y).length oc')).drewN n) = .ok (.string ⟨(O ++ Y).toArray⟩) ((w1.setCell ⟨cb, 2, none⟩ (.slice oo' (O ++ Y).length oc')).drewN n) := conv_drew (w := w1.setCell ⟨cb, 2, none⟩ (.slice oo' (O ++ Y).length oc')) (hvo.set _ hocb1)
  have k2 : ∀ n, (convert 22 9 (.slice so to sc)).run Try.prog ((w1.setCell ⟨cb, 2, none⟩ (.slice oo' (O ++ Y).length oc')).drewN n) = .ok (.string ⟨(O ++ Y).toArray⟩) ((w1.setCell ⟨cb, 2, none⟩ (.slice oo' (O ++ Y).length oc')).drewN n) := fun n => by
    have hbt : BytesAt ((w1.setCell ⟨cb, 2, none⟩ (.slice oo' (O ++ Y).length oc')).drewN n) so (S.take to) := by
      have hss : OwnB ((w1.setCell ⟨cb, 2, none⟩ (.slice oo' (O ++ Y).length oc')).drewN n) 0 (.slice so S.length sc) S := hs1.set _ hscb
      rcases ownB_bytes hss with h | ⟨b, off, h1, h2⟩
      · exact .inl (by rw [h]; simp)
      · have := BytesAt.part h2 0 to
        rw [List.drop_zero, Nat.add_zero] at this
        rw [h1]; exact this
    have := conv_bytes sc hbt
    rw [List.length_take, Nat.min_eq_left hto] at this
    rw [this, HEQ.out]
  have hb2 : (0 : Int) ≤ (to : Int) ∧ (to : Int) ≤ (sc : Int) := by omega
  have hb3 : (to : Int) ≤ (S.length : Int) := by omega
  have hb4 : ¬ (sc : Int) < (to : Int) := by omega
  clear hvo hg1 hat hb1 hs1 HBOX HO HY HYC HS HNE hlen
  generalize hOY : O ++ Y = OY at *
  have HOY : Hid (O ++ Y = OY) := hOY
  clear hOY
  rcases so with _ | sad
  · obtain ⟨hS0, rfl⟩ := hsnone rfl
    obtain rfl : to = 0 := by omega
    go_wp2_with fail
    go_quiet (fail)
    go_wp2
    go_ret
    exact ⟨rfl, _, by rw [HOY.out]; exact HFIN.out _⟩
  · clear hsnone
    go_wp2_with fail
    go_quiet (fail)
    go_wp2
    go_ret
    exact ⟨rfl, _, by rw [HOY.out]; exact HFIN.out _⟩
end Go.Proofs.Ytnpnaglgllcpfaa

/-! The law's Encoder: every Write of it. -/
namespace Go.Proofs.Ytnpnaglgllcpfaa
set_option maxRecDepth 100000
open Go.RowKit

/-- How the law's write ends. -/
def LWriteAns (w w' : World) (cb : Nat) (F : List Nat) (r : Ending) : Prop :=
  ∃ vy y F', r = .returned (.tuple #[vy, .bool true]) ∧ OwnB w' w.heap.size vy y ∧ LEnc w' cb F' ∧ (∀ k ∈ F', k ∈ F ∨ w.heap.size ≤ k) ∧ (∀ k, vy.ownBlock = some k → k ∉ F') ∧ KeptBut w w' F
theorem ebox_ne {w : World} {cb q : Nat} {vd vo : Value} {c : Bool} {cs : Array Value} (h : EBox w cb q vd vo c) (h1 : w.heap[q]? = some (.cells cs 90 (0, 0))) : cb ≠ q := by
  rintro rfl
  unfold EBox at h
  rw [h1] at h
  simp at h
/-- The blocks that the law's write leaves, of an open Encoder. -/
theorem lwrite_fin {w w1 w2 w5 W : World} {cb q : Nat} {vd vo vd' vo' vy : Value} {d D O O' Y : List UInt8} (hcb : cb < w.heap.size) (hq : q < w.heap.size) (hcq : cb ≠ q) (hvd : OwnB w 0 vd d) (hvo : OwnB w 0 vo O) (hne : ∀ k, vd.ownBlock = some k → vo.ownBlock ≠ some k) (hvdcb : vd.ownBlock ≠ some cb) (hvdq : vd.ownBlock ≠ some q) (hvocb : vo.ownBlock ≠ some cb) (hvoq : vo.ownBlock ≠ some q)
    (hk1 : OneKept w w1 q) (hg2 : w1.grownBy w2 vd.ownBlock) (hat2 : vd'.ownBlock = vd.ownBlock ∨ vd'.ownBlock = some w1.heap.size) (hvd2 : OwnB w2 0 vd' D) (hk5 : KeptBut w2 w5 [cb]) (hkW : KeptBut w5 W (cb :: vo.ownBlock.toList)) (hatW : vo'.ownBlock = vo.ownBlock ∨ vo'.ownBlock = some w5.heap.size)
    (hy : OwnB w1 w.heap.size vy Y) (hE : EncAt w1 q D true) (hbW : EBox W cb q vd' vo' false) (hvoW : OwnB W 0 vo' O') (hO : O' = toBytes (sofar true D)) :
    LWriteAns w W cb (cb :: q :: (vd.ownBlock.toList ++ vo.ownBlock.toList)) (.returned (.tuple #[vy, .bool true])) := by
  have hs1 := hk1.size
  have hs2 := hg2.size
  have hs5 := hk5.size
  have hdl : ∀ k, vd.ownBlock = some k → k < w.heap.size := fun k hk => (World.ownsRow.lt hvd k hk).2
  have hol : ∀ k, vo.ownBlock = some k → k < w.heap.size := fun k hk => (World.ownsRow.lt hvo k hk).2
  have hyb : ∀ k, vy.ownBlock = some k → w.heap.size ≤ k ∧ k < w1.heap.size := fun k hk => World.ownsRow.lt hy k hk
  have hd'l : ∀ k, vd'.ownBlock = some k → k < w2.heap.size := fun k hk => (World.ownsRow.lt hvd2 k hk).2
  have hd'cb : ∀ k, vd'.ownBlock = some k → k ≠ cb := fun k hk e => by
    subst e
    rcases hat2 with h | h
    · exact hvdcb (h.symm.trans hk)
    · rw [h] at hk; simp at hk; omega
  have hd'o : ∀ k, vd'.ownBlock = some k → vo.ownBlock ≠ some k := fun k hk e => by
    rcases hat2 with h | h
    · exact hne k (h.symm.trans hk) e
    · rw [h] at hk; simp at hk; have := hol k e; omega
  have hkF : KeptBut w W (cb :: q :: (vd.ownBlock.toList ++ vo.ownBlock.toList)) := by
    refine (((KeptBut.one hk1 (by simp)).step (KeptBut.grown (F := vd.ownBlock.toList) hg2 (fun k hk => by simp [hk])) (fun i hi => .inl (by simp at hi; simp [hi]))).step hk5 (fun i hi => .inl (by simp at hi; simp [hi]))).step hkW (fun i hi => .inl ?_)
    simp only [List.mem_cons, Option.mem_toList] at hi
    rcases hi with rfl | hi
    · simp
    · simp [hi]
  have hyW : OwnB W w.heap.size vy Y := by
    refine hkW.row (hk5.row (World.ownsRow.kept hy hg2 ?_) (fun b hb => by have := hyb b hb; simp; omega)) (fun b hb => ?_)
    · cases h : vy.ownBlock with
      | none => exact .inl rfl
      | some k => exact .inr (fun e => by have := hyb k h; have := hdl k e.symm; omega)
    · have h1 := hyb b hb
      simp only [List.mem_cons, Option.mem_toList, not_or]
      exact ⟨by omega, fun h => by have := hol b h; omega⟩
  have hdW : OwnB W 0 vd' D := by
    refine hkW.row (hk5.row hvd2 (fun b hb => by have := hd'cb b hb; simpa using this)) (fun b hb => ?_)
    simp only [List.mem_cons, Option.mem_toList, not_or]
    exact ⟨hd'cb b hb, hd'o b hb⟩
  have hEW : EncAt W q D true := by
    refine hE.kept ?_
    rw [hkW.heap q (by omega) (by simp only [List.mem_cons, Option.mem_toList, not_or]; exact ⟨Ne.symm hcq, hvoq⟩), hk5.heap q (by omega) (by simp; omega), hg2.block q (by omega) (fun e => hvdq e.symm)]
  subst hO
  refine ⟨vy, Y, cb :: q :: (vd'.ownBlock.toList ++ vo'.ownBlock.toList), rfl, hyW, ⟨q, vd', vo', .inl ⟨D, true, hbW, hEW, hdW, hvoW, fun k hk e => ?_, rfl⟩⟩, fun k hk => ?_, fun k hk => ?_, hkF⟩
  · rcases hatW with h | h
    · exact hd'o k hk (h.symm.trans e)
    · rw [h] at e; simp at e; have := hd'l k hk; omega
  · simp only [List.mem_cons, List.mem_append, Option.mem_toList] at hk
    rcases hk with rfl | rfl | hk | hk
    · exact .inl (by simp)
    · exact .inl (by simp)
    · rcases hat2 with h | h
      · left; have := h.symm.trans hk; simp [this]
      · rw [h] at hk; simp at hk; right; omega
    · rcases hatW with h | h
      · left; have := h.symm.trans hk; simp [this]
      · rw [h] at hk; simp at hk; right; omega
  · have h1 := hyb k hk
    simp only [List.mem_cons, List.mem_append, Option.mem_toList, not_or]
    refine ⟨by omega, by omega, fun h => ?_, fun h => ?_⟩
    · rcases hat2 with g | g
      · have := hdl k (g.symm.trans h); omega
      · rw [g] at h; simp at h; omega
    · rcases hatW with g | g
      · have := hol k (g.symm.trans h); omega
      · rw [g] at h; simp at h; omega

set_option maxHeartbeats 4000000 in
theorem lwrite_live (cb q : Nat) (vd vo : Value) (d p : List UInt8) (b : Bool) (pa : Option Addr) (pc : Nat) (w : World) (hbox : EBox w cb q vd vo false) (henc : EncAt w q d b) (hvd : OwnB w 0 vd d) (hvo : OwnB w 0 vo (toBytes (sofar b d))) (hne : ∀ k, vd.ownBlock = some k → vo.ownBlock ≠ some k)
    (hp : BytesAt w pa p) (hpc : pa = none → p.length = 0 ∧ pc = 0) (hpF : ∀ k off, pa = some ⟨k, off, none⟩ → k ∉ cb :: q :: (vd.ownBlock.toList ++ vo.ownBlock.toList)) (hl : d.length + p.length ≤ 2048) :
    Calls Try.prog 26 #[.pointer (some ⟨cb, 0, none⟩), .slice pa p.length pc] w fun r w' => LWriteAns w w' cb (cb :: q :: (vd.ownBlock.toList ++ vo.ownBlock.toList)) r := by
  obtain ⟨⟨c0, c1, c2, c3⟩, f0, f1, f2, f3⟩ := quad_cell hbox
  obtain ⟨pcs, hencb, _⟩ := id henc
  have hcq : cb ≠ q := ebox_ne hbox hencb
  have hcb := (Array.getElem?_eq_some_iff.1 hbox).1
  have hq := henc.lt
  have hvdcb : vd.ownBlock ≠ some cb := cellE_ne hvd hbox (by decide)
  have hvdq : vd.ownBlock ≠ some q := cellE_ne hvd hencb (by decide)
  have hvocb : vo.ownBlock ≠ some cb := cellE_ne hvo hbox (by decide)
  have hvoq : vo.ownBlock ≠ some q := cellE_ne hvo hencb (by decide)
  obtain ⟨ao, ac, rfl⟩ := hvd.form
  obtain ⟨oo, oc, rfl⟩ := hvo.form
  have HWR : Hid _ := ewrite_calls q d p b pa pc w henc hp (fun k off h e => hpF k off h (by simp [e])) hl
  have HBOX : Hid _ := hbox
  have HVD : Hid (OwnB w 0 (.slice ao d.length ac) d) := hvd
  have HVO : Hid (OwnB w 0 (.slice oo (toBytes (sofar b d)).length oc) (toBytes (sofar b d))) := hvo
  have HNE : Hid _ := hne
  have HPC : Hid _ := hpc
  have HPF : Hid _ := hpF
  have HP : Hid (BytesAt w pa p) := hp
  have H1 : Hid _ := hvdcb
  have H2 : Hid _ := hvdq
  have H3 : Hid _ := hvocb
  have H4 : Hid _ := hvoq
  clear hbox henc hvd hvo hne hpc hpF hp hencb hvdcb hvdq hvocb hvoq
  go_enter Try.func26, Try.ntmps26
  go_wp2_with fail
  refine Calls.mono HWR.out ?_
  rintro r w1 ⟨hk1, hE1, L, vy, rfl, hL, hy⟩
  obtain ⟨yo, yc, rfl⟩ := hy.form
  have hs1 := hk1.size
  have HK1 : Hid (OneKept w w1 q) := hk1
  have HE1 : Hid (EncAt w1 q (d ++ p) true) := hE1
  have HY1 : Hid (OwnB w1 w.heap.size (.slice yo (toBytes L).length yc) (toBytes L)) := hy
  have HL : Hid _ := hL
  have HB1 : Hid (EBox w1 cb q (.slice ao d.length ac) (.slice oo (toBytes (sofar b d)).length oc) false) := (hk1.heap cb hcb hcq).trans HBOX.out
  have HVD1 : Hid (OwnB w1 0 (.slice ao d.length ac) d) := World.ownsRow.kept HVD.out ⟨hk1.os, hk1.tape, hk1.output, hk1.size, fun k h1 h2 => hk1.heap k h1 (fun e => h2 (by rw [e]))⟩ (by cases h : (Value.slice ao d.length ac).ownBlock with | none => exact .inl rfl | some k => exact .inr (fun e => H2.out (h.trans e)))
  have HVO1 : Hid (OwnB w1 0 (.slice oo (toBytes (sofar b d)).length oc) (toBytes (sofar b d))) := World.ownsRow.kept HVO.out ⟨hk1.os, hk1.tape, hk1.output, hk1.size, fun k h1 h2 => hk1.heap k h1 (fun e => h2 (by rw [e]))⟩ (by cases h : (Value.slice oo (toBytes (sofar b d)).length oc).ownBlock with | none => exact .inl rfl | some k => exact .inr (fun e => H4.out (h.trans e)))
  have HP1 : Hid (BytesAt w1 pa p) := by
    rcases HP.out with h | ⟨b', off, h1, h2⟩
    · exact .inl h
    · refine .inr ⟨b', off, h1, fun i hi => ?_⟩
      rw [World.cell?_of_block (hk1.heap b' (World.block_lt_of_cell? w _ (h2 i hi)) (fun e => HPF.out b' off h1 (by simp [e])))]
      exact h2 i hi
  obtain ⟨⟨c0, c1, c2, c3⟩, f0, f1, f2, f3⟩ := quad_cell HB1.out
  have hcb1 : cb < w1.heap.size := by omega
  have hlb : ¬ (2048 : Int) < (d.length : Int) + (p.length : Int) := by omega
  have hdl : d.length ≤ 2048 := by omega
  clear HWR hk1 hE1 hL hy
  generalize hYY : toBytes L = Y at *
  generalize hOO : toBytes (sofar b d) = O at *
  have HYY : Hid _ := hYY
  have HOO : Hid _ := hOO
  clear hYY hOO
  go_wp2_with (at_builtin; refine wpList_append_at rfl _ _ rfl 0 _ d rfl HVD1.out pa p pc rfl HP1.out HPC.out ?b1 (Nat.zero_le _) ?_)
  case b1 => omega
  intro vd' w2 hvd2 hg2 hat2
  obtain ⟨ao', ac', rfl⟩ := hvd2.form
  have hs2 := hg2.size
  have hDl : (d ++ p).length ≤ 2048 := by rw [List.length_append]; exact hl
  have HB2 : Hid (EBox w2 cb q (.slice ao d.length ac) (.slice oo O.length oc) false) := (hg2.block cb hcb1 (fun h => H1.out h.symm)).trans HB1.out
  have HVO2 : Hid (OwnB w2 0 (.slice oo O.length oc) O) := World.ownsRow.kept HVO1.out hg2 (by
    cases h : (Value.slice oo O.length oc).ownBlock with
    | none => exact .inl rfl
    | some k => exact .inr (fun e => HNE.out k e.symm h))
  have hd'cb : (Value.slice ao' (d ++ p).length ac').ownBlock ≠ some cb := cellE_ne hvd2 HB2.out (by decide)
  have HB3 : Hid (EBox (w2.setCell ⟨cb, 1, none⟩ (.slice ao' (d ++ p).length ac')) cb q (.slice ao' (d ++ p).length ac') (.slice oo O.length oc) false) := set_block (i := 1) HB2.out _
  have HVD3 : Hid (OwnB (w2.setCell ⟨cb, 1, none⟩ (.slice ao' (d ++ p).length ac')) 0 (.slice ao' (d ++ p).length ac') (d ++ p)) := hvd2.set _ hd'cb
  have HVO3 : Hid (OwnB (w2.setCell ⟨cb, 1, none⟩ (.slice ao' (d ++ p).length ac')) 0 (.slice oo O.length oc) O) := HVO2.out.set _ H3.out
  have HK3 : Hid (KeptBut w2 (w2.setCell ⟨cb, 1, none⟩ (.slice ao' (d ++ p).length ac')) [cb]) := (KeptBut.refl _ _).set (by simp) _
  have hs3 : (w2.setCell ⟨cb, 1, none⟩ (.slice ao' (d ++ p).length ac')).heap.size = w2.heap.size := set_size _ _ _
  have HY2 : Hid (OwnB w2 w.heap.size (.slice yo Y.length yc) Y) := World.ownsRow.kept HY1.out hg2 (by
    cases h : (Value.slice yo Y.length yc).ownBlock with
    | none => exact .inl rfl
    | some k => exact .inr (fun e => by have h1 := World.ownsRow.lt HY1.out k h; have h2 := World.ownsRow.lt HVD.out k e.symm; omega))
  have HYCB : Hid ((Value.slice yo Y.length yc).ownBlock ≠ some cb) := fun e => by have h1 := World.ownsRow.lt HY1.out cb e; omega
  have HY3 : Hid (OwnB (w2.setCell ⟨cb, 1, none⟩ (.slice ao' (d ++ p).length ac')) w.heap.size (.slice yo Y.length yc) Y) := HY2.out.set _ HYCB.out
  have HVD2 : Hid (OwnB w2 0 (.slice ao' (d ++ p).length ac') (d ++ p)) := hvd2
  have HG2 : Hid _ := hg2
  have HAT2 : Hid _ := hat2
  have HCP : Hid _ := compressed2_calls parseOf parse_chosen parse_said compress_said ao' (d ++ p) ac' (w2.setCell ⟨cb, 1, none⟩ (.slice ao' (d ++ p).length ac')) (by omega) (own_cap HVD3.out).1 (ownB_bytes HVD3.out)
  obtain ⟨⟨c0, c1, c2, c3⟩, f0, f1, f2, f3⟩ := quad_cell HB2.out
  have hcb2 : cb < w2.heap.size := by omega
  clear hvd2 hg2 hat2
  generalize hDD : d ++ p = D at *
  have HDD : Hid _ := hDD
  clear hDD
  go_wp2_with fail
  refine Calls.mono HCP.out ?_
  generalize w2.setCell ⟨cb, 1, none⟩ (.slice ao' D.length ac') = w3 at *
  rintro r w4 ⟨hb4, vs, rfl, hvs⟩
  have hvs' := hvs hDl
  obtain ⟨so, sc, rfl⟩ := hvs'.form
  have hs4 := hb4.size
  have hs3' : w2.heap.size ≤ w3.heap.size := by omega
  have HS3 : Hid (w3.heap.size = w2.heap.size) := hs3
  have HS4 : Hid (OwnB w4 w3.heap.size (.slice so (streamOf parseOf D).length sc) (streamOf parseOf D)) := hvs'
  have HB4 : Hid (EBox w4 cb q (.slice ao' D.length ac') (.slice oo O.length oc) false) := (hb4.block cb (by omega)).trans HB3.out
  have HVO4 : Hid (OwnB w4 0 (.slice oo O.length oc) O) := OwnB.below HVO3.out hb4
  have HY4 : Hid (OwnB w4 w.heap.size (.slice yo Y.length yc) Y) := OwnB.below HY3.out hb4
  have HK4 : Hid (KeptBut w2 w4 [cb]) := HK3.out.step (KeptBut.below (F := []) hb4) (fun i hi => by simp at hi)
  obtain ⟨⟨c0, c1, c2, c3⟩, f0, f1, f2, f3⟩ := quad_cell HB4.out
  have hcb4 : cb < w4.heap.size := by omega
  have hSl : (streamOf parseOf D).length ≤ 100000 := by
    have h1 := frames_chosen parse_chosen D _ (Nat.le_refl _)
    unfold streamOf
    rw [toBytes_length]
    unfold streamBits
    rw [toksOf_length] at h1 ⊢
    simp only [List.length_append, magic_length, endBits_length]
    unfold cutN at *
    omega
  have HCT : Hid _ := certain_calls so ao' sc ac' D w4 hDl (ownB_bytes hvs') (by omega)
  clear hs3 hvs hvs' hb4 HCP HB3 HVD3 HVO3 HK3 HY3
  go_wp2_with (first | (go_at_call 43; go_in) | fail)
  refine Calls.mono HCT.out ?_
  rintro r w5 ⟨rfl, hb5⟩
  have hs5 := hb5.size
  obtain ⟨hto, htake⟩ := stream_take parse_chosen D
  have HOY : Hid (O ++ Y = toBytes (sofar true D)) := by
    show _ = _
    rw [← HOO.out, ← HYY.out, ← toBytes_append _ _ (sofar_full b d), HL.out]
    rfl
  have HB5 : Hid (EBox w5 cb q (.slice ao' D.length ac') (.slice oo O.length oc) false) := (hb5.block cb (by omega)).trans HB4.out
  have HK5 : Hid (KeptBut w2 w5 [cb]) := HK4.out.step (KeptBut.below (F := []) hb5) (fun i hi => by simp at hi)
  have HGO : Hid _ := goes_calls cb q (.slice ao' D.length ac') false oo yo so oc yc sc (upTo parseOf D) O Y (streamOf parseOf D) w5 HB5.out (OwnB.below HVO4.out hb5) (OwnB.le (OwnB.below HY4.out hb5) (Nat.zero_le _)) (OwnB.le (OwnB.below HS4.out hb5) (Nat.zero_le _)) (fun k hk e => by
    have h1 := (World.ownsRow.lt HS4.out k e).1
    have h2 := (World.ownsRow.lt HVO.out k hk).2
    omega) hto (by rw [HOY.out, htake]; rfl) hSl
  clear hb5 HCT htake hto
  generalize (streamOf parseOf D).length = SL at *
  generalize upTo parseOf D = U at *
  obtain ⟨⟨c0, c1, c2, c3⟩, f0, f1, f2, f3⟩ := quad_cell HB5.out
  go_wp2_with fail
  refine Calls.mono HGO.out ?_
  rintro r w6 ⟨rfl, vo', hb6, ho6, hat6, hk6⟩
  have HFF : Hid _ := lwrite_fin (cb := cb) (q := q) (W := w6) hcb hq hcq HVD.out HVO.out HNE.out H1.out H2.out H3.out H4.out HK1.out HG2.out HAT2.out HVD2.out HK5.out hk6 hat6 HY1.out HE1.out hb6 ho6 HOY.out
  clear hb6 ho6 hat6 hk6 HGO
  go_wp2
  go_ret2
  rw [HOO.out]
  exact HFF.out
end Go.Proofs.Ytnpnaglgllcpfaa

/-! The law's Encoder: every Write, every Close; an Encoder that is none. -/
namespace Go.Proofs.Ytnpnaglgllcpfaa
set_option maxRecDepth 100000
open Go.RowKit

set_option maxHeartbeats 1000000 in
theorem lwrite_long (cb q : Nat) (vd vo : Value) (d : List UInt8) (b : Bool) (pa : Option Addr) (pn pc : Nat) (w : World) (F : List Nat) (hL : LEnc w cb F) (hbox : EBox w cb q vd vo false) (henc : EncAt w q d b) (hvd : OwnB w 0 vd d) (hl : 2048 < d.length + pn) (hpn : pn ≤ 140737488355328) :
    Calls Try.prog 26 #[.pointer (some ⟨cb, 0, none⟩), .slice pa pn pc] w fun r w' => LWriteAns w w' cb F r := by
  obtain ⟨⟨c0, c1, c2, c3⟩, _⟩ := quad_cell hbox
  obtain ⟨ao, ac, rfl⟩ := hvd.form
  have HF : Hid _ := ewrite_long q d b pa pn pc w henc hl
  have hd : d.length ≤ 2048 := by obtain ⟨_, _, _, _, h, _⟩ := henc; exact h
  have HANS : Hid (∀ nd, LWriteAns w (w.drewN nd) cb F (.returned (.tuple #[.slice none 0 0, .bool true]))) := fun nd =>
    ⟨.slice none 0 0, [], F, rfl, World.ownsRow_nil _ _ _ _, hL.kept (KeptBut.below (F := []) (below_drewN (Below.refl _ _) _)) (fun i _ => by simp), fun k hk => .inl hk, fun k hk => by simp [Value.ownBlock] at hk, KeptBut.below (below_drewN (Below.refl _ _) _)⟩
  have hlb : (2048 : Int) < (d.length : Int) + (pn : Int) := by omega
  clear hbox henc hvd hL
  go_enter Try.func26, Try.ntmps26
  go_wp2_with fail
  refine Calls.mono HF.out ?_
  rintro r w1 ⟨rfl, rfl⟩
  clear HF
  go_wp2_with (first | (go_at_call 43; go_in) | fail)
  go_wp2
  go_ret2
  exact HANS.out 0
set_option maxHeartbeats 1000000 in
theorem lwrite_shut (cb q : Nat) (vd vo : Value) (pa : Option Addr) (pn pc : Nat) (w : World) (F : List Nat) (hL : LEnc w cb F) (hbox : EBox w cb q vd vo true) (henc : EncShut w q) :
    Calls Try.prog 26 #[.pointer (some ⟨cb, 0, none⟩), .slice pa pn pc] w fun r w' => LWriteAns w w' cb F r := by
  obtain ⟨⟨c0, c1, c2, c3⟩, _⟩ := quad_cell hbox
  have HF : Hid _ := ewrite_shut q pa pn pc w henc
  have HANS : Hid (∀ nd, LWriteAns w (w.drewN nd) cb F (.returned (.tuple #[.slice none 0 0, .bool true]))) := fun nd =>
    ⟨.slice none 0 0, [], F, rfl, World.ownsRow_nil _ _ _ _, hL.kept (KeptBut.below (F := []) (below_drewN (Below.refl _ _) _)) (fun i _ => by simp), fun k hk => .inl hk, fun k hk => by simp [Value.ownBlock] at hk, KeptBut.below (below_drewN (Below.refl _ _) _)⟩
  clear hbox henc hL
  go_enter Try.func26, Try.ntmps26
  go_wp2_with fail
  refine Calls.mono HF.out ?_
  rintro r w1 ⟨rfl, rfl⟩
  clear HF
  go_wp2_with (first | (go_at_call 43; go_in) | fail)
  go_wp2
  go_ret2
  exact HANS.out 0
/-- Every Write of the law's Encoder. -/
theorem lwrite_calls (cb : Nat) (F : List Nat) (p : List UInt8) (pa : Option Addr) (pc : Nat) (w : World) (h : LEnc w cb F) (hp : BytesAt w pa p) (hpc : pa = none → p.length = 0 ∧ pc = 0) (hpl : p.length ≤ 140737488355328) (hpF : ∀ k off, pa = some ⟨k, off, none⟩ → k ∉ F) :
    Calls Try.prog 26 #[.pointer (some ⟨cb, 0, none⟩), .slice pa p.length pc] w fun r w' => LWriteAns w w' cb F r := by
  have h' := h
  obtain ⟨q, vd, vo, ⟨d, b, h1, h2, h3, h4, h5, rfl⟩ | ⟨h1, h2, rfl⟩⟩ := h
  · by_cases hl : d.length + p.length ≤ 2048
    · exact lwrite_live cb q vd vo d p b pa pc w h1 h2 h3 h4 h5 hp hpc hpF hl
    · exact lwrite_long cb q vd vo d b pa p.length pc w _ h' h1 h2 h3 (by omega) hpl
  · exact lwrite_shut cb q vd vo pa p.length pc w _ h' h1 h2

set_option maxHeartbeats 2000000 in
theorem lshut_live (cb q : Nat) (vd vo : Value) (d : List UInt8) (b : Bool) (w : World) (hbox : EBox w cb q vd vo false) (henc : EncAt w q d b) (hvd : OwnB w 0 vd d) (hvo : OwnB w 0 vo (toBytes (sofar b d))) (hne : ∀ k, vd.ownBlock = some k → vo.ownBlock ≠ some k) :
    Calls Try.prog 27 #[.pointer (some ⟨cb, 0, none⟩)] w fun r w' => LWriteAns w w' cb (cb :: q :: (vd.ownBlock.toList ++ vo.ownBlock.toList)) r := by
  obtain ⟨⟨c0, c1, c2, c3⟩, f0, f1, f2, f3⟩ := quad_cell hbox
  obtain ⟨pcs, hencb, _, _, hdl, _⟩ := id henc
  have hcq : cb ≠ q := ebox_ne hbox hencb
  have hcb := (Array.getElem?_eq_some_iff.1 hbox).1
  have hq := henc.lt
  have hvdcb : vd.ownBlock ≠ some cb := cellE_ne hvd hbox (by decide)
  have hvdq : vd.ownBlock ≠ some q := cellE_ne hvd hencb (by decide)
  have hvocb : vo.ownBlock ≠ some cb := cellE_ne hvo hbox (by decide)
  have hvoq : vo.ownBlock ≠ some q := cellE_ne hvo hencb (by decide)
  obtain ⟨ao, ac, rfl⟩ := hvd.form
  obtain ⟨oo, oc, rfl⟩ := hvo.form
  have HCL : Hid _ := eclose_calls q d b w henc
  have HBOX : Hid _ := hbox
  have HVD : Hid (OwnB w 0 (.slice ao d.length ac) d) := hvd
  have HVO : Hid (OwnB w 0 (.slice oo (toBytes (sofar b d)).length oc) (toBytes (sofar b d))) := hvo
  have HNE : Hid _ := hne
  have H1 : Hid _ := hvdcb
  have H2 : Hid _ := hvdq
  have H3 : Hid _ := hvocb
  have H4 : Hid _ := hvoq
  clear hbox henc hvd hvo hne hencb hvdcb hvdq hvocb hvoq
  go_enter Try.func27, Try.ntmps27
  go_wp2_with fail
  refine Calls.mono HCL.out ?_
  rintro r w1 ⟨hk1, hE1, L, vy, rfl, hL, hy⟩
  obtain ⟨yo, yc, rfl⟩ := hy.form
  have hs1 := hk1.size
  have HK1 : Hid (OneKept w w1 q) := hk1
  have HE1 : Hid (EncShut w1 q) := hE1
  have HY1 : Hid (OwnB w1 w.heap.size (.slice yo (toBytes L).length yc) (toBytes L)) := hy
  have HL : Hid _ := hL
  have HB1 : Hid (EBox w1 cb q (.slice ao d.length ac) (.slice oo (toBytes (sofar b d)).length oc) false) := (hk1.heap cb hcb hcq).trans HBOX.out
  have HVD1 : Hid (OwnB w1 0 (.slice ao d.length ac) d) := World.ownsRow.kept HVD.out ⟨hk1.os, hk1.tape, hk1.output, hk1.size, fun k h1 h2 => hk1.heap k h1 (fun e => h2 (by rw [e]))⟩ (by cases h : (Value.slice ao d.length ac).ownBlock with | none => exact .inl rfl | some k => exact .inr (fun e => H2.out (h.trans e)))
  have HVO1 : Hid (OwnB w1 0 (.slice oo (toBytes (sofar b d)).length oc) (toBytes (sofar b d))) := World.ownsRow.kept HVO.out ⟨hk1.os, hk1.tape, hk1.output, hk1.size, fun k h1 h2 => hk1.heap k h1 (fun e => h2 (by rw [e]))⟩ (by cases h : (Value.slice oo (toBytes (sofar b d)).length oc).ownBlock with | none => exact .inl rfl | some k => exact .inr (fun e => H4.out (h.trans e)))
  obtain ⟨⟨c0, c1, c2, c3⟩, f0, f1, f2, f3⟩ := quad_cell HB1.out
  have hcb1 : cb < w1.heap.size := by omega
  clear HCL hk1 hE1 hL hy
  generalize hYY : toBytes L = Y at *
  generalize hOO : toBytes (sofar b d) = O at *
  have HYY : Hid _ := hYY
  have HOO : Hid _ := hOO
  clear hYY hOO
  have HB3 : Hid (EBox (w1.setCell ⟨cb, 3, none⟩ (.bool true)) cb q (.slice ao d.length ac) (.slice oo O.length oc) true) := set_block (i := 3) HB1.out _
  have HVD3 : Hid (OwnB (w1.setCell ⟨cb, 3, none⟩ (.bool true)) 0 (.slice ao d.length ac) d) := HVD1.out.set _ H1.out
  have HVO3 : Hid (OwnB (w1.setCell ⟨cb, 3, none⟩ (.bool true)) 0 (.slice oo O.length oc) O) := HVO1.out.set _ H3.out
  have HYCB : Hid ((Value.slice yo Y.length yc).ownBlock ≠ some cb) := fun e => by have h1 := World.ownsRow.lt HY1.out cb e; omega
  have HY3 : Hid (OwnB (w1.setCell ⟨cb, 3, none⟩ (.bool true)) w.heap.size (.slice yo Y.length yc) Y) := HY1.out.set _ HYCB.out
  have HK3 : Hid (KeptBut w1 (w1.setCell ⟨cb, 3, none⟩ (.bool true)) [cb]) := (KeptBut.refl _ _).set (by simp) _
  have hs3 : (w1.setCell ⟨cb, 3, none⟩ (.bool true)).heap.size = w1.heap.size := set_size _ _ _
  have HCP : Hid _ := compressed2_calls parseOf parse_chosen parse_said compress_said ao d ac (w1.setCell ⟨cb, 3, none⟩ (.bool true)) (by omega) (own_cap HVD3.out).1 (ownB_bytes HVD3.out)
  go_wp2_with fail
  refine Calls.mono HCP.out ?_
  generalize w1.setCell ⟨cb, 3, none⟩ (.bool true) = w3 at *
  rintro r w4 ⟨hb4, vs, rfl, hvs⟩
  have hvs' := hvs hdl
  obtain ⟨so, sc, rfl⟩ := hvs'.form
  have hs4 := hb4.size
  have hs3' : w1.heap.size ≤ w3.heap.size := by omega
  have HS4 : Hid (OwnB w4 w3.heap.size (.slice so (streamOf parseOf d).length sc) (streamOf parseOf d)) := hvs'
  have HB4 : Hid (EBox w4 cb q (.slice ao d.length ac) (.slice oo O.length oc) true) := (hb4.block cb (by omega)).trans HB3.out
  have HVO4 : Hid (OwnB w4 0 (.slice oo O.length oc) O) := OwnB.below HVO3.out hb4
  have HY4 : Hid (OwnB w4 w.heap.size (.slice yo Y.length yc) Y) := OwnB.below HY3.out hb4
  have HK4 : Hid (KeptBut w1 w4 [cb]) := HK3.out.step (KeptBut.below (F := []) hb4) (fun i hi => by simp at hi)
  obtain ⟨⟨c0, c1, c2, c3⟩, f0, f1, f2, f3⟩ := quad_cell HB4.out
  have hcb4 : cb < w4.heap.size := by omega
  have hSl : (streamOf parseOf d).length ≤ 100000 := by
    have h1 := frames_chosen parse_chosen d _ (Nat.le_refl _)
    unfold streamOf
    rw [toBytes_length]
    unfold streamBits
    rw [toksOf_length] at h1 ⊢
    simp only [List.length_append, magic_length, endBits_length]
    unfold cutN at *
    omega
  have HOY : Hid (O ++ Y = streamOf parseOf d) := by
    show _ = _
    rw [← HOO.out, ← HYY.out, ← toBytes_append _ _ (sofar_full b d), HL.out]
    rfl
  have HGO : Hid _ := goes_calls cb q (.slice ao d.length ac) true oo yo so oc yc sc (streamOf parseOf d).length O Y (streamOf parseOf d) w4 HB4.out HVO4.out (OwnB.le HY4.out (Nat.zero_le _)) (OwnB.le HS4.out (Nat.zero_le _)) (fun k hk e => by
    have h1 := (World.ownsRow.lt HS4.out k e).1
    have h2 := (World.ownsRow.lt HVO.out k hk).2
    omega) (Nat.le_refl _) (by rw [HOY.out, List.take_length]) hSl
  clear hs3 hvs hvs' hb4 HCP HB3 HVD3 HVO3 HK3 HY3
  generalize (streamOf parseOf d).length = SL at *
  go_wp2_with (first | (go_at_call 43; go_in) | fail)
  refine Calls.mono HGO.out ?_
  rintro r w6 ⟨rfl, vo', hb6, ho6, hat6, hk6⟩
  have HFF : Hid (LWriteAns w w6 cb (cb :: q :: ((Value.slice ao d.length ac).ownBlock.toList ++ (Value.slice oo O.length oc).ownBlock.toList)) (.returned (.tuple #[.slice yo Y.length yc, .bool true]))) := by
    have hyb : ∀ k, (Value.slice yo Y.length yc).ownBlock = some k → w.heap.size ≤ k ∧ k < w1.heap.size := fun k hk => World.ownsRow.lt HY1.out k hk
    have hol : ∀ k, (Value.slice oo O.length oc).ownBlock = some k → k < w.heap.size := fun k hk => (World.ownsRow.lt HVO.out k hk).2
    refine ⟨_, Y, [cb, q], rfl, hk6.row HY4.out (fun k hk => ?_), ⟨q, _, vo', .inr ⟨hb6, ?_, rfl⟩⟩, fun k hk => .inl ?_, fun k hk => ?_, ((KeptBut.one HK1.out (by simp)).step HK4.out (fun i hi => .inl (by simp at hi; simp [hi]))).step hk6 (fun i hi => .inl ?_)⟩
    · have := hyb k hk
      simp only [List.mem_cons, Option.mem_toList, not_or]
      exact ⟨by omega, fun h => by have := hol k h; omega⟩
    · obtain ⟨x, y, z, hx⟩ := HE1.out
      refine ⟨x, y, z, ?_⟩
      show w6.heap[q]? = _
      rw [hk6.heap q (by omega) (by simp only [List.mem_cons, Option.mem_toList, not_or]; exact ⟨Ne.symm hcq, H4.out⟩), HK4.out.heap q (by omega) (by simp; omega)]
      exact hx
    · simp at hk
      rcases hk with rfl | rfl <;> simp
    · have := hyb k hk
      simp; omega
    · simp only [List.mem_cons, Option.mem_toList] at hi
      rcases hi with rfl | hi
      · simp
      · simp [hi]
  clear hb6 ho6 hat6 hk6 HGO
  go_wp2
  go_ret2
  rw [HOO.out]
  exact HFF.out
set_option maxHeartbeats 1000000 in
theorem lshut_shut (cb q : Nat) (vd vo : Value) (w : World) (F : List Nat) (hL : LEnc w cb F) (hbox : EBox w cb q vd vo true) (henc : EncShut w q) :
    Calls Try.prog 27 #[.pointer (some ⟨cb, 0, none⟩)] w fun r w' => LWriteAns w w' cb F r := by
  obtain ⟨⟨c0, c1, c2, c3⟩, _⟩ := quad_cell hbox
  have HF : Hid _ := eclose_shut q w henc
  have HANS : Hid (∀ nd, LWriteAns w (w.drewN nd) cb F (.returned (.tuple #[.slice none 0 0, .bool true]))) := fun nd =>
    ⟨.slice none 0 0, [], F, rfl, World.ownsRow_nil _ _ _ _, hL.kept (KeptBut.below (F := []) (below_drewN (Below.refl _ _) _)) (fun i _ => by simp), fun k hk => .inl hk, fun k hk => by simp [Value.ownBlock] at hk, KeptBut.below (below_drewN (Below.refl _ _) _)⟩
  clear hbox henc hL
  go_enter Try.func27, Try.ntmps27
  go_wp2_with fail
  refine Calls.mono HF.out ?_
  rintro r w1 ⟨rfl, rfl⟩
  clear HF
  go_wp2_with (first | (go_at_call 43; go_in) | fail)
  go_wp2
  go_ret2
  exact HANS.out 0
/-- Every Close of the law's Encoder. -/
theorem lshut_calls (cb : Nat) (F : List Nat) (w : World) (h : LEnc w cb F) :
    Calls Try.prog 27 #[.pointer (some ⟨cb, 0, none⟩)] w fun r w' => LWriteAns w w' cb F r := by
  have h' := h
  obtain ⟨q, vd, vo, ⟨d, b, h1, h2, h3, h4, h5, rfl⟩ | ⟨h1, h2, rfl⟩⟩ := h
  · exact lshut_live cb q vd vo d b w h1 h2 h3 h4 h5
  · exact lshut_shut cb q vd vo w _ h' h1 h2
end Go.Proofs.Ytnpnaglgllcpfaa

/-! A slice of texts that came in: what it reads as, and the texts in memory. -/
namespace Go.Proofs.Ytnpnaglgllcpfaa
set_option maxRecDepth 100000
open Go.ChangeShapes Go.WideShapes Go.ChangeAt Go.RowKit Go.Deep

/-- Texts lie in memory, at a. -/
def StrsAt (w : World) (a : Option Addr) (l : List ByteArray) : Prop :=
  l = [] ∨ ∃ b off, a = some ⟨b, off, none⟩ ∧ b < w.heap.size ∧ ∀ i (hi : i < l.length), w.cell? ⟨b, off + i, none⟩ = some (.string l[i]) ∧ l[i].size ≤ 9223372036854775807
theorem StrsAt.below {w w' : World} {a : Option Addr} {l : List ByteArray} (h : StrsAt w a l) (hb : Below w.heap.size w w') : StrsAt w' a l := by
  rcases h with h | ⟨b, off, h1, h2, h⟩
  · exact .inl h
  · exact .inr ⟨b, off, h1, Nat.lt_of_lt_of_le h2 hb.size, fun i hi => by rw [hb.cell (p := ⟨b, _, none⟩) h2]; exact h i hi⟩

theorem cellsStr : Try.prog.cellsOf 9 = 1 := by kernel_rfl
theorem open_texts {H : Type} {enc : TypeId × Value → H} {w : World} {base : Nat} {spare : Nat → Bool} {held : Bool} {fuel : Nat} {cs : List Value} {x : DataW H × List MemPlace} (h : DataW.trod enc Try.prog w base spare held fuel 40 cs = some x) :
    ∃ (a : Option Addr) (cap : Nat) (l : List ByteArray), cs = [.slice a l.length cap] ∧ l.length ≤ 9223372036854775807 ∧ StrsAt w a l := by
  rcases open_strs Try.underlying40 Try.underlying9 cellsStr h with ⟨rfl, _⟩ | ⟨a, len, cap, m, Sx, rfl, hb, hl, hm, hmm, _, hx⟩
  · exact ⟨none, 0, [], rfl, by simp, .inl rfl⟩
  · have hlm : len ≤ m := by rw [hmm]; split <;> omega
    have hlen : ((List.range len).map Sx).length = len := by simp
    refine ⟨some a, cap, (List.range len).map Sx, by rw [hlen], by rw [hlen]; unfold maxLen at hm; omega, ?_⟩
    rcases Nat.eq_zero_or_pos len with h0 | h0
    · subst h0; exact .inl rfl
    · obtain ⟨b, off, spot⟩ := a
      have hs : spot = none := by simpa [Addr.add] using World.cell?_spot (hx 0 (by omega)).1
      subst hs
      have hadd : ∀ j, (⟨b, off, none⟩ : Addr).add j = ⟨b, off + j, none⟩ := fun j => by unfold Addr.add; split <;> simp_all
      refine .inr ⟨b, off, rfl, ?_, fun i hi => ?_⟩
      · have := World.block_lt_of_cell? w _ (hx 0 (by omega)).1
        simpa [Addr.add] using this
      · have hi' : i < len := by simpa using hi
        have := hx i (by omega)
        rw [hadd] at this
        simp only [List.getElem_map, List.getElem_range]
        refine ⟨this.1, ?_⟩
        have h2 := this.2
        unfold maxLen at h2
        omega
end Go.Proofs.Ytnpnaglgllcpfaa

/-! The law Writes, of texts in memory. -/
namespace Go.Proofs.Ytnpnaglgllcpfaa
set_option maxRecDepth 100000
open Go.RowKit

set_option maxHeartbeats 2000000 in
theorem unmade_calls (pa : Option Addr) (pn pc : Nat) (w : World) :
    Calls Try.prog 24 #[.slice pa pn pc] w fun r w' => r = .returned (.bool true) ∧ Below w.heap.size w w' := by
  go_enter Try.func24, Try.ntmps24
  go_wp2_with fail
  refine (ewrite_nil pa pn pc w).mono ?_
  rintro r w1 ⟨rfl, rfl⟩
  go_wp2_with fail
  refine (eclose_nil w1).mono ?_
  rintro r w2 ⟨rfl, rfl⟩
  have HB : Hid (EncShut (w2.alloc (.cells Try.zeroCells90 90)) w2.heap.size) := ⟨false, 0, List.replicate 64 0, by show _ = _; rw [← zeroEnc]; exact heap_alloc_new w2 _⟩
  go_wp2_with fail
  refine (ewrite_shut w2.heap.size pa pn pc _ HB.out).mono ?_
  rintro r w3 ⟨rfl, rfl⟩
  go_wp2_with fail
  refine (eclose_shut w2.heap.size _ HB.out).mono ?_
  rintro r w4 ⟨rfl, rfl⟩
  have HBL : Hid (Below w2.heap.size w2 (w2.alloc (.cells Try.zeroCells90 90))) := (Below.refl _ _).alloc (Nat.le_refl _) _
  clear HB
  generalize w2.alloc (.cells Try.zeroCells90 90) = w5 at *
  go_wp2_with (first | (go_at_call 43; go_in) | fail)
  go_wp2
  go_ret
  exact ⟨rfl, HBL.out⟩

theorem LEnc.new {w : World} {cb q : Nat} (h1 : EBox w cb q (.slice none 0 0) (.slice none 0 0) false) (h2 : EncAt w q [] false) : LEnc w cb [cb, q] :=
  ⟨q, .slice none 0 0, .slice none 0 0, .inl ⟨[], false, h1, h2, World.ownsRow_nil _ _ _ _, World.ownsRow_nil _ _ _ _, fun k hk => by simp [Value.ownBlock] at hk, by simp [Value.ownBlock]⟩⟩

theorem keptBelowE {w wr w' : World} {F : List Nat} {B : Nat} (h : Below B w wr) (hB : B ≤ wr.heap.size) (k : KeptBut wr w' F) (hF : ∀ i ∈ F, B ≤ i) : Below B w w' :=
  h.trans ⟨k.os, k.tape, k.output, k.size, fun i hi => k.heap i (by omega) (fun hm => by have := hF i hm; omega)⟩

set_option maxHeartbeats 1000000 in
theorem writesLaw_calls (ca : Option Addr) (raw : List ByteArray) (cc : Nat) (k : Int) (w : World) (hrl : raw.length ≤ 9223372036854775807) (hr : StrsAt w ca raw) (hsz : ∀ i (hi : i < raw.length), raw[i].size ≤ 140737488355328) :
    Calls Try.prog 11 #[.slice ca raw.length cc, .int .i64 k] w fun r w' => r = .returned (.bool true) ∧ Below w.heap.size w w' := by
  have HR : Hid (StrsAt w ca raw) := hr
  have HSZ : Hid (∀ i (hi : i < raw.length), raw[i].size ≤ 140737488355328) := hsz
  clear hr hsz
  have kc := fun (w : World) (C : Array Value) (n c : Nat) => Lib.run_convert_bytes_const (P := Try.prog) w 22 5 C n c Try.underlying22 Try.underlying5
  go_enter Try.func11, Try.ntmps11
  go_wp2_with fail
  refine (unmade_calls _ _ _ _).mono ?_
  rintro r w1 ⟨rfl, hb1⟩
  have HB1 : Hid (Below w.heap.size w w1) := ((Below.refl _ _).alloc (Nat.le_refl _) _).trans (hb1.mono (by simp))
  clear hb1 kc
  go_wp2_with fail
  refine (newEncoder_calls w1).mono ?_
  rintro r w2 ⟨rfl, hb2, hs2, hd2⟩
  have hs1 := HB1.out.size
  have HB2 : Hid (Below w.heap.size w w2) := HB1.out.trans (hb2.mono hs1)
  have HL3 : Hid (LEnc (w2.alloc (.cells #[.pointer (some ⟨w1.heap.size, 0, none⟩), .slice none 0 0, .slice none 0 0, .bool false] 45)) w2.heap.size [w2.heap.size, w1.heap.size]) :=
    LEnc.new (heap_alloc_new w2 _) (hd2.kept (Below.heap_alloc _ _ _ (by omega)))
  have HB3 : Hid (Below w.heap.size w (w2.alloc (.cells #[.pointer (some ⟨w1.heap.size, 0, none⟩), .slice none 0 0, .slice none 0 0, .bool false] 45))) := HB2.out.alloc (by omega) _
  clear hb2 hd2
  go_wp2_with fail
  generalize w2.alloc (.cells #[.pointer (some ⟨w1.heap.size, 0, none⟩), .slice none 0 0, .slice none 0 0, .bool false] 45) = w3 at *
  rw [hs2] at HL3
  have hcb : w.heap.size ≤ w1.heap.size + 1 := by omega
  have HX : Hid (w.heap.size ≤ w1.heap.size) := hs1
  clear hs2
  generalize w1.heap.size + 1 = cb at *
  go_loopg [5, 8] raw.length (fun g _ iv wr => ∃ (j : Nat) (F : List Nat), j ≤ raw.length ∧ g = raw.length - j ∧ iv = .int .i64 j ∧ Hid (LEnc wr cb F) ∧ Hid (∀ i ∈ F, w.heap.size ≤ i) ∧ Hid (Below w.heap.size w wr))
  case atStart => exact ⟨0, [cb, w1.heap.size], by omega, rfl, rfl, HL3, fun i hi => by simp at hi; omega, HB3⟩
  case round =>
    clear HL3 HB3
    obtain ⟨j, F, hj, hg, rfl, HL, HFB, HBW⟩ := hrel
    have HG : Hid _ := hg
    have hsw := HBW.out.size
    clear hg
    by_cases hlt : j < raw.length
    · obtain ⟨b, off, rfl, hbl, hcell⟩ : ∃ b off, ca = some ⟨b, off, none⟩ ∧ b < w.heap.size ∧ wr.cell? ⟨b, off + j, none⟩ = some (.string raw[j]) := by
        rcases HR.out with h | ⟨b, off, h1, h2, h3⟩
        · subst h; simp at hlt
        · exact ⟨b, off, h1, h2, by rw [HBW.out.cell (p := ⟨b, _, none⟩) h2]; exact (h3 j hlt).1⟩
      have hss := HSZ.out j hlt
      generalize raw[j] = s at *
      have hconv := fun wx => run_bytes_of_string (P := Try.prog) wx 9 22 5 s Try.underlying9 Try.underlying22 Try.underlying5
      have HSL : Hid (s.data.toList.length = s.size) := rfl
      have HCALL : Hid _ := lwrite_calls cb F s.data.toList (some ⟨wr.heap.size, 0, none⟩) (grownCap wr s.size 0 5) _ (HL.out.kept (KeptBut.below (F := []) (((Below.refl _ _).alloc (Nat.le_refl _) _).drew)) (fun i _ => by simp)) (BytesAt.new s wr (grownCap wr s.size 0 5) ((bytesRow s (grownCap wr s.size 0 5)).size, (bytesRow s (grownCap wr s.size 0 5)).size + 1)) (fun h => by cases h) (by rw [HSL.out]; exact hss) (fun b off hb hm => by
        simp at hb
        have := HL.out.lt.2 b hm
        omega)
      rw [HSL.out] at HCALL
      have hjr : (j : Int) < (raw.length : Int) := by omega
      have hb0 : (0 : Int) ≤ (j : Int) ∧ (j : Int) < (raw.length : Int) := by omega
      go_wp2_with fail
      refine Calls.mono HCALL.out ?_
      rintro r w4 ⟨vy, y, F', rfl, hvy, hl4, hF4, _, hk4⟩
      obtain ⟨yo, yc, rfl⟩ := hvy.form
      have HL4 : Hid (LEnc w4 cb F') := hl4
      have hsa : wr.heap.size ≤ (wr.alloc (.cells (bytesRow s (grownCap wr s.size 0 5)) 5 ((bytesRow s (grownCap wr s.size 0 5)).size, (bytesRow s (grownCap wr s.size 0 5)).size + 1))).drew.heap.size := by show _ ≤ (wr.alloc _).heap.size; simp
      have HF4 : Hid (∀ i ∈ F', w.heap.size ≤ i) := fun i hi => by
        rcases hF4 i hi with h | h
        · exact HFB.out i h
        · exact Nat.le_trans hsw (Nat.le_trans hsa h)
      have HB4 : Hid (Below w.heap.size w w4) := keptBelowE ((HBW.out.alloc (by omega) _).drew) (Nat.le_trans hsw hsa) hk4 HFB.out
      clear HCALL hvy hl4 hF4 hk4 hconv hsa HL HFB HBW hcell
      by_cases hjk : (j : Int) = k
      · have hjkb : ((j : Int) == k) = true := by simpa using hjk
        have HJK : Hid _ := hjk
        clear hjk
        go_wp2_with fail
        refine (lshut_calls cb F' w4 HL4.out).mono ?_
        rintro r w5 ⟨vz, z, F5, rfl, hvz, hl5, hF5, _, hk5⟩
        obtain ⟨zo, zc, rfl⟩ := hvz.form
        clear hvz
        have HL5 : Hid (LEnc w5 cb F5) := hl5
        have hs4 := HB4.out.size
        have HF5 : Hid (∀ i ∈ F5, w.heap.size ≤ i) := fun i hi => by
          rcases hF5 i hi with h | h
          · exact HF4.out i h
          · omega
        have HB5 : Hid (Below w.heap.size w w5) := keptBelowE HB4.out hs4 hk5 HF4.out
        clear hl5 hF5 hk5
        go_wp2
        go_roundg (raw.length - (j + 1))
        case measure => have := HG.out; omega
        case rel => exact ⟨j + 1, F5, by omega, rfl, by go_num, HL5, HF5, HB5⟩
      · have hjkb : ((j : Int) == k) = false := by simpa using hjk
        clear hjk
        go_wp2
        go_roundg (raw.length - (j + 1))
        case measure => have := HG.out; omega
        case rel => exact ⟨j + 1, F', by omega, rfl, by go_num, HL4, HF4, HB4⟩
    · have hjr : ¬ (j : Int) < (raw.length : Int) := by omega
      go_wp2_with fail
      refine (lshut_calls cb F wr HL.out).mono ?_
      rintro r w5 ⟨vz, z, F5, rfl, hvz, hl5, hF5, _, hk5⟩
      obtain ⟨zo, zc, rfl⟩ := hvz.form
      clear hvz
      have HB5 : Hid (Below w.heap.size w w5) := keptBelowE HBW.out hsw hk5 HFB.out
      clear hl5 hF5 hk5
      go_wp2
      go_ret
      exact ⟨rfl, HB5.out⟩
end Go.Proofs.Ytnpnaglgllcpfaa

/-! A slice of texts that came in: how long each may be. -/
namespace Go.Proofs.Ytnpnaglgllcpfaa
set_option maxRecDepth 100000
open Go.ChangeShapes Go.WideShapes Go.ChangeAt Go.RowKit Go.Deep

theorem weightsAll_mem {H : Type} {P : Program} {e : TypeId} : ∀ {ds : List (DataW H)} {d : DataW H}, d ∈ ds → ∀ n ∈ d.weights P e, n ∈ DataW.weightsAll P e ds
  | d' :: r, d, hd, n, hn => by
    simp only [DataW.weightsAll, List.mem_append]
    rcases List.mem_cons.1 hd with rfl | h
    · exact Or.inl hn
    · exact Or.inr (weightsAll_mem h n hn)
theorem open_texts_sized {H : Type} {enc : TypeId × Value → H} {w : World} {base : Nat} {spare : Nat → Bool} {held : Bool} {fuel : Nat} {cs : List Value} {x : DataW H × List MemPlace} (h : DataW.trod enc Try.prog w base spare held fuel 40 cs = some x)
    {ts : List TypeId} {ds : List (DataW H)} (hsz : (DataW.weightsEach Try.prog ts ds).all (· ≤ reachBytes) = true) {j : Nat} (ht : ts[j]? = some 40) (hd : ds[j]? = some x.1) :
    ∃ (a : Option Addr) (cap : Nat) (l : List ByteArray), cs = [.slice a l.length cap] ∧ l.length ≤ 9223372036854775807 ∧ StrsAt w a l ∧ ∀ i (hi : i < l.length), l[i].size ≤ 140737488355328 := by
  rcases open_strs Try.underlying40 Try.underlying9 cellsStr h with ⟨rfl, _⟩ | ⟨a, len, cap, m, Sx, rfl, hb, hl, hm, hmm, hxx, hx⟩
  · exact ⟨none, 0, [], rfl, by simp, .inl rfl, fun i hi => by simp at hi⟩
  · have hlm : len ≤ m := by rw [hmm]; split <;> omega
    have hlen : ((List.range len).map Sx).length = len := by simp
    refine ⟨some a, cap, (List.range len).map Sx, by rw [hlen], by rw [hlen]; unfold maxLen at hm; omega, ?_, fun i hi => ?_⟩
    · rcases Nat.eq_zero_or_pos len with h0 | h0
      · subst h0; exact .inl rfl
      · obtain ⟨b, off, spot⟩ := a
        have hs : spot = none := by simpa [Addr.add] using World.cell?_spot (hx 0 (by omega)).1
        subst hs
        have hadd : ∀ j, (⟨b, off, none⟩ : Addr).add j = ⟨b, off + j, none⟩ := fun j => by unfold Addr.add; split <;> simp_all
        refine .inr ⟨b, off, rfl, ?_, fun i hi => ?_⟩
        · have := World.block_lt_of_cell? w _ (hx 0 (by omega)).1
          simpa [Addr.add] using this
        · have hi' : i < len := by simpa using hi
          have := hx i (by omega)
          rw [hadd] at this
          simp only [List.getElem_map, List.getElem_range]
          refine ⟨this.1, ?_⟩
          have h2 := this.2
          unfold maxLen at h2
          omega
    · have hi' : i < len := by simpa using hi
      subst hxx
      have hmem : (DataW.lit (.string (Sx i).data.toList) : DataW H) ∈ (List.range len).map fun i => (DataW.lit (.string (Sx i).data.toList) : DataW H) := List.mem_map.2 ⟨i, by simpa using hi', rfl⟩
      have := of_decide_eq_true (List.all_eq_true.1 hsz _ (DataW.weights_mem_each ht hd (Sx i).data.toList.length (by
        simp only [DataW.weights, Try.underlying40, List.mem_cons, List.mem_append]
        exact Or.inr (Or.inl (weightsAll_mem hmem _ (by simp [DataW.weights]))))))
      simp only [List.getElem_map, List.getElem_range]
      have e : (Sx i).data.toList.length = (Sx i).size := rfl
      rw [e] at this
      unfold reachBytes at this
      omega
end Go.Proofs.Ytnpnaglgllcpfaa

/-! The law Writes returns true of every list of strings and every number: an Encoder that is given these texts, one by one, and closed behind the k-th, answers the stream that Compress tells, up to where it is certain, call by call. -/
namespace Go.Proofs.Ytnpnaglgllcpfaa.Law
set_option maxRecDepth 100000
open Go.ChangeShapes Go.WideShapes Go.ChangeAt Go.RowKit Go.Deep
open Go.ChangeMaps (open_string shut_string)

theorem own : ownKnob Try.prog.godebug = none := by kernel_rfl
theorem laidOut : laidOutB Try.prog = true := by kernel_rfl

theorem lifted (os : Os) (started : os.Started) (H : Type) (enc : TypeId × Value → H) :
    ReturnsInHanded {} Try.checked os 11 .any (Rows.writesSpec.pre6 enc Try.prog Try.f11 Rows.writesRow.domain false) (Rows.writesSpec.post enc Try.prog Try.f11 false true false false) := by
  refine returnsInHanded_of_change_sized (C := Try.checked) own started (by kernel_rfl) Try.func11
    (ChangeSpec.witness6 (enc := enc) (C := Try.checked) false ⟨#[], #[.slice none 0 0, .int .i64 0], []⟩ 8 (by kernel_rfl) (by kernel_rfl) (by kernel_rfl) (by kernel_rfl)) ?_
  intro W base args ds gs before hval0 hW hcnd hsz0 _
  have hval : ∀ (j : Nat) t v, Try.f11.params[j]? = some t → args[j]? = some v → Value.okWide Try.prog W .any base t v := hval0
  have hsz : (DataW.weightsEach Try.prog (Try.f11.params.toList ++ Rows.writesSpec.plain.varTypes Try.prog) (ds ++ gs)).all (· ≤ reachBytes) = true := hsz0
  have hW' := hW
  obtain ⟨p, q, hA0, hV, rfl, hfz, hnd⟩ := hW
  have hA : DataW.TrodAll enc Try.prog W 0 (fun _ => true) true Try.f11.params.toList args.toList ds p := hA0
  rw [Try.params11] at hA hval hsz
  obtain ⟨v2, vs2, d2, ds2, p2, q2, hargs2, rfl, rfl, h2, r2⟩ := trodAll_cons hA
  obtain ⟨v1, vs1, d1, ds1, p1, q1, hargs1, rfl, rfl, h1, r1⟩ := trodAll_cons r2
  obtain ⟨rfl, rfl, rfl⟩ := trodAll_nil r1
  obtain rfl : args = #[v2, v1] := by cases args; simp_all
  obtain ⟨rfl, rfl⟩ := trodVars_none hV
  obtain ⟨a2, len2, cap2, rfl⟩ := okWide_slice Try.underlying40 (hval 0 40 v2 rfl rfl)
  obtain ⟨n1, rfl, rfl, rfl, w1⟩ := open_int Try.underlying3 (hval 1 3 v1 rfl rfl) h1
  have k2 := h2
  have lt2 : ∀ x ∈ p2, x.block < W.heap.size := by obtain ⟨m, hm⟩ := k2; exact DataW.trod_lt m _ _ _ hm
  obtain ⟨raw, hts, hlen, hat, hsizes⟩ : ∃ raw : List ByteArray, len2 = raw.length ∧ raw.length ≤ 9223372036854775807 ∧ StrsAt W a2 raw ∧ ∀ i (hi : i < raw.length), raw[i].size ≤ 140737488355328 := by
    obtain ⟨fuel, hf⟩ := h2
    obtain ⟨a, cap, raw, hcs, hlen, hat, hs⟩ := open_texts_sized hf hsz (j := 0) rfl rfl
    simp [Value.cells] at hcs
    obtain ⟨rfl, rfl, rfl⟩ := hcs
    exact ⟨raw, rfl, hlen, hat, hs⟩
  subst hts
  clear hA0 hval0
  refine (writesLaw_calls a2 raw cap2 n1 W hlen hat hsizes).mono fun e W' ⟨he, bel⟩ => ?_
  subst he
  exact ⟨_, rfl, _, _, _, [], _, [], hW', trodAll_mk1 (shut_bool Try.underlying4 _), (trodAll_cons_mk (Below.trod laidOut (by kernel_rfl) (of_decide_eq_true (by kernel_rfl)) k2 bel lt2) (trodAll_cons_mk (shut_int Try.underlying3 w1) trodAll_mk0)), rfl, bel.frame _, fun h => by cases h⟩
end Go.Proofs.Ytnpnaglgllcpfaa.Law

namespace Go.Proofs.Ytnpnaglgllcpfaa
theorem writes_holds : Rows.WritesSaid :=
  OpenClaim.holds_of_wide 11 Try.f11 rfl rfl rfl rfl rfl rfl rfl ⟨rfl, rfl, rfl, rfl, rfl⟩ rfl rfl rfl rfl rfl (by kernel_rfl) Try.func11 (by kernel_rfl)
    (of_decide_eq_true (by kernel_rfl)) (by unfold Func.isWrapper; first | (rw [if_pos (by decide +kernel)]; kernel_rfl) | (rw [if_neg (by decide +kernel)]; exact ⟨rfl, rfl⟩))
    (fun os started H enc _ => Law.lifted os started H enc)
#print axioms writes_holds
end Go.Proofs.Ytnpnaglgllcpfaa
