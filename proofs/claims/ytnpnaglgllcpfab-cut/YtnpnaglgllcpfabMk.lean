/-
  What the program's Expand answers of tokens in memory.
-/
import Derived.Test.YtnpnaglgllcpfabExp
import Derived.OwnWalk
namespace Go.Proofs.Ytnpnaglgllcpfab
set_option maxRecDepth 100000
open Go.RowKit

/-- Bytes as cells. -/
def cellsB (l : List UInt8) : List Value := l.map fun c => .int .u8 c.toNat
theorem cellsB_snoc (l : List UInt8) (c : UInt8) : cellsB (l ++ [c]) = cellsB l ++ [.int .u8 c.toNat] := by simp [cellsB]
theorem cellsB_length (l : List UInt8) : (cellsB l).length = l.length := by simp [cellsB]

/-- The slice v is the call's own (from block B on) and holds these bytes. -/
def OwnB (w : World) (B : Nat) (v : Value) (out : List UInt8) : Prop := w.ownsRow B 5 1 v out.length (cellsB out)

/-- A token in a box. -/
def Box (w : World) (q : Nat) (l d x : Int) : Prop := w.heap[q]? = some (.cells #[.int .i64 l, .int .i64 d, .int .i64 x] 60 (0, 0))

theorem Box.cell {w : World} {q : Nat} {l d x : Int} (h : Box w q l d x) : w.cell? ⟨q, 0, none⟩ = some (.int .i64 l) ∧ w.cell? ⟨q, 1, none⟩ = some (.int .i64 d) ∧ w.cell? ⟨q, 2, none⟩ = some (.int .i64 x) := by
  unfold Box at h
  simp [World.cell?, h]
theorem Box.lt {w : World} {q : Nat} {l d x : Int} (h : Box w q l d x) : q < w.heap.size := (Array.getElem?_eq_some_iff.1 h).1
theorem Box.alloc {w : World} {q : Nat} {l d x : Int} (h : Box w q l d x) (o : Obj) : Box (w.alloc o) q l d x := by
  unfold Box
  rw [Below.heap_alloc w o q h.lt]; exact h
theorem Box.below {w w' : World} {q B : Nat} {l d x : Int} (h : Box w q l d x) (hb : Below B w w') (hq : q < B) : Box w' q l d x := by
  unfold Box
  rw [hb.block q hq]; exact h
theorem Box.ne {w : World} {q B n : Nat} {l d x : Int} {v : Value} {xs : List Value} (h : Box w q l d x) (ho : w.ownsRow B 5 1 v n xs) : some q ≠ v.ownBlock := by
  rcases ho.2 with ⟨rfl, _⟩ | ⟨g, cap, cur, rfl, _, hg, _⟩
  · simp [Value.ownBlock]
  · intro e
    simp [Value.ownBlock] at e
    subst e
    unfold Box at h
    rw [h] at hg
    simp at hg
theorem Box.grown {w w' : World} {q B n : Nat} {l d x : Int} {v : Value} {xs : List Value} (h : Box w q l d x) (ho : w.ownsRow B 5 1 v n xs) (hg : w.grownBy w' v.ownBlock) : Box w' q l d x := by
  unfold Box
  rw [hg.block q h.lt (h.ne ho)]; exact h

theorem info8 : (Try.prog.info? 5).map (fun i => (i.zero, i.size, i.bytes)) = some (some (.int .u8 0), 1, 1) := by kernel_rfl

/-- What is owned, read at a place. -/
theorem OwnB.at {w : World} {B : Nat} {v : Value} {out : List UInt8} (h : OwnB w B v out) (hne : 0 < out.length) : ∃ g cap, v = .slice (some ⟨g, 0, none⟩) out.length cap ∧ B ≤ g ∧ g < w.heap.size ∧ ∀ i, i < out.length → w.cell? ⟨g, i, none⟩ = some (.int .u8 (out.getD i 0).toNat) := by
  have h' := h
  rcases h.2 with ⟨rfl, hn⟩ | ⟨g, cap, cur, rfl, hb, hg, _⟩
  · omega
  · refine ⟨g, cap, rfl, hb, (Array.getElem?_eq_some_iff.1 hg).1, fun i hi => ?_⟩
    have := World.ownsRow.cells h' (g := g) rfl i (.int .u8 (out.getD i 0).toNat) (by simp [cellsB, hi])
    have hadd : (⟨g, 0, none⟩ : Addr).add i = ⟨g, i, none⟩ := by unfold Addr.add; split <;> simp_all
    rwa [hadd] at this

theorem OwnB.form {w : World} {B : Nat} {v : Value} {out : List UInt8} (h : OwnB w B v out) : ∃ ao cp, v = .slice ao out.length cp := by
  rcases h.2 with ⟨rfl, hn⟩ | ⟨g, cap, cur, rfl, _⟩
  · exact ⟨none, 0, by rw [hn]⟩
  · exact ⟨_, _, rfl⟩

theorem OwnB.below {w w' : World} {B : Nat} {v : Value} {out : List UInt8} (h : OwnB w B v out) (hb : Below w.heap.size w w') : OwnB w' B v out :=
  World.ownsRow.kept h (row := none) ⟨hb.os, hb.tape, hb.output, hb.size, fun k hk _ => hb.block k hk⟩ (by cases hv : v.ownBlock <;> simp)
theorem OwnB.alloc {w : World} {B : Nat} {v : Value} {out : List UInt8} (h : OwnB w B v out) (o : Obj) : OwnB (w.alloc o) B v out := World.ownsRow.alloc h o
theorem below_own {B0 B : Nat} {w w1 w2 : World} {v : Value} {n : Nat} {xs : List Value} (hb : Below B w w1) (ho : w1.ownsRow B0 5 1 v n xs) (hg : w1.grownBy w2 v.ownBlock) (h0 : B ≤ B0) (hB : B ≤ w1.heap.size) : Below B w w2 :=
  hb.grown hg hB (fun k hk => Nat.le_trans h0 (ho.lt k hk).1)

theorem cell_new1 (w : World) (u : Value) (t : TypeId) (j : Nat) (v : Value) (hj : [u][j]? = some v) : (w.alloc (.cells #[u] t)).cell? ((⟨w.heap.size, 0, none⟩ : Addr).add j) = some v := by
  match j, hj with
  | 0, hj => simp at hj; subst hj; simp [Addr.add]

/-- How Expand ends. -/
def ExpAns (B : Nat) (ts : List Tok) (e : Ending) (w' : World) : Prop :=
  (Tok.expand [] ts = none ∧ e = .returned (.tuple #[.slice none 0 0, .bool false])) ∨
  ∃ out v, Tok.expand [] ts = some out ∧ out.length ≤ 64 ∧ e = .returned (.tuple #[v, .bool true]) ∧ OwnB w' B v out

set_option maxHeartbeats 1000000 in
theorem expand_calls (a : Option Addr) (ts : List Tok) (cap : Nat) (w : World) (hl : ts.length ≤ 9223372036854775807) (ht : ToksAt w a ts) :
    Calls Try.prog 42 #[.slice a ts.length cap] w fun e w' => Below w.heap.size w w' ∧ ExpAns w.heap.size ts e w' := by
  have HT : Hid (ToksAt w a ts) := ht
  clear ht
  obtain ⟨i0, hi, hz0, hz1, hz2⟩ := info_parts info8
  go_enter Try.func42, Try.ntmps42
  go_wp2
  go_loopw [4, 11] (fun v i wr => ∃ (k : Nat) (out : List UInt8), k ≤ ts.length ∧ i = .int .i64 k ∧ Hid (Tok.expand [] (ts.take k) = some out) ∧ out.length ≤ 64 ∧ OwnB wr w.heap.size v out ∧ Below w.heap.size w wr) (fun _ i _ => ts.length - (intOf i).toNat)
  case atStart => exact ⟨0, [], Nat.zero_le _, rfl, rfl, by simp, World.ownsRow_nil _ _ _ _, Below.refl _ _⟩
  case round =>
    obtain ⟨k, out, hk, rfl, he, hm, hown, hb⟩ := hrel
    by_cases hlt : k < ts.length
    · obtain ⟨b, off, ha, hbl, hcell⟩ : ∃ b off, a = some ⟨b, off, none⟩ ∧ b < wr.heap.size ∧ ∀ i (hi : i < ts.length),
          wr.cell? ⟨b, off + i * 3, none⟩ = some (.int .i64 ts[i].len) ∧ wr.cell? ⟨b, off + i * 3 + 1, none⟩ = some (.int .i64 ts[i].dist) ∧ wr.cell? ⟨b, off + i * 3 + 2, none⟩ = some (.int .i64 ts[i].byte) := by
        rcases HT.out.below hb with h | h
        · rw [h] at hlt; simp at hlt
        · exact h
      subst ha
      obtain ⟨c0, c1, c2⟩ := hcell k hlt
      clear hcell
      have HN := Tok.expand_next ts k hlt out he.out
      generalize ts[k] = t at *
      obtain ⟨l, d, x⟩ := t
      simp only at c0 c1 c2
      have HN' : Hid _ := HN
      clear HN
      obtain ⟨ao, cp, rfl⟩ := hown.form
      have HO : Hid _ := hown
      clear hown
      go_wp2_with fail
      refine (fits_calls l d x _ _ (by omega) (by omega)).mono ?_
      rintro e w1 ⟨rfl, hb1⟩
      have hq1 : wr.heap.size < w1.heap.size := by have := hb1.size; simp at this; omega
      have hwz : w.heap.size ≤ wr.heap.size := hb.size
      have hbw : Below w.heap.size w w1 := (hb.alloc hwz _).trans (hb1.mono (by simp; omega))
      have hbox : Box w1 wr.heap.size l d x := Box.below (w := wr.alloc _) (heap_alloc_new wr _) hb1 (by simp)
      have hown : OwnB w1 w.heap.size (.slice ao out.length cp) out := (OwnB.alloc HO.out _).below hb1
      obtain ⟨x0, x1, x2⟩ := hbox.cell
      clear HO hb1 c0 c1 c2 hb
      have HB : Hid _ := hbox
      have HO : Hid _ := hown
      clear hbox hown
      generalize wr.heap.size = q at *
      by_cases hfit : Tok.fitsB ⟨l, d, x⟩ out.length = true
      · have hi' := (Tok.fits_iff _ _).1 hfit
        have hsl := Tok.step_length out _ _ hfit
        simp only at hi' hsl
        have HN'' : Tok.expand [] (ts.take (k + 1)) = some (Tok.step out ⟨l, d, x⟩) := by rw [HN'.out, if_pos hfit]
        have HN3 : Hid _ := HN''
        clear HN'' HN'
        have hl64 : l ≤ 64 - (out.length : Int) := by omega
        rcases hi'.1 with ⟨e1, e2, e3, e4⟩ | ⟨e1, e2, e3, e4⟩
        · have hd0 : (d == 0) = true := by simpa using e1
          have HS : Hid (Tok.step out ⟨l, d, x⟩ = out ++ [UInt8.ofNat x.toNat]) := by unfold Tok.step; exact if_pos e1
          clear e1 e2 hi'
          go_wp2_with (at_builtin; refine wpList_append_own _ rfl _ _ 22 rfl w.heap.size 5 i0 (.int .u8 0) 1 1 Try.underlying22 hi hz0 hz1 hz2 rfl (by decide) _ _ _ rfl (HO.out.alloc _) ⟨w1.heap.size, 0, none⟩ 1 1 [.int .u8 x] rfl rfl ?c1 ?c2 ?c3 ?c4 ?c5 ?_)
          case c1 => intro j u hj; exact cell_new1 _ _ _ j u hj
          case c2 => intro u hu; simp at hu; subst hu; rfl
          case c3 => unfold maxLen; omega
          case c4 => omega
          case c5 => simp; omega
          intro v' w2 hown' hgrow _
          have hbw2 : Below w.heap.size w w2 := below_own (hbw.alloc (by omega) _) (HO.out.alloc _) hgrow (Nat.le_refl _) (by simp; omega)
          have hown2 : OwnB w2 w.heap.size v' (Tok.step out ⟨l, d, x⟩) := by
            rw [HS.out]
            have e5 : ((UInt8.ofNat x.toNat).toNat : Int) = x := by simp; omega
            unfold OwnB
            rw [cellsB_snoc, e5, List.length_append]
            exact hown'
          clear hown' hgrow
          go_wp2
          go_roundw
          case rel => exact ⟨k + 1, _, by omega, by go_num, HN3, by omega, hown2, hbw2⟩
          case measure => simp [intOf]; omega
        · obtain ⟨L, rfl⟩ : ∃ L : Nat, l = (L : Int) := ⟨l.toNat, by omega⟩
          obtain ⟨D, rfl⟩ : ∃ D : Nat, d = (D : Int) := ⟨d.toNat, by omega⟩
          have hd0 : ((D : Int) == 0) = false := by simp; omega
          have hDo : D ≤ out.length := by omega
          have HS : Hid (Tok.step out ⟨L, D, x⟩ = Tok.copyN L D out) := by
            unfold Tok.step
            refine (if_neg (show ¬ (D : Int) = 0 by omega)).trans ?_
            simp
          clear e4 hi'
          go_wp2_with fail
          go_loopw [4, 7] (fun v i wq => ∃ (j : Nat), j ≤ L ∧ i = .int .i64 j ∧ OwnB wq w.heap.size v (Tok.copyN j D out) ∧ Box wq q L D x ∧ Below w.heap.size w wq) (fun _ i _ => L - (intOf i).toNat)
          case atStart => exact ⟨0, Nat.zero_le _, rfl, HO.out, HB.out, hbw⟩
          case round =>
            obtain ⟨j, hj, rfl, hownj, hboxj, hbj⟩ := hrel
            by_cases hjl : j < L
            · have hlen := Tok.copyN_length j D out
              have hsucc : Hid (Tok.copyN (j + 1) D out = Tok.copyN j D out ++ [(Tok.copyN j D out).getD ((Tok.copyN j D out).length - D) 0]) := Tok.copyN_succ j D out
              have hlen1 : out.length ≤ (Tok.copyN j D out).length := by omega
              have hlen2 : (Tok.copyN j D out).length ≤ 63 := by omega
              clear hlen
              generalize Tok.copyN j D out = o at *
              obtain ⟨g, cq, hv, hg0, hg1, hgc⟩ := hownj.at (by omega)
              subst hv
              have hgc' := hgc (o.length - D) (by omega)
              clear hgc
              obtain ⟨y0, y1, y2⟩ := hboxj.cell
              have hbq : w.heap.size ≤ wr.heap.size := hbj.size
              have HOJ : Hid _ := hownj
              have HBJ : Hid _ := hboxj
              clear hownj hboxj
              generalize o.getD (o.length - D) 0 = c at *
              have hcn : c.toNat < 256 := c.toNat_lt
              go_wp2_with (at_builtin; refine wpList_append_own _ rfl _ _ 22 rfl w.heap.size 5 i0 (.int .u8 0) 1 1 Try.underlying22 hi hz0 hz1 hz2 rfl (by decide) _ _ _ rfl (HOJ.out.alloc _) ⟨wr.heap.size, 0, none⟩ 1 1 [.int .u8 c.toNat] rfl rfl ?d1 ?d2 ?d3 ?d4 ?d5 ?_)
              case d1 => intro j u hj; exact cell_new1 _ _ _ j u hj
              case d2 => intro u hu; simp at hu; subst hu; rfl
              case d3 => unfold maxLen; omega
              case d4 => omega
              case d5 => simp; omega
              intro v' w2 hown' hgrow _
              have hbw2 : Below w.heap.size w w2 := below_own (hbj.alloc (by omega) _) (HOJ.out.alloc _) hgrow (Nat.le_refl _) (by simp; omega)
              have hbox2 : Box w2 q L D x := Box.grown (Box.alloc HBJ.out _) (HOJ.out.alloc _) hgrow
              have hown2 : OwnB w2 w.heap.size v' (Tok.copyN (j + 1) D out) := by
                rw [hsucc.out]
                unfold OwnB
                rw [cellsB_snoc, List.length_append]
                exact hown'
              clear hown' hgrow
              go_wp2
              go_roundw
              case rel => exact ⟨j + 1, by omega, by go_num, hown2, hbox2, hbw2⟩
              case measure => simp [intOf]; omega
            · have hje : j = L := by omega
              subst hje
              rw [← HS.out] at hownj
              have HOJ : Hid _ := hownj
              clear hownj
              obtain ⟨y0, y1, y2⟩ := hboxj.cell
              clear hboxj
              go_wp2
              go_roundw
              case rel => exact ⟨k + 1, _, by omega, by go_num, HN3, by omega, HOJ.out, hbj⟩
              case measure => simp [intOf]; omega
      · have hff : Tok.fitsB ⟨l, d, x⟩ out.length = false := by simpa using hfit
        have HE : Hid (Tok.expand [] ts = none) := Tok.expand_stop ts k (by rw [HN'.out, hff]; rfl)
        clear hfit
        go_wp2
        go_ret2
        exact ⟨hbw, .inl ⟨HE.out, rfl⟩⟩
    · have hke : k = ts.length := by omega
      have HE : Hid (Tok.expand [] ts = some out) := by have := he.out; rw [hke, List.take_length] at this; exact this
      clear hke
      have HO : Hid _ := hown
      clear hown
      go_wp2
      go_ret2
      exact ⟨hb, .inr ⟨out, _, HE.out, hm, rfl, HO.out⟩⟩
end Go.Proofs.Ytnpnaglgllcpfab
