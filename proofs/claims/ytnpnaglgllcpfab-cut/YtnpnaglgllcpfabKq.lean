/-
  What presskeep's helpers answer: some, width, price.
-/
import Derived.Test.YtnpnaglgllcpfabStA
import Derived.Test.YtnpnaglgllcpfabKp3
namespace Go.Proofs.Ytnpnaglgllcpfab
set_option maxRecDepth 100000
open Go.RowKit

/-- At most the first n bytes of a text. -/
def firstOf (s : ByteArray) (n : Nat) : List UInt8 := s.data.toList.take n

set_option maxHeartbeats 1000000 in
theorem some_calls (s : ByteArray) (n : Nat) (w : World) (hn : n ≤ 100000) :
    Calls Try.prog 10 #[.string s, .int .i64 n] w fun e w' => Below w.heap.size w w' ∧ ∃ c, e = .returned (.slice (some ⟨w.heap.size, 0, none⟩) (firstOf s n).length c) ∧ (firstOf s n).length ≤ c ∧ BytesAt w' (some ⟨w.heap.size, 0, none⟩) (firstOf s n) := by
  by_cases hlt : n < s.size
  · have hex : (s.extract 0 n).data.toList = firstOf s n := by
      unfold firstOf
      rw [ByteArray.data_extract]
      simp
    have hes : (s.extract 0 n).size = n := by rw [ByteArray.size_extract]; omega
    have hconv := fun wx => run_bytes_of_string (P := Try.prog) wx 9 22 5 (s.extract 0 n) Try.underlying9 Try.underlying22 Try.underlying5
    have HE : Hid (firstOf s n = (s.extract 0 n).data.toList) := hex.symm
    have HL : Hid ((s.extract 0 n).data.toList.length = (s.extract 0 n).size) := rfl
    have hb1 : (n : Int) < (s.size : Int) := by omega
    have HES : Hid ((s.extract 0 n).size = n) := hes
    clear hex hes
    go_enter Try.func10, Try.ntmps10
    go_wp2
    go_ret
    have hmin : min n s.size = (s.extract 0 n).size := by rw [HES.out]; omega
    refine ⟨((Below.refl _ _).alloc (Nat.le_refl _) _).drew, grownCap w (min n s.size) 0 5, ?_, ?_, ?_⟩
    · rw [HE.out, HL.out, ← hmin]; rfl
    · rw [HE.out, HL.out, ← hmin]; exact grownCap_ge _ _ _ _
    · rw [HE.out]; exact BytesAt.new (s.extract 0 n) w _ _
  · have hex : firstOf s n = s.data.toList := by
      unfold firstOf
      rw [List.take_of_length_le]
      show s.size ≤ n
      omega
    have hconv := fun wx => run_bytes_of_string (P := Try.prog) wx 9 22 5 s Try.underlying9 Try.underlying22 Try.underlying5
    have HE : Hid (firstOf s n = s.data.toList) := hex
    have HL : Hid (s.data.toList.length = s.size) := rfl
    clear hex
    go_enter Try.func10, Try.ntmps10
    go_wp2
    go_ret
    refine ⟨((Below.refl _ _).alloc (Nat.le_refl _) _).drew, grownCap w s.size 0 5, ?_, ?_, ?_⟩
    · rw [HE.out, HL.out]; rfl
    · rw [HE.out, HL.out]; exact grownCap_ge _ _ _ _
    · rw [HE.out]; exact BytesAt.new s w _ _

set_option maxHeartbeats 1000000 in
theorem width_calls (v : Nat) (w : World) (h1 : 1 ≤ v) (h2 : v ≤ 100000) :
    Calls Try.prog 43 #[.int .i64 v] w fun e w' => e = .returned (.int .i64 (Tok.numLen v)) ∧ w' = w := by
  go_enter Try.func43, Try.ntmps43
  go_wp2_with fail
  go_loop [0, 3] (fun rv nv => ∃ r k : Nat, 1 ≤ r ∧ r ≤ 100000 ∧ k ≤ 1000000 ∧ rv = .int .i64 r ∧ nv = .int .i64 k ∧ Hid (k + Tok.numLen r = Tok.numLen v + 1) ∧ k + 2 * r ≤ 2 * v + 1) (fun rv _ => (intOf rv).toNat)
  case atStart => exact ⟨v, 1, h1, h2, by omega, rfl, rfl, by show _ = _; omega, by omega⟩
  case round =>
    obtain ⟨r, k, hr1, hr2, hk, rfl, rfl, heq, hle⟩ := hrel
    by_cases hgt : 1 < r
    · have HH : Hid (k + 2 + Tok.numLen (r / 2) = Tok.numLen v + 1) := by
        show _ = _
        have := Tok.numLen_half r (by omega)
        have := heq.out
        omega
      have hgt' : 1 < (r : Int) := by omega
      go_wp2
      go_round
      case rel => exact ⟨r / 2, k + 2, by omega, by omega, by omega, by go_num, by go_num, HH, by omega⟩
      case measure => simp [intOf]; omega
    · have hr : r = 1 := by omega
      subst hr
      have HH : Hid (Tok.numLen v = k) := by
        show _ = _
        have := heq.out
        rw [Tok.numLen_one] at this
        omega
      go_wp2
      go_ret
      exact ⟨by rw [HH.out]; rfl, rfl⟩

set_option maxHeartbeats 1000000 in
theorem price_calls (a : Option Addr) (ts : List Tok) (cap : Nat) (w : World) (hl : ts.length ≤ 64) (ht : ToksAt w a ts) (hp : ∀ t ∈ ts, Tok.plainB t ∧ Tok.cost t ≤ 31) :
    Calls Try.prog 21 #[.slice a ts.length cap] w fun e w' => e = .returned (.int .i64 (Tok.costs ts)) ∧ Below w.heap.size w w' := by
  have HT : Hid (ToksAt w a ts) := ht
  have HP : Hid (∀ t ∈ ts, Tok.plainB t ∧ Tok.cost t ≤ 31) := hp
  clear ht hp
  go_enter Try.func21, Try.ntmps21
  go_wp2_with fail
  go_loopw [3, 4] (fun c i wr => ∃ (k : Nat), k ≤ ts.length ∧ i = .int .i64 k ∧ c = .int .i64 (Tok.costs (ts.take k)) ∧ Below w.heap.size w wr) (fun _ i _ => ts.length - (intOf i).toNat)
  case atStart => exact ⟨0, Nat.zero_le _, rfl, rfl, Below.refl _ _⟩
  case round =>
    obtain ⟨k, hk, rfl, rfl, hb⟩ := hrel
    have hle : Tok.costs (ts.take k) ≤ 31 * k := by
      have := Tok.costs_le (ts.take k) fun t ht => HP.out t (List.mem_of_mem_take ht)
      rw [List.length_take] at this; omega
    by_cases hlt : k < ts.length
    · obtain ⟨b, off, ha, hbl, hcell⟩ : ∃ b off, a = some ⟨b, off, none⟩ ∧ b < wr.heap.size ∧ ∀ i (hi : i < ts.length),
          wr.cell? ⟨b, off + i * 3, none⟩ = some (.int .i64 ts[i].len) ∧ wr.cell? ⟨b, off + i * 3 + 1, none⟩ = some (.int .i64 ts[i].dist) ∧ wr.cell? ⟨b, off + i * 3 + 2, none⟩ = some (.int .i64 ts[i].byte) := by
        rcases HT.out.below hb with h | h
        · rw [h] at hlt; simp at hlt
        · exact h
      subst ha
      obtain ⟨c0, c1, c2⟩ := hcell k hlt
      clear hcell
      have HC : Hid (Tok.costs (ts.take (k + 1)) = Tok.costs (ts.take k) + Tok.cost ts[k]) := by show _ = _; rw [Tok.take_snoc ts k hlt, Tok.costs_snoc]
      have hpl := HP.out ts[k] (List.getElem_mem hlt)
      generalize ts[k] = t at *
      obtain ⟨l, d, x⟩ := t
      simp only at c0 c1 c2
      obtain ⟨hpl, hcl⟩ := hpl
      generalize hC : Tok.costs (ts.take k) = C at *
      clear hC
      by_cases hd0 : d = 0
      · subst hd0
        have HN : Hid (Tok.costs (ts.take (k + 1)) = C + 9) := by show _ = _; rw [HC.out]; rfl
        go_wp2
        go_roundw
        case rel => exact ⟨k + 1, by omega, by go_num, by rw [HN.out]; go_num, hb⟩
        case measure => simp [intOf]; omega
      · have hpl2 : 1 ≤ d ∧ d ≤ 32 ∧ 2 ≤ l ∧ l ≤ 64 := by
          rcases hpl with h | h
          · exact absurd h.1 hd0
          · exact h
        obtain ⟨Ln, rfl⟩ : ∃ Ln : Nat, l = (Ln : Int) + 1 := ⟨(l - 1).toNat, by omega⟩
        obtain ⟨Dn, rfl⟩ : ∃ Dn : Nat, d = (Dn : Int) := ⟨d.toNat, by omega⟩
        have HN : Hid (Tok.costs (ts.take (k + 1)) = C + (1 + Tok.numLen Ln + Tok.numLen Dn)) := by
          show _ = _
          rw [HC.out]
          congr 1
          simp only [Tok.cost]
          rw [if_neg hd0, show ((Ln : Int) + 1 - 1).toNat = Ln by omega, Int.toNat_natCast]
        have hd0' : ((Dn : Int) == 0) = false := by simp; omega
        have hn1 := numLen_le Ln (by omega)
        have hn2 := numLen_le Dn (by omega)
        have hLs : (Ln : Int) + 1 - 1 = (Ln : Int) := by omega
        have HLS : Hid ((Ln : Int) + 1 - 1 = (Ln : Int)) := hLs
        go_wp2_with fail
        refine (width_calls Ln _ (by omega) (by omega)).mono ?_
        rintro e w1 ⟨rfl, rfl⟩
        go_wp2_with fail
        refine (width_calls Dn _ (by omega) (by omega)).mono ?_
        rintro e w2 ⟨rfl, rfl⟩
        generalize Tok.numLen Ln = N1 at *
        generalize Tok.numLen Dn = N2 at *
        go_wp2
        go_roundw
        case rel => exact ⟨k + 1, by omega, by go_num, by rw [HN.out]; go_num, hb⟩
        case measure => simp [intOf]; omega
    · have hke : k = ts.length := by omega
      have HC : Hid (Tok.costs (ts.take k) = Tok.costs ts) := by rw [hke, List.take_length]; rfl
      clear hke
      generalize hC : Tok.costs (ts.take k) = C at *
      clear hC
      go_wp2
      go_ret
      exact ⟨ret_i64 (by rw [← HC.out]), hb⟩

set_option maxHeartbeats 1000000 in
theorem kalike_calls (a : Option Addr) (p : List UInt8) (cap i d : Nat) (w : World) (hp : p.length ≤ 64) (hb : BytesAt w a p) (hi : i ≤ p.length) (hd : d ≤ i) (hd1 : 1 ≤ d) :
    Calls Try.prog 40 #[.slice a p.length cap, .int .i64 i, .int .i64 d] w fun e w' => (∃ n : Nat, e = .returned (.int .i64 n) ∧ AlikeMost p i d n) ∧ ∃ n, w' = w.drewN n := by
  have HB : Hid (BytesAt w a p) := hb
  clear hb
  go_enter Try.func40, Try.ntmps40
  go_wp2
  go_loopw [7] (fun v wr => ∃ (n : Nat), v = .int .i64 n ∧ i + n ≤ p.length ∧ Hid (Alike p i d n) ∧ ∃ nd, wr = w.drewN nd) (fun v _ => p.length - (intOf v).toNat)
  case atStart => exact ⟨0, rfl, by omega, ⟨by omega, fun m hm => by omega⟩, 0, rfl⟩
  case round =>
    obtain ⟨n, rfl, hn, hal, nd, rfl⟩ := hrel
    by_cases hlt : i + n < p.length
    · obtain ⟨b, off, ha, hcell⟩ : ∃ b off, a = some ⟨b, off, none⟩ ∧ ∀ j, j < p.length → w.cell? ⟨b, off + j, none⟩ = some (.int .u8 (p.getD j 0).toNat) := by
        rcases HB.out with h | h
        · rw [h] at hlt; simp at hlt
        · exact h
      subst ha
      have c0 : (w.drewN nd).cell? ⟨b, off + (i + n), none⟩ = some (.int .u8 (p.getD (i + n) 0).toNat) := hcell (i + n) hlt
      have c1 : (w.drewN nd).cell? ⟨b, off + (i + n - d), none⟩ = some (.int .u8 (p.getD (i + n - d) 0).toNat) := hcell (i + n - d) (by omega)
      clear hcell
      have hix : 0 ≤ (i : Int) + (n : Int) ∧ (i : Int) + (n : Int) < (p.length : Int) := by omega
      have hix2 : 0 ≤ (i : Int) + (n : Int) - (d : Int) ∧ (i : Int) + (n : Int) - (d : Int) < (p.length : Int) := by omega
      have hlt' : (i : Int) + (n : Int) < (p.length : Int) := by omega
      generalize hw0 : w.drewN nd = w0 at *
      have HW0 : Hid (w.drewN nd = w0) := hw0
      clear hw0
      generalize hx : p.getD (i + n) 0 = x at *
      generalize hy : p.getD (i + n - d) 0 = y at *
      have HX : Hid (p.getD (i + n) 0 = x) := hx
      have HY : Hid (p.getD (i + n - d) 0 = y) := hy
      clear hx hy
      by_cases hxy : x = y
      · have hb : ((x.toNat : Int) == (y.toNat : Int)) = true := by simp [hxy]
        have HN : Hid (Alike p i d (n + 1)) := by
          refine ⟨by omega, fun m hm => ?_⟩
          rcases Nat.lt_or_ge m n with h | h
          · exact hal.out.2 m h
          · have : m = n := by omega
            subst this
            rw [HX.out, HY.out, hxy]
        clear hxy
        go_wp2_with fail
        go_quiet (fail)
        go_wp2
        go_roundw
        case rel => exact ⟨n + 1, by go_num, by omega, HN, _, by rw [← HW0.out, World.drewN_drewN]⟩
        case measure => simp [intOf]; omega
      · have hb : ((x.toNat : Int) == (y.toNat : Int)) = false := by
          simp only [beq_eq_false_iff_ne, ne_eq]
          intro h
          exact hxy (UInt8.toNat_inj.1 (by omega))
        have HN : Hid (AlikeMost p i d n) := ⟨hal.out, .inr (by rw [HX.out, HY.out]; exact hxy)⟩
        clear hxy
        go_wp2_with fail
        go_quiet (fail)
        go_wp2
        go_ret
        exact ⟨⟨n, rfl, HN.out⟩, _, by rw [← HW0.out, World.drewN_drewN]⟩
    · have hf : decide ((i : Int) + (n : Int) < (p.length : Int)) = false := by simp; omega
      have HN : Hid (AlikeMost p i d n) := ⟨hal.out, .inl (by omega)⟩
      go_wp2_with fail
      go_quiet (fail)
      go_wp2
      go_ret
      exact ⟨⟨n, rfl, HN.out⟩, _, World.drewN_drewN _ _ _⟩
theorem kalike_is (a : Option Addr) (p : List UInt8) (cap i d : Nat) (w : World) (hp : p.length ≤ 64) (hb : BytesAt w a p) (hi : i ≤ p.length) (hd : d ≤ i) (hd1 : 1 ≤ d) :
    Calls Try.prog 40 #[.slice a p.length cap, .int .i64 i, .int .i64 d] w fun e w' => e = .returned (.int .i64 (alk p i d)) ∧ ∃ n, w' = w.drewN n := by
  refine (kalike_calls a p cap i d w hp hb hi hd hd1).mono ?_
  rintro e w' ⟨⟨n, rfl, hn⟩, h⟩
  exact ⟨by rw [hn.eq (alk_most p i d hi)], h⟩
end Go.Proofs.Ytnpnaglgllcpfab
