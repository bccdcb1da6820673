/-
  The law Cut, of a text and numbers.
-/
import Derived.Test.YtnpnaglgllcpfabCt1
import Derived.Test.YtnpnaglgllcpfabCmd
import Derived.Test.YtnpnaglgllcpfabApb
namespace Go.Proofs.Ytnpnaglgllcpfab
set_option maxRecDepth 100000
open Go.RowKit

theorem row_new0B (w : World) (B : Nat) (hB : B ≤ w.heap.size) : OwnB (w.alloc (.cells #[] 5)) B (.slice (some ⟨w.heap.size, 0, none⟩) 0 0) [] :=
  ⟨by simp [cellsB], .inr ⟨w.heap.size, 0, #[], rfl, hB, heap_alloc_new w _, Nat.le_refl _, Nat.zero_le _, by simp, by simp [cellsB]⟩⟩
theorem ownCap {w : World} {B : Nat} {a : Option Addr} {cap : Nat} {out : List UInt8} (h : OwnB w B (.slice a out.length cap) out) : out.length ≤ cap ∧ (a = none → out.length = 0 ∧ cap = 0) := by
  rcases h.2 with ⟨h1, h2⟩ | ⟨g, c, cur, h1, _, _, hl, _⟩
  · simp at h1
    exact ⟨by omega, fun _ => ⟨h2, h1.2.2⟩⟩
  · simp at h1
    exact ⟨by omega, fun h => by rw [h1.1] at h; cases h⟩
theorem take_facts (data : List UInt8) (j : Nat) : (data.take (64 * j)).length ≤ data.length ∧ data.take (64 * j) = data.take (data.take (64 * j)).length ∧ ((data.take (64 * j)).length % 64 = 0 ∨ (data.take (64 * j)).length = data.length) := by
  rw [List.length_take]
  by_cases h : 64 * j ≤ data.length
  · rw [Nat.min_eq_left h]; exact ⟨by omega, rfl, by omega⟩
  · rw [Nat.min_eq_right (by omega)]
    refine ⟨by omega, ?_, by omega⟩
    rw [List.take_of_length_le (by omega), List.take_length]
theorem whole_facts (data : List UInt8) : data.length ≤ data.length ∧ data = data.take data.length ∧ (data.length % 64 = 0 ∨ data.length = data.length) := ⟨Nat.le_refl _, (List.take_length).symm, .inr rfl⟩

theorem xor_high : ∀ y : Fin 128, 128 ^^^ y.val = 128 + y.val := by decide
theorem xor_other (a x : Nat) (h : 0 < x) : a ^^^ x ≠ a := fun e => by
  have h1 : a ^^^ (a ^^^ x) = a ^^^ a := by rw [e]
  rw [← Nat.xor_assoc, Nat.xor_self, Nat.zero_xor] at h1
  omega
/-- A changed stream is refused. -/
theorem changed_refused {w w' : World} {B : Nat} {v : Value} {S dd D : List UInt8} {i : Nat} {c : UInt8} {want : Int} {ps : List (List Tok)} {ends : List Nat} {da : Option Addr} {dc : Nat} (hown : OwnB w' B v (S.set i c)) (hS : S.length ≤ 4000) (hr : rRead (S.set i c) = (want, ps, D, ends)) (hw : want ≠ 0)
    (hD : D.length ≤ dd.length ∧ D = dd.take D.length ∧ (D.length % 64 = 0 ∨ D.length = dd.length)) (hdd : BytesAt w da dd) (hb : Below w.heap.size w w') (hdc : dd.length ≤ dc) (hdn : da = none → dd.length = 0 ∧ dc = 0) (hdl : dd.length ≤ 100000) :
    ∃ vo vc, v = .slice vo S.length vc ∧ Calls Try.prog 28 #[.slice vo S.length vc, .int .i64 want, .slice da dd.length dc] w' fun e w'' => e = .returned (.bool true) ∧ Below w'.heap.size w' w'' := by
  have hl : (S.set i c).length = S.length := List.length_set
  obtain ⟨vo, vc, rfl⟩ := hown.form
  rw [hl]
  refine ⟨vo, vc, rfl, ?_⟩
  have := refused_calls vo da (S.set i c) dd D vc dc want ps ends w' (by omega) (OwnB.bytes hown) (ownCap hown).2 hr hw hD.1 hD.2.1 hD.2.2 (bytesAt_below hdd hb) hdc hdn hdl
  rw [hl] at this
  exact this

set_option maxHeartbeats 1000000 in
theorem cutLaw_calls (s : ByteArray) (k b : Int) (w : World) (hk : In64 k) (hb : In64 b) :
    Calls Try.prog 7 #[.string s, .int .i64 k, .int .i64 b] w fun e w' => e = .returned (.bool true) ∧ Below w.heap.size w w' := by
  have HIK : Hid (In64 k) := hk
  have HIB : Hid (In64 b) := hb
  clear hk hb
  go_enter Try.func7, Try.ntmps7
  go_wp2_with fail
  refine (some_calls s 2048 w (by omega)).mono ?_
  rintro e w1 ⟨hb1, dc, rfl, hdc, hby1⟩
  have HB1 : Hid (Below w.heap.size w w1) := hb1
  have hpl : (firstOf s 2048).length ≤ 2048 := by unfold firstOf; rw [List.length_take]; omega
  generalize firstOf s 2048 = data at *
  have HBY1 : Hid (BytesAt w1 (some ⟨w.heap.size, 0, none⟩) data) := hby1
  clear hb1 hby1
  go_wp2_with fail
  refine (compress_said _ data dc w1 (by omega) hdc HBY1.out).mono ?_
  rintro e w2 ⟨hb2, ⟨hlong, _⟩ | ⟨_, v, rfl, hown⟩⟩
  · omega
  have HB2 : Hid (Below w.heap.size w w2) := HB1.out.trans (hb2.mono HB1.out.size)
  have HBY2 : Hid (BytesAt w2 (some ⟨w.heap.size, 0, none⟩) data) := bytesAt_below HBY1.out hb2
  obtain ⟨hS1, hS2⟩ := stream_small parse_chosen data hpl
  obtain ⟨so, sc, rfl⟩ := hown.form
  obtain ⟨g, hso, hsc⟩ : ∃ g, so = some ⟨g, 0, none⟩ ∧ (streamOf parseOf data).length ≤ sc := by
    rcases hown.2 with ⟨_, h2⟩ | ⟨g', c', cur, h1, _, _, hl, _⟩
    · omega
    · simp at h1; exact ⟨g', h1.1, by omega⟩
  subst hso
  have HS2 : Hid (OwnB w2 w1.heap.size (.slice (some ⟨g, 0, none⟩) (streamOf parseOf data).length sc) (streamOf parseOf data)) := hown
  have HCS : Hid _ := fun n hn => cut_short parse_chosen data hpl n hn
  have HCM : Hid _ := fun x => cut_more parse_chosen data hpl x
  have HCP : Hid _ := fun c hc => cut_pad parse_chosen data hpl c hc
  have HCG : Hid _ := fun i hi c hc => cut_magic parse_chosen data hpl i hi c hc
  have HCX : Hid _ := fun h0 j hj c hc => cut_total parse_chosen data hpl h0 j hj c hc
  have HLS : Hid ((streamOf parseOf data).getD ((streamOf parseOf data).length - 1) 0 = 128) := by
    show _ = _
    rw [stream_last]
    simp [List.getD]
  clear hb2 hown
  generalize streamOf parseOf data = S at *
  have hS4 : ¬ (S.length : Int) < 4 := by omega
  go_wp2_with fail
  refine (pick_calls k S.length w2 HIK.out (by omega) (by omega)).mono ?_
  rintro r w3 ⟨⟨u, hu0, hu1, rfl⟩, hww⟩
  replace hww : w2 = w3 := hww.symm
  subst hww
  obtain ⟨n, hn⟩ : ∃ n : Nat, u = (n : Int) := ⟨u.toNat, by omega⟩
  subst hn
  have hnS : n < S.length := by omega
  obtain ⟨ps1, j1, en1, hr1⟩ := HCS.out n hnS
  have hln : (S.take n).length = n := by rw [List.length_take]; omega
  have HREF1 : Hid (Calls Try.prog 28 #[.slice (some ⟨g, 0, none⟩) n sc, .int .i64 4, .slice (some ⟨w.heap.size, 0, none⟩) data.length dc] w2 fun e w' => e = .returned (.bool true) ∧ Below w2.heap.size w2 w') := by
    obtain ⟨t1, t2, t3⟩ := take_facts data j1
    have hbt : BytesAt w2 (some ⟨g, 0, none⟩) (S.take n) := by
      rcases OwnB.bytes HS2.out with h | ⟨b', off, h1, h2⟩
      · rw [h] at hS2; simp at hS2
      · have := BytesAt.part h2 0 n
        rw [List.drop_zero, Nat.add_zero] at this
        rw [h1]; exact this
    have := refused_calls (some ⟨g, 0, none⟩) (some ⟨w.heap.size, 0, none⟩) (S.take n) data (data.take (64 * j1)) sc dc 4 ps1 en1 w2 (by omega) hbt (fun h => by cases h) hr1 (by decide) t1 t2 t3 HBY2.out hdc (fun h => by cases h) (by omega)
    rw [hln] at this
    exact this
  have hb2 : (0 : Int) ≤ (n : Int) ∧ (n : Int) ≤ (sc : Int) := by omega
  clear hr1 hln
  go_wp2_with fail
  refine Calls.mono HREF1.out ?_
  rintro r w4 ⟨rfl, hb4⟩
  have HB4 : Hid (Below w.heap.size w w4) := HB2.out.trans (hb4.mono HB2.out.size)
  have HBY4 : Hid (BytesAt w4 (some ⟨w.heap.size, 0, none⟩) data) := bytesAt_below HBY2.out hb4
  have HS4 : Hid (OwnB w4 w1.heap.size (.slice (some ⟨g, 0, none⟩) S.length sc) S) := OwnB.below HS2.out hb4
  clear hb4 HREF1
  go_wp2_with (at_builtin; refine wpList_append_at rfl _ _ rfl w4.heap.size _ [] rfl (row_new0B w4 _ (Nat.le_refl _)) (some ⟨g, 0, none⟩) S sc rfl ?b1 (fun h => by cases h) ?b2 ?b3 ?_)
  case b1 => exact bytesAt_below (OwnB.bytes HS4.out) ((Below.refl _ _).alloc (Nat.le_refl _) _)
  case b2 => simp; omega
  case b3 => simp
  intro vm w5 hvm hg5 _
  have hs5 := hg5.size
  simp at hs5
  have hb5 : Below w4.heap.size w4 w5 := ((Below.refl _ _).alloc (Nat.le_refl _) _).grown hg5 (by simp) (fun k hk => by simp [Value.ownBlock] at hk; omega)
  obtain ⟨mo, mc, rfl⟩ := hvm.form
  have HVM : Hid (OwnB w5 w4.heap.size (.slice mo S.length mc) S) := hvm
  have HB5 : Hid (Below w.heap.size w w5) := HB4.out.trans (hb5.mono HB4.out.size)
  have HBY5 : Hid (BytesAt w5 (some ⟨w.heap.size, 0, none⟩) data) := bytesAt_below HBY4.out hb5
  have HS5 : Hid (OwnB w5 w1.heap.size (.slice (some ⟨g, 0, none⟩) S.length sc) S) := OwnB.below HS4.out hb5
  have HB45 : Hid (Below w4.heap.size w4 w5) := hb5
  clear hvm hg5 hb5
  go_wp2_with fail
  refine (pick_calls b 256 w5 HIB.out (by omega) (by omega)).mono ?_
  rintro r w6 ⟨⟨u2, hu20, hu21, rfl⟩, hww⟩
  replace hww : w5 = w6 := hww.symm
  subst hww
  obtain ⟨x, hx⟩ : ∃ x : UInt8, u2 = (x.toNat : Int) := ⟨UInt8.ofNat u2.toNat, by simp; omega⟩
  subst hx
  have hxl := x.toNat_lt
  have HXB : Hid (BytesAt (w5.alloc (.cells #[.int .u8 (x.toNat : Int)] 5)) (some ⟨w5.heap.size, 0, none⟩) [x]) := .inr ⟨w5.heap.size, 0, rfl, fun i hi => by
    obtain rfl : i = 0 := by simp at hi; exact hi
    simp [List.getD]⟩
  go_wp2_with (at_builtin; refine wpList_append_at rfl _ _ rfl w4.heap.size _ S rfl (HVM.out.alloc _) (some ⟨w5.heap.size, 0, none⟩) [x] 1 rfl HXB.out (fun h => by cases h) ?d2 ?d3 ?_)
  case d2 => simp; omega
  case d3 => simp; omega
  intro vm2 w6 hvm2 hg6 _
  have hs6 := hg6.size
  simp at hs6
  have hb6 : Below w4.heap.size w5 w6 := ((Below.refl _ _).alloc (by omega) _).grown hg6 (by simp; omega) (fun k hk => (World.ownsRow.lt HVM.out k hk).1)
  obtain ⟨mo2, mc2, rfl⟩ := hvm2.form
  have HVM2 : Hid (OwnB w6 w4.heap.size (.slice mo2 (S ++ [x]).length mc2) (S ++ [x])) := hvm2
  have hw4 := HB4.out.size
  have HB6 : Hid (Below w.heap.size w w6) := HB5.out.trans (hb6.mono (by omega))
  have HBY6 : Hid (BytesAt w6 (some ⟨w.heap.size, 0, none⟩) data) := bytesAt_below HBY4.out (by
    have h45 : Below w4.heap.size w4 w5 := HB45.out
    exact h45.trans hb6)
  have HS6 : Hid (OwnB w6 w1.heap.size (.slice (some ⟨g, 0, none⟩) S.length sc) S) := OwnB.below HS4.out (HB45.out.trans hb6)
  clear hvm2 hg6 hb6 HXB
  obtain ⟨ps2, en2, hr2⟩ := HCM.out x
  have HREF2 : Hid _ := refused_calls mo2 (some ⟨w.heap.size, 0, none⟩) (S ++ [x]) data data mc2 dc 9 ps2 en2 w6 (by rw [List.length_append]; simp; omega) (OwnB.bytes HVM2.out) (ownCap HVM2.out).2 hr2 (by decide) (whole_facts data).1 (whole_facts data).2.1 (whole_facts data).2.2 HBY6.out hdc (fun h => by cases h) (by omega)
  clear hr2
  generalize (S ++ [x]).length = NL at *
  go_wp2_with fail
  refine Calls.mono HREF2.out ?_
  rintro r w7 ⟨rfl, hb7⟩
  have HB7 : Hid (Below w.heap.size w w7) := HB6.out.trans (hb7.mono HB6.out.size)
  have HBY7 : Hid (BytesAt w7 (some ⟨w.heap.size, 0, none⟩) data) := bytesAt_below HBY6.out hb7
  have HS7 : Hid (OwnB w7 w1.heap.size (.slice (some ⟨g, 0, none⟩) S.length sc) S) := OwnB.below HS6.out hb7
  clear hb7 HREF2 HVM HVM2
  go_wp2_with fail
  refine (pick_calls b 127 w7 HIB.out (by omega) (by omega)).mono ?_
  rintro r w8 ⟨⟨u3, hu30, hu31, rfl⟩, hww⟩
  replace hww : w7 = w8 := hww.symm
  subst hww
  obtain ⟨I1, hI1⟩ : ∃ I1 : Nat, (S.length : Int) - 1 = (I1 : Int) := ⟨S.length - 1, by omega⟩
  have hI1n : S.length - 1 = I1 := by omega
  have HI1 : Hid _ := hI1n
  clear hI1n
  go_wp2_with fail
  refine (changed_calls (some ⟨g, 0, none⟩) S sc I1 (1 + u3) w7 (by omega) (by omega) (by omega) (by omega) (OwnB.bytes HS7.out)).mono ?_
  rintro r w8 ⟨hb8, v8, c8, rfl, ho8, hc8⟩
  obtain ⟨ps3, en3, hr3⟩ := HCP.out c8 (by
    rw [← HI1.out, HLS.out] at hc8
    have := xor_high ⟨(1 + u3).toNat, by omega⟩
    simp only at this
    rw [hc8]
    show 128 < 128 ^^^ (1 + u3).toNat
    rw [this]
    omega)
  rw [HI1.out] at hr3
  obtain ⟨o8, p8, rfl, href3⟩ := changed_refused ho8 hS1 hr3 (by decide) (whole_facts data) HBY7.out hb8 hdc (fun h => by cases h) (by omega)
  have HREF3 : Hid _ := href3
  have HB8 : Hid (Below w.heap.size w w8) := HB7.out.trans (hb8.mono HB7.out.size)
  have HBY8 : Hid (BytesAt w8 (some ⟨w.heap.size, 0, none⟩) data) := bytesAt_below HBY7.out hb8
  have HS8 : Hid (OwnB w8 w1.heap.size (.slice (some ⟨g, 0, none⟩) S.length sc) S) := OwnB.below HS7.out hb8
  clear hb8 ho8 hc8 hr3 href3
  go_wp2_with fail
  refine Calls.mono HREF3.out ?_
  rintro r w9 ⟨rfl, hb9⟩
  have HB9 : Hid (Below w.heap.size w w9) := HB8.out.trans (hb9.mono HB8.out.size)
  have HBY9 : Hid (BytesAt w9 (some ⟨w.heap.size, 0, none⟩) data) := bytesAt_below HBY8.out hb9
  have HS9 : Hid (OwnB w9 w1.heap.size (.slice (some ⟨g, 0, none⟩) S.length sc) S) := OwnB.below HS8.out hb9
  clear hb9 HREF3
  go_wp2_with fail
  refine (pick_calls k 3 w9 HIK.out (by omega) (by omega)).mono ?_
  rintro r w10 ⟨⟨u4, hu40, hu41, rfl⟩, hww⟩
  replace hww : w9 = w10 := hww.symm
  subst hww
  obtain ⟨I2, hI2⟩ : ∃ I2 : Nat, u4 = (I2 : Int) := ⟨u4.toNat, by omega⟩
  subst hI2
  go_wp2_with fail
  refine (pick_calls b 255 w9 HIB.out (by omega) (by omega)).mono ?_
  rintro r w10 ⟨⟨u5, hu50, hu51, rfl⟩, hww⟩
  replace hww : w9 = w10 := hww.symm
  subst hww
  go_wp2_with fail
  refine (changed_calls (some ⟨g, 0, none⟩) S sc I2 (1 + u5) w9 (by omega) (by omega) (by omega) (by omega) (OwnB.bytes HS9.out)).mono ?_
  rintro r w10 ⟨hb10, v10, c10, rfl, ho10, hc10⟩
  have hr4 := HCG.out I2 (by omega) c10 (fun e => by
    rw [← e] at hc10
    exact xor_other c10.toNat (1 + u5).toNat (by omega) hc10.symm)
  obtain ⟨o10, p10, rfl, href4⟩ := changed_refused (dd := []) (da := none) (dc := 0) ho10 hS1 hr4 (by decide) (whole_facts []) (.inl rfl) hb10 (by simp) (fun _ => ⟨rfl, rfl⟩) (by simp)
  have HREF4 : Hid _ := href4
  have HB10 : Hid (Below w.heap.size w w10) := HB9.out.trans (hb10.mono HB9.out.size)
  have HBY10 : Hid (BytesAt w10 (some ⟨w.heap.size, 0, none⟩) data) := bytesAt_below HBY9.out hb10
  have HS10 : Hid (OwnB w10 w1.heap.size (.slice (some ⟨g, 0, none⟩) S.length sc) S) := OwnB.below HS9.out hb10
  clear hb10 ho10 hc10 hr4 href4
  simp only [List.length_nil] at HREF4
  go_wp2_with fail
  refine Calls.mono HREF4.out ?_
  rintro r w11 ⟨rfl, hb11⟩
  have HB11 : Hid (Below w.heap.size w w11) := HB10.out.trans (hb11.mono HB10.out.size)
  have HBY11 : Hid (BytesAt w11 (some ⟨w.heap.size, 0, none⟩) data) := bytesAt_below HBY10.out hb11
  have HS11 : Hid (OwnB w11 w1.heap.size (.slice (some ⟨g, 0, none⟩) S.length sc) S) := OwnB.below HS10.out hb11
  clear hb11 HREF4
  by_cases h0 : data.length = 0
  · go_wp2
    go_ret
    exact ⟨rfl, HB11.out⟩
  · have h0i : ((data.length : Int) == 0) = false := by simp; exact fun h => h0 (by rw [h]; rfl)
    obtain ⟨A, hA⟩ : ∃ A : Nat, ((data.length : Int) - 1) / 64 * 64 = (A : Int) := ⟨(data.length - 1) / 64 * 64, by omega⟩
    have hAn : 64 * ((data.length - 1) / 64) = A := by omega
    have hAl : A ≤ data.length := by omega
    have hlt : (data.take A).length = A := by rw [List.length_take]; omega
    have hdt : ∀ W, Below w11.heap.size w11 W → BytesAt W (some ⟨w.heap.size, 0, none⟩) (data.take A) := fun W hW => by
      rcases bytesAt_below HBY11.out hW with h | ⟨b', off, h1, h2⟩
      · rw [h]; exact .inl (by simp)
      · have := BytesAt.part h2 0 A
        rw [List.drop_zero, Nat.add_zero] at this
        rw [h1]; exact this
    have HPK : Hid (∀ W, Calls Try.prog 25 #[.int .i64 k, .int .i64 2] W fun e w' => (∃ J : Nat, J < 2 ∧ e = .returned (.int .i64 (J : Int))) ∧ w' = W) := fun W => by
      refine (pick_calls k 2 W HIK.out (by omega) (by omega)).mono ?_
      rintro e w' ⟨⟨u, h1, h2, rfl⟩, rfl⟩
      exact ⟨⟨u.toNat, by omega, by rw [show ((u.toNat : Nat) : Int) = u by omega]⟩, rfl⟩
    have HPB : Hid (∀ W, Calls Try.prog 25 #[.int .i64 b, .int .i64 255] W fun e w' => (∃ y : Nat, y < 255 ∧ e = .returned (.int .i64 (y : Int))) ∧ w' = W) := fun W => by
      refine (pick_calls b 255 W HIB.out (by omega) (by omega)).mono ?_
      rintro e w' ⟨⟨u, h1, h2, rfl⟩, rfl⟩
      exact ⟨⟨u.toNat, by omega, by rw [show ((u.toNat : Nat) : Int) = u by omega]⟩, rfl⟩
    have HCH : Hid (∀ W, Below w11.heap.size w11 W → ∀ (i y : Int), (S.length : Int) - 3 ≤ i ∧ i ≤ (S.length : Int) - 2 → 1 ≤ y ∧ y ≤ 255 → Calls Try.prog 29 #[.slice (some ⟨g, 0, none⟩) S.length sc, .int .i64 i, .int .i64 y] W fun e w' => ∃ vo vc, e = .returned (.slice vo S.length vc) ∧ Below w11.heap.size w11 w' ∧ Calls Try.prog 28 #[.slice vo S.length vc, .int .i64 8, .slice (some ⟨w.heap.size, 0, none⟩) A dc] w' fun e w'' => e = .returned (.bool true) ∧ Below w'.heap.size w' w'') := fun W hW i y hJJ hy => by
      obtain ⟨J, hJ, hi⟩ : ∃ J : Nat, J < 2 ∧ i = (S.length : Int) - 2 - J := ⟨((S.length : Int) - 2 - i).toNat, by omega, by omega⟩
      have hin : i = ((S.length - 2 - J : Nat) : Int) := by omega
      rw [hin]
      refine (changed_calls (some ⟨g, 0, none⟩) S sc (S.length - 2 - J) y W (by omega) (by omega) hy.1 hy.2 (OwnB.bytes (OwnB.below HS11.out hW))).mono ?_
      rintro e w' ⟨hb', v, c, rfl, ho, hc⟩
      obtain ⟨ps5, en5, hr5⟩ := HCX.out (fun h => h0 (by rw [h]; rfl)) J hJ c (fun e => by
        rw [← e] at hc
        exact xor_other c.toNat y.toNat (by omega) hc.symm)
      rw [hAn] at hr5
      obtain ⟨vo, vc, rfl, href⟩ := changed_refused (dd := data.take A) ho hS1 hr5 (by decide) (whole_facts (data.take A)) (hdt W hW) hb' (dc := dc) (by rw [hlt]; omega) (fun h => by cases h) (by rw [hlt]; omega)
      rw [hlt] at href
      exact ⟨vo, vc, rfl, hW.trans (hb'.mono hW.size), href⟩
    have hb5 : (0 : Int) ≤ (A : Int) ∧ (A : Int) ≤ (dc : Int) := by omega
    have HAN : Hid _ := hAn
    have HLT : Hid _ := hlt
    have HS0 : Hid _ := h0
    clear hAn hlt hdt h0
    go_wp2_with fail
    clear HB1 HBY1 HB2 HBY2 HS2 HCS HCM HCP HCG HCX HLS HB4 HBY4 HS4 HB5 HBY5 HS5 HB45 HB6 HBY6 HS6 HB7 HBY7 HS7 HB8 HBY8 HS8 HB9 HBY9 HS9 HB10 HBY10 HS10 HI1
    go_region_with (first
      | (go_at_call_of 25 k; refine (HPK.out _).mono ?_; rintro e w' ⟨⟨J, hJ, rfl⟩, rfl⟩)
      | (go_at_call_of 25 b; refine (HPB.out _).mono ?_; rintro e w' ⟨⟨y, hy, rfl⟩, rfl⟩)
      | (go_at_call 29; refine (HCH.out _ ?_ _ _ ?_ ?_).mono ?_; exact below_drewN (Below.refl _ _) 1; simp only [IntKind.wrap_i64]; omega; simp only [IntKind.wrap_i64]; omega; rintro e w' ⟨vo, vc, rfl, hbc, href⟩)
      | (go_at_call 28; refine Calls.mono href ?_; rintro e w' ⟨rfl, hbr⟩))
    all_goals (try go_wp2)
    all_goals go_ret
    all_goals exact ⟨rfl, HB11.out.trans ((hbc.trans (hbr.mono hbc.size)).mono HB11.out.size)⟩
end Go.Proofs.Ytnpnaglgllcpfab
