/-
  Lemmas for the law All: Rd7, Same, Reads0.
-/
import Derived.Test.YtnpnaglgllcpfaaGreatM13
import Derived.Lib.AppendStr
import Derived.Test.YtnpnaglgllcpfaaGreatM04
import Derived.Laws.IdiomStrings
/- What the document's Read answers of bytes in memory. -/
namespace Go.Proofs.YtnpnaglgllcpfaaGreat
set_option maxRecDepth 100000
open Go.RowKit

theorem text_bytes (L : List Bool) : (⟨(chars L).toArray⟩ : ByteArray) = text L := rfl
theorem strCells_text (L : List Bool) : Lib.strCells (text L) = cellsB (chars L) := by
  simp [Lib.strCells, text, cellsB]
/-- How Read ends. -/
def ReadAns (w w' : World) (s : List UInt8) (e : Ending) : Prop :=
  Below w.heap.size w w' ∧ e = .returned (.pointer (some ⟨w.heap.size, 0, none⟩)) ∧ ∃ L n vP vD vE, TextAt w' w.heap.size L n (rRead s).1 vP vD vE ∧ Lists w' (w.heap.size + 1) (rRead s).2.1 (rRead s).2.2.1 (rRead s).2.2.2 vP vD vE
theorem text_new (w : World) : TextAt (w.alloc (.cells #[.string ⟨#[]⟩, .int .i64 0, .int .i64 0, .slice none 0 0, .slice none 0 0, .slice none 0 0] 92)) w.heap.size [] 0 0 (.slice none 0 0) (.slice none 0 0) (.slice none 0 0) :=
  heap_alloc_new w _
/-- What holds at the head of Read's loop. -/
def MainRel (w wr : World) (q : Nat) (L : List Bool) (g : Nat) (RES : Int × List (List Tok) × List UInt8 × List Nat) : Prop :=
  Below q w wr ∧ ∃ n ps data ends E vP vD vE, n ≤ L.length ∧ TextAt wr q L n E vP vD vE ∧ Lists wr (q + 1) ps data ends vP vD vE ∧
    ((E = 0 ∧ g = L.length + 1 - n ∧ n % 8 = 0 ∧ ps.length ≤ n / 8 ∧ ends.length ≤ n / 8 ∧ data.length ≤ 64 * ps.length ∧ ∃ f, L.length + 1 ≤ f + n ∧ RES = rMain L f ps data ends (L.drop n)) ∨
     (E ≠ 0 ∧ g = 0 ∧ RES = (E, ps, data, ends)))
set_option maxHeartbeats 1000000 in
theorem read_calls (a : Option Addr) (l : List UInt8) (cap : Nat) (w : World) (hl : l.length ≤ 9223372036854775807) (hb : BytesAt w a l) :
    Calls Tryz.prog 42 #[.slice a l.length cap] w fun e w' => ReadAns w w' l e := by
  have HB : Hid (BytesAt w a l) := hb
  have HT0 : Hid _ := text_new w
  clear hb
  by_cases hlong : 4096 < l.length
  · have HR : Hid (rRead l = (1, [], [], [])) := if_pos hlong
    obtain ⟨⟨c0, c1, c2⟩, f1, f2⟩ := TextAt.cell HT0.out
    go_enter Tryz.func42, Tryz.ntmps42
    go_wp2
    go_ret
    exact ⟨(Below.refl _ _).alloc (Nat.le_refl _) _, rfl, [], 0, _, _, _, by rw [HR.out]; exact heap_alloc_new w _, by rw [HR.out]; exact lists_nil _ _⟩
  · have hl4 : l.length ≤ 4096 := by omega
    clear hlong hl
    obtain ⟨i8, hi8, h80, h81, h82⟩ := info_parts info8
    have HBW : Hid (Below w.heap.size w (w.alloc (.cells #[.string ⟨#[]⟩, .int .i64 0, .int .i64 0, .slice none 0 0, .slice none 0 0, .slice none 0 0] 92))) := (Below.refl _ _).alloc (Nat.le_refl _) _
    have hsz0 : w.heap.size + 1 ≤ (w.alloc (.cells #[.string ⟨#[]⟩, .int .i64 0, .int .i64 0, .slice none 0 0, .slice none 0 0, .slice none 0 0] 92)).heap.size := by simp
    have HSZ0 : Hid _ := hsz0
    clear hsz0
    go_enter Tryz.func42, Tryz.ntmps42
    go_wp2
    go_loopw [4, 5] (fun v i wr => ∃ (k : Nat), k ≤ l.length ∧ i = .int .i64 k ∧ OwnB wr (w.heap.size + 1) v (chars (bitsIn (l.take k))) ∧ Hid (TextAt wr w.heap.size [] 0 0 (.slice none 0 0) (.slice none 0 0) (.slice none 0 0)) ∧ Below w.heap.size w wr ∧ w.heap.size + 1 ≤ wr.heap.size) (fun _ i _ => l.length - (intOf i).toNat)
    case atStart => exact ⟨0, Nat.zero_le _, rfl, World.ownsRow_nil _ _ _ _, HT0, HBW.out, HSZ0.out⟩
    case round =>
      obtain ⟨k, hk, rfl, hown, htx, hbl, hsz⟩ := hrel
      clear HT0 HBW HSZ0
      have HO : Hid (OwnB wr (w.heap.size + 1) _ (chars (bitsIn (l.take k)))) := hown
      have hlc : (chars (bitsIn (l.take k))).length = 8 * k := by rw [chars_length, bitsIn_length, List.length_take]; omega
      have HLC : Hid _ := hlc
      have hlc2 : (chars (bitsIn (l.take k))).length ≤ 32768 := by omega
      obtain ⟨ao, cp, rfl⟩ := hown.form
      clear hown hlc
      by_cases hlt : k < l.length
      · obtain ⟨b, off, ha, hcell⟩ : ∃ b off, a = some ⟨b, off, none⟩ ∧ ∀ i, i < l.length → w.cell? ⟨b, off + i, none⟩ = some (.int .u8 (l.getD i 0).toNat) := by
          rcases HB.out with h | h
          · rw [h] at hlt; simp at hlt
          · exact h
        subst ha
        have c0 := hcell k hlt
        have hbw : b < w.heap.size := World.block_lt_of_cell? w _ c0
        rw [← hbl.cell (p := ⟨b, _, none⟩) hbw] at c0
        have HS : Hid (bitsIn (l.take (k + 1)) = bitsIn (l.take k) ++ bin (l.getD k 0).toNat 8) := by show _ = _; rw [Plain.take_snoc l k hlt, bitsIn_snoc]
        have hcn : (l.getD k 0).toNat < 256 := (l.getD k 0).toNat_lt
        generalize l.getD k 0 = c at *
        clear hcell
        go_wp2_with fail
        refine (binary_calls _ _ _ (by omega) (by omega) (by omega) (by omega)).mono ?_
        rintro r w1 ⟨rfl, rfl⟩
        rw [show ((8 : Int).toNat = 8) from rfl, Int.toNat_natCast]
        have hts : (text (bin c.toNat 8)).size = 8 := text_size _ _
        have HTS : Hid _ := hts
        have hts2 : (text (bin c.toNat 8)).size ≤ 8 := by omega
        clear hts
        go_wp2_with (at_builtin; refine Lib.wpList_append_own_string _ rfl (.tmp 30) (.tmp 31) 37 9 rfl (w.heap.size + 1) 5 i8 Tryz.underlying37 Tryz.underlying9 hi8 h80 h81 h82 _ _ _ rfl HO.out (text (bin c.toNat 8)) rfl ?n1 ?n2 ?n3 ?_)
        case n1 => unfold maxLen; omega
        case n2 => omega
        case n3 => omega
        intro v' w2 hown2 hgrow2 _
        have O2 : OwnB w2 (w.heap.size + 1) v' (chars (bitsIn (l.take (k + 1)))) := by
          rw [HS.out, chars_append]
          unfold OwnB
          rw [show cellsB (chars (bitsIn (l.take k)) ++ chars (bin c.toNat 8)) = cellsB (chars (bitsIn (l.take k))) ++ cellsB (chars (bin c.toNat 8)) by simp [cellsB], List.length_append, ← strCells_text]
          have e : (chars (bin c.toNat 8)).length = (text (bin c.toNat 8)).size := by rw [HTS.out, chars_length, bin_length]
          rw [e]; exact hown2
        have T2 : Hid (TextAt w2 w.heap.size [] 0 0 (.slice none 0 0) (.slice none 0 0) (.slice none 0 0)) := text_grown HO.out (by omega) htx.out hgrow2
        have B2 : Below w.heap.size w w2 := hbl.grown hgrow2 (by omega) (fun k hk => by have := (World.ownsRow.lt HO.out k hk).1; omega)
        have hs2 := hgrow2.size
        clear hown2 hgrow2
        go_wp2
        go_roundw
        case rel => exact ⟨k + 1, by omega, by go_num, O2, T2, B2, by omega⟩
        case measure => simp [intOf]; omega
      · have hke : k = l.length := by omega
        have e1 : l.take k = l := by rw [hke, List.take_length]
        rw [e1] at HO hlc2 ⊢
        have kc : (convert 37 9 (.slice ao (chars (bitsIn l)).length cp)).run Tryz.prog wr = .ok (.string (text (bitsIn l))) wr := conv_own HO.out
        have hLL : (bitsIn l).length ≤ 32768 := by rw [bitsIn_length]; omega
        have H8 : Hid ((bitsIn l).length % 8 = 0) := by show _ = _; rw [bitsIn_length]; omega
        obtain ⟨⟨d0, d1, d2⟩, q1, q2⟩ := TextAt.cell htx.out
        have dz : wr.frozen? ⟨w.heap.size, 0, none⟩ = false := by have := htx.out; unfold TextAt at this; simp [World.frozen?, this]
        have T3 : Hid (TextAt (wr.setCell ⟨w.heap.size, 0, none⟩ (.string (text (bitsIn l)))) w.heap.size (bitsIn l) 0 0 (.slice none 0 0) (.slice none 0 0) (.slice none 0 0)) := by
          show TextAt _ _ _ _ _ _ _ _
          unfold TextAt
          rw [set_block htx.out]; rfl
        have B3 : Hid (Below w.heap.size w (wr.setCell ⟨w.heap.size, 0, none⟩ (.string (text (bitsIn l))))) := hbl.setCell (Nat.le_refl _) _
        have HRD : Hid (rRead l = match rMagic [80, 90, 49] (bitsIn l) with | .error c => (c, [], [], []) | .ok R => rMain (bitsIn l) ((bitsIn l).length + 1) [] [] [] R) := if_neg (by omega)
        clear hke e1
        generalize bitsIn l = L at *
        clear HO hlc2 HLC
        go_wp2_with fail
        have hsz3 : w.heap.size + 1 ≤ (wr.setCell ⟨w.heap.size, 0, none⟩ (.string (text L))).heap.size := by rw [set_size]; exact hsz
        clear kc d0 d1 d2 q1 q2 dz htx hbl hsz
        generalize wr.setCell ⟨w.heap.size, 0, none⟩ (.string (text L)) = w3 at *
        refine (magic_calls w.heap.size L _ _ _ w3 T3.out (by omega)).mono ?_
        rintro r w4 ⟨rfl, hmag⟩
        have start : ∃ g, MainRel w w4 w.heap.size L g (rRead l) := by
          obtain ⟨hk4, ⟨h24, ht4, heq⟩ | ⟨c, m, hc, hm, ht4, heq⟩⟩ := hmag
          · have hb4 : Below w.heap.size w w4 := B3.out.trans (hk4.below (Nat.le_refl _) (by omega))
            refine ⟨_, hb4, 24, [], [], [], 0, _, _, _, by omega, ht4, lists_nil _ _, .inl ⟨rfl, rfl, rfl, by simp, by simp, by simp, L.length + 1, by omega, ?_⟩⟩
            rw [HRD.out, heq]; rfl
          · have hb4 : Below w.heap.size w w4 := B3.out.trans (hk4.below (Nat.le_refl _) (by omega))
            refine ⟨_, hb4, m, [], [], [], c, _, _, _, hm, ht4, lists_nil _ _, .inr ⟨hc, rfl, ?_⟩⟩
            rw [HRD.out, heq]
        obtain ⟨g0, hst⟩ := start
        have HST : Hid (MainRel w w4 w.heap.size L g0 (rRead l)) := hst
        have hs4 : w.heap.size + 1 ≤ w4.heap.size := by have := hmag.1.size; omega
        clear hmag hst T3 B3 HRD
        generalize hRES : rRead l = RES at *
        have HRES : Hid (rRead l = RES) := hRES
        clear hRES
        go_wp2_with fail
        go_loopg [7] g0 (fun g _ wr => Hid (MainRel w wr w.heap.size L g RES))
        case atStart => exact HST
        case round =>
          clear HST hs4
          obtain ⟨hbw, n, ps, data, ends, E, vP, vD, vE, hn, htx, hls, hcase⟩ := hrel.out
          clear hrel
          have HBW : Hid (Below w.heap.size w wr) := hbw
          have HLS : Hid (Lists wr (w.heap.size + 1) ps data ends vP vD vE) := hls
          have HTX : Hid (TextAt wr w.heap.size L n E vP vD vE) := htx
          obtain ⟨⟨c0, c1, c2⟩, f1, f2⟩ := htx.cell
          have hq := htx.lt
          obtain ⟨ap, cpp, rfl⟩ : ∃ ao cp, vP = .slice ao ps.length cp := by
            obtain ⟨vs, ho, _⟩ := hls.pieces
            rcases ho.2 with ⟨h, hn⟩ | ⟨g, c, _, h, _⟩
            · exact ⟨none, 0, by rw [h, hn]⟩
            · exact ⟨_, _, h⟩
          obtain ⟨ad, cd, rfl⟩ := OwnB.form hls.data
          clear hbw hls htx c0 c1 f1 f2
          rcases hcase with ⟨rfl, hg, hn8, hpl, hel, hdl, f, hf, hres⟩ | ⟨hE, hg, hres⟩
          · obtain ⟨f, rfl⟩ : ∃ f', f = f' + 1 := ⟨f - 1, by omega⟩
            have HRS : Hid (RES = rMain L (f + 1) ps data ends (L.drop n)) := hres
            have HG : Hid (gk = L.length + 1 - n) := hg
            clear hres hg
            go_wp2_with fail
            refine (rnumber_calls w.heap.size L n 5 _ _ vE _ HTX.out hn (by omega) (by decide)).mono ?_
            rintro r w5 ⟨hk5, ⟨c, m, hnum, hc, hm, rfl, ht5⟩ | ⟨v, m, hnum, hm1, hm2, hv1, hv2, rfl, ht5⟩⟩
            · have HT5 : Hid (TextAt w5 w.heap.size L m c (.slice ap ps.length cpp) (.slice ad data.length cd) vE) := ht5
              have HL5 : Hid (Lists w5 (w.heap.size + 1) ps data ends (.slice ap ps.length cpp) (.slice ad data.length cd) vE) := HLS.out.one hk5 (by omega)
              have HB5 : Hid (Below w.heap.size w w5) := HBW.out.trans (hk5.below (Nat.le_refl _) (by omega))
              have HC : Hid (c ≠ 0) := hc
              have HR5 : Hid (RES = (c, ps, data, ends)) := by show _ = _; rw [HRS.out]; exact rMain_num hnum
              clear ht5 hk5 hc hnum
              obtain ⟨⟨c0, c1, c2⟩, f1, f2⟩ := TextAt.cell HT5.out
              obtain ⟨⟨d3, d4, d5⟩, g3, g4, g5⟩ := TextAt.lists HT5.out
              clear c0 c1 f1 f2 d5 g3 g4 g5
              by_cases hsh : data.length = 64 * ps.length
              · have hshb : ((data.length : Int) != 64 * (ps.length : Int)) = false := by simp; omega
                clear hsh
                go_wp2_with fail
                go_quiet (fail)
                go_wp2_with fail
                refine (frame_err w.heap.size L m c _ _ _ vE _ (by exact HT5.out) HC.out).mono ?_
                rintro r w6 ⟨rfl, rfl⟩
                go_wp2
                go_roundg 0
                case measure => have := HG.out; omega
                case rel => exact ⟨below_drewN HB5.out _, m, ps, data, ends, c, _, _, vE, hm, HT5.out, Lists.drewN HL5.out _, .inr ⟨HC.out, rfl, HR5.out⟩⟩
              · have hshb : ((data.length : Int) != 64 * (ps.length : Int)) = true := by simp; omega
                clear hsh
                go_wp2_with fail
                go_quiet (fail)
                go_wp2_with fail
                refine (err_keeps w.heap.size L m c 5 _ _ vE _ (by exact HT5.out) HC.out).mono ?_
                rintro r w6 ⟨rfl, rfl⟩
                go_wp2_with fail
                refine (frame_err w.heap.size L m c _ _ _ vE _ (by exact HT5.out) HC.out).mono ?_
                rintro r w7 ⟨rfl, rfl⟩
                go_wp2
                go_roundg 0
                case measure => have := HG.out; omega
                case rel => exact ⟨below_drewN HB5.out _, m, ps, data, ends, c, _, _, vE, hm, HT5.out, Lists.drewN HL5.out _, .inr ⟨HC.out, rfl, HR5.out⟩⟩
            · have HT5 : Hid (TextAt w5 w.heap.size L m 0 (.slice ap ps.length cpp) (.slice ad data.length cd) vE) := ht5
              have HL5 : Hid (Lists w5 (w.heap.size + 1) ps data ends (.slice ap ps.length cpp) (.slice ad data.length cd) vE) := HLS.out.one hk5 (by omega)
              have HB5 : Hid (Below w.heap.size w w5) := HBW.out.trans (hk5.below (Nat.le_refl _) (by omega))
              have HNM : Hid (rNum 5 0 (L.drop n) = .ok (v, L.drop m)) := hnum
              have hs5 := hk5.size
              clear ht5 hk5 hnum
              have htl : (text L).size = L.length := text_len L
              by_cases hv : v = 1
              · subst hv
                go_wp2_with fail
                refine (rest_calls w.heap.size L m _ _ vE _ HT5.out hm2 (by omega) H8.out).mono ?_
                rintro r w6 ⟨rfl, hk6, ⟨hpad, m2, hm6, ht6⟩ | ⟨hpad, hbe, ht6⟩⟩
                · have HR6 : Hid (RES = (7, ps, data, ends)) := by show _ = _; rw [HRS.out]; exact rMain_pad HNM.out hpad
                  have HT6 : Hid (TextAt w6 w.heap.size L m2 7 (.slice ap ps.length cpp) (.slice ad data.length cd) vE) := ht6
                  have HL6 : Hid (Lists w6 (w.heap.size + 1) ps data ends (.slice ap ps.length cpp) (.slice ad data.length cd) vE) := HL5.out.one hk6 (by omega)
                  have HB6 : Hid (Below w.heap.size w w6) := HB5.out.trans (hk6.below (Nat.le_refl _) (by omega))
                  obtain ⟨⟨c0, c1, c2⟩, f1, f2⟩ := ht6.cell
                  clear ht6 hk6 hpad f1 f2
                  by_cases hmo : m2 < L.length
                  · have hmb : decide ((m2 : Int) < (L.length : Int)) = true := by simp; omega
                    go_wp2_with fail
                    go_quiet (fail)
                    go_wp2_with fail
                    refine (err_keeps w.heap.size L m2 7 9 _ _ vE _ (by exact HT6.out) (by decide)).mono ?_
                    rintro r w7 ⟨rfl, rfl⟩
                    go_wp2
                    go_ret
                    refine ⟨below_drewN HB6.out _, rfl, L, m2, .slice ap ps.length cpp, .slice ad data.length cd, vE, ?_, ?_⟩
                    · rw [HRES.out, HR6.out]; exact HT6.out
                    · rw [HRES.out, HR6.out]; exact Lists.drewN HL6.out _
                  · have hmb : decide ((m2 : Int) < (L.length : Int)) = false := by simp; omega
                    go_wp2_with fail
                    go_quiet (fail)
                    go_wp2
                    go_ret
                    refine ⟨below_drewN HB6.out _, rfl, L, m2, .slice ap ps.length cpp, .slice ad data.length cd, vE, ?_, ?_⟩
                    · rw [HRES.out, HR6.out]; exact HT6.out
                    · rw [HRES.out, HR6.out]; exact Lists.drewN HL6.out _
                · have HR6 : Hid (RES = ((if byteEnd L m < L.length then 9 else 0), ps, data, ends)) := by show _ = _; rw [HRS.out]; exact rMain_end HNM.out hpad
                  have HT6 : Hid (TextAt w6 w.heap.size L (byteEnd L m) 0 (.slice ap ps.length cpp) (.slice ad data.length cd) vE) := ht6
                  have HL6 : Hid (Lists w6 (w.heap.size + 1) ps data ends (.slice ap ps.length cpp) (.slice ad data.length cd) vE) := HL5.out.one hk6 (by omega)
                  have HB6 : Hid (Below w.heap.size w w6) := HB5.out.trans (hk6.below (Nat.le_refl _) (by omega))
                  have hs6 := hk6.size
                  obtain ⟨⟨c0, c1, c2⟩, f1, f2⟩ := ht6.cell
                  clear ht6 hk6 hpad f1 f2
                  generalize byteEnd L m = m2 at *
                  by_cases hmo : m2 < L.length
                  · have HR7 : Hid (RES = (9, ps, data, ends)) := by show _ = _; rw [HR6.out, if_pos hmo]
                    have hmb : decide ((m2 : Int) < (L.length : Int)) = true := by simp; omega
                    clear HR6
                    go_wp2_with fail
                    go_quiet (fail)
                    go_wp2_with fail
                    refine (err_sets w.heap.size L m2 9 _ _ vE _ (by exact HT6.out)).mono ?_
                    rintro r w7 ⟨rfl, ht7, hk7⟩
                    have HT7 : Hid (TextAt w7 w.heap.size L m2 9 (.slice ap ps.length cpp) (.slice ad data.length cd) vE) := ht7
                    have HL7 : Hid (Lists w7 (w.heap.size + 1) ps data ends (.slice ap ps.length cpp) (.slice ad data.length cd) vE) := Lists.one (Lists.drewN HL6.out _) hk7 (by omega)
                    have HB7 : Hid (Below w.heap.size w w7) := (below_drewN HB6.out _).trans (hk7.below (Nat.le_refl _) (by show w.heap.size ≤ w6.heap.size; omega))
                    clear ht7 hk7
                    go_wp2
                    go_ret
                    refine ⟨HB7.out, rfl, L, m2, .slice ap ps.length cpp, .slice ad data.length cd, vE, ?_, ?_⟩
                    · rw [HRES.out, HR7.out]; exact HT7.out
                    · rw [HRES.out, HR7.out]; exact HL7.out
                  · have HR7 : Hid (RES = (0, ps, data, ends)) := by show _ = _; rw [HR6.out, if_neg hmo]
                    have hmb : decide ((m2 : Int) < (L.length : Int)) = false := by simp; omega
                    clear HR6
                    go_wp2_with fail
                    go_quiet (fail)
                    go_wp2
                    go_ret
                    refine ⟨below_drewN HB6.out _, rfl, L, m2, .slice ap ps.length cpp, .slice ad data.length cd, vE, ?_, ?_⟩
                    · rw [HRES.out, HR7.out]; exact HT6.out
                    · rw [HRES.out, HR7.out]; exact Lists.drewN HL6.out _
              · have hv1' : ((v : Int) == 1) = false := beq_eq_false_iff_ne.2 (by omega)
                obtain ⟨⟨c0, c1, c2⟩, f1, f2⟩ := TextAt.cell HT5.out
                obtain ⟨⟨d3, d4, d5⟩, g3, g4, g5⟩ := TextAt.lists HT5.out
                clear c0 c1 f1 f2 d5 g3 g4 g5
                by_cases hbad : 64 < v - 1 ∨ data.length ≠ 64 * ps.length
                · have HR5 : Hid (RES = (5, ps, data, ends)) := by show _ = _; rw [HRS.out]; exact rMain_long HNM.out hv hbad
                  by_cases hvv : 64 < v - 1
                  · have hvv' : 64 < (v : Int) - 1 := by omega
                    clear hbad hvv
                    go_wp2_with fail
                    go_quiet (fail)
                    go_wp2_with fail
                    refine (err_sets w.heap.size L m 5 _ _ vE _ (by exact HT5.out)).mono ?_
                    rintro r w6 ⟨rfl, ht6, hk6⟩
                    have HT6 : Hid (TextAt w6 w.heap.size L m 5 (.slice ap ps.length cpp) (.slice ad data.length cd) vE) := ht6
                    have HL6 : Hid (Lists w6 (w.heap.size + 1) ps data ends (.slice ap ps.length cpp) (.slice ad data.length cd) vE) := Lists.one (Lists.drewN HL5.out _) hk6 (by omega)
                    have HB6 : Hid (Below w.heap.size w w6) := (below_drewN HB5.out _).trans (hk6.below (Nat.le_refl _) (by show w.heap.size ≤ w5.heap.size; omega))
                    clear ht6 hk6
                    go_wp2_with fail
                    refine (frame_err w.heap.size L m 5 _ _ _ vE _ (by exact HT6.out) (by decide)).mono ?_
                    rintro r w7 ⟨rfl, rfl⟩
                    go_wp2
                    go_roundg 0
                    case measure => have := HG.out; omega
                    case rel => exact ⟨HB6.out, m, ps, data, ends, 5, _, _, vE, hm2, HT6.out, HL6.out, .inr ⟨by decide, rfl, HR5.out⟩⟩
                  · have hshb : ((data.length : Int) != 64 * (ps.length : Int)) = true := by simp; omega
                    have hvv' : (v : Int) - 1 ≤ 64 := by omega
                    clear hbad hvv
                    go_wp2_with fail
                    go_quiet (fail)
                    go_wp2_with fail
                    refine (err_sets w.heap.size L m 5 _ _ vE _ (by exact HT5.out)).mono ?_
                    rintro r w6 ⟨rfl, ht6, hk6⟩
                    have HT6 : Hid (TextAt w6 w.heap.size L m 5 (.slice ap ps.length cpp) (.slice ad data.length cd) vE) := ht6
                    have HL6 : Hid (Lists w6 (w.heap.size + 1) ps data ends (.slice ap ps.length cpp) (.slice ad data.length cd) vE) := Lists.one (Lists.drewN HL5.out _) hk6 (by omega)
                    have HB6 : Hid (Below w.heap.size w w6) := (below_drewN HB5.out _).trans (hk6.below (Nat.le_refl _) (by show w.heap.size ≤ w5.heap.size; omega))
                    clear ht6 hk6
                    go_wp2_with fail
                    refine (frame_err w.heap.size L m 5 _ _ _ vE _ (by exact HT6.out) (by decide)).mono ?_
                    rintro r w7 ⟨rfl, rfl⟩
                    go_wp2
                    go_roundg 0
                    case measure => have := HG.out; omega
                    case rel => exact ⟨HB6.out, m, ps, data, ends, 5, _, _, vE, hm2, HT6.out, HL6.out, .inr ⟨by decide, rfl, HR5.out⟩⟩
                · have hsh : data.length = 64 * ps.length := by omega
                  have hshb : ((data.length : Int) != 64 * (ps.length : Int)) = false := by simp; omega
                  have hvv' : (v : Int) - 1 ≤ 64 := by omega
                  have hcast : (v : Int) - 1 = ((v - 1 : Nat) : Int) := by omega
                  have HCA : Hid ((v : Int) - 1 = ((v - 1 : Nat) : Int)) := hcast
                  have HBAD : Hid (¬ (64 < v - 1 ∨ data.length ≠ 64 * ps.length)) := hbad
                  have hd400 : data.length ≤ 400000 := by omega
                  clear hcast hbad hsh
                  go_wp2_with fail
                  go_quiet (fail)
                  go_wp2_with fail
                  rw [HCA.out]
                  refine (rframe_calls w.heap.size (w.heap.size + 1) L (v - 1) m ps data ends _ _ vE _ (by exact HT5.out) (Lists.drewN HL5.out _) (by omega) (by show w.heap.size + 1 ≤ w5.heap.size; omega) hm2 (by omega) H8.out (by omega) (by omega) (by omega) hd400 (by omega)).mono ?_
                  rintro r w6 ⟨rfl, hb6, ⟨c, m', hfr, hc, hm', ht6, hl6⟩ | ⟨ts, out, m', vP', vD', vE', hfr, hex, hol, hmm, hm', hm8, ht6, hl6⟩⟩
                  · have HR6 : Hid (RES = (c, ps, data, ends)) := by show _ = _; rw [HRS.out]; exact rMain_err HNM.out hv HBAD.out hfr
                    have HT6 : Hid (TextAt w6 w.heap.size L m' c (.slice ap ps.length cpp) (.slice ad data.length cd) vE) := ht6
                    have HL6 : Hid (Lists w6 (w.heap.size + 1) ps data ends (.slice ap ps.length cpp) (.slice ad data.length cd) vE) := hl6
                    have HB6 : Hid (Below w.heap.size w w6) := (below_drewN HB5.out _).trans hb6
                    have HC : Hid (c ≠ 0) := hc
                    clear ht6 hl6 hb6 hc hfr
                    go_wp2
                    go_roundg 0
                    case measure => have := HG.out; omega
                    case rel => exact ⟨HB6.out, m', ps, data, ends, c, _, _, vE, hm', HT6.out, HL6.out, .inr ⟨HC.out, rfl, HR6.out⟩⟩
                  · have hmd : made ts = out := by simp [made, hex]
                    have HR6 : Hid (RES = rMain L f (ps ++ [ts]) (data ++ out) (ends ++ [m' / 8]) (L.drop m')) := by
                      show _ = _
                      rw [HRS.out, ← hmd]
                      exact rMain_next HNM.out hv HBAD.out hfr hm'
                    have HT6 : Hid (TextAt w6 w.heap.size L m' 0 vP' vD' vE') := ht6
                    have HL6 : Hid (Lists w6 (w.heap.size + 1) (ps ++ [ts]) (data ++ out) (ends ++ [m' / 8]) vP' vD' vE') := hl6
                    have HB6 : Hid (Below w.heap.size w w6) := (below_drewN HB5.out _).trans hb6
                    clear ht6 hl6 hb6 hfr hex hmd
                    have hstep : n / 8 + 1 ≤ m' / 8 := by omega
                    go_wp2
                    go_roundg (L.length + 1 - m')
                    case measure => have := HG.out; omega
                    case rel => exact ⟨HB6.out, m', ps ++ [ts], data ++ out, ends ++ [m' / 8], 0, vP', vD', vE', hm', HT6.out, HL6.out, .inl ⟨rfl, rfl, hm8, by simp; omega, by simp; omega, by simp; omega, f, by omega, HR6.out⟩⟩
          · have HRS : Hid (RES = (E, ps, data, ends)) := hres
            have hE' : (E == 0) = false := beq_eq_false_iff_ne.2 hE
            have HG : Hid _ := hg
            clear hres hg hE
            go_wp2
            go_ret
            refine ⟨HBW.out, rfl, L, n, .slice ap ps.length cpp, .slice ad data.length cd, vE, ?_, ?_⟩
            · rw [HRES.out, HRS.out]; exact HTX.out
            · rw [HRES.out, HRS.out]; exact HLS.out
end Go.Proofs.YtnpnaglgllcpfaaGreat

/- The laws' comparisons of tokens: lists of the same tokens are told the same. -/
namespace Go.Proofs.YtnpnaglgllcpfaaGreat
set_option maxRecDepth 100000
open Go.RowKit

set_option maxHeartbeats 1000000 in
theorem sameTokens_calls (a a' : Option Addr) (ts : List Tok) (cap cap' : Nat) (w : World) (hl : ts.length ≤ 9223372036854775807) (ht : ToksAt w a ts) (ht' : ToksAt w a' ts) :
    Calls Tryz.prog 38 #[.slice a ts.length cap, .slice a' ts.length cap'] w fun e w' => e = .returned (.bool true) ∧ ∃ n, w' = w.drewN n := by
  have HT : Hid (ToksAt w a ts) := ht
  have HT' : Hid (ToksAt w a' ts) := ht'
  clear ht ht'
  go_enter Tryz.func38, Tryz.ntmps38
  go_wp2
  go_loopw [5] (fun i wr => ∃ (k : Nat), k ≤ ts.length ∧ i = .int .i64 k ∧ ∃ n, wr = w.drewN n) (fun i _ => ts.length - (intOf i).toNat)
  case atStart => exact ⟨0, Nat.zero_le _, rfl, 0, rfl⟩
  case round =>
    obtain ⟨k, hk, rfl, nd, rfl⟩ := hrel
    by_cases hlt : k < ts.length
    · obtain ⟨b, off, ha, hbl, hcell⟩ : ∃ b off, a = some ⟨b, off, none⟩ ∧ b < w.heap.size ∧ ∀ i (hi : i < ts.length),
          w.cell? ⟨b, off + i * 3, none⟩ = some (.int .i64 ts[i].len) ∧ w.cell? ⟨b, off + i * 3 + 1, none⟩ = some (.int .i64 ts[i].dist) ∧ w.cell? ⟨b, off + i * 3 + 2, none⟩ = some (.int .i64 ts[i].byte) := by
        rcases HT.out with h | h
        · rw [h] at hlt; simp at hlt
        · exact h
      obtain ⟨b', off', ha', hbl', hcell'⟩ : ∃ b off, a' = some ⟨b, off, none⟩ ∧ b < w.heap.size ∧ ∀ i (hi : i < ts.length),
          w.cell? ⟨b, off + i * 3, none⟩ = some (.int .i64 ts[i].len) ∧ w.cell? ⟨b, off + i * 3 + 1, none⟩ = some (.int .i64 ts[i].dist) ∧ w.cell? ⟨b, off + i * 3 + 2, none⟩ = some (.int .i64 ts[i].byte) := by
        rcases HT'.out with h | h
        · rw [h] at hlt; simp at hlt
        · exact h
      subst ha ha'
      obtain ⟨c0, c1, c2⟩ := hcell k hlt
      obtain ⟨c0', c1', c2'⟩ := hcell' k hlt
      clear hcell hcell'
      generalize ts[k] = t at *
      obtain ⟨l, d, x⟩ := t
      simp only at c0 c1 c2 c0' c1' c2'
      have hix : 0 ≤ (k : Int) ∧ (k : Int) < (ts.length : Int) := by omega
      have e0 : (l != l) = false := by simp
      have e1 : (d != d) = false := by simp
      have e2 : (x != x) = false := by simp
      go_wp2_with fail
      go_quiet (fail)
      go_wp2
      go_roundw
      case rel => exact ⟨k + 1, by omega, by go_num, _, rfl⟩
      case measure => simp [intOf]; omega
    · go_wp2
      go_ret
      exact ⟨rfl, nd, rfl⟩
set_option maxHeartbeats 1000000 in
theorem samePieces_calls (a a' : Option Addr) (ps : List (List Tok)) (cap cap' : Nat) (w : World) (hl : ps.length ≤ 9223372036854775807) (ht : PiecesAt w a ps) (ht' : PiecesAt w a' ps) :
    Calls Tryz.prog 50 #[.slice a ps.length cap, .slice a' ps.length cap'] w fun e w' => e = .returned (.bool true) ∧ ∃ n, w' = w.drewN n := by
  have HT : Hid (PiecesAt w a ps) := ht
  have HT' : Hid (PiecesAt w a' ps) := ht'
  clear ht ht'
  go_enter Tryz.func50, Tryz.ntmps50
  go_wp2
  go_loopw [5] (fun i wr => ∃ (k : Nat), k ≤ ps.length ∧ i = .int .i64 k ∧ ∃ n, wr = w.drewN n) (fun i _ => ps.length - (intOf i).toNat)
  case atStart => exact ⟨0, Nat.zero_le _, rfl, 0, rfl⟩
  case round =>
    obtain ⟨k, hk, rfl, nd, rfl⟩ := hrel
    by_cases hlt : k < ps.length
    · obtain ⟨b, off, ha, hbl, hcell⟩ : ∃ b off, a = some ⟨b, off, none⟩ ∧ b < w.heap.size ∧ ∀ i, i < ps.length → ∃ ai ci, w.cell? ⟨b, off + i, none⟩ = some (.slice ai (ps.getD i []).length ci) ∧ (ps.getD i []).length ≤ 9223372036854775807 ∧ ToksAt w ai (ps.getD i []) := by
        rcases HT.out with h | h
        · rw [h] at hlt; simp at hlt
        · exact h
      obtain ⟨b', off', ha', hbl', hcell'⟩ : ∃ b off, a' = some ⟨b, off, none⟩ ∧ b < w.heap.size ∧ ∀ i, i < ps.length → ∃ ai ci, w.cell? ⟨b, off + i, none⟩ = some (.slice ai (ps.getD i []).length ci) ∧ (ps.getD i []).length ≤ 9223372036854775807 ∧ ToksAt w ai (ps.getD i []) := by
        rcases HT'.out with h | h
        · rw [h] at hlt; simp at hlt
        · exact h
      subst ha ha'
      obtain ⟨ai, ci, c0, hl0, htk⟩ := hcell k hlt
      obtain ⟨ai', ci', c0', _, htk'⟩ := hcell' k hlt
      clear hcell hcell'
      generalize ps.getD k [] = ts at *
      have d0 : (w.drewN nd).cell? ⟨b, off + k, none⟩ = some (.slice ai ts.length ci) := c0
      have d0' : (w.drewN nd).cell? ⟨b', off' + k, none⟩ = some (.slice ai' ts.length ci') := c0'
      have HTK : Hid (ToksAt (w.drewN nd) ai ts) := htk.drewN _
      have HTK' : Hid (ToksAt (w.drewN nd) ai' ts) := htk'.drewN _
      have hix : 0 ≤ (k : Int) ∧ (k : Int) < (ps.length : Int) := by omega
      clear htk htk' c0 c0'
      generalize hw0 : w.drewN nd = w0 at *
      have HW0 : Hid (w.drewN nd = w0) := hw0
      clear hw0
      go_wp2_with fail
      go_quiet ((go_at_call 38; exact Calls.quiet_of (sameTokens_calls _ _ ts _ _ _ hl0 (by exact ToksAt.drewN HTK.out _) (by exact ToksAt.drewN HTK'.out _))))
      go_wp2
      go_roundw
      case rel => exact ⟨k + 1, by omega, by go_num, _, by rw [← HW0.out, World.drewN_drewN]⟩
      case measure => simp [intOf]; omega
    · go_wp2
      go_ret
      exact ⟨rfl, nd, rfl⟩
end Go.Proofs.YtnpnaglgllcpfaaGreat

/- The law Reads, out of what Decompress and Unpack answer. -/
namespace Go.Proofs.YtnpnaglgllcpfaaGreat
set_option maxRecDepth 100000
open Go.RowKit

theorem num_calls (x : Int) (w : World) : Calls Tryz.prog 36 #[.int .i64 x] w fun e w' => e = .returned (.int .i64 x) ∧ w' = w := by
  go_enter Tryz.func36, Tryz.ntmps36
  go_wp2
  go_ret
  exact ⟨rfl, rfl⟩
set_option maxHeartbeats 1000000 in
theorem opened_calls (hD : DecSaid) (a : Option Addr) (l : List UInt8) (cap : Nat) (w : World) (hl : l.length ≤ 9223372036854775807) (hb : BytesAt w a l) :
    Calls Tryz.prog 27 #[.slice a l.length cap] w fun e w' => Below w.heap.size w w' ∧ ∃ v, e = .returned (.tuple #[v, .bool true]) := by
  have HB : Hid (BytesAt w a l) := hb
  have HD : Hid DecSaid := hD
  clear hb hD
  go_enter Tryz.func27, Tryz.ntmps27
  go_wp2_with fail
  refine (HD.out a l cap w hl HB.out).mono ?_
  rintro e w1 ⟨hb1, v, out, rfl, hown, hok, hbad⟩
  have HB1 : Hid (BytesAt w1 a l) := HB.out.below hb1
  have HO1 : Hid (OwnB w1 w.heap.size v out) := hown
  have HW1 : Hid (Below w.heap.size w w1) := hb1
  obtain ⟨ao, cp, rfl⟩ := hown.form
  have HOK : Hid _ := hok
  have HBAD : Hid _ := hbad
  clear hb1 hown hok hbad
  generalize hE : (rRead l).1 = E at *
  have HE : Hid ((rRead l).1 = E) := hE
  clear hE
  go_wp2_with fail
  refine (read_calls a l cap w1 hl HB1.out).mono ?_
  rintro e w2 ⟨hb2, rfl, L, n, vP, vD, vE, ht2, hl2⟩
  rw [HE.out] at ht2
  have HO2 : Hid (OwnB w2 w.heap.size (.slice ao out.length cp) out) := OwnB.below HO1.out hb2
  have HW2 : Hid (Below w.heap.size w w2) := HW1.out.trans (hb2.mono HW1.out.size)
  have HD2 : Hid (OwnB w2 (w1.heap.size + 1) vD (rRead l).2.2.1) := hl2.data
  obtain ⟨⟨c0, c1, c2⟩, f1, f2⟩ := ht2.cell
  obtain ⟨⟨d3, d4, d5⟩, _⟩ := ht2.lists
  clear hb2 ht2 hl2 c0 c1 f1 f2 d3 d5
  by_cases hz : E = 0
  · subst hz
    have ho : out = (rRead l).2.2.1 := HOK.out rfl
    have k1 := conv_drew HO2.out
    have k2 := conv_drew HD2.out
    rw [← ho] at k2
    clear ho
    go_wp2_with fail
    go_quiet ((go_at_call 36; exact Calls.quiet_of_same (num_calls _ _)))
    go_wp2
    go_ret2
    exact ⟨below_drewN HW2.out _, _, rfl⟩
  · have ho : out = [] := HBAD.out hz
    subst ho
    have hz' : (E != 0) = true := by simpa using hz
    go_wp2_with fail
    go_quiet ((go_at_call 36; exact Calls.quiet_of_same (num_calls _ _)))
    go_wp2
    go_ret2
    exact ⟨below_drewN HW2.out _, _, rfl⟩
set_option maxHeartbeats 1000000 in
theorem unpacked_calls (hU : UnpSaid) (a : Option Addr) (l : List UInt8) (cap : Nat) (w : World) (hl : l.length ≤ 9223372036854775807) (hb : BytesAt w a l) :
    Calls Tryz.prog 25 #[.slice a l.length cap] w fun e w' => Below w.heap.size w w' ∧ ∃ v, e = .returned (.tuple #[v, .bool true]) := by
  have HB : Hid (BytesAt w a l) := hb
  have HU : Hid UnpSaid := hU
  clear hb hU
  go_enter Tryz.func25, Tryz.ntmps25
  go_wp2_with fail
  refine (HU.out a l cap w hl HB.out).mono ?_
  rintro e w1 ⟨hb1, pa, ps, c, rfl, hps, hpl, hok, hbad⟩
  have HB1 : Hid (BytesAt w1 a l) := HB.out.below hb1
  have HP1 : Hid (PiecesAt w1 pa ps) := hps
  have HW1 : Hid (Below w.heap.size w w1) := hb1
  have HOK : Hid _ := hok
  have HBAD : Hid _ := hbad
  clear hb1 hps hok hbad
  generalize hE : (rRead l).1 = E at *
  have HE : Hid ((rRead l).1 = E) := hE
  clear hE
  go_wp2_with fail
  refine (read_calls a l cap w1 hl HB1.out).mono ?_
  rintro e w2 ⟨hb2, rfl, L, n, vP, vD, vE, ht2, hl2⟩
  rw [HE.out] at ht2
  have HP2 : Hid (PiecesAt w2 pa ps) := HP1.out.below hb2
  have HW2 : Hid (Below w.heap.size w w2) := HW1.out.trans (hb2.mono HW1.out.size)
  obtain ⟨pa2, c2', hvp, hpl2, hat⟩ := hl2.at
  subst hvp
  obtain ⟨⟨c0, c1, c2⟩, f1, f2⟩ := ht2.cell
  obtain ⟨⟨d3, d4, d5⟩, _⟩ := ht2.lists
  clear hb2 ht2 hl2 c0 c1 f1 f2 d4 d5
  by_cases hz : E = 0
  · subst hz
    have ho : ps = (rRead l).2.1 := HOK.out rfl
    rw [← ho] at d3 hat
    have HAT : Hid (PiecesAt w2 pa2 ps) := hat
    clear ho hat hpl2
    go_wp2_with (first | (go_at_call 36; go_in) | fail)
    refine (samePieces_calls pa pa2 ps c c2' _ hpl HP2.out HAT.out).mono ?_
    rintro e w3 ⟨rfl, nd, rfl⟩
    go_wp2
    go_ret2
    exact ⟨below_drewN HW2.out _, _, rfl⟩
  · have ho : ps = [] := HBAD.out hz
    subst ho
    have hz' : (E != 0) = true := by simpa using hz
    go_wp2_with fail
    go_quiet ((go_at_call 36; exact Calls.quiet_of_same (num_calls _ _)))
    go_wp2
    go_ret2
    exact ⟨below_drewN HW2.out _, _, rfl⟩
end Go.Proofs.YtnpnaglgllcpfaaGreat
