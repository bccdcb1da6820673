/-
  What is written down is read again: plain facts, of no program.
-/
import Derived.Test.YtnpnaglgllcpfabRdA
import Derived.Test.YtnpnaglgllcpfabPk
namespace Go.Proofs.Ytnpnaglgllcpfab
set_option maxRecDepth 100000

theorem bin_add (c x m : Nat) : ∀ n, n ≤ m → bin (c * 2 ^ m + x) n = bin x n
  | 0, _ => rfl
  | n + 1, h => by
    simp only [bin]
    rw [bin_add c x m n (by omega)]
    congr 2
    have e : c * 2 ^ m = 2 ^ n * (2 * (c * 2 ^ (m - n - 1))) := by
      have : 2 ^ m = 2 ^ n * (2 * 2 ^ (m - n - 1)) := by
        rw [← Nat.pow_succ', ← Nat.pow_add]
        congr 1; omega
      rw [this]
      simp only [Nat.mul_left_comm]
    rw [e, Nat.mul_add_div (Nat.pow_pos (by omega))]
    omega
theorem bin_valB : ∀ l : List Bool, bin (valB l) l.length = l
  | [] => rfl
  | b :: l => by
    rw [valB_cons, List.length_cons]
    simp only [bin]
    rw [bin_add _ _ _ _ (Nat.le_refl _), bin_valB l]
    congr 1
    have hp : 0 < 2 ^ l.length := Nat.pow_pos (by omega)
    have hd : (b.toNat * 2 ^ l.length + valB l) / 2 ^ l.length = b.toNat := by
      rw [Nat.mul_comm, Nat.mul_add_div hp, Nat.div_eq_of_lt (valB_lt l)]; omega
    rw [hd]
    cases b <;> rfl
theorem bitsIn_append (a b : List UInt8) : bitsIn (a ++ b) = bitsIn a ++ bitsIn b := by simp [bitsIn]
theorem bitsIn_toBytes : ∀ (n : Nat) (L : List Bool), L.length = 8 * n → bitsIn (toBytes L) = L
  | 0, L, h => by
    have : L = [] := List.eq_nil_of_length_eq_zero (by omega)
    subst this; rfl
  | n + 1, L, h => by
    have e : L = L.take 8 ++ L.drop 8 := (List.take_append_drop _ _).symm
    have h8 : (L.take 8).length = 8 := by rw [List.length_take]; omega
    conv => lhs; rw [e]
    rw [toBytes_append _ _ (by rw [h8]), bitsIn_append, bitsIn_toBytes n (L.drop 8) (by rw [List.length_drop]; omega), toBytes_eight _ h8]
    have hv := valB_byte (L.take 8) (by omega)
    have e2 : bitsIn [UInt8.ofNat (valB (L.take 8))] = L.take 8 := by
      simp only [bitsIn, List.flatMap_cons, List.flatMap_nil, List.append_nil]
      have : (UInt8.ofNat (valB (L.take 8))).toNat = valB (L.take 8) := by simp; omega
      rw [this]
      have := bin_valB (L.take 8)
      rwa [h8] at this
    rw [e2]
    exact e.symm

theorem rNum_noughts (e : Int) (X : List Bool) : ∀ j k, k + j ≤ 6 → rNum e k (List.replicate j false ++ true :: X) = rNum e (k + j) (true :: X)
  | 0, k, _ => rfl
  | j + 1, k, h => by
    rw [List.replicate_succ, List.cons_append]
    simp only [rNum]
    rw [if_neg (by omega), rNum_noughts e X j (k + 1) (by omega)]
    rw [show k + 1 + j = k + (j + 1) by omega]
    rfl
theorem rNum_bits (e : Int) (v : Nat) (h1 : 1 ≤ v) (h2 : v ≤ 127) (R : List Bool) : rNum e 0 (numBits v ++ R) = .ok (v, R) := by
  have hz : Nat.log2 v ≤ 6 := by
    have : Nat.log2 v < 7 := (Nat.log2_lt (by omega)).2 (by omega)
    omega
  obtain ⟨k1, k2⟩ := (Nat.log2_eq_iff (k := Nat.log2 v) (show v ≠ 0 by omega)).1 rfl
  have hp : 0 < 2 ^ Nat.log2 v := Nat.pow_pos (by omega)
  have hd : v / 2 ^ Nat.log2 v = 1 := by
    rw [Nat.pow_succ] at k2
    exact Nat.div_eq_of_lt_le (by omega) (by omega)
  unfold numBits
  generalize hzz : Nat.log2 v = z at *
  simp only [bin]
  rw [hd, List.append_assoc, show ((1 % 2 == 1) = true) from rfl, List.cons_append, rNum_noughts e _ z 0 (by omega), Nat.zero_add]
  simp only [rNum]
  rw [if_neg (by rw [List.length_append, bin_length]; omega), List.take_left' (bin_length v z), List.drop_left' (bin_length v z), bin_val]
  have := Nat.div_add_mod v (2 ^ z)
  rw [hd] at this
  congr 2
  omega

theorem rTok_bits (t : Tok) (made left : Nat) (hf : Tok.fitsB t made = true) (hl : t.len ≤ left) (hml : left ≤ 64) (R : List Bool) : rTok made left (Tok.bits t ++ R) = .ok (t, R) := by
  rw [Tok.fits_iff] at hf
  obtain ⟨l, d, x⟩ := t
  simp only at hf hl
  obtain ⟨⟨e1, e2, e3, e4⟩ | ⟨e1, e2, e3, e4⟩, h2, h3⟩ := hf
  · have hb : Tok.bits ⟨l, d, x⟩ = false :: bin x.toNat 8 := by unfold Tok.bits; exact if_pos e1
    rw [hb, List.cons_append]
    simp only [rTok]
    rw [if_neg (by rw [List.length_append, bin_length]; omega), List.take_left' (bin_length _ 8), List.drop_left' (bin_length _ 8), bin_val]
    have : ((x.toNat % 2 ^ 8 : Nat) : Int) = x := by omega
    rw [this, e1, e2]
  · have hb : Tok.bits ⟨l, d, x⟩ = true :: (numBits (l - 1).toNat ++ numBits d.toNat) := by unfold Tok.bits; exact if_neg (show ¬ d = 0 by omega)
    rw [hb, List.cons_append, List.append_assoc]
    simp only [rTok]
    rw [rNum_bits 6 (l - 1).toNat (by omega) (by omega)]
    simp only
    rw [if_neg (by omega), rNum_bits 6 d.toNat (by omega) (by omega)]
    simp only
    rw [if_neg (by omega)]
    have q1 : (((l - 1).toNat : Nat) : Int) + 1 = l := by omega
    have q2 : ((d.toNat : Nat) : Int) = d := by omega
    rw [q1, q2, e4]

theorem expand_length : ∀ (ts : List Tok) (out o : List UInt8), Tok.expand out ts = some o → out.length ≤ o.length := fun ts out o h => by
  have := Tok.expand_many ts out o h; omega
theorem rToks_bits (n : Nat) (hn : n ≤ 64) (R : List Bool) : ∀ (ts : List Tok) (f made : Nat) (out o : List UInt8), Tok.expand out ts = some o → out.length = made → o.length = n → ts.length ≤ f → rToks n f made (bitsOf ts ++ R) = .ok (ts, R)
  | [], f, made, out, o, he, hm, ho, _ => by
    simp [Tok.expand] at he
    subst he
    have := rToks_done (n := n) (f := f) (made := made) (R := R) [] (by omega)
    rw [pre_nil] at this
    simpa [bitsOf] using this
  | t :: ts, f, made, out, o, he, hm, ho, hf => by
    simp only [Tok.expand] at he
    split at he
    · rename_i hfit
      have hsl := Tok.step_length out t _ hfit
      have hol := expand_length ts _ o he
      have hff := (Tok.fits_iff _ _).1 hfit
      rw [hm] at hfit
      obtain ⟨f, rfl⟩ : ∃ f', f = f' + 1 := ⟨f - 1, by simp at hf; omega⟩
      have hlt : made < n := by omega
      have e : bitsOf (t :: ts) ++ R = Tok.bits t ++ (bitsOf ts ++ R) := by simp [bitsOf]
      have ht := rTok_bits t made (n - made) hfit (by omega) (by omega) (bitsOf ts ++ R)
      have hnx := rToks_next (f := f) [] hlt ht
      rw [pre_nil] at hnx
      rw [e, hnx, rToks_bits n hn R ts f (made + t.len.toNat) (Tok.step out t) o he (by omega) ho (by simp at hf; omega)]
      rfl
    · cases he

/-- What stands behind a frame's tokens. -/
def tailBits (ts : List Tok) (out : List UInt8) : List Bool := List.replicate (padN (numBits (out.length + 1) ++ bitsOf ts).length) false ++ (bin (Plain.total out % 256).toNat 8 ++ bin (Plain.total out / 256).toNat 8)
theorem frame_split (ts : List Tok) (out : List UInt8) : frameBits ts out = numBits (out.length + 1) ++ (bitsOf ts ++ tailBits ts out) := by
  unfold frameBits tailBits fill
  simp only [List.append_assoc]
theorem rFrame_bits (ts : List Tok) (out R : List UInt8 × List Bool) (he : Tok.expand [] ts = some out.1) (h1 : out.1.length ≤ 64) (hR : R.2.length % 8 = 0) : rFrame out.1.length (bitsOf ts ++ (tailBits ts out.1 ++ R.2)) = .ok (ts, R.2) := by
  have htk := rToks_bits out.1.length h1 (tailBits ts out.1 ++ R.2) ts out.1.length 0 [] out.1 he rfl rfl (by have := Tok.expand_many ts [] out.1 he; simpa using this)
  have hpn : padN (numBits (out.1.length + 1) ++ bitsOf ts).length < 8 := by unfold padN; omega
  have htr := total_range out.1
  unfold tailBits at *
  generalize padN (numBits (out.1.length + 1) ++ bitsOf ts).length = p at *
  simp only [rFrame, htk]
  have hlen : (List.replicate p false ++ (bin (Plain.total out.1 % 256).toNat 8 ++ bin (Plain.total out.1 / 256).toNat 8) ++ R.2).length % 8 = p := by
    simp only [List.length_append, List.length_replicate, bin_length]; omega
  have hpad : padB (List.replicate p false ++ (bin (Plain.total out.1 % 256).toNat 8 ++ bin (Plain.total out.1 / 256).toNat 8) ++ R.2) = true := by
    unfold padB
    rw [hlen, List.append_assoc, List.take_left' (List.length_replicate ..)]
    simp
  have hdrop : (List.replicate p false ++ (bin (Plain.total out.1 % 256).toNat 8 ++ bin (Plain.total out.1 / 256).toNat 8) ++ R.2).drop p = bin (Plain.total out.1 % 256).toNat 8 ++ (bin (Plain.total out.1 / 256).toNat 8 ++ R.2) := by
    rw [List.append_assoc, List.drop_left' (List.length_replicate ..), List.append_assoc]
  rw [hpad, hlen, hdrop, if_neg (by simp), if_neg (by simp only [List.length_append, bin_length]; omega), List.take_left' (bin_length _ 8), List.drop_left' (bin_length _ 8), List.take_left' (bin_length _ 8), bin_val, bin_val, he]
  have hsum : ((((Plain.total out.1 % 256).toNat % 2 ^ 8 : Nat) : Int) + 256 * (((Plain.total out.1 / 256).toNat % 2 ^ 8 : Nat) : Int)) = Plain.total ((some out.1).getD []) := by
    simp only [Option.getD_some]
    omega
  rw [if_neg (fun h => h hsum)]
  have hd16 : (bin (Plain.total out.1 % 256).toNat 8 ++ (bin (Plain.total out.1 / 256).toNat 8 ++ R.2)).drop 16 = R.2 := by
    rw [← List.append_assoc]
    exact List.drop_left' (by rw [List.length_append, bin_length, bin_length])
  rw [hd16]

theorem rMain_frame (L : List Bool) (f : Nat) (ps : List (List Tok)) (data : List UInt8) (ends : List Nat) (ts : List Tok) (out : List UInt8) (R : List Bool) (he : Tok.expand [] ts = some out) (h0 : 1 ≤ out.length) (h1 : out.length ≤ 64) (hR : R.length % 8 = 0) (hd : data.length = 64 * ps.length) :
    rMain L (f + 1) ps data ends (frameBits ts out ++ R) = rMain L f (ps ++ [ts]) (data ++ out) (ends ++ [(L.length - R.length) / 8]) R := by
  have hm : made ts = out := by simp [made, he]
  rw [frame_split, List.append_assoc, List.append_assoc]
  simp only [rMain]
  rw [rNum_bits 5 (out.length + 1) (by omega) (by omega)]
  simp only
  have hfr := rFrame_bits ts (out, []) ([], R) he h1 hR
  simp only at hfr
  rw [if_neg (by omega), if_neg (by omega), Nat.add_sub_cancel, hfr]
  simp only [hm]
theorem rMain_stop (L : List Bool) (f : Nat) (ps : List (List Tok)) (data : List UInt8) (ends : List Nat) : rMain L (f + 1) ps data ends endBits = (0, ps, data, ends) := by
  have : endBits = numBits 1 ++ List.replicate 7 false := rfl
  rw [this]
  simp only [rMain]
  rw [rNum_bits 5 1 (by omega) (by omega)]
  rfl
end Go.Proofs.Ytnpnaglgllcpfab
