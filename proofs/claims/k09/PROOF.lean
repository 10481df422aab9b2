import PyProof.Rows.All
import Wide.All
import OpenK.AllK
import Wide.FinOn
import HandS.ForMost
import HandS.Wide
import HandS.Gcd
import HandS.TupMul
import HandS.TupAny
import HandS.Rev
import HandS.IsInst
import HandS.Conv
import HandS.Style
import HandS.AnyAll
import HandS.Head0
import HandS.Head1
import HandS.Head2
import HandS.Head3
import HandS.HeadEnd
import HandS.HeadHook4
import HandS.HeadWalk
import PySem.Challenge.RW_actuarium_k09_whole_loans
set_option Elab.async false
set_option linter.all false
set_option maxRecDepth 100000
set_option maxHeartbeats 4000000
/-! Ratios in lowest terms, as Lean's own rational numbers; how large their two parts are. -/
namespace Act
open scoped Rat
/-- both parts of a ratio are below 2 ^ n -/
def Bd (n : Nat) (r : Rat) : Prop := r.num.natAbs < 2 ^ n ∧ r.den < 2 ^ n
theorem Bd.mono {n m : Nat} {r : Rat} (h : Bd n r) (l : n ≤ m) : Bd m r :=
  ⟨Nat.lt_of_lt_of_le h.1 (Nat.pow_le_pow_right (by decide) l), Nat.lt_of_lt_of_le h.2 (Nat.pow_le_pow_right (by decide) l)⟩
/-- the parts of a quotient of integers are no larger than these -/
theorem divInt_le {t b : Int} (hb : b ≠ 0) : (t /. b).num.natAbs ≤ t.natAbs ∧ (t /. b).den ≤ b.natAbs := by
  constructor
  · rw [Rat.num_divInt]
    rw [Int.natAbs_ediv_of_dvd]
    · rw [Int.natAbs_mul, Int.natAbs_sign_of_ne_zero hb, Nat.one_mul]
      exact Nat.div_le_self _ _
    · exact Int.dvd_mul_of_dvd_right (Int.gcd_dvd_right ..)
  · rw [Rat.den_divInt, if_neg hb]
    exact Nat.div_le_self _ _
theorem Bd.divInt {t b : Int} {n : Nat} (hb : b ≠ 0) (h1 : t.natAbs < 2 ^ n) (h2 : b.natAbs < 2 ^ n) : Bd n (t /. b) :=
  ⟨Nat.lt_of_le_of_lt (divInt_le hb).1 h1, Nat.lt_of_le_of_lt (divInt_le hb).2 h2⟩
theorem mul_lt_pow {a b n m : Nat} (ha : a < 2 ^ n) (hb : b < 2 ^ m) : a * b < 2 ^ (n + m) := by
  rw [Nat.pow_add]
  exact Nat.mul_lt_mul'' ha hb
/-- the unreduced parts of a sum -/
theorem add_parts {a b : Rat} {n m : Nat} (ha : Bd n a) (hb : Bd m b) :
    (a.num * b.den + b.num * a.den).natAbs < 2 ^ (n + m + 1) ∧ ((a.den : Int) * b.den).natAbs < 2 ^ (n + m + 1) := by
  have h1 : (a.num * b.den).natAbs < 2 ^ (n + m) := by
    rw [Int.natAbs_mul]
    exact mul_lt_pow ha.1 hb.2
  have h2 : (b.num * a.den).natAbs < 2 ^ (n + m) := by
    rw [Int.natAbs_mul, Nat.add_comm n m]
    exact mul_lt_pow hb.1 ha.2
  have h3 : ((a.den : Int) * b.den).natAbs < 2 ^ (n + m) := by
    rw [Int.natAbs_mul]
    exact mul_lt_pow ha.2 hb.2
  have e : 2 ^ (n + m + 1) = 2 ^ (n + m) + 2 ^ (n + m) := by rw [Nat.pow_succ]; omega
  have h4 := Int.natAbs_add_le (a.num * b.den) (b.num * a.den)
  omega
theorem add_eq_divInt (a b : Rat) : (a.num * b.den + b.num * a.den) /. ((a.den : Int) * b.den) = a + b := by
  rw [Rat.add_def']
  rw [show ((a.den : Int) * b.den) = ((a.den * b.den : Nat) : Int) by rw [Int.natCast_mul], Rat.divInt_ofNat]
theorem sub_eq_divInt (a b : Rat) : (a.num * b.den - b.num * a.den) /. ((a.den : Int) * b.den) = a - b := by
  rw [Rat.sub_def']
  rw [show ((a.den : Int) * b.den) = ((a.den * b.den : Nat) : Int) by rw [Int.natCast_mul], Rat.divInt_ofNat]
theorem mul_eq_divInt (a b : Rat) : (a.num * b.num) /. ((a.den : Int) * b.den) = a * b := by
  rw [Rat.mul_def']
  rw [show ((a.den : Int) * b.den) = ((a.den * b.den : Nat) : Int) by rw [Int.natCast_mul], Rat.divInt_ofNat]
theorem div_eq_divInt (a b : Rat) : (a.num * b.den) /. ((a.den : Int) * b.num) = a / b := by
  rw [Rat.div_def, Rat.inv_def]
  have h := Rat.divInt_mul_divInt a.num (b.den : Int) (d₁ := (a.den : Int)) (d₂ := b.num)
  rw [Rat.num_divInt_den] at h
  exact h.symm
theorem den_ne (a : Rat) : (a.den : Int) ≠ 0 := by
  have := a.den_nz
  omega
theorem dens_ne (a b : Rat) : ((a.den : Int) * b.den) ≠ 0 := Int.mul_ne_zero (den_ne a) (den_ne b)
theorem Bd.add {a b : Rat} {n m : Nat} (ha : Bd n a) (hb : Bd m b) : Bd (n + m + 1) (a + b) := by
  rw [← add_eq_divInt]
  exact Bd.divInt (dens_ne a b) (add_parts ha hb).1 (add_parts ha hb).2
theorem Bd.neg {a : Rat} {n : Nat} (ha : Bd n a) : Bd n (-a) := ⟨by rw [Rat.neg_num, Int.natAbs_neg]; exact ha.1, ha.2⟩
theorem Bd.sub {a b : Rat} {n m : Nat} (ha : Bd n a) (hb : Bd m b) : Bd (n + m + 1) (a - b) := by
  rw [Rat.sub_eq_add_neg]
  exact ha.add hb.neg
theorem mul_parts {a b : Rat} {n m : Nat} (ha : Bd n a) (hb : Bd m b) :
    (a.num * b.num).natAbs < 2 ^ (n + m) ∧ ((a.den : Int) * b.den).natAbs < 2 ^ (n + m) := by
  rw [Int.natAbs_mul, Int.natAbs_mul]
  exact ⟨mul_lt_pow ha.1 hb.1, mul_lt_pow ha.2 hb.2⟩
theorem Bd.mul {a b : Rat} {n m : Nat} (ha : Bd n a) (hb : Bd m b) : Bd (n + m) (a * b) := by
  rw [← mul_eq_divInt]
  exact Bd.divInt (dens_ne a b) (mul_parts ha hb).1 (mul_parts ha hb).2
theorem div_parts {a b : Rat} {n m : Nat} (ha : Bd n a) (hb : Bd m b) :
    (a.num * b.den).natAbs < 2 ^ (n + m) ∧ ((a.den : Int) * b.num).natAbs < 2 ^ (n + m) := by
  rw [Int.natAbs_mul, Int.natAbs_mul]
  exact ⟨mul_lt_pow ha.1 hb.2, mul_lt_pow ha.2 hb.1⟩
theorem num_ne {b : Rat} (h : b ≠ 0) : b.num ≠ 0 := fun e => h (Rat.num_eq_zero.mp e)
theorem Bd.div {a b : Rat} {n m : Nat} (h : b ≠ 0) (ha : Bd n a) (hb : Bd m b) : Bd (n + m) (a / b) := by
  rw [← div_eq_divInt]
  exact Bd.divInt (Int.mul_ne_zero (den_ne a) (num_ne h)) (div_parts ha hb).1 (div_parts ha hb).2
theorem Bd.int {i : Int} {n : Nat} (h : i.natAbs < 2 ^ n) (h0 : 0 < n) : Bd n (i : Rat) :=
  ⟨by rw [Rat.num_intCast]; exact h, by rw [Rat.den_intCast]; exact Nat.one_lt_two_pow (by omega)⟩
/-- the two parts, as the program reckons them: divided by the greatest common divisor with the sign of the bottom -/
theorem fdiv_top {t b : Int} (hb : b ≠ 0) : t.fdiv (b.sign * ((Nat.gcd t.natAbs b.natAbs : Nat) : Int)) = (t /. b).num := by
  rw [Rat.num_divInt]
  have e : ((b.gcd t : Nat) : Int) = ((Nat.gcd t.natAbs b.natAbs : Nat) : Int) := by
    show ((Nat.gcd b.natAbs t.natAbs : Nat) : Int) = _
    rw [Nat.gcd_comm]
  rw [e]
  have hd : ((Nat.gcd t.natAbs b.natAbs : Nat) : Int) ∣ t := by
    rw [← e]
    exact Int.gcd_dvd_right ..
  have hg : ((Nat.gcd t.natAbs b.natAbs : Nat) : Int) ≠ 0 := by
    have : 0 < Nat.gcd t.natAbs b.natAbs := Nat.gcd_pos_of_pos_right _ (Int.natAbs_pos.mpr hb)
    omega
  obtain ⟨c, hc⟩ := hd
  generalize ((Nat.gcd t.natAbs b.natAbs : Nat) : Int) = g at hc hg e
  subst hc
  rcases Int.lt_or_gt_of_ne hb with h | h
  · rw [Int.sign_eq_neg_one_of_neg h]
    have e1 : (-1 : Int) * g = -g := by omega
    have e2 : (-1 : Int) * (g * c) = g * (-c) := by rw [Int.mul_neg]; omega
    rw [e1, e2, Int.mul_ediv_cancel_left _ hg, show g * c = (-g) * (-c) by rw [Int.neg_mul_neg]]
    rw [Int.fdiv_eq_ediv_of_dvd ⟨-c, rfl⟩, Int.mul_ediv_cancel_left _ (by omega)]
  · rw [Int.sign_eq_one_of_pos h, Int.one_mul, Int.one_mul, Int.mul_ediv_cancel_left _ hg, Int.fdiv_eq_ediv_of_dvd ⟨c, rfl⟩, Int.mul_ediv_cancel_left _ hg]
theorem fdiv_bottom {t b : Int} (hb : b ≠ 0) : b.fdiv (b.sign * ((Nat.gcd t.natAbs b.natAbs : Nat) : Int)) = ((t /. b).den : Int) := by
  rw [Rat.den_divInt, if_neg hb]
  have e : b.gcd t = Nat.gcd t.natAbs b.natAbs := by
    show Nat.gcd b.natAbs t.natAbs = _
    rw [Nat.gcd_comm]
  rw [e]
  have hg : 0 < Nat.gcd t.natAbs b.natAbs := Nat.gcd_pos_of_pos_right _ (Int.natAbs_pos.mpr hb)
  have hd : Nat.gcd t.natAbs b.natAbs ∣ b.natAbs := Nat.gcd_dvd_right _ _
  generalize Nat.gcd t.natAbs b.natAbs = g at hg hd
  obtain ⟨c, hc⟩ := hd
  rw [hc, Nat.mul_div_cancel_left _ hg]
  have hg' : (g : Int) ≠ 0 := by omega
  rcases Int.lt_or_gt_of_ne hb with h | h
  · have e3 : b = (-(g : Int)) * (c : Int) := by
      have : (b.natAbs : Int) = -b := by omega
      rw [hc, Int.natCast_mul] at this
      rw [Int.neg_mul]
      omega
    rw [Int.sign_eq_neg_one_of_neg h, show (-1 : Int) * (g : Int) = -(g : Int) by omega]
    rw [e3, Int.fdiv_eq_ediv_of_dvd ⟨c, rfl⟩, Int.mul_ediv_cancel_left _ (by omega)]
  · have e3 : b = (g : Int) * (c : Int) := by
      have : (b.natAbs : Int) = b := by omega
      rw [hc, Int.natCast_mul] at this
      omega
    rw [Int.sign_eq_one_of_pos h, Int.one_mul]
    rw [e3, Int.fdiv_eq_ediv_of_dvd ⟨c, rfl⟩, Int.mul_ediv_cancel_left _ hg']
end Act
namespace Act
theorem fdiv_neg_of {t g : Int} (hg : g ≠ 0) (hd : g ∣ t) : 0 - t.fdiv g = t.fdiv (-g) := by
  obtain ⟨c, rfl⟩ := hd
  rw [Int.fdiv_eq_ediv_of_dvd ⟨c, rfl⟩, Int.mul_ediv_cancel_left _ hg]
  rw [show g * c = (-g) * (-c) by rw [Int.neg_mul_neg], Int.fdiv_eq_ediv_of_dvd ⟨-c, rfl⟩, Int.mul_ediv_cancel_left _ (by omega)]
  omega
theorem gcd_dvd_int (t b : Int) : ((Nat.gcd t.natAbs b.natAbs : Nat) : Int) ∣ t ∧ ((Nat.gcd t.natAbs b.natAbs : Nat) : Int) ∣ b :=
  ⟨Int.gcd_dvd_left .., Int.gcd_dvd_right ..⟩
end Act
/-! Payments, their values, and loans: the mathematics. -/
namespace Act
open scoped Rat
structure RateOk (r : Rat) : Prop where
  top : r.num.natAbs ≤ 1000
  bot : r.den ≤ 1000
  pos : 0 < r.num + r.den
/-- one unit a year later -/
theorem grow_parts (r : Rat) : (1 + r).num = r.num + r.den ∧ (1 + r).den = r.den := by
  have hd := den_ne r
  have e : (1 + r) = (r.num + r.den) /. (r.den : Int) := by
    have h := add_eq_divInt 1 r
    rw [← h]
    simp only [Rat.one_num, Rat.one_den, Int.one_mul, Int.natCast_one, Int.mul_one]
    rw [Int.add_comm]
  have g : (r.den : Int).gcd (r.num + r.den) = 1 := by
    have h1 : Int.gcd (r.den : Int) (r.num + r.den) = Int.gcd (r.den : Int) r.num := by
      rw [Int.gcd_comm, Int.gcd_comm (r.den : Int) r.num]
      simp
    rw [h1]
    show Nat.gcd (r.den : Int).natAbs r.num.natAbs = 1
    rw [Nat.gcd_comm]
    exact r.reduced
  constructor
  · rw [e, Rat.num_divInt, g, Int.sign_eq_one_of_pos (by have := r.den_pos; omega), Int.one_mul, Int.natCast_one, Int.ediv_one]
  · rw [e, Rat.den_divInt, if_neg hd, g, Nat.div_one]
    omega
theorem grow_pos {r : Rat} (h : 0 < r.num + r.den) : 0 < 1 + r := by
  rw [Rat.lt_iff]
  rw [(grow_parts r).1]
  simp
  exact h
theorem disc_parts {r : Rat} (h : 0 < r.num + r.den) : ((1 + r)⁻¹).num = r.den ∧ (((1 + r)⁻¹).den : Int) = r.num + r.den := by
  have e := grow_parts r
  rw [Rat.num_inv, Rat.den_inv, e.1, e.2, Int.sign_eq_one_of_pos h, Int.one_mul, if_neg (by omega)]
  exact ⟨rfl, by omega⟩
theorem disc_pos {r : Rat} (h : 0 < r.num + r.den) : 0 < (1 + r)⁻¹ := Rat.inv_pos.mpr (grow_pos h)
theorem RateOk.bd {r : Rat} (h : RateOk r) : Bd 10 r := ⟨by have := h.top; show _ < 1024; omega, by have := h.bot; show _ < 1024; omega⟩
theorem RateOk.disc {r : Rat} (h : RateOk r) : Bd 11 (1 + r)⁻¹ := by
  have e := disc_parts h.pos
  have h1 := h.top
  have h2 := h.bot
  constructor
  · rw [e.1]
    show _ < 2048
    omega
  · show _ < 2048
    omega
theorem RateOk.grow {r : Rat} (h : RateOk r) : Bd 11 (1 + r) := by
  have e := grow_parts r
  have h1 := h.top
  have h2 := h.bot
  constructor
  · rw [e.1]
    show _ < 2048
    omega
  · rw [e.2]
    show _ < 2048
    omega
theorem RateOk.mul_disc {r : Rat} (h : RateOk r) : (1 + r) * (1 + r)⁻¹ = 1 := Rat.mul_inv_cancel _ (Rat.ne_of_gt (grow_pos h.pos))
/-- the value at time 0, by the factor of one year back -/
def pval (d : Rat) : List Int → Rat
  | [] => 0
  | x :: xs => (x : Rat) + d * pval d xs
theorem pval_append (d : Rat) : ∀ (xs : List Int) (x : Int), pval d (xs ++ [x]) = pval d xs + (x : Rat) * d ^ xs.length
  | [], x => by simp only [List.nil_append, pval, List.length_nil, Rat.pow_zero]; grind
  | y :: xs, x => by
    simp only [List.cons_append, pval, List.length_cons, Rat.pow_succ]
    rw [pval_append d xs x]
    grind
theorem Bd.zero {n : Nat} (h : 0 < n) : Bd n 0 := ⟨by rw [Rat.zero_num]; exact Nat.two_pow_pos n, by rw [Rat.zero_den]; exact Nat.one_lt_two_pow (by omega)⟩
theorem Bd.one {n : Nat} (h : 0 < n) : Bd n 1 := ⟨by show 1 < _; exact Nat.one_lt_two_pow (by omega), by show 1 < _; exact Nat.one_lt_two_pow (by omega)⟩
theorem Bd.pow {d : Rat} {m : Nat} (h : Bd m d) : ∀ k : Nat, Bd (m * k + 1) (d ^ k)
  | 0 => by rw [Rat.pow_zero]; exact Bd.one (by omega)
  | k + 1 => by
    rw [Rat.pow_succ]
    exact ((Bd.pow h k).mul h).mono (by rw [Nat.mul_succ]; omega)
/-- payments of the document's size -/
def PayOk (ns : List Int) : Prop := ∀ n ∈ ns, n.natAbs < 2 ^ 20
theorem PayOk.tail {n : Int} {ns : List Int} (h : PayOk (n :: ns)) : PayOk ns := fun m hm => h m (List.mem_cons_of_mem _ hm)
theorem PayOk.drop {ns : List Int} (h : PayOk ns) (k : Nat) : PayOk (ns.drop k) := fun m hm => h m (List.mem_of_mem_drop hm)
theorem PayOk.take {ns : List Int} (h : PayOk ns) (k : Nat) : PayOk (ns.take k) := fun m hm => h m (List.mem_of_mem_take hm)
theorem Bd.pval {d : Rat} (h : Bd 11 d) : ∀ {ns : List Int}, PayOk ns → Bd (1 + 33 * ns.length) (pval d ns)
  | [], _ => Bd.zero (by omega)
  | n :: ns, hp => by
    have h1 := (Bd.int (hp n List.mem_cons_self) (by decide)).add (h.mul (Bd.pval h hp.tail))
    exact h1.mono (by rw [List.length_cons]; omega)
theorem pval_nonneg {d : Rat} (hd : 0 < d) : ∀ {ns : List Int}, (∀ n ∈ ns, 0 ≤ n) → 0 ≤ pval d ns
  | [], _ => Rat.le_refl
  | n :: ns, h => by
    refine Rat.add_nonneg ?_ (Rat.mul_nonneg (Rat.le_of_lt hd) (pval_nonneg hd fun m hm => h m (List.mem_cons_of_mem _ hm)))
    have := h n List.mem_cons_self
    exact Rat.intCast_nonneg.mpr this
/-- payments of 1 at the ends of so many years -/
def ones (n : Nat) : List Int := 0 :: List.replicate n 1
theorem ones_len (n : Nat) : (ones n).length = n + 1 := by simp [ones]
theorem ones_ok (n : Nat) : PayOk (ones n) := fun m hm => by
  rcases List.mem_cons.mp hm with e | e
  · subst e; decide
  · rw [(List.mem_replicate.mp e).2]; decide
theorem pval_ones_succ (d : Rat) (n : Nat) : pval d (ones (n + 1)) = d * (1 + pval d (ones n)) := by
  simp only [ones, List.replicate_succ, pval]
  grind
theorem pval_ones_zero (d : Rat) : pval d (ones 0) = 0 := by
  simp only [ones, List.replicate_zero, pval]
  grind
theorem pval_ones_pos {d : Rat} (hd : 0 < d) (n : Nat) : 0 < pval d (ones (n + 1)) := by
  rw [pval_ones_succ]
  have h0 : 0 ≤ pval d (ones n) := pval_nonneg hd fun m hm => by
    rcases List.mem_cons.mp hm with e | e
    · omega
    · rw [(List.mem_replicate.mp e).2]; decide
  exact Rat.mul_pos hd (by grind)
/-- what is left of a loan: P what is paid each year -/
def lf (A P r : Rat) : Nat → Rat
  | 0 => A
  | k + 1 => lf A P r k - (P - r * lf A P r k)
theorem lf_closed {A P r : Rat} (h : RateOk r) (n : Nat) (hA : A = P * pval (1 + r)⁻¹ (ones n)) : ∀ k, k ≤ n → lf A P r k = P * pval (1 + r)⁻¹ (ones (n - k))
  | 0, _ => by rw [Nat.sub_zero]; exact hA
  | k + 1, hk => by
    have ih := lf_closed h n hA k (by omega)
    have e := h.mul_disc
    show lf A P r k - (P - r * lf A P r k) = _
    rw [ih, show n - k = (n - (k + 1)) + 1 by omega, pval_ones_succ]
    generalize pval (1 + r)⁻¹ (ones (n - (k + 1))) = W
    generalize (1 + r)⁻¹ = d at e ⊢
    grind
theorem paid_eq {A W : Rat} (h : 0 < W) : A = (A / W) * W := (Rat.div_mul_cancel (Rat.ne_of_gt h)).symm
end Act
namespace Act
open PySem PySem.Spec PyProof.Rows L2
open scoped Rat
/-! ### heaps: what was there stays; tables of code grow -/
def Le (H H' : Hp) : Prop := ∀ a o, H a = some o → H' a = some o ∨ ∃ ps ps', o = .tbl ps ∧ H' a = some (.tbl ps') ∧ (TriplesOk ps.toList → TriplesOk ps'.toList)
theorem Le.refl (H : Hp) : Le H H := fun _ _ h => .inl h
theorem Le.trans {H H1 H2 : Hp} (a : Le H H1) (b : Le H1 H2) : Le H H2 := fun x o h => by
  rcases a x o h with q | ⟨ps, ps', e, q, t⟩
  · exact b x o q
  · rcases b x _ q with r | ⟨qs, qs', e2, r, t2⟩
    · exact .inr ⟨ps, ps', e, r, t⟩
    · cases e2
      exact .inr ⟨ps, qs', e, r, fun z => t2 (t z)⟩
theorem Le.new {H : Hp} {p : Addr} {o : HO} (h : H p = none) : Le H (upd H p o) := fun a u e => .inl (by rw [upd_ne (ne_of_none e h)]; exact e)
theorem Le.free {H H' : Hp} {p : Addr} (l : Le H H') (h : H' p = none) : H p = none := by
  cases e : H p with
  | none => rfl
  | some o =>
    rcases l p o e with q | ⟨ps, ps', _, q, _⟩
    · rw [h] at q; cases q
    · rw [h] at q; cases q
/-- what is new may change -/
theorem Le.own {H H' : Hp} {p : Addr} {o : HO} (l : Le H H') (h : H p = none) : Le H (upd H' p o) := fun a u e => by
  have n : a ≠ p := ne_of_none e h
  rw [upd_ne n]
  exact l a u e
theorem Le.rd {H H' : Hp} {a : Addr} {u : HO} (l : Le H H') (nt : ∀ ps, u ≠ .tbl ps) (h : Rd H a u) : Rd H' a u := by
  rcases h with h | ⟨o, h⟩
  · rcases l a u h with q | ⟨ps, _, e, _⟩
    · exact .inl q
    · exact absurd e (nt ps)
  · rcases l a _ h with q | ⟨ps, _, e, _⟩
    · exact .inr ⟨o, q⟩
    · cases e
theorem Le.t {K : PySem.W.Frag} {H H' : Hp} {a : Addr} {xs : List V} (l : Le H H') (h : SqT K H a xs) : SqT K H' a xs := by
  rcases h with h | h
  · exact .inl (l.rd (fun _ e => by cases e) h)
  · exact .inr h
theorem Le.l {K : PySem.W.Frag} {H H' : Hp} {a : Addr} {xs : List V} (l : Le H H') (h : SqL K H a xs) : SqL K H' a xs := by
  rcases h with h | h
  · exact .inl (l.rd (fun _ e => by cases e) h)
  · exact .inr h
theorem Le.lst {H H' : Hp} {a : Addr} {xs : List V} (l : Le H H') (h : H a = some (.lst xs)) : H' a = some (.lst xs) := by
  rcases l a _ h with q | ⟨ps, _, e, _⟩
  · exact q
  · cases e
/-! ### the tables of the code objects that make generators -/
def Tabs (T : List Addr) (H : Hp) : Prop := ∀ p ∈ T, GxR.TabG H p
theorem Le.tab {H H' : Hp} {p : Addr} (l : Le H H') (h : GxR.TabG H p) : GxR.TabG H' p := by
  obtain ⟨ps, e, t⟩ := h
  rcases l p _ e with q | ⟨qs, qs', e2, q, t2⟩
  · exact ⟨ps, q, t⟩
  · cases e2
    exact ⟨qs', q, t2 t⟩
theorem Tabs.up {T : List Addr} {H H' : Hp} (h : Tabs T H) (l : Le H H') : Tabs T H' := fun p hp => l.tab (h p hp)
theorem le_tabbed {P : Addr} {H H' : Hp} (h : GxR.TabG H P) (t : GxR.Tabbed P H H') : Le H H' := fun a o e => by
  obtain ⟨ps, e1, t1⟩ := h
  obtain ⟨⟨qs, e2, t2⟩, k⟩ := t
  by_cases ha : a = P
  · subst ha
    rw [e1] at e
    cases e
    exact .inr ⟨ps, qs, rfl, e2, fun _ => t2⟩
  · exact .inl (by rw [k a ha]; exact e)
/-! ### ratios in the heap -/
/-- a tuple that was made, or one of the text's own -/
def ST (K : PySem.W.Frag) (H : Hp) (a : Addr) (xs : List V) : Prop :=
  H a = some (.tup xs) ∨ ∃ (o : Obj) (its : Array Value) (n : Nat), K.lookup a = some o ∧ o.cls = .type "tuple" ∧ o.data = .seq its n ∧ its.size ≤ sizeLine ∧ Vals xs its.toList
theorem ST.sq {K : PySem.W.Frag} {H : Hp} {a : Addr} {xs : List V} (h : ST K H a xs) : SqT K H a xs := by
  rcases h with h | h
  · exact .inl (.inl h)
  · exact .inr h
theorem ST.up {K : PySem.W.Frag} {H H' : Hp} {a : Addr} {xs : List V} (h : ST K H a xs) (l : Le H H') : ST K H' a xs := by
  rcases h with h | h
  · rcases l a _ h with q | ⟨ps, _, e, _⟩
    · exact .inl q
    · cases e
  · exact .inr h
theorem ST.ty {K : PySem.W.Frag} {H : Hp} {a : Addr} {xs : List V} (h : ST K H a xs) : TyX K H (.ref a) (.type "tuple") := by
  rcases h with h | ⟨o, its, n, h, c, _⟩
  · exact .base (.tup h)
  · exact .kTuple h c
theorem ST.new {K : PySem.W.Frag} {H : Hp} {a : Addr} {xs : List V} : ST K (upd H a (.tup xs)) a xs := .inl upd_same
def RT (K : PySem.W.Frag) (H : Hp) (r : Rat) (v : V) : Prop := ∃ a, v = .ref a ∧ ST K H a [.int r.num, .int r.den]
theorem RT.up {K : PySem.W.Frag} {H H' : Hp} {r : Rat} {v : V} (h : RT K H r v) (l : Le H H') : RT K H' r v :=
  let ⟨a, e, q⟩ := h
  ⟨a, e, q.up l⟩
theorem RT.new {K : PySem.W.Frag} {H : Hp} {p : Addr} {r : Rat} {i j : Int} (hi : i = r.num) (hj : j = (r.den : Int)) : RT K (upd H p (.tup [.int i, .int j])) r (.ref p) := by
  subst hi hj
  exact ⟨p, rfl, .inl upd_same⟩
/-! ### a list that calls change, all else kept -/
/-- all but what lies at a stays -/
def LeB (a : Addr) (H H' : Hp) : Prop := ∀ b o, b ≠ a → H b = some o → H' b = some o ∨ ∃ ps ps', o = .tbl ps ∧ H' b = some (.tbl ps') ∧ (TriplesOk ps.toList → TriplesOk ps'.toList)
theorem Le.but {a : Addr} {H H' : Hp} (l : Le H H') : LeB a H H' := fun b o _ h => l b o h
theorem LeB.refl (a : Addr) (H : Hp) : LeB a H H := (Le.refl H).but
theorem LeB.trans {a : Addr} {H H1 H2 : Hp} (l : LeB a H H1) (k : LeB a H1 H2) : LeB a H H2 := fun x o n h => by
  rcases l x o n h with q | ⟨ps, ps', e, q, t⟩
  · exact k x o n q
  · rcases k x _ n q with r | ⟨qs, qs', e2, r, t2⟩
    · exact .inr ⟨ps, ps', e, r, t⟩
    · cases e2
      exact .inr ⟨ps, qs', e, r, fun z => t2 (t z)⟩
theorem LeB.at {a : Addr} {o : HO} {H : Hp} : LeB a H (upd H a o) := fun b u n h => .inl (by rw [upd_ne n]; exact h)
theorem LeB.put {a : Addr} {o : HO} {H H' : Hp} (l : LeB a H H') : LeB a H (upd H' a o) := l.trans .at
/-- what was new when the list was made may stay forgotten -/
theorem LeB.le {a : Addr} {H H1 H2 : Hp} (l : Le H H1) (k : LeB a H1 H2) (n : H a = none) : Le H H2 := fun b o h => by
  have nb : b ≠ a := ne_of_none h n
  rcases l b o h with q | ⟨ps, ps', e, q, t⟩
  · exact k b o nb q
  · rcases k b _ nb q with r | ⟨qs, qs', e2, r, t2⟩
    · exact .inr ⟨ps, ps', e, r, t⟩
    · cases e2
      exact .inr ⟨ps, qs', e, r, fun z => t2 (t z)⟩
theorem LeB.st {K : PySem.W.Frag} {a b : Addr} {H H' : Hp} {xs ys : List V} (l : LeB a H H') (ha : H a = some (.lst ys)) (h : ST K H b xs) : ST K H' b xs := by
  rcases h with h | h
  · have n : b ≠ a := fun e => by rw [e, ha] at h; cases h
    rcases l b _ n h with q | ⟨ps, _, e, _⟩
    · exact .inl q
    · cases e
  · exact .inr h
theorem LeB.rt {K : PySem.W.Frag} {a : Addr} {r : Rat} {v : V} {H H' : Hp} {ys : List V} (l : LeB a H H') (ha : H a = some (.lst ys)) (h : RT K H r v) : RT K H' r v :=
  let ⟨b, e, q⟩ := h
  ⟨b, e, l.st ha q⟩
theorem LeB.tabs {T : List Addr} {a : Addr} {H H' : Hp} {ys : List V} (l : LeB a H H') (ha : H a = some (.lst ys)) (h : Tabs T H) : Tabs T H' := fun p hp => by
  obtain ⟨ps, e, t⟩ := h p hp
  have n : p ≠ a := fun z => by rw [z, ha] at e; cases e
  rcases l p _ n e with q | ⟨qs, qs', e2, q, t2⟩
  · exact ⟨ps, q, t⟩
  · cases e2
    exact ⟨qs', q, t2 t⟩
theorem LeB.lst {a b : Addr} {H H' : Hp} {xs : List V} (l : LeB a H H') (n : b ≠ a) (h : H b = some (.lst xs)) : H' b = some (.lst xs) := by
  rcases l b _ n h with q | ⟨ps, _, e, _⟩
  · exact q
  · cases e
theorem LeB.free {a b : Addr} {H H' : Hp} (l : LeB a H H') (n : b ≠ a) (h : H' b = none) : H b = none := by
  cases e : H b with
  | none => rfl
  | some o =>
    rcases l b o n e with q | ⟨ps, ps', _, q, _⟩
    · rw [h] at q; cases q
    · rw [h] at q; cases q
/-- the law's row of draws: the script, the place, the mixed number, the rest of a great cell -/
abbrev Scr := Addr × List Int
def Row (K : PySem.W.Frag) (N : Scr) (a : Addr) (H : Hp) : Prop :=
  ∃ (c m r : Int), H a = some (.lst [.ref N.1, .int c, .int m, .int r]) ∧ SqL K H N.1 (N.2.map V.int) ∧ 0 ≤ c ∧ 0 ≤ m ∧ m < 2147483647
theorem Row.lst {K : PySem.W.Frag} {N : Scr} {a : Addr} {H : Hp} (h : Row K N a H) : ∃ ys, H a = some (.lst ys) :=
  let ⟨_, _, _, e, _⟩ := h
  ⟨_, e⟩
theorem Row.up {K : PySem.W.Frag} {N : Scr} {a : Addr} {H H' : Hp} (h : Row K N a H) (l : Le H H') : Row K N a H' :=
  let ⟨c, m, r, e, s, x⟩ := h
  ⟨c, m, r, l.lst e, l.l s, x⟩
/-- an address that the script does not stand at -/
def Off (K : PySem.W.Frag) (N : Scr) (D : Addr) : Prop := D ≠ N.1 ∨ ∀ H, SqL K H N.1 (N.2.map V.int)
theorem Row.off {K : PySem.W.Frag} {N : Scr} {a D : Addr} {H : Hp} (h : Row K N a H) (n : H D = none) : Off K N D := by
  obtain ⟨c, m, r, e, s, x⟩ := h
  rcases s with (s | ⟨u, s⟩) | s
  · exact .inl fun z => by rw [← z, n] at s; cases s
  · exact .inl fun z => by rw [← z, n] at s; cases s
  · exact .inr fun H => .inr s
theorem Row.put {K : PySem.W.Frag} {N : Scr} {a D : Addr} {H : Hp} {o : HO} (h : Row K N a H) (f : Off K N D) (n : D ≠ a) : Row K N a (upd H D o) := by
  obtain ⟨c, m, r, e, s, x⟩ := h
  refine ⟨c, m, r, by rw [upd_ne (Ne.symm n)]; exact e, ?_, x⟩
  rcases f with f | f
  · rcases s with (s | ⟨u, s⟩) | s
    · exact .inl (.inl (by rw [upd_ne (Ne.symm f)]; exact s))
    · exact .inl (.inr ⟨u, by rw [upd_ne (Ne.symm f)]; exact s⟩)
    · exact .inr s
  · exact f _
theorem Row.free {K : PySem.W.Frag} {N : Scr} {a D : Addr} {H : Hp} (h : Row K N a H) (n : H D = none) : D ≠ a := fun z => by
  obtain ⟨ys, e⟩ := h.lst
  rw [z, e] at n
  cases n
theorem seqL_but {K : PySem.W.Frag} {ns : List Int} {sc a b : Addr} {H : Hp} {o : HO} {xs : List V} (e : H a = some (.lst (.ref b :: xs))) (h : SqL K H sc (ns.map V.int)) : SqL K (upd H a o) sc (ns.map V.int) := by
  rcases h with (h | ⟨u, h⟩) | h
  · have n : sc ≠ a := fun z => by
      rw [z, e] at h
      cases ns with
      | nil => cases h
      | cons n ns => cases h
    exact .inl (.inl (by rw [upd_ne n]; exact h))
  · have n : sc ≠ a := fun z => by rw [z, e] at h; cases h
    exact .inl (.inr ⟨u, by rw [upd_ne n]; exact h⟩)
  · exact .inr h
/-! ### alike: the same data, n deep -/
def Flat : V → Prop
  | .non => True
  | .bl _ => True
  | .int _ => True
  | .str _ => True
  | _ => False
def Al (K : PySem.W.Frag) (H : Hp) : Nat → V → V → Prop
  | 0, x, y => x = y ∧ Flat x
  | n + 1, x, y => (x = y ∧ Flat x) ∨ ∃ a b xs ys, x = .ref a ∧ y = .ref b ∧ ST K H a xs ∧ ST K H b ys ∧ xs.length ≤ 1000 ∧ Paired (Al K H n) xs ys
theorem paired_imp {α β : Type} {F G : α → β → Prop} (h : ∀ a b, F a b → G a b) : ∀ {xs : List α} {ys : List β}, Paired F xs ys → Paired G xs ys
  | _, _, .nil => .nil
  | _, _, .cons a t => .cons (h _ _ a) (paired_imp h t)
theorem Al.up {K : PySem.W.Frag} {H H' : Hp} (l : Le H H') : ∀ {n : Nat} {x y : V}, Al K H n x y → Al K H' n x y
  | 0, _, _, h => h
  | n + 1, x, y, h => by
    rcases h with h | ⟨a, b, xs, ys, e1, e2, t1, t2, z, p⟩
    · exact .inl h
    · exact .inr ⟨a, b, xs, ys, e1, e2, t1.up l, t2.up l, z, paired_imp (fun _ _ q => Al.up l q) p⟩
theorem Al.more {K : PySem.W.Frag} {H : Hp} : ∀ {n : Nat} {x y : V}, Al K H n x y → Al K H (n + 1) x y
  | 0, _, _, h => .inl h
  | n + 1, x, y, h => by
    rcases h with h | ⟨a, b, xs, ys, e1, e2, t1, t2, z, p⟩
    · exact .inl h
    · exact .inr ⟨a, b, xs, ys, e1, e2, t1, t2, z, paired_imp (fun _ _ q => Al.more q) p⟩
theorem Al.int {K : PySem.W.Frag} {H : Hp} {n : Nat} {i : Int} : Al K H n (.int i) (.int i) := by
  cases n with
  | zero => exact ⟨rfl, trivial⟩
  | succ n => exact .inl ⟨rfl, trivial⟩
theorem RT.al {K : PySem.W.Frag} {H : Hp} {r : Rat} {x y : V} (h : RT K H r x) (h' : RT K H r y) : Al K H 1 x y :=
  let ⟨a, e, q⟩ := h
  let ⟨b, e', q'⟩ := h'
  .inr ⟨a, b, _, _, e, e', q, q', by show 2 ≤ 1000; decide, .cons .int (.cons .int .nil)⟩
/-- a row of ratios -/
def RTs (K : PySem.W.Frag) (H : Hp) : List Rat → List V → Prop := Paired (RT K H)
theorem RTs.up {K : PySem.W.Frag} {H H' : Hp} {rs : List Rat} {vs : List V} (h : RTs K H rs vs) (l : Le H H') : RTs K H' rs vs := paired_imp (fun _ _ q => q.up l) h
theorem paired_len {α β : Type} {F : α → β → Prop} : ∀ {xs : List α} {ys : List β}, Paired F xs ys → xs.length = ys.length
  | _, _, .nil => rfl
  | _, _, .cons _ t => congrArg Nat.succ (paired_len t)
theorem paired_at {α β : Type} {F : α → β → Prop} : ∀ {xs : List α} {ys : List β} {i : Nat} {x : α} {y : β}, Paired F xs ys → xs[i]? = some x → ys[i]? = some y → F x y
  | _, _, i, _, _, .nil, h, _ => by simp at h
  | _, _, 0, _, _, .cons a _, h1, h2 => by
    cases h1
    cases h2
    exact a
  | _, _, i + 1, _, _, .cons _ t, h1, h2 => paired_at (i := i) t h1 h2
/-! ### // by any number but 0 -/
def CDivZ (_ j : Int) : Prop := j ≠ 0 ∧ j.natAbs.log2 < 9000
theorem cdivz {i j : Int} {n : Nat} (h : j ≠ 0) (hb : j.natAbs < 2 ^ n) (hn : n ≤ 9000) : CDivZ i j := by
  refine ⟨h, ?_⟩
  have := (Nat.log2_lt (by omega)).mpr hb
  omega
theorem op_fdivZ {X : Cx} : OpR X (binaryOp .FloorDiv) (rI CDivZ fun i j => .int (i.fdiv j)) := opI fun _ _ _ _ _ _ _ hc q => floordiv_int hc.1 q (.inl (PyProof.noPylong_of_log2 hc.2))
theorem cmul {i j : Int} {a b : Nat} (ha : i.natAbs < 2 ^ a) (hb : j.natAbs < 2 ^ b) (h : a + b ≤ 900000) : CMulW i j :=
  wide_mul (a := a + 1) (b := b + 1) (Nat.lt_of_lt_of_le ha (Nat.pow_le_pow_right (by decide) (by omega))) (Nat.lt_of_lt_of_le hb (Nat.pow_le_pow_right (by decide) (by omega))) (by omega) (by omega) (by omega)
/-! ### a def of the text, and what it promises -/
/-- the def x of the text, its function object at f -/
abbrev Fn (K : PySem.W.Frag) (x : Str) (st : Stmt) (f : Addr) (fd : FuncData) : Prop := FunD K x x (defArgs st) (defBody st) (defScope st) [] [] f fd
structure Df (K : PySem.W.Frag) (mg : Str → Option Value) (x : Str) (st : Stmt) (ps : List Str) : Prop where
  ex : ∃ f fd, Fn K x st f fd ∧ mg x = some (.ref f) ∧ Binds K fd ps []
structure Has (P : Program) (w : World) (K : PySem.W.Frag) (mg : Str → Option Value) (base : Heap) (k : Nat) (x : Str) (ps : List Str) (sp : Sp) : Prop where
  ex : ∃ f fd, FnOk P w K mg base CX0 k f fd ps sp ∧ mg x = some (.ref f) ∧ PySem.W.keepIn K (.ref f) = true ∧ Binds K fd ps []
/-- the same, its code object at c -/
structure DfG (K : PySem.W.Frag) (mg : Str → Option Value) (x : Str) (st : Stmt) (ps : List Str) (c : Addr) : Prop where
  ex : ∃ f fd, Fn K x st f fd ∧ fd.code = .ref c ∧ mg x = some (.ref f) ∧ Binds K fd ps []
section
variable {P : Program} {w : World} {K : PySem.W.Frag} {mg : Str → Option Value} {base : Heap}
theorem Has.mono {j k : Nat} {x : Str} {ps : List Str} {sp : Sp} (h : Has P w K mg base j x ps sp) (l : j ≤ k) : Has P w K mg base k x ps sp :=
  let ⟨f, fd, F, r⟩ := h.ex
  ⟨f, fd, F.mono l, r⟩
theorem fn_ok {x : Str} {st : Stmt} {f : Addr} {fd : FuncData} {ps N : List Str} {k : Nat} {sp : Sp} (F : Fn K x st f fd) (S : FnScope N ps (defScope st)) (len : ∀ vs H Q E, sp vs H Q E → vs.length = ps.length)
    (hbody : ∀ (cdv : Value) (A : Around) (outer : List Env) (s : Shared) (H : Hp) (vs : List V) (Q : VK) (E : XK), Room k (A.deeper (envOfC x (defScope st) s.heap.objs.size f cdv)) → sp vs H Q E →
      ∃ t, PSs (cxOf CX0 P w K mg base N x (defScope st) f cdv A outer s H E).nox (defBody st) t ∧ t { nx := fun _ H' => Q .non H', rt := Q } (start N vs) H) : FnOk P w K mg base CX0 (k + 1) f fd ps sp :=
  F.ok S len fun cdv A outer s H vs Q E hr h => let ⟨t, h1, h2⟩ := hbody cdv A outer s H vs Q E hr h
    ⟨t, h1.nox, h2⟩
theorem fn_okG {x : Str} {st : Stmt} {f c : Addr} {fd : FuncData} {ps N : List Str} {k : Nat} {sp : Sp} (F : Fn K x st f fd) (hc : fd.code = .ref c) (S : FnScope N ps (defScope st)) (len : ∀ vs H Q E, sp vs H Q E → vs.length = ps.length)
    (hbody : ∀ (A : Around) (outer : List Env) (s : Shared) (H : Hp) (vs : List V) (Q : VK) (E : XK), Room k (A.deeper (envOfC x (defScope st) s.heap.objs.size f (.ref c))) → sp vs H Q E →
      ∃ t, PSs (cxOf CX0 P w K mg base N x (defScope st) f (.ref c) A outer s H E).nox (defBody st) t ∧ t { nx := fun _ H' => Q .non H', rt := Q } (start N vs) H) : FnOk P w K mg base CX0 (k + 1) f fd ps sp := by
  obtain ⟨oc, od, dV, kV, doc, pm, an, cdv, ct, osl, rfl, lk, hcd, _, _⟩ := F.ex
  obtain rfl : cdv = .ref c := hc
  exact fn_of lk hcd S len fun A outer s H vs Q E hr h => let ⟨t, h1, h2⟩ := hbody A outer s H vs Q E hr h
    ⟨t, h1.nox, h2⟩
theorem Df.has {x : Str} {st : Stmt} {ps N : List Str} {k : Nat} {sp : Sp} (d : Df K mg x st ps) (S : FnScope N ps (defScope st)) (len : ∀ vs H Q E, sp vs H Q E → vs.length = ps.length)
    (hbody : ∀ (f : Addr) (cdv : Value) (A : Around) (outer : List Env) (s : Shared) (H : Hp) (vs : List V) (Q : VK) (E : XK), Room k (A.deeper (envOfC x (defScope st) s.heap.objs.size f cdv)) → sp vs H Q E →
      ∃ t, PSs (cxOf CX0 P w K mg base N x (defScope st) f cdv A outer s H E).nox (defBody st) t ∧ t { nx := fun _ H' => Q .non H', rt := Q } (start N vs) H) : Has P w K mg base (k + 1) x ps sp := by
  obtain ⟨f, fd, F, m, b⟩ := d.ex
  exact ⟨f, fd, fn_ok F S len fun cdv A outer s H vs Q E hr h => hbody f cdv A outer s H vs Q E hr h, m, F.kp, b⟩
theorem DfG.has {x : Str} {st : Stmt} {ps N : List Str} {k : Nat} {sp : Sp} {c : Addr} (d : DfG K mg x st ps c) (S : FnScope N ps (defScope st)) (len : ∀ vs H Q E, sp vs H Q E → vs.length = ps.length)
    (hbody : ∀ (f : Addr) (A : Around) (outer : List Env) (s : Shared) (H : Hp) (vs : List V) (Q : VK) (E : XK), Room k (A.deeper (envOfC x (defScope st) s.heap.objs.size f (.ref c))) → sp vs H Q E →
      ∃ t, PSs (cxOf CX0 P w K mg base N x (defScope st) f (.ref c) A outer s H E).nox (defBody st) t ∧ t { nx := fun _ H' => Q .non H', rt := Q } (start N vs) H) : Has P w K mg base (k + 1) x ps sp := by
  obtain ⟨f, fd, F, hc, m, b⟩ := d.ex
  exact ⟨f, fd, fn_okG F hc S len fun A outer s H vs Q E hr h => hbody f A outer s H vs Q E hr h, m, F.kp, b⟩
end
theorem pe_has {X : Cx} {x : Str} {k : Nat} {ps : List Str} {sp : Sp} {p pos : Pos} {e : Expr} {es : List Expr} {t : TA} (h : Has X.prog X.w X.K X.mg X.base k x ps sp) (hr : Room k X.A) (ha : PA X (e :: es) t) (hg : Gl X x := by rfl)
    (hdb : (x == ("__debug__" : Str)) = false := by decide) (he : starEach (e :: es) X.env = (false, eval e X.env) :: starEach es X.env := by rfl) (hpl : (backTo pos (starEach es X.env)).any (·.1) = false := by rfl) :
    PE X (.Call (.Name x p) (e :: es) [] pos) (tCall sp [] E0 t) := by
  obtain ⟨f, fd, F, m, kp, b⟩ := h.ex
  exact pe_call F hr hg m kp b .nil pass0 ha hdb he hpl
/-! ### promises about ratios -/
/-- two ratios in, one out -/
def spR2 (K : PySem.W.Frag) (ok : Rat → Rat → Prop) (f : Rat → Rat → Rat) : Sp := fun vs H Q _ => ∃ x y a b n m, vs = [x, y] ∧ RT K H a x ∧ RT K H b y ∧ Bd n a ∧ Bd m b ∧ n + m ≤ 8900 ∧ ok a b ∧ ∀ H' v, Le H H' → RT K H' (f a b) v → Q v H'
/-- two integers in, their quotient out -/
def spMake (K : PySem.W.Frag) : Sp := fun vs H Q _ => ∃ t b n, vs = [.int t, .int b] ∧ b ≠ 0 ∧ b.natAbs < 2 ^ n ∧ n ≤ 8999 ∧ ∀ H' v, Le H H' → RT K H' (t /. b) v → Q v H'
/-- a number drawn from the row -/
def spTaken (K : PySem.W.Frag) (ns : Scr) : Sp := fun vs H Q _ => ∃ a m, vs = [.ref a, .int m] ∧ Row K ns a H ∧ 0 < m ∧ m < 1073741824 ∧ ∀ k H', 0 ≤ k → k < m → Row K ns a H' → LeB a H H' → Q (.int k) H'
/-- one of some things -/
def spPick (K : PySem.W.Frag) (ns : Scr) : Sp := fun vs H Q _ => ∃ a l xs, vs = [.ref a, .ref l] ∧ Row K ns a H ∧ H l = some (.lst xs) ∧ l ≠ a ∧ xs ≠ [] ∧ xs.length ≤ 1000 ∧ ∀ (j : Nat) (x : V) (H' : Hp), xs[j]? = some x → Row K ns a H' → LeB a H H' → Q x H'
/-- alike: True -/
def spAlike (K : PySem.W.Frag) (n : Nat) : Sp := fun vs H Q _ => ∃ x y, vs = [x, y] ∧ Al K H n x y ∧ ∀ H', Le H H' → Q (.bl true) H'
end Act
namespace Act
open PySem PySem.Spec PyProof.Rows L2
/-! ### a tuple times an integer of any size -/
abbrev tupObj (its : Array Value) (m : Nat) (dx : Option Addr) (sv : Array (Option Value)) : Obj := { cls := .type "tuple", dict := dx, data := .seq its m, slots := sv }
theorem mulOne (l : Addr) (its : Array Value) (m : Nat) (dx : Option Addr) (sv : Array (Option Value)) (u : Tok) :
    Meets (Builtin.«tuple.__mul__» ⟨[.ref l, .int 1 u], []⟩) (fun _ R s => s.heap.get? l = some (tupObj its m dx sv) ∧ R (.ok (.ret (.ref l))) s) :=
  .of_wp fun prog w A R s h => by
    obtain ⟨hp, g, d, tk, os⟩ := s
    obtain ⟨hl, h⟩ := h
    have idx := AutoSeq1.idx_int
    wp_walk using wpAny_loadPart' hl
    all_goals try exact ⟨_, rfl, h⟩
theorem mulNone (l : Addr) (its : Array Value) (m : Nat) (dx : Option Addr) (sv : Array (Option Value)) (x : Int) (u : Tok) (hlow : (decide (x < -(2 ^ 63)) || decide (x ≥ 2 ^ 63)) = false) (h1 : (its.isEmpty || x == 1) = false) (h2 : (decide (x ≤ 0) || its.isEmpty) = true) :
    Meets (Builtin.«tuple.__mul__» ⟨[.ref l, .int x u], []⟩) (fun _ R s => s.heap.get? l = some (tupObj its m dx sv) ∧
      R (.ok (.ret (.ref s.heap.objs.size))) { s with heap := s.heap.push { cls := .type "tuple", data := .seq #[] }, toks := s.toks }) :=
  .of_wp fun prog w A R s h => by
    obtain ⟨hp, g, d, tk, os⟩ := s
    obtain ⟨hl, h⟩ := h
    have idx := AutoSeq1.idx_int
    wp_walk using wpAny_loadPart' hl
    repeat (first
      | (refine wpAny_ite_false (decide_eq_false fun z => by rw [hlow] at z; cases z) ?_; wp_walk using wpAny_loadPart' hl)
      | (refine wpAny_ite_false (decide_eq_false fun z => by rw [h1] at z; cases z) ?_; wp_walk using wpAny_loadPart' hl)
      | (refine wpAny_ite_true (decide_eq_true h2) ?_; wp_walk using wpAny_loadPart' hl))
    exact ⟨_, rfl, h⟩
/-- t * k: some tuple of k copies, all else as it was -/
def rRepA (K : PySem.W.Frag) : R2 := fun x y H Q => ∃ l k xs, x = .ref l ∧ y = .int k ∧ ST K H l xs ∧ xs ≠ [] ∧ -1000 ≤ k ∧ k ≤ 1000 ∧ xs.length ≤ 1000 ∧
  ∀ p H', Le H H' → ST K H' p (List.replicate k.toNat xs).flatten → Q (.ref p) H'
theorem op_repA {X : Cx} : OpR X (binaryOp .Mult) (rRepA X.K) := by
  intro pins s σ H x y v u Q I rx ry h
  obtain ⟨l, k, xs, rfl, rfl, hT, hne, h0, h1, hz, q⟩ := h
  by_cases h2 : 2 ≤ k
  · exact op_repT pins s σ H _ _ v u Q I rx ry ⟨l, k, xs, rfl, rfl, hT.sq, hne, h2, h1, hz, fun p np => q p _ (Le.new np) ST.new⟩
  cases rx
  obtain ⟨t, rfl⟩ := ry
  obtain ⟨its, r, ⟨⟨cl, dx, dat, sv⟩, ho, hc, m, hd⟩, hs⟩ := I.tuple hT.sq
  simp only at hc hd
  subst hc hd
  have hi : its.toArray.isEmpty = false := by
    cases its with
    | nil =>
      cases r
      exact absurd rfl hne
    | cons a b => rfl
  by_cases hk : k = 1
  · subst hk
    refine wpAny_binaryOp_repeat_ref (T := "tuple") (U := "int") (by decide) ⟨_, ho, rfl⟩ (fun z => typeIs_int z 1 t) noFill_tuple_mul F.fills_int_mul F.slot_int_rmul repeat_tuple F.slot_int_index.lookup ?_
    refine call_meets F.slot_int_rmul (typeIs_int s 1 t) F.entry_int_rmul (F.args_int_rmul_2 _ _) (int_rmul_tuple 1 t l its.toArray m dx sv) ⟨ho, rfl, ⟨_, ho, rfl⟩, ?_⟩
    refine call_meets F.slot_tuple_mul ⟨_, ho, rfl⟩ F.entry_tuple_mul (F.args_tuple_mul_2 _ _) (mulOne l its.toArray m dx sv t) ⟨ho, ?_⟩
    refine ⟨.ref l, H, I, rfl, q l H (Le.refl H) ?_⟩
    have e : (List.replicate (1 : Int).toNat xs).flatten = xs := by
      show (List.replicate 1 xs).flatten = xs
      simp
    rw [e]
    exact hT
  · have hk0 : k ≤ 0 := by omega
    refine wpAny_binaryOp_repeat_ref (T := "tuple") (U := "int") (by decide) ⟨_, ho, rfl⟩ (fun z => typeIs_int z k t) noFill_tuple_mul F.fills_int_mul F.slot_int_rmul repeat_tuple F.slot_int_index.lookup ?_
    refine call_meets F.slot_int_rmul (typeIs_int s k t) F.entry_int_rmul (F.args_int_rmul_2 _ _) (int_rmul_tuple k t l its.toArray m dx sv) ⟨ho, rfl, ⟨_, ho, rfl⟩, ?_⟩
    refine call_meets F.slot_tuple_mul ⟨_, ho, rfl⟩ F.entry_tuple_mul (F.args_tuple_mul_2 _ _) (mulNone l its.toArray m dx sv k t ?_ ?_ ?_) ⟨ho, ?_⟩
    · rw [decide_eq_false (by omega), decide_eq_false (by omega)] <;> rfl
    · rw [hi, Bool.false_or]
      exact beq_eq_false_iff_ne.mpr hk
    · rw [decide_eq_true hk0, Bool.true_or]
    · have e : (List.replicate k.toNat xs).flatten = [] := by
        rw [show k.toNat = 0 by omega]
        rfl
      have np : H s.heap.objs.size = none := I.hok.fresh (Nat.le_refl _)
      refine ⟨.ref s.heap.objs.size, upd H s.heap.objs.size (.tup []), I.laid (t' := s.toks) (o := .tup []) (fun b ob z => Heap.get?_push_of_some _ z) (Nat.le_refl _) ⟨Nat.zero_le _, [], .nil, IsTup.new _ _⟩, rfl, q _ _ (Le.new np) ?_⟩
      rw [e]
      exact ST.new
end Act
namespace Act
open PySem PySem.Spec PyProof.Rows L2
open scoped Rat
/-- an integer: True -/
def spIsInt : Sp := fun vs H Q _ => ∃ i, vs = [.int i] ∧ Q (.bl true) H
def spBetween : Sp := fun vs H Q _ => ∃ i a b, vs = [.int i, .int a, .int b] ∧ Q (.bl (decide (a ≤ i ∧ i ≤ b))) H
def spIsRatio (K : PySem.W.Frag) : Sp := fun vs H Q _ => ∃ v r, vs = [v] ∧ RT K H r v ∧ Q (.bl true) H
def spCheckRate (K : PySem.W.Frag) : Sp := fun vs H Q _ => ∃ v r, vs = [v] ∧ RT K H r v ∧ RateOk r ∧ Q .non H
def spCheckTime : Sp := fun vs H Q _ => ∃ i a b, vs = [.int i, .int a, .int b] ∧ a ≤ i ∧ i ≤ b ∧ Q .non H
/-- payments as the document allows them -/
def PayIn (ns : List Int) : Prop := ns.length ≤ 40 ∧ ∀ n ∈ ns, n.natAbs ≤ 1000000
theorem PayIn.ok {ns : List Int} (h : PayIn ns) : PayOk ns := fun n hn => Nat.lt_of_le_of_lt (h.2 n hn) (by decide)
def spCheckPay (K : PySem.W.Frag) (T : List Addr) : Sp := fun vs H Q _ => ∃ (p : Addr) (ns : List Int), vs = [.ref p] ∧ ST K H p (ns.map V.int) ∧ ns.length ≤ 40 ∧ (∀ n ∈ ns, n.natAbs ≤ 1000000) ∧ Tabs T H ∧ ∀ H', Le H H' → Q .non H'
/-- a ratio in, another one out -/
def spR1 (K : PySem.W.Frag) (ok : Rat → Prop) (f : Rat → Rat) : Sp := fun vs H Q _ => ∃ v r, vs = [v] ∧ RT K H r v ∧ ok r ∧ ∀ H' u, Le H H' → RT K H' (f r) u → Q u H'
def spPV (K : PySem.W.Frag) : Sp := fun vs H Q _ => ∃ p v ns r, vs = [.ref p, v] ∧ ST K H p (ns.map V.int) ∧ ns.length ≤ 60 ∧ PayOk ns ∧ RT K H r v ∧ RateOk r ∧ ∀ H' u, Le H H' → RT K H' (pval (1 + r)⁻¹ ns) u → Q u H'
def spOnes (K : PySem.W.Frag) : Sp := fun vs H Q _ => ∃ v r n, vs = [v, .int ((n : Nat) : Int)] ∧ n ≤ 40 ∧ RT K H r v ∧ RateOk r ∧ ∀ H' u, Le H H' → RT K H' (pval (1 + r)⁻¹ (ones n)) u → Q u H'
def spCheckLoan (K : PySem.W.Frag) : Sp := fun vs H Q _ => ∃ A v r n, vs = [.int A, v, .int ((n : Nat) : Int)] ∧ 1 ≤ A ∧ A ≤ 1000000 ∧ 1 ≤ n ∧ n ≤ 40 ∧ RT K H r v ∧ RateOk r ∧ Q .non H
/-- what is paid each year -/
def paidY (A : Int) (r : Rat) (n : Nat) : Rat := (A : Rat) / pval (1 + r)⁻¹ (ones n)
theorem amount_bd {A : Int} (h1 : 1 ≤ A) (h2 : A ≤ 1000000) : Bd 20 (A : Rat) := Bd.int (by show _ < 1048576; omega) (by decide)
theorem ones_bd {r : Rat} (h : RateOk r) {n m : Nat} (hn : n ≤ m) : Bd (34 + 33 * m) (pval (1 + r)⁻¹ (ones n)) := (Bd.pval h.disc (ones_ok n)).mono (by rw [ones_len]; omega)
theorem ones_ne {r : Rat} (h : RateOk r) {n : Nat} (hn : 1 ≤ n) : pval (1 + r)⁻¹ (ones n) ≠ 0 := by
  obtain ⟨m, rfl⟩ : ∃ m, n = m + 1 := ⟨n - 1, by omega⟩
  exact Rat.ne_of_gt (pval_ones_pos (disc_pos h.pos) m)
theorem paidY_bd {A : Int} {r : Rat} {n : Nat} (h : RateOk r) (h1 : 1 ≤ A) (h2 : A ≤ 1000000) (hn : 1 ≤ n) (hm : n ≤ 40) : Bd 1374 (paidY A r n) :=
  Bd.div (ones_ne h hn) (amount_bd h1 h2) (ones_bd h hm)
theorem paidY_eq {A : Int} {r : Rat} {n : Nat} (h : RateOk r) (hn : 1 ≤ n) : (A : Rat) = paidY A r n * pval (1 + r)⁻¹ (ones n) := (Rat.div_mul_cancel (ones_ne h hn)).symm
def lfY (A : Int) (r : Rat) (n k : Nat) : Rat := lf (A : Rat) (paidY A r n) r k
theorem lfY_closed {A : Int} {r : Rat} {n k : Nat} (h : RateOk r) (hn : 1 ≤ n) (hk : k ≤ n) : lfY A r n k = paidY A r n * pval (1 + r)⁻¹ (ones (n - k)) := lf_closed h n (paidY_eq h hn) k hk
theorem lfY_bd {A : Int} {r : Rat} {n k : Nat} (h : RateOk r) (h1 : 1 ≤ A) (h2 : A ≤ 1000000) (hn : 1 ≤ n) (hm : n ≤ 40) (hk : k ≤ n) : Bd 2728 (lfY A r n k) := by
  rw [lfY_closed h hn hk]
  exact (paidY_bd h h1 h2 hn hm).mul (ones_bd h (by omega : n - k ≤ 40))
theorem lfY_succ (A : Int) (r : Rat) (n k : Nat) : lfY A r n (k + 1) = lfY A r n k - (paidY A r n - r * lfY A r n k) := rfl
theorem lfY_zero (A : Int) (r : Rat) (n : Nat) : lfY A r n 0 = A := rfl
theorem lfY_end {A : Int} {r : Rat} {n : Nat} (h : RateOk r) (hn : 1 ≤ n) : lfY A r n n = 0 := by
  rw [lfY_closed h hn (Nat.le_refl n), Nat.sub_self, pval_ones_zero]
  grind
def spYearly (K : PySem.W.Frag) : Sp := fun vs H Q _ => ∃ A v r n, vs = [.int A, v, .int ((n : Nat) : Int)] ∧ 1 ≤ A ∧ A ≤ 1000000 ∧ 1 ≤ n ∧ n ≤ 40 ∧ RT K H r v ∧ RateOk r ∧ ∀ H' u, Le H H' → RT K H' (paidY A r n) u → Q u H'
/-- a tuple of four ratios -/
def R4 (K : PySem.W.Frag) (H : Hp) (a b c d : Rat) (v : V) : Prop := ∃ q x y z u, v = .ref q ∧ ST K H q [x, y, z, u] ∧ RT K H a x ∧ RT K H b y ∧ RT K H c z ∧ RT K H d u
theorem R4.up {K : PySem.W.Frag} {H H' : Hp} {a b c d : Rat} {v : V} (h : R4 K H a b c d v) (l : Le H H') : R4 K H' a b c d v :=
  let ⟨q, x, y, z, u, e, t, h1, h2, h3, h4⟩ := h
  ⟨q, x, y, z, u, e, t.up l, h1.up l, h2.up l, h3.up l, h4.up l⟩
/-- the row of year k + 1 -/
def LoanRow (K : PySem.W.Frag) (A : Int) (r : Rat) (n : Nat) (H : Hp) (k : Nat) (v : V) : Prop := R4 K H (paidY A r n) (r * lfY A r n k) (paidY A r n - r * lfY A r n k) (lfY A r n (k + 1)) v
def spLoanRows (K : PySem.W.Frag) : Sp := fun vs H Q _ => ∃ A v r n, vs = [.int A, v, .int ((n : Nat) : Int)] ∧ 1 ≤ A ∧ A ≤ 1000000 ∧ 1 ≤ n ∧ n ≤ 40 ∧ RT K H r v ∧ RateOk r ∧
  ∀ H' p xs, Le H H' → H' p = some (.tup xs) → xs.length = n → (∀ (k : Nat) (x : V), xs[k]? = some x → LoanRow K A r n H' k x) → Q (.ref p) H'
def spLeft (K : PySem.W.Frag) : Sp := fun vs H Q _ => ∃ A v r n t, vs = [.int A, v, .int ((n : Nat) : Int), .int ((t : Nat) : Int)] ∧ 1 ≤ A ∧ A ≤ 1000000 ∧ 1 ≤ n ∧ n ≤ 40 ∧ t ≤ n ∧ RT K H r v ∧ RateOk r ∧ ∀ H' u, Le H H' → RT K H' (lfY A r n t) u → Q u H'
/-- the values one by one, as the law reckons them -/
def vals (d : Rat) : Rat → List Int → List Rat
  | _, [] => []
  | h, x :: xs => (x : Rat) * h :: vals d (h * d) xs
theorem vals_len (d : Rat) : ∀ (h : Rat) (xs : List Int), (vals d h xs).length = xs.length
  | _, [] => rfl
  | h, x :: xs => congrArg Nat.succ (vals_len d (h * d) xs)
theorem vals_at (d : Rat) : ∀ (h : Rat) (xs : List Int) (i : Nat) (x : Int), xs[i]? = some x → (vals d h xs)[i]? = some ((x : Rat) * (h * d ^ i))
  | _, [], i, x, e => by simp at e
  | h, y :: xs, 0, x, e => by
    cases e
    show some _ = some _
    rw [Rat.pow_zero, Rat.mul_one]
  | h, y :: xs, i + 1, x, e => by
    show (vals d (h * d) xs)[i]? = _
    rw [vals_at d (h * d) xs i x e, Rat.pow_succ]
    congr 2
    grind
theorem vals_append (d : Rat) : ∀ (h : Rat) (xs : List Int) (x : Int), vals d h (xs ++ [x]) = vals d h xs ++ [(x : Rat) * (h * d ^ xs.length)]
  | h, [], x => by
    show [_] = [_]
    rw [List.length_nil, Rat.pow_zero, Rat.mul_one]
  | h, y :: xs, x => by
    simp only [List.cons_append, vals]
    rw [vals_append d (h * d) xs x, List.length_cons, Rat.pow_succ]
    have e : h * d * d ^ xs.length = h * (d ^ xs.length * d) := by grind
    rw [e]
def spValues (K : PySem.W.Frag) : Sp := fun vs H Q _ => ∃ p v ns r, vs = [.ref p, v] ∧ ST K H p (ns.map V.int) ∧ ns.length ≤ 60 ∧ PayOk ns ∧ RT K H r v ∧ RateOk r ∧
  ∀ H' l us, Le H H' → H l = none → H' l = some (.lst us) → RTs K H' (vals (1 + r)⁻¹ 1 ns) us → Q (.ref l) H'
/-- an interest rate of the law's list -/
def spRate (K : PySem.W.Frag) (ns : Scr) : Sp := fun vs H Q _ => ∃ a, vs = [.ref a] ∧ Row K ns a H ∧ ∀ (H' : Hp) (v : V) (r : Rat), RateOk r → RT K H' r v → Row K ns a H' → LeB a H H' → Q v H'
theorem hu64 {k : Nat} {A : Around} (hr : Room k A) : A.units + 64 < cLine := by
  have := hr.un
  omega
/-- two ways that meet -/
theorem if_cont {c : Prop} [Decidable c] {ta tb : TE} {σ : L2.St} {H : Hp} {Q : VK} (R : V → Hp → Prop) (h1 : c → ∀ Q' : VK, (∀ v H', R v H' → Q' v H') → ta σ H Q') (h2 : ¬ c → ∀ Q' : VK, (∀ v H', R v H' → Q' v H') → tb σ H Q') (h : ∀ v H', R v H' → Q v H') :
    if c then ta σ H Q else tb σ H Q := by
  by_cases e : c
  · rw [if_pos e]
    exact h1 e Q h
  · rw [if_neg e]
    exact h2 e Q h
/-- the law: True for a script of at most 63 integers -/
def spLaw (K : PySem.W.Frag) : Sp := fun vs H Q _ => ∃ (a : Addr) (ns : List Int), vs = [.ref a] ∧ SqL K H a (ns.map V.int) ∧ ns.length ≤ 63 ∧ ∀ H', Q (.bl true) H'
def spLawT (K : PySem.W.Frag) (T : List Addr) : Sp := fun vs H Q _ => ∃ (a : Addr) (ns : List Int), vs = [.ref a] ∧ SqL K H a (ns.map V.int) ∧ ns.length ≤ 63 ∧ Tabs T H ∧ ∀ H', Q (.bl true) H'
/-- the row as the law makes it -/
theorem Row.new {K : PySem.W.Frag} {ns : List Int} {a p : Addr} {H : Hp} {m : Int} (hS : SqL K H a (ns.map V.int)) (np : H p = none) (h0 : 0 ≤ m) (h1 : m < 2147483647) : Row K (a, ns) p (upd H p (.lst [.ref a, .int 0, .int m, .int 0])) :=
  ⟨0, m, 0, upd_same, (Le.new np).l hS, by omega, h0, h1⟩
/-- ratio and its parts, bent in sign -/
theorem RT.neg {K : PySem.W.Frag} {H : Hp} {p : Addr} {r : Rat} : RT K (upd H p (.tup [.int (0 - r.num), .int r.den])) (-r) (.ref p) := RT.new (by rw [Rat.neg_num]; omega) (by rw [Rat.neg_den])
theorem RT.ofInt {K : PySem.W.Frag} {H : Hp} {p : Addr} {i : Int} : RT K (upd H p (.tup [.int i, .int 1])) (i : Rat) (.ref p) := RT.new (by rw [Rat.num_intCast]) (by rw [Rat.den_intCast]; rfl)
theorem RT.dp {K : PySem.W.Frag} {H : Hp} {r : Rat} {v : V} (h : RT K H r v) : Dp K H v (.tuple [.int r.num, .int r.den]) :=
  let ⟨_, e, q⟩ := h
  e ▸ .tup q.sq (.cons (.int _) (.cons (.int _) .nil))
def spPower (K : PySem.W.Frag) : Sp := fun vs H Q _ => ∃ v r n m, vs = [v, .int ((n : Nat) : Int)] ∧ n ≤ 100 ∧ Bd m r ∧ m * n + m ≤ 100000 ∧ RT K H r v ∧ ∀ H' u, Le H H' → RT K H' (r ^ n) u → Q u H'
def spValueAt (K : PySem.W.Frag) (T : List Addr) : Sp := fun vs H Q _ => ∃ p v ns r n, vs = [.ref p, v, .int ((n : Nat) : Int)] ∧ ST K H p (ns.map V.int) ∧ PayIn ns ∧ n ≤ 60 ∧ RT K H r v ∧ RateOk r ∧ Tabs T H ∧ ∀ H' u, Le H H' → RT K H' (pval (1 + r)⁻¹ ns * (1 + r) ^ n) u → Q u H'
def spShifted (K : PySem.W.Frag) (T : List Addr) : Sp := fun vs H Q _ => ∃ (p : Addr) (ns : List Int) (n : Nat), vs = [.ref p, .int ((n : Nat) : Int)] ∧ ST K H p (ns.map V.int) ∧ PayIn ns ∧ n ≤ 40 ∧ n + ns.length ≤ 40 ∧ Tabs T H ∧ ∀ H' u, Le H H' → ST K H' u ((List.replicate n (0 : Int) ++ ns).map V.int) → Q (.ref u) H'
def spLevel (K : PySem.W.Frag) : Sp := fun vs H Q _ => ∃ (n : Nat), vs = [.int ((n : Nat) : Int)] ∧ n ≤ 40 ∧ ∀ H' u, Le H H' → ST K H' u ((List.replicate n (1 : Int)).map V.int) → Q (.ref u) H'
/-! ### loops -/
theorem for_rev {K : PySem.W.Frag} {a : Addr} {n : Nat} {xs : List V} {g : TG} {tb : TS} {D : Ends} {σ : L2.St} {H : Hp} (hn : xs.length = n) (Pv : Nat → L2.St → Hp → Prop) (h0 : Pv 0 σ H) (hl : ∀ i σ H, Pv i σ H → SqT K H a xs)
    (hs : ∀ i x σ H, i < n → xs[n - 1 - i]? = some x → Pv i σ H → g x σ H fun σ2 H2 => tb { D with nx := Pv (i + 1), ct := Pv (i + 1), bk := D.nx } σ2 H2) (hd : ∀ σ H, Pv n σ H → D.nx σ H) :
    ∃ W : Nat → Nat → L2.St → Hp → Prop, (∃ m, W 0 m σ H) ∧ ∀ i m σ H, W i m σ H →
      ((_root_.RT.ItvT K a n).stop i H ∧ D.nx σ H) ∨ ((_root_.RT.ItvT K a n).go i H ∧ ∃ N : L2.St → Hp → Prop, (∀ σ' H', N σ' H' → ∃ m', m' < m ∧ W (i + 1) m' σ' H') ∧ ∀ x H', (_root_.RT.ItvT K a n).yld i H x H' → g x σ H' fun σ2 H2 => tb { D with nx := N, ct := N, bk := D.nx } σ2 H2) := by
  refine ⟨fun i m σ H => m = n - i ∧ i ≤ n ∧ Pv i σ H, ⟨n, rfl, Nat.zero_le _, h0⟩, ?_⟩
  rintro i m σ H ⟨rfl, hi, p⟩
  have q := hl i σ H p
  by_cases c : i < n
  · have hx : xs[n - 1 - i]? = some (xs[n - 1 - i]'(by omega)) := List.getElem?_eq_getElem (by omega)
    refine .inr ⟨⟨c, xs, _, q, hx⟩, Pv (i + 1), fun σ' H' p' => ⟨n - (i + 1), by omega, rfl, c, p'⟩, fun x H' y => ?_⟩
    obtain ⟨e, f⟩ := y
    subst e
    exact hs i x σ H' c (f xs q) p
  · have e : i = n := by omega
    subst e
    exact .inl ⟨Nat.le_refl i, hd σ H p⟩
end Act
namespace Act
open PySem PySem.Spec PyProof.Rows L2
open GxR (TabB TabG Tabbed GenS inv_tab sh_eta)
/-! ### all(test for x in a tuple), any(..): the test may call defs of the text, quietly -/
/-- the test of one item, in the generator's own frame -/
def EltOk (X : Cx) (scope : Scope) (x : Str) (elt : Expr) (P : Addr) (C : L2.St → Hp → List V → (V → Bool) → Prop) : Prop :=
  ∀ (pins : List (Addr × Obj)) (σ : L2.St) (H1 : Hp) (s1 : Shared), Inv X pins σ H1 s1 → ∀ (xs : List V) (pb : V → Bool), C σ H1 xs pb →
    ∀ (cenv : Env) (A' : Around) (E' : Value → Shared → Prop) (v : V) (u : Value) (s2 : Shared) (m2 : Str → Option Value), cenv.scope = scope → cenv.globals = mainGlobals → cenv.cells = cloFrom X.env.cells scope.names [] →
      A'.handled = none → A'.depth ≤ X.A.depth + 1 → A'.units ≤ X.A.units + 8 → v ∈ xs → RelV v u → s2.heap.Ns cenv.locals m2 → m2 x = some u → (∀ b o, b ≠ P → s1.heap.get? b = some o → s2.heap.get? b = some o) → (∀ b o, X.base.get? b = some o → s2.heap.get? b = some o) →
      wpAny (model X.prog X.w) A' (eval elt cenv) (fun y s3 => y = .bool (pb v) ∧ Keeps s2 s3) E' s2
/-- the j-th answer -/
def ansAt (pb : V → Bool) (xs : List V) (j : Nat) : Bool := (xs[j]?.map pb).getD true
theorem ansAt_some {pb : V → Bool} {xs : List V} {j : Nat} {v : V} (h : xs[j]? = some v) : ansAt pb xs j = pb v := by
  unfold ansAt
  rw [h]
  rfl
theorem map_ansAt (pb : V → Bool) (xs : List V) : (List.range xs.length).map (ansAt pb xs) = xs.map pb := by
  refine List.ext_getElem? fun i => ?_
  rw [List.getElem?_map, List.getElem?_map]
  by_cases hi : i < xs.length
  · rw [List.getElem?_range hi, List.getElem?_eq_getElem hi]
    show some (ansAt pb xs i) = some (pb xs[i])
    rw [ansAt_some (List.getElem?_eq_getElem hi)]
  · rw [List.getElem?_eq_none (by rw [List.length_range]; omega), List.getElem?_eq_none (by omega)]
    rfl
theorem all_ansAt (pb : V → Bool) (xs : List V) : (List.range xs.length).all (ansAt pb xs) = xs.all pb := by
  have h := congrArg (fun l : List Bool => l.all id) (map_ansAt pb xs)
  simpa [List.all_map, Function.comp_def] using h
theorem any_ansAt (pb : V → Bool) (xs : List V) : (List.range xs.length).any (ansAt pb xs) = xs.any pb := by
  have h := congrArg (fun l : List Bool => l.any id) (map_ansAt pb xs)
  simpa [List.any_map, Function.comp_def] using h
/-- a generator that stands ready, over n items with these answers -/
def Gready (X : Cx) (pins : List (Addr × Obj)) (σ : L2.St) (H1 : Hp) (P : Addr) (n : Nat) (an : Nat → Bool) (g : Addr) (s5 : Shared) : Prop :=
  ∃ (fp wr : List Addr) (G : Array GenState → Array GenState → Prop) (F : Nat → Value → Prop) (St : Nat → Shared → Prop),
    WalksS X.prog X.w X.A.in1 g fp wr G n F St ∧ St 0 s5 ∧ TruthOf X.prog X.w X.A.in1 F an ∧ (∀ s', Moved wr G s5 s' → ∃ H2, Tabbed P H1 H2 ∧ Inv X pins σ H2 s')
section
variable {X : Cx} {pins : List (Addr × Obj)} {σ : L2.St} {H : Hp} {s : Shared}
theorem gen_tuple {c P : Addr} {elt iter : Expr} {x : Str} {px gpos : Pos} {scope : Scope} {te : TE} {k : Nat} {C : L2.St → Hp → List V → (V → Bool) → Prop} {Q' : Value → Shared → Prop} {R : List V → (V → Bool) → Hp → Prop}
    (hr : Room k X.A) (TB : TabB X.base X.mg c P) (hcode : X.env.code = .ref c) (S : GenS X.env scope x) (hi : PE X iter te) (hel : EltOk X scope x elt P C) (hs : ∀ v, genFold iter X.env v = pure v) (I : Inv X pins σ H s)
    (h : te σ H fun v H1 => ∃ (a : Addr) (xs : List V) (pb : V → Bool), v = .ref a ∧ SqT X.K H1 a xs ∧ C σ H1 xs pb ∧ TabG H1 P ∧ R xs pb H1)
    (hQ : ∀ xs pb H1 g s5, R xs pb H1 → Gready X pins σ H1 P xs.length (ansAt pb xs) g s5 → Q' (.ref g) s5) :
    wpAny (model X.prog X.w) X.A (eval (.GeneratorExp elt [⟨.Name x px, iter, [], 0⟩] scope gpos) X.env) Q' X.xe s := by
  refine wpAny_GeneratorExp_walksQD hr.hd S.co (closure_ok S.free) S.cell S.dot S.loc S.kind (by have := hr.dp; omega) ?_ hs
  refine thn (hi.run pins s σ H _ I h) fun xv s1 ⟨v, H1, I1, r1, q1⟩ => ?_
  obtain ⟨a, xs, pb, rfl, hsq, hC, ⟨ps, hP, ht⟩, q1⟩ := q1
  obtain rfl : xv = Value.ref a := r1
  obtain ⟨its, rv, ⟨⟨ocl, odc, odt, osl⟩, hoa, hoc, on, hod⟩, hz⟩ := I1.tuple hsq
  simp only at hoc hod
  subst hoc hod
  have hT : s1.heap.IsTuple a its.toArray := ⟨_, hoa, rfl, on, rfl⟩
  have hlta : a < s1.heap.objs.size := Heap.lt_size hoa
  refine wpAny_pyIter_tuple hT ?_
  generalize ho : ({ cls := .type "tuple_iterator", data := .fields #[.ref a, .int 0 0] } : Obj) = o
  have hPs : s1.heap.get? P = some { cls := .none, data := .fields ps } := I1.hok P _ hP
  have hPlt : P < s1.heap.objs.size := Heap.lt_size hPs
  have hP2 : (s1.heap.push o).get? P = some { cls := .none, data := .fields ps } := Heap.get?_push_of_some _ hPs
  have bas : ∀ b u, X.base.get? b = some u → (s1.heap.push o).get? b = some u := fun b u e => Heap.get?_push_of_some _ (I1.bk b u e)
  have cd : PySem.W.CodeHd (s1.heap.push o) c P := TB.code.keeps bas
  have lim2 : (s1.heap.push o).NoLimit := I1.nolimit.push o
  have hsP : cStatics ≠ P := fun e => by
    obtain ⟨_, ⟨o', es, ep, ho', hd, _⟩, _⟩ := I1.nolimit
    rw [e, hPs] at ho'
    cases ho'
    cases hd
  have hsl : cStatics < s1.heap.objs.size := let ⟨_, hns, _⟩ := I1.nolimit; hns.lt
  have sz2 : (s1.heap.push o).objs.size = s1.heap.objs.size + 1 := Heap.size_push ..
  -- behind the code object: h3 is the heap, ps' the table
  have cont : ∀ (code : Value) (h3 : Heap) (tk : Nat) (ps' : Array Value), Heap.ExtBut P (s1.heap.push o) h3 → (s1.heap.push o).objs.size ≤ h3.objs.size → h3.get? P = some { cls := .none, data := .fields ps' } → (∃ more, ps' = ps ++ more) → TriplesOk ps'.toList →
      wpAny (model X.prog X.w) X.A (builtinsFor X.env.globals X.env.builtins) (fun bi s₄ =>
        ∃ Ia fp wr n₀ Pf St₀ pz F, Value.ref s1.heap.objs.size = .ref Ia ∧ (∀ A' : Around, A'.handled = none → Walks X.prog X.w A' Ia fp wr n₀ Pf St₀) ∧ St₀ 0 s₄.heap ∧ (∀ b ∈ fp, b < s₄.heap.objs.size) ∧ s₄.heap.NoLimit ∧ cStatics ∉ wr ∧
          (∀ href : Heap, (∀ b o, s₄.heap.get? b = some o → href.get? b = some o) →
            QuietGenD X.prog X.w (genEnv scope (cloFrom X.env.cells scope.names []) s₄.heap.objs.size code bi X.env) x [] elt (List.range s₄.heap.objs.size) wr Pf pz F href (X.A.depth + 1) (X.A.units + 8)) ∧
          (∀ a h₅ tk gs, gs.bare = true → s₄.heap.objs.size < a → h₅.objs.size = a + 1 → (∀ b o, s₄.heap.get? b = some o → h₅.get? b = some o) →
            WalksS X.prog X.w X.A.in4 a (a :: s₄.heap.objs.size :: List.range s₄.heap.objs.size) (s₄.heap.objs.size :: wr) (GenOnlyQ s₄.gens.size) (passing pz n₀ 0).length
              (fun j y => ∃ i, (passing pz n₀ 0)[j]? = some i ∧ F i y) (GenAt X.prog X.w X.A.in4 a s₄.gens.size s₄.heap.objs.size (List.range s₄.heap.objs.size) wr pz n₀ F) →
            GenAt X.prog X.w X.A.in4 a s₄.gens.size s₄.heap.objs.size (List.range s₄.heap.objs.size) wr pz n₀ F 0 { s₄ with gens := s₄.gens.push gs, toks := tk, heap := h₅ } →
            Q' (.ref a) { s₄ with gens := s₄.gens.push gs, toks := tk, heap := h₅ })) X.xe { s1 with heap := h3, toks := tk } := by
    intro code h3 tk ps' hx hsz hP3 hmore ht3
    obtain ⟨bm, ob, e1, e2, e3, e4, e5, e6, e7, e8⟩ := TB.bm
    have keep3 : ∀ b u, b ≠ P → s1.heap.get? b = some u → h3.get? b = some u := fun b u hb e => hx b u hb (Heap.get?_push_of_some _ e)
    refine wpAny_builtinsFor (m := X.mg) (by rw [I1.ok.glob]; exact ((I1.mod.glob.keeps I1.bk).push o).extBut hx TB.gP) e1 e2 (keep3 _ _ e4 (I1.bk _ _ e5)) e6 e7 e8 ?_
    have hPa : a ≠ P := fun z => by
      rw [z, hPs] at hoa
      cases hoa
    refine ⟨s1.heap.objs.size, [s1.heap.objs.size, a], [s1.heap.objs.size], its.toArray.size, _, _, (fun _ => true), (fun i y => ∃ v u, xs[i]? = some v ∧ its.toArray[i]? = some u ∧ y = .bool (pb v)), rfl, fun A' hA => Walks.tuple hA _ a (Nat.ne_of_lt hlta) its.toArray, ?_, ?_, lim2.extBut hx hsP, ?_, ?_, ?_⟩
    · have hit : h3.get? s1.heap.objs.size = some o := hx _ _ (Ne.symm (Nat.ne_of_lt hPlt)) (Heap.get?_push_size _ (by rw [← ho]; rfl))
      refine ⟨⟨_, hit, ?_, ?_⟩, ⟨_, keep3 _ _ hPa hoa, rfl, on, rfl⟩⟩
      · rw [← ho]
      · rw [← ho]
        rfl
    · intro b hb
      show b < h3.objs.size
      rcases List.mem_cons.mp hb with z | z
      · rw [z]
        show (s1.heap.objs.size : Nat) < h3.objs.size
        omega
      · rcases List.mem_cons.mp z with z | z
        · rw [z]
          exact Nat.lt_trans hlta (by show (s1.heap.objs.size : Nat) < h3.objs.size; omega)
        · cases z
    · intro z
      rcases List.mem_cons.mp z with z | z
      · exact Nat.ne_of_lt hsl z
      · cases z
    · intro href hhref
      refine ⟨fun A' E' i v s₂ m₂ hA hD hU hPv hn hm hk => ?_, fun A' E' i v s₂ m₂ hA hD hU hPv hp hn hm hk => ?_⟩
      · simp only [List.forIn_nil]
        exact wpAny_pure ⟨rfl, GxR.keeps_refl _⟩
      · have hPv' : its[i]? = some v := by simpa using hPv
        have hil : i < xs.length := by
          rw [rv.length]
          exact (List.getElem?_eq_some_iff.mp hPv').1
        have hxi : xs[i]? = some xs[i] := List.getElem?_eq_getElem hil
        obtain ⟨u', hu', ru⟩ := rv.get hxi
        rw [hPv'] at hu'
        cases hu'
        have kold : ∀ b o, b ≠ P → s1.heap.get? b = some o → s₂.heap.get? b = some o := fun b o' hb e => by
          refine hk b (List.mem_range.mpr (Nat.lt_of_lt_of_le (Heap.lt_size e) (Nat.le_trans (by omega) hsz))) (fun z => ?_) o' (hhref b o' (keep3 b o' hb e))
          rcases List.mem_cons.mp z with z | z
          · exact Nat.lt_irrefl _ (z ▸ Heap.lt_size e)
          · cases z
        refine wpAny_mono (hel pins σ H1 s1 I1 xs pb hC _ A' E' xs[i] v s₂ m₂ rfl I1.ok.glob rfl hA hD hU (List.mem_of_getElem? hxi) ru hn hm kold fun b o' e => kold b o' (fun z => ?_) (I1.bk b o' e)) (fun y s3 r => ⟨⟨_, _, hxi, hPv, r.1⟩, r.2⟩) fun _ _ e => e
        have nb := (I1.bs b o' e).2
        rw [z, hP] at nb
        cases nb
    · intro g h5 tk5 gs hgb hag hsz5 hk5 W5 hat
      have hlen : its.toArray.size = xs.length := by rw [List.size_toArray]; exact rv.length.symm
      simp only [GxR.passing_true, List.length_range] at W5
      rw [hlen] at W5 hat
      refine hQ xs pb H1 g _ q1 ⟨_, _, _, _, _, W5.in4_1, hat, ?_, fun s' hm => ?_⟩
      · intro j y sj Qj Ej hy hQj
        obtain ⟨i, hij, v, u, hv, hu, rfl⟩ := hy
        obtain ⟨hj, ej⟩ := List.getElem?_eq_some_iff.mp hij
        rw [List.getElem_range] at ej
        subst ej
        have hQ2 : Qj (ansAt pb xs j) sj := hQj
        rw [ansAt_some hv] at hQ2
        exact wpAny_truthy_bool hQ2
      · obtain ⟨more, em⟩ := hmore
        have nwr : ∀ b u, s1.heap.get? b = some u → b ∉ h3.objs.size :: [s1.heap.objs.size] := fun b u e hb => by
          have hl := Heap.lt_size e
          rcases List.mem_cons.mp hb with z | z
          · rw [z] at hl
            have lt : h3.objs.size < s1.heap.objs.size := hl
            omega
          · rcases List.mem_cons.mp z with z | z
            · exact Nat.lt_irrefl _ (z ▸ hl)
            · cases z
        have J := inv_tab (more := more) (h' := s'.heap) (g' := s'.gens) (d' := s'.drawn) (t' := s'.toks) I1 hP (fun b u hb e => hm.heap b u (nwr b u e) (hk5 b u (keep3 b u hb e)))
          (by rw [← em]; exact hm.heap P _ (nwr P _ hPs) (hk5 P _ hP3)) (AllBare.movedS (I1.bare.push hgb) hm)
        rw [sh_eta s1 s' hm.os] at J
        exact ⟨upd H1 P (.tbl (ps ++ more)), ⟨⟨ps ++ more, upd_same, em ▸ ht3⟩, fun b hb => upd_ne hb⟩, J⟩
  refine ⟨lim2, ?_⟩
  cases hf : codeAmong gpos ps.toList with
  | none =>
    refine wpAny_genexprCodeX hcode (cd.code hP2 ht) (cd.tab hP2) hf fun c' h' tk hx hge hlt hco' _ htab' _ => ?_
    obtain ⟨o1, vs, f1, tf, fl, tg, inF, tx, tt, op, _, _, _, _, _, _, _, _, _, htr, _⟩ := hco'
    exact cont _ h' tk _ hx (Nat.le_trans hge (Nat.le_of_lt hlt)) htab'.2 ⟨_, rfl⟩ htr
  | some cv =>
    refine wpAny_genexprCode_hit hcode (cd.code hP2 ht) hf ?_
    exact cont cv (s1.heap.push o) s1.toks ps (Heap.ExtBut.refl _ _) (Nat.le_refl _) hP2 ⟨#[], by simp⟩ ht
/-- all(test for x in e), any(..), e a tuple; behind it the def's table may have grown -/
def tAllT (K : PySem.W.Frag) (P : Addr) (C : L2.St → Hp → List V → (V → Bool) → Prop) (te : TE) : TE := fun σ H Q => te σ H fun v H1 => ∃ (a : Addr) (xs : List V) (pb : V → Bool), v = .ref a ∧ SqT K H1 a xs ∧ C σ H1 xs pb ∧ TabG H1 P ∧ ∀ H2, Tabbed P H1 H2 → Q (.bl (xs.all pb)) H2
def tAnyT (K : PySem.W.Frag) (P : Addr) (C : L2.St → Hp → List V → (V → Bool) → Prop) (te : TE) : TE := fun σ H Q => te σ H fun v H1 => ∃ (a : Addr) (xs : List V) (pb : V → Bool), v = .ref a ∧ SqT K H1 a xs ∧ C σ H1 xs pb ∧ TabG H1 P ∧ ∀ H2, Tabbed P H1 H2 → Q (.bl (xs.any pb)) H2
theorem pe_allT {c P : Addr} {elt iter : Expr} {x : Str} {px p pos gpos : Pos} {scope : Scope} {te : TE} {k : Nat} {C : L2.St → Hp → List V → (V → Bool) → Prop}
    (hr : Room k X.A) (hm : X.mg "all" = none) (TB : TabB X.base X.mg c P) (hcode : X.env.code = .ref c) (S : GenS X.env scope x) (hi : PE X iter te) (hel : EltOk X scope x elt P C) (hg : Gl X "all" := by rfl) (hb : bootBuiltins "all" = some (.builtin "all") := by decide +kernel)
    (hs : ∀ v, genFold iter X.env v = pure v := by intro _; rfl)
    (he : starEach [.GeneratorExp elt [⟨.Name x px, iter, [], 0⟩] scope gpos] X.env = (false, eval (.GeneratorExp elt [⟨.Name x px, iter, [], 0⟩] scope gpos) X.env) :: starEach [] X.env := by rfl) :
    PE X (.Call (.Name "all" p) [.GeneratorExp elt [⟨.Name x px, iter, [], 0⟩] scope gpos] [] pos) (tAllT X.K P C te) := by
  refine ⟨fun pins s σ H Q I h => wpAny_Call_Name_kw (ld_blt I hg hm hb (PyProof.Rows.callWith_builtin1 ?_ he (by rfl)))⟩
  rw [he]
  refine Calls.spliced_cons (gen_tuple (R := fun xs pb H1 => ∀ H2, Tabbed P H1 H2 → Q (.bl (xs.all pb)) H2) hr TB hcode S hi hel hs I h fun xs pb H1 g s5 hR ⟨fp, wr, G, F, Sg, W, hst, htr, hI⟩ => Calls.spliced_nil ?_)
  refine call_all_walkS (W.self 0 _ _ _ hst ⟨g, fp, wr, G, _, F, Sg, _, rfl, W, hst, htr, fun s' hmv => ?_⟩)
  obtain ⟨H2, hT, J⟩ := hI s' hmv
  refine ⟨.bl _, H2, J, rfl, ?_⟩
  rw [all_ansAt]
  exact hR H2 hT
theorem pe_anyT {c P : Addr} {elt iter : Expr} {x : Str} {px p pos gpos : Pos} {scope : Scope} {te : TE} {k : Nat} {C : L2.St → Hp → List V → (V → Bool) → Prop}
    (hr : Room k X.A) (hm : X.mg "any" = none) (TB : TabB X.base X.mg c P) (hcode : X.env.code = .ref c) (S : GenS X.env scope x) (hi : PE X iter te) (hel : EltOk X scope x elt P C) (hg : Gl X "any" := by rfl) (hb : bootBuiltins "any" = some (.builtin "any") := by decide +kernel)
    (hs : ∀ v, genFold iter X.env v = pure v := by intro _; rfl)
    (he : starEach [.GeneratorExp elt [⟨.Name x px, iter, [], 0⟩] scope gpos] X.env = (false, eval (.GeneratorExp elt [⟨.Name x px, iter, [], 0⟩] scope gpos) X.env) :: starEach [] X.env := by rfl) :
    PE X (.Call (.Name "any" p) [.GeneratorExp elt [⟨.Name x px, iter, [], 0⟩] scope gpos] [] pos) (tAnyT X.K P C te) := by
  refine ⟨fun pins s σ H Q I h => wpAny_Call_Name_kw (ld_blt I hg hm hb (PyProof.Rows.callWith_builtin1 ?_ he (by rfl)))⟩
  rw [he]
  refine Calls.spliced_cons (gen_tuple (R := fun xs pb H1 => ∀ H2, Tabbed P H1 H2 → Q (.bl (xs.any pb)) H2) hr TB hcode S hi hel hs I h fun xs pb H1 g s5 hR ⟨fp, wr, G, F, Sg, W, hst, htr, hI⟩ => Calls.spliced_nil ?_)
  refine call_any_walkS (W.self 0 _ _ _ hst ⟨g, fp, wr, G, _, F, Sg, _, rfl, W, hst, htr, fun s' hmv => ?_⟩)
  obtain ⟨H2, hT, J⟩ := hI s' hmv
  refine ⟨.bl _, H2, J, rfl, ?_⟩
  rw [any_ansAt]
  exact hR H2 hT
end
end Act
namespace Act
open PySem PySem.Spec PyProof.Rows L2
/-! ### quiet expressions: no object that stood is changed (what a generator's test must keep to) -/
theorem _root_.PySem.Keeps.rfl' (s : Shared) : Keeps s s := GxR.keeps_refl s
theorem _root_.PySem.Keeps.tok (s : Shared) (t : Nat) : Keeps s { s with toks := t } := GxR.keeps_tok s t
theorem _root_.PySem.Keeps.trans' {a b c : Shared} (h : Keeps a b) (k : Keeps b c) : Keeps a c := by
  obtain ⟨h1, t1, rfl, k1⟩ := h
  obtain ⟨h2, t2, rfl, k2⟩ := k
  exact ⟨h2, t2, rfl, fun x o e => k2 x o (k1 x o e)⟩
theorem _root_.PySem.Keeps.keep {a b : Shared} (h : Keeps a b) : ∀ x o, a.heap.get? x = some o → b.heap.get? x = some o := by
  obtain ⟨h1, t1, rfl, k1⟩ := h
  exact k1
/-- what an expression reads: the module's names, this frame's -/
structure Qf (env : Env) : Prop where
  kind : env.scope.kind = .function
  glob : env.globals = mainGlobals
section
variable {P : Program} {w : World} {K : PySem.W.Frag} {mg : Str → Option Value} {base : Heap}
def Qe (P : Program) (w : World) (base : Heap) (env : Env) (m : Str → Option Value) (D : Nat) (e : Expr) (v : V) : Prop :=
  ∀ (A : Around) (E : Value → Shared → Prop) (s : Shared), A.handled = none → A.depth ≤ D → (∀ b o, base.get? b = some o → s.heap.get? b = some o) → s.heap.Ns env.locals m →
    wpAny (model P w) A (eval e env) (fun u s' => RelV v u ∧ Keeps s s') E s
/-- a def that is called with these arguments gives that value, quietly -/
def Qc (P : Program) (w : World) (base : Heap) (n : Nat) (f : Addr) (vs : List V) (r : V) : Prop :=
  ∀ (A : Around) (s : Shared) (us : List Value), A.handled = none → A.depth + n < recursionLimit → (∀ b o, base.get? b = some o → s.heap.get? b = some o) → Vals vs us →
    codeAny (model P w) A (.call (.ref f) ⟨us, []⟩) (fun res s' => ∃ u, res = .ok (.ret u) ∧ RelV r u ∧ Keeps s s') s
variable {env : Env} {m : Str → Option Value} {D : Nat}
theorem qe_loc {x : Str} {pos : Pos} {v : V} {u : Value} (q : Qf env) (hx : env.kindOf x = some .local) (hm : m x = some u) (r : RelV v u) (hd : (x == ("__debug__" : Str)) = false := by decide) : Qe P w base env m D (.Name x pos) v :=
  fun A E s _ _ _ hn => wpAny_Name (wpAny_loadName_local q.kind hx hn hm ⟨r, Keeps.rfl' s⟩) hd
theorem qe_glob {x : Str} {pos : Pos} {v : V} {u : Value} (M : L2.Mod K mg base) (q : Qf env) (hx : env.kindOf x = some .globalImplicit) (hm : mg x = some u) (r : RelV v u) (hd : (x == ("__debug__" : Str)) = false := by decide) : Qe P w base env m D (.Name x pos) v :=
  fun A E s _ _ hb _ => Calls.Name_function_global q.kind hx (Calls.loadGlobal_global (by rw [q.glob]; exact M.glob.keeps hb) hm ⟨r, Keeps.rfl' s⟩) hd
theorem qe_int {i : Int} {j pos} : Qe P w base env m D (.Constant (.int i) j pos) (.int i) := fun A E s _ _ _ _ => wpAny_Constant_int ⟨⟨_, rfl⟩, Keeps.tok s _⟩
theorem qe_neg {e : Expr} {i : Int} {pos : Pos} (h : Qe P w base env m D e (.int i)) : Qe P w base env m D (.UnaryOp .USub e pos) (.int (-i)) :=
  fun A E s hA hD hb hn => UnaryOp_ (thn (h A E s hA hD hb hn) fun u s1 ⟨r, k⟩ => by
    obtain ⟨t, rfl⟩ := r
    exact neg_int ⟨⟨_, rfl⟩, k.trans' (Keeps.tok s1 _)⟩)
theorem qe_le2 {a b c : Expr} {i j l : Int} {pos : Pos} (ha : Qe P w base env m D a (.int i)) (hb : Qe P w base env m D b (.int j)) (hc : Qe P w base env m D c (.int l)) (hm : lastMarks [CmpOp.LtE, CmpOp.LtE] [b, c] = false := by with_unfolding_all rfl) :
    Qe P w base env m D (.Compare a [.LtE, .LtE] [b, c] pos) (.bl (decide (i ≤ j ∧ j ≤ l))) := fun A E s hA hD hk hn => by
  refine Compare_chain (thn (ha A E s hA hD hk hn) fun u s1 ⟨ru, k1⟩ => chain_link (thn (hb A E s1 hA hD (fun x o e => k1.keep x o (hk x o e)) (hn.keeps k1.keep)) fun v s2 ⟨rv, k2⟩ => ?_)) hm
  obtain ⟨t1, rfl⟩ := ru
  obtain ⟨t2, rfl⟩ := rv
  refine le_int (wpAny_truthy_bool ?_)
  have k12 := k1.trans' k2
  by_cases h : i ≤ j
  · rw [decide_eq_true h]
    refine ite_tt (chain_last (thn (hc A E s2 hA hD (fun x o e => k12.keep x o (hk x o e)) (hn.keeps k12.keep)) fun z s3 ⟨rz, k3⟩ => ?_))
    obtain ⟨t3, rfl⟩ := rz
    refine le_int ⟨?_, k12.trans' k3⟩
    show Value.bool _ = Value.bool _
    congr 1
    simp [h]
  · rw [decide_eq_false h]
    refine ite_ff ⟨?_, k12⟩
    show Value.bool _ = Value.bool _
    congr 1
    simp [h]
theorem qe_lt {a b : Expr} {i j : Int} {pos : Pos} (ha : Qe P w base env m D a (.int i)) (hb : Qe P w base env m D b (.int j)) (hm : behindInMarks .Lt b = false := by first | exact nobehind _ (by decide) (by decide) | rfl) :
    Qe P w base env m D (.Compare a [.Lt] [b] pos) (.bl (decide (i < j))) := fun A E s hA hD hk hn =>
  wpAny_Compare1 (thn (ha A E s hA hD hk hn) fun u s1 ⟨ru, k1⟩ => thn (hb A E s1 hA hD (fun x o e => k1.keep x o (hk x o e)) (hn.keeps k1.keep)) fun v s2 ⟨rv, k2⟩ => by
    obtain ⟨t1, rfl⟩ := ru
    obtain ⟨t2, rfl⟩ := rv
    exact lt_int ⟨rfl, k1.trans' k2⟩) hm
theorem qe_and {a b : Expr} {rest : List Expr} {x y : Bool} {pos : Pos} (ha : Qe P w base env m D a (.bl x)) (hb : x = true → Qe P w base env m D (.BoolOp .And (b :: rest) pos) (.bl y)) : Qe P w base env m D (.BoolOp .And (a :: b :: rest) pos) (.bl (x && y)) :=
  fun A E s hA hD hk hn => BoolOp_and (thn (ha A E s hA hD hk hn) fun u s1 ⟨ru, k1⟩ => by
    cases (show u = Value.bool x from ru)
    refine wpAny_truthy_bool ?_
    cases x with
    | true => exact thn (hb rfl A E s1 hA hD (fun x o e => k1.keep x o (hk x o e)) (hn.keeps k1.keep)) fun v s2 ⟨rv, k2⟩ => ⟨rv, k1.trans' k2⟩
    | false => exact ⟨rfl, k1⟩)
theorem qe_one {a : Expr} {op} {v : V} {pos : Pos} (ha : Qe P w base env m D a v) : Qe P w base env m D (.BoolOp op [a] pos) v := fun A E s hA hD hk hn => BoolOp_one (ha A E s hA hD hk hn)
theorem qe_not {a : Expr} {x : Bool} {pos : Pos} (ha : Qe P w base env m D a (.bl x)) : Qe P w base env m D (.UnaryOp .Not a pos) (.bl (!x)) :=
  fun A E s hA hD hk hn => UnaryOp_ (thn (ha A E s hA hD hk hn) fun u s1 ⟨ru, k1⟩ => by
    cases (show u = Value.bool x from ru)
    exact not_of (wpAny_truthy_bool ⟨rfl, k1⟩))
/-- the values of flat kinds, and their built-in class -/
def kindV : V → Option String
  | .non => some "NoneType"
  | .bl _ => some "bool"
  | .int _ => some "int"
  | .str _ => some "str"
  | _ => none
theorem qe_isi {e : Expr} {v : V} {T k : String} {r : Bool} {p p2 pos : Pos} (M : L2.Mod K mg base) (q : Qf env) (hbl : env.builtins = builtinsNs) (he : Qe P w base env m D e v) (hk : kindV v = some k) (hr : kitB k T = some r)
    (z1 : mg "isinstance" = none) (z2 : mg (Str.ofString T) = none) (g1 : env.kindOf "isinstance" = some .globalImplicit) (g2 : env.kindOf (Str.ofString T) = some .globalImplicit)
    (b2 : bootBuiltins (Str.ofString T) = some (.type T)) (nn : Str.ofString T ≠ "__name__") (nd : (Str.ofString T == ("__debug__" : Str)) = false)
    (st1 : starEach [e, .Name (Str.ofString T) p2] env = (false, eval e env) :: starEach [.Name (Str.ofString T) p2] env) (st2 : starEach [.Name (Str.ofString T) p2] env = (false, eval (.Name (Str.ofString T) p2) env) :: starEach [] env)
    (pl : (backTo pos (starEach [.Name (Str.ofString T) p2] env)).any (·.1) = false) :
    Qe P w base env m D (.Call (.Name "isinstance" p) [e, .Name (Str.ofString T) p2] [] pos) (.bl r) := fun A E s hA hD hkp hn => by
  obtain ⟨mb, h1, h2⟩ := M.blt
  have ldb : ∀ (x : Str) (u : Value) (pos : Pos) (s' : Shared) (Q : Value → Shared → Prop) (E : Value → Shared → Prop), mg x = none → env.kindOf x = some .globalImplicit → bootBuiltins x = some u → x ≠ "__name__" → (x == ("__debug__" : Str)) = false → (∀ b o, base.get? b = some o → s'.heap.get? b = some o) → Q u s' →
      wpAny (model P w) A (eval (.Name x pos) env) Q E s' := fun x u pos s' Q E zx gx bx nx dx kx hq =>
    Calls.Name_function_global q.kind gx (Calls.loadGlobal_builtin (by rw [q.glob]; exact M.glob.keeps kx) zx (by rw [hbl]; exact h1.keeps kx) ((h2 x nx).trans bx) hq) dx
  refine wpAny_Call_Name_kw (ldb _ _ _ s _ _ z1 g1 (by decide +kernel : bootBuiltins "isinstance" = some (.builtin "isinstance")) (by decide) (by decide) hkp ?_)
  refine PyProof.Rows.callWith_builtin1 ?_ st1 pl
  rw [st1]
  refine Calls.spliced_cons (thn (he A E s hA hD hkp hn) fun u s1 ⟨ru, k1⟩ => ?_)
  rw [st2]
  refine Calls.spliced_cons (ldb _ _ _ s1 _ _ z2 g2 b2 nn nd (fun x o e => k1.keep x o (hkp x o e)) (Calls.spliced_nil ?_))
  have KI : K.In s1.heap := M.kin.keeps fun x o e => k1.keep x o (hkp x o e)
  have fin : ∀ tk, RelV (.bl r) (Value.bool r) ∧ Keeps s { s1 with toks := tk } := fun tk => ⟨rfl, k1.trans' (Keeps.tok s1 tk)⟩
  cases v with
  | non => cases hk; cases (show u = Value.none from ru); exact PySem.W.kia_one PySem.W.kitx_none KI trivial (kit_ty hr) (by simp) fun tk => fin tk
  | bl b => cases hk; cases (show u = Value.bool b from ru); exact PySem.W.kia_one PySem.W.kitx_bool KI trivial (kit_ty hr) (by simp) fun tk => fin tk
  | int i => cases hk; obtain ⟨t, rfl⟩ := ru; exact PySem.W.kia_one PySem.W.kitx_int KI trivial (kit_ty hr) (by simp) fun tk => fin tk
  | str x => cases hk; obtain ⟨t, rfl⟩ := ru; exact PySem.W.kia_one PySem.W.kitx_str KI trivial (kit_ty hr) (by simp) fun tk => fin tk
  | _ => cases hk
/-- arguments, one by one -/
def Qa (P : Program) (w : World) (base : Heap) (env : Env) (m : Str → Option Value) (D : Nat) (es : List Expr) (vs : List V) : Prop :=
  ∀ (pos : Pos) (A : Around) (E : Value → Shared → Prop) (s : Shared), A.handled = none → A.depth ≤ D → (∀ b o, base.get? b = some o → s.heap.get? b = some o) → s.heap.Ns env.locals m →
    wpAny (model P w) A (spliced (backTo pos (starEach es env))) (fun us s' => Vals vs us ∧ Keeps s s') E s
theorem qa_nil : Qa P w base env m D [] [] := fun pos A E s _ _ _ _ => Calls.spliced_nil ⟨.nil, Keeps.rfl' s⟩
theorem qa_cons {e : Expr} {es : List Expr} {v : V} {vs : List V} (h : Qe P w base env m D e v) (t : Qa P w base env m D es vs) (hs : starEach (e :: es) env = (false, eval e env) :: starEach es env := by rfl) : Qa P w base env m D (e :: es) (v :: vs) :=
  fun pos A E s hA hD hk hn => by
    rw [hs]
    exact Calls.spliced_cons (thn (h A E s hA hD hk hn) fun u s1 ⟨ru, k1⟩ => thn (t pos A E s1 hA hD (fun x o e => k1.keep x o (hk x o e)) (hn.keeps k1.keep)) fun us s2 ⟨rus, k2⟩ => ⟨.cons ru rus, k1.trans' k2⟩)
theorem qe_call {x : Str} {f : Addr} {e : Expr} {es : List Expr} {vs : List V} {r : V} {n : Nat} {p pos : Pos} (M : L2.Mod K mg base) (q : Qf env) (c : Qc P w base n f vs r) (hD : D + n < recursionLimit) (kp : PySem.W.keepIn K (.ref f) = true) (hm : mg x = some (.ref f)) (ha : Qa P w base env m D (e :: es) vs)
    (hx : env.kindOf x = some .globalImplicit := by rfl) (hd : (x == ("__debug__" : Str)) = false := by decide) (he : starEach (e :: es) env = (false, eval e env) :: starEach es env := by rfl) (hpl : (backTo pos (starEach es env)).any (·.1) = false := by rfl) :
    Qe P w base env m D (.Call (.Name x p) (e :: es) [] pos) r := fun A E s hA hDA hk hn => by
  refine wpAny_Call_Name_kw (Calls.Name_function_global q.kind hx (Calls.loadGlobal_global (by rw [q.glob]; exact M.glob.keeps hk) hm ?_) hd)
  refine PySem.W.callWith_K (h₀ := base) M.kin kp (thn (ha pos A E s hA hDA hk hn) fun us s1 ⟨rus, k1⟩ => ⟨M.kin.keeps fun x o e => k1.keep x o (hk x o e), ?_⟩) he hpl
  refine wpAny_call (codeAny_mono (c A s1 us hA (by omega) (fun x o e => k1.keep x o (hk x o e)) rus) fun res s2 ⟨u, e1, ru, k2⟩ => ?_)
  subst e1
  exact ⟨ru, k1.trans' k2⟩
/-- a def whose body is one return, quiet -/
theorem qc_ret {x : Str} {st : Stmt} {f : Addr} {fd : FuncData} {e : Expr} {rp : Pos} {ps : List Str} {vs : List V} {r : V} {n : Nat} (M : L2.Mod K mg base) (F : Fn K x st f fd) (hb : defBody st = [.Return (some e) rp]) (hbind : Binds K fd ps [])
    (hloc : ∀ us : List Value, us.length = ps.length → ((ps.zip us).all fun y => (defScope st).names.lookup y.1 == some .local || (defScope st).names.lookup y.1 == some .cell) = true) (hlen : vs.length = ps.length)
    (hco : (defScope st).isCoroutine = false) (hge : (defScope st).isGenerator = false) (hk : (defScope st).kind = .function)
    (body : ∀ (L : Addr) (cdv : Value) (us : List Value) (D : Nat), Vals vs us → D + n < recursionLimit → Qe P w base (envOfC x (defScope st) L f cdv) (bindL (envOfC x (defScope st) L f cdv).kindOf (ps.zip us) fun _ => none) D e r) : Qc P w base (n + 1) f vs r := by
  intro A s us hA hd hkp hv
  obtain ⟨oc, od, dV, kV, doc, pm, an, cdv, ct, osl, rfl, lk, hcd, _, _⟩ := F.ex
  have KI : K.In s.heap := M.kin.keeps hkp
  have hul : us.length = ps.length := hv.length.symm.trans hlen
  have bt := hbind s us KI (by rw [List.append_nil]; exact hul)
  rw [List.append_nil] at bt
  refine Att.call_fn KI (M.nolimit.keeps hkp) lk hcd (by omega) bt (hloc us hul) (fun s1 IC => ?_) hco hge hk
  have kp1 := IC.toInCall.keep
  obtain ⟨h1, t1, e1⟩ : ∃ h1 t1, s1 = { s with heap := h1, toks := t1 } := IC.toInCall.same
  have ks : Keeps s s1 := ⟨h1, t1, e1, fun b o z => by have := kp1 b o z; rw [e1] at this; exact this⟩
  rw [hb]
  refine wpAny_execs_cons (wpAny_Return_some (thn (body s.heap.objs.size cdv us A.depth.succ hv (by omega) (A.deeper (envOfC x (defScope st) s.heap.objs.size f cdv)) _ s1 hA (Nat.le_refl _) (fun b o z => ks.keep b o (hkp b o z)) IC.toInCall.ns) fun u s2 ⟨ru, k2⟩ => ?_))
  exact ⟨u, rfl, ru, ks.trans' k2⟩
/-- is_between(i, a, b), quiet, for integers -/
structure QBetween (P : Program) (w : World) (K : PySem.W.Frag) (mg : Str → Option Value) (base : Heap) : Prop where
  ex : ∃ f, mg "is_between" = some (.ref f) ∧ PySem.W.keepIn K (.ref f) = true ∧ (L2.Mod K mg base → ∀ i a b : Int, Qc P w base 2 f [.int i, .int a, .int b] (.bl (decide (a ≤ i ∧ i ≤ b))))
/-- is_integer(i), quiet -/
structure QInteger (P : Program) (w : World) (K : PySem.W.Frag) (mg : Str → Option Value) (base : Heap) : Prop where
  ex : ∃ f, mg "is_integer" = some (.ref f) ∧ PySem.W.keepIn K (.ref f) = true ∧ (L2.Mod K mg base → ∀ i : Int, Qc P w base 1 f [.int i] (.bl true))
end
/-- a generator's scope without captured names -/
def gsB (sc : Scope) (x : Str) : Bool := decide (sc.kind = .function) && (!sc.isCoroutine && ((sc.names.all fun y => decide (y.2 ≠ .cell) && decide (y.2 ≠ .free)) && (decide (sc.names.lookup (".0" : Str) = some NameKind.local) && decide (sc.names.lookup x = some .local))))
theorem gens_of {env : Env} {sc : Scope} {x : Str} (h : gsB sc x = true) : GxR.GenS env sc x := by
  obtain ⟨h1, h2⟩ := He.ba h
  obtain ⟨h3, h4⟩ := He.ba h2
  obtain ⟨h5, h6⟩ := He.ba h4
  obtain ⟨h7, h8⟩ := He.ba h6
  have hn := List.all_eq_true.mp h5
  refine ⟨of_decide_eq_true h1, by simpa using h3, fun y hy => of_decide_eq_true (He.ba (hn y hy)).1, of_decide_eq_true h7, of_decide_eq_true h8, fun y hy e => absurd e (of_decide_eq_true (He.ba (hn y hy)).2)⟩
/-- the tests of integers -/
def Cbet (a b : Int) : L2.St → Hp → List V → (V → Bool) → Prop := fun _ _ xs pb => ∃ ns : List Int, xs = ns.map V.int ∧ pb = fun v => match v with | .int i => decide (a ≤ i ∧ i ≤ b) | _ => false
theorem elt_between {X : Cx} {scope : Scope} {x : Str} {P : Addr} {k : Nat} {p px pos : Pos} {lo hi : Expr} {a b : Int} (hr : Room k X.A) (q : QBetween X.prog X.w X.K X.mg X.base) (hk : scope.kind = .function) (hx : scope.names.lookup x = some .local) (hb : scope.names.lookup ("is_between" : Str) = some NameKind.globalImplicit)
    (hlo : ∀ (cenv : Env) (m : Str → Option Value) (D : Nat), cenv.scope = scope → Qf cenv → L2.Mod X.K X.mg X.base → Qe X.prog X.w X.base cenv m D lo (.int a)) (hhi : ∀ (cenv : Env) (m : Str → Option Value) (D : Nat), cenv.scope = scope → Qf cenv → L2.Mod X.K X.mg X.base → Qe X.prog X.w X.base cenv m D hi (.int b))
    (st1 : ∀ cenv : Env, starEach [.Name x px, lo, hi] cenv = (false, eval (.Name x px) cenv) :: starEach [lo, hi] cenv := by intro _; rfl) (st2 : ∀ cenv : Env, starEach [lo, hi] cenv = (false, eval lo cenv) :: starEach [hi] cenv := by intro _; rfl) (st3 : ∀ cenv : Env, starEach [hi] cenv = (false, eval hi cenv) :: starEach [] cenv := by intro _; rfl)
    (pl : ∀ cenv : Env, (backTo pos (starEach [lo, hi] cenv)).any (·.1) = false := by intro _; rfl) (hd : (x == ("__debug__" : Str)) = false := by decide) :
    EltOk X scope x (.Call (.Name "is_between" p) [.Name x px, lo, hi] [] pos) P (Cbet a b) := by
  intro pins σ H1 s1 I xs pb hC cenv A' E' v u s2 m2 hsc hgl _ hA hD hU hv ru hn hm hkeep kb
  obtain ⟨ns, rfl, rfl⟩ := hC
  obtain ⟨i, _, rfl⟩ := List.mem_map.mp hv
  obtain ⟨f, hmf, kp, hq⟩ := q.ex
  have M := I.ok.mod
  have qf : Qf cenv := ⟨by rw [hsc]; exact hk, hgl⟩
  have hdp := hr.dp
  have z := qe_call (D := X.A.depth + 1) (m := m2) (x := "is_between") (p := p) (pos := pos) M qf (hq M i a b) (by omega) kp hmf (qa_cons (qe_loc qf (by show cenv.scope.names.lookup x = _; rw [hsc]; exact hx) hm ru hd) (qa_cons (hlo cenv m2 _ hsc qf M) (qa_cons (hhi cenv m2 _ hsc qf M) qa_nil (st3 cenv)) (st2 cenv)) (st1 cenv)) (by show cenv.scope.names.lookup _ = _; rw [hsc]; exact hb) (by decide) (st1 cenv) (pl cenv)
  refine wpAny_mono (z A' E' s2 hA hD kb hn) (fun y s3 r => ⟨r.1, r.2⟩) fun _ _ e => e
end Act
namespace Act
open PySem PySem.Spec PyProof.Rows L2
/-! ### what the top has left, looked up by names -/
def DD (x : Str) (st : Stmt) : He.DefD := ⟨(x, none), x, x, defArgs st, defBody st, defScope st, [], []⟩
def intsB : List Value → List Int → Bool
  | [], [] => true
  | .int i _ :: r, j :: js => decide (i = j) && intsB r js
  | _, _ => false
theorem intsB_ok : ∀ {us : List Value} {js : List Int}, intsB us js = true → Vals (js.map V.int) us
  | [], [], _ => .nil
  | [], _ :: _, h => by cases h
  | u :: r, j :: js, h => by
    cases u with
    | int i t =>
      obtain ⟨h1, h2⟩ := He.ba (show (decide (i = j) && intsB r js) = true from h)
      exact .cons ⟨t, by rw [of_decide_eq_true h1]⟩ (intsB_ok h2)
    | _ => cases h
  | u :: _, [], h => by cases u <;> cases h
/-- the module's name x holds a tuple of these integers -/
def tupB (K : PySem.W.Frag) (x : Str) (js : List Int) : Bool := He.eqO (PySem.W.nsIn K mainGlobals x) (some (some (.ref (He.ga K x)))) && (match K.lookup (He.ga K x) with
  | some ⟨.type c, _, .seq its _, _⟩ => decide (c = "tuple") && (decide (its.size ≤ 1000) && intsB its.toList js)
  | _ => false)
theorem tupB_ok {K : PySem.W.Frag} {h : Heap} {mg : Str → Option Value} (X : K.In h) (G : h.Ns mainGlobals mg) {x : Str} {js : List Int} (c : tupB K x js = true) : ∃ a, mg x = some (.ref a) ∧ ∀ H, ST K H a (js.map V.int) := by
  obtain ⟨h1, h2⟩ := He.ba c
  refine ⟨_, PySem.W.mg_of X G (He.eqO_ok h1), fun H => ?_⟩
  cases e : K.lookup (He.ga K x) with
  | none =>
    rw [e] at h2
    cases h2
  | some o =>
    obtain ⟨oc, od, dt, sl⟩ := o
    rw [e] at h2
    cases oc with
    | type c =>
      cases dt with
      | seq its m =>
        obtain ⟨h3, h4⟩ := He.ba (show (decide (c = "tuple") && (decide (its.size ≤ 1000) && intsB its.toList js)) = true from h2)
        obtain ⟨h5, h6⟩ := He.ba h4
        exact .inr ⟨_, its, m, e, by rw [of_decide_eq_true h3], rfl, Nat.le_of_lt (small1000 (of_decide_eq_true h5)), intsB_ok h6⟩
      | _ => cases h2
    | _ => cases dt <;> cases h2
/-- names of other modules' functions, tuples of integers -/
def exB (bl : List (Str × String)) (tp : List (Str × List Int)) (K : PySem.W.Frag) : Bool := (bl.all fun q => He.eqO (PySem.W.nsIn K mainGlobals q.1) (some (some (.builtin q.2)))) && tp.all fun q => tupB K q.1 q.2
section
variable {K : PySem.W.Frag} {h : Heap} {mg : Str → Option Value} {fa : List He.Fa} {fn : List He.DefD} {tf : List He.Defn} {bl : List (Str × String)} {tp : List (Str × List Int)} {w : World}
theorem blt_of (X : K.In h) (G : h.Ns mainGlobals mg) (c : exB bl tp K = true) {x : Str} {id : String} (m : (x, id) ∈ bl) : mg x = some (.builtin id) := by
  obtain ⟨h1, _⟩ := He.ba c
  exact PySem.W.mg_of X G (He.eqO_ok (List.all_eq_true.mp h1 _ m))
theorem tup_of (X : K.In h) (G : h.Ns mainGlobals mg) (c : exB bl tp K = true) {x : Str} {js : List Int} (m : (x, js) ∈ tp) : ∃ a, mg x = some (.ref a) ∧ ∀ H, ST K H a (js.map V.int) := by
  obtain ⟨_, h2⟩ := He.ba c
  exact tupB_ok X G (List.all_eq_true.mp h2 _ m)
theorem df_of {x : Str} {st : Stmt} {ps : List Str} (X : K.In h) (G : h.Ns mainGlobals mg) (c : He.SaysD fa fn K) (i j : Nat) (hi : fn[i]? = some (DD x st)) (hj : fa[j]? = some (.glo x))
    (hb : ∀ (kV doc pm : Value) (an : Option Addr) (cdv ct : Value) (us : List Value), us.length = ps.length → bindArgs (PySem.W.fnOf x x (defArgs st) (defBody st) (defScope st) .none kV doc pm an cdv ct) ⟨us, []⟩ = pure (ps.zip us)) : Df K mg x st ps := by
  obtain ⟨fd, F⟩ := c.def_ i hi
  exact ⟨_, fd, F, He.glo_ok X G (c.fact j hj), F.bindsN hb⟩
theorem dfG_of {x : Str} {st : Stmt} {ps : List Str} (X : K.In h) (G : h.Ns mainGlobals mg) (c : He.SaysD fa fn K) (i j : Nat) (hi : fn[i]? = some (DD x st)) (hj : fa[j]? = some (.glo x))
    (hb : ∀ (kV doc pm : Value) (an : Option Addr) (cdv ct : Value) (us : List Value), us.length = ps.length → bindArgs (PySem.W.fnOf x x (defArgs st) (defBody st) (defScope st) .none kV doc pm an cdv ct) ⟨us, []⟩ = pure (ps.zip us)) :
    DfG K mg x st ps (He.cT K (x, none)).1 := by
  obtain ⟨fd, F⟩ := c.def_ i hi
  refine ⟨He.fAd K (x, none), fd, F, ?_, He.glo_ok X G (c.fact j hj), F.bindsN hb⟩
  obtain ⟨oc, od, dV, kV, doc, pm, an, cdv, ct, osl, e, lk, hcd, _, _⟩ := F.ex
  obtain ⟨c0, hc0⟩ := He.codeIn_ref hcd
  have e1 : fd.code = .ref c0 := by rw [e]; exact hc0
  have e2 : He.codeOf K (x, none) = c0 := He.codeOf_eq lk e1
  show fd.code = .ref (He.codeOf K (x, none))
  rw [e2]
  exact e1
end
end Act
namespace Act
open PySem PySem.Spec PyProof.Rows L2
open scoped Rat
def topS (i : Nat) : Stmt := PySem.Challenge.pw_actuarium_k09_whole_loans.main.body.getD i (.Pass ⟨0, 0, 0, 0⟩)
section
variable {P : Program} {w : World} {K : PySem.W.Frag} {mg : Str → Option Value} {base : Heap} {k : Nat}
abbrev s_law_taken : Stmt := topS 29
abbrev N_law_taken : List Str := ["row", "many", "found", "cell"]
theorem sc_law_taken : FnScope N_law_taken ["row", "many"] (defScope s_law_taken) := ⟨rfl, rfl, rfl, by decide +kernel, rfl, by decide +kernel, by decide +kernel⟩
theorem has_law_taken {ns : Scr} (d : Df K mg "_law_taken" s_law_taken ["row", "many"]) (z_int : mg "int" = none) (z_len : mg "len" = none) : Has P w K mg base (k + 1) "_law_taken" ["row", "many"] (spTaken K ns) := by
  refine d.has sc_law_taken (fun vs H Q E h => ?_) (fun f cdv A outer s H vs Q E hr h => ?_)
  · obtain ⟨a, m, rfl, _⟩ := h
    rfl
  obtain ⟨sc, ns⟩ := ns
  obtain ⟨a, m, rfl, ⟨c, x, r, e, hS, hc, hx, hx2⟩, hm, hm2, q⟩ := h
  dsimp only at e hS
  refine ⟨_, (pss_cons (ps_if (pt_cmpR op_gt (pe_ix (r := rIxL K) ix_list (pv 0) pe_int (fun _ _ => rfl)) pe_int (nomark _)) (pss_cons (ps_set (i := 2) sc_law_taken.nd rfl (.inl rfl) (pe_op op_mod (pe_callTy call_int1 (by rfl) z_int (by decide +kernel) (pa_cons (pe_ix (r := rIxL K) ix_list (pv 0) pe_int (fun _ _ => rfl)) pa_nil)) (pv 1)))
      (pss_cons (ps_asg (pe_op op_fdivZ (pe_ix (r := rIxL K) ix_list (pv 0) pe_int (fun _ _ => rfl)) (pv 1)) (pg_sub (pv 0) pe_int set_list))
      (pss_one (ps_ret (pv 2))))) pss_nil)
      (pss_cons (ps_asg (pe_op op_add (pe_ix (r := rIxL K) ix_list (pv 0) pe_int (fun _ _ => rfl)) pe_int) (pg_sub (pv 0) pe_int set_list))
      (pss_cons (ps_if (pt_cmpR op_gt (pe_ix (r := rIxL K) ix_list (pv 0) pe_int (fun _ _ => rfl)) (pe_callB call_len_seq (by rfl) z_len PySem.boot_len (pa_cons (pe_ix (r := rIxL K) ix_list (pv 0) pe_int (fun _ _ => rfl)) pa_nil)) (nomark _)) (pss_cons (ps_asg (pe_op op_mod (pe_callTy call_int1 (by rfl) z_int (by decide +kernel) (pa_cons (pe_op op_add (pe_op op_mulW (pe_ix (r := rIxL K) ix_list (pv 0) pe_int (fun _ _ => rfl)) pe_int) pe_int) pa_nil)) pe_int) (pg_sub (pv 0) pe_int set_list))
      (pss_one (ps_ret (pe_op op_mod (pe_callTy call_int1 (by rfl) z_int (by decide +kernel) (pa_cons (pe_op op_fdivZ (pe_ix (r := rIxL K) ix_list (pv 0) pe_int (fun _ _ => rfl)) pe_int) pa_nil)) (pv 1))))) pss_nil)
      (pss_cons (ps_set (i := 3) sc_law_taken.nd rfl (.inl rfl) (pe_ix (r := rIxL K) ix_list (pe_ix (r := rIxL K) ix_list (pv 0) pe_int (fun _ _ => rfl)) (pe_op op_sub (pe_ix (r := rIxL K) ix_list (pv 0) pe_int (fun _ _ => rfl)) pe_int) (fun _ _ => rfl)))
      (pss_cons (ps_asg (pe_op op_mod (pe_callTy call_int1 (by rfl) z_int (by decide +kernel) (pa_cons (pe_op op_add (pe_op op_add (pe_op op_mulW (pe_ix (r := rIxL K) ix_list (pv 0) pe_int (fun _ _ => rfl)) pe_int) (pv 3)) pe_int) pa_nil)) pe_int) (pg_sub (pv 0) pe_int set_list))
      (pss_cons (ps_if (pt_cmpR op_ge (pv 3) (pe_op op_pow pe_int pe_int) (nomark _)) (pss_one (ps_asg (pe_op op_fdivZ (pv 3) (pv 1)) (pg_sub (pv 0) pe_int set_list))) pss_nil)
      (pss_one (ps_ret (pe_op op_mod (pe_callTy call_int1 (by rfl) z_int (by decide +kernel) (pa_cons (pv 3) pa_nil)) (pv 1)))))))))), ?_⟩
  have mz : m ≠ 0 := by omega
  have mlog : CDivZ 0 m := cdivz mz (n := 30) (by omega) (by omega)
  have out : ∀ (z : Int) (H' : Hp), (∃ c' x' r', H' = upd H a (.lst [.ref sc, .int c', .int x', .int r']) ∧ 0 ≤ c' ∧ 0 ≤ x' ∧ x' < 2147483647) → Q (.int (z % m)) H' := fun z H' ⟨c', x', r', eH, h1, h2, h3⟩ => by
    subst eH
    exact q _ _ (Int.emod_nonneg _ mz) (Int.emod_lt_of_pos _ hm) ⟨c', x', r', upd_same, seqL_but e hS, h1, h2, h3⟩ LeB.at
  refine ⟨_, rfl, a, _, 3, _, rfl, rfl, SqL.of e, rfl, _, _, rfl, rfl, _, rfl, ?_⟩
  refine ite2 (fun c0 => ?_) (fun c0 => ?_)
  · refine ⟨_, rfl, a, _, 3, _, rfl, rfl, SqL.of e, rfl, .inl ⟨_, rfl, _, rfl, _, _, rfl, rfl, hm, ?_⟩⟩
    refine ⟨_, rfl, a, _, 3, _, rfl, rfl, SqL.of e, rfl, _, rfl, _, _, rfl, rfl, mlog, _, rfl, a, _, 3, 3, rfl, rfl, e, rfl, ?_⟩
    exact ⟨_, rfl, out _ _ ⟨_, _, _, rfl, hc, hx, hx2⟩⟩
  · -- row[1] = row[1] + 1
    refine ⟨_, rfl, a, _, 1, _, rfl, rfl, SqL.of e, rfl, _, _, rfl, rfl, _, rfl, a, _, 1, 1, rfl, rfl, e, rfl, ?_⟩
    have hS1 : SqL K (upd H a (.lst [.ref sc, .int (c + 1), .int x, .int r])) sc (ns.map V.int) := seqL_but e hS
    have e1 : (upd H a (.lst [.ref sc, .int (c + 1), .int x, .int r])) a = some (.lst [.ref sc, .int (c + 1), .int x, .int r]) := upd_same
    -- if row[1] > len(row[0])
    refine ⟨_, rfl, a, _, 1, _, rfl, rfl, SqL.of e1, rfl, _, rfl, a, _, 0, _, rfl, rfl, SqL.of e1, rfl, sc, _, rfl, .inl hS1, _, _, rfl, rfl, _, rfl, ?_⟩
    have xm : ∀ z : Int, 0 ≤ z % 2147483647 ∧ z % 2147483647 < 2147483647 := fun z => by omega
    refine ite2 (fun c1 => ?_) (fun c1 => ?_)
    · refine ⟨_, rfl, a, _, 2, _, rfl, rfl, SqL.of e1, rfl, _, _, rfl, rfl, cmul (a := 31) (b := 16) (by omega) (by decide) (by decide), _, _, rfl, rfl, .inl ⟨_, rfl, _, _, rfl, rfl, (by show (0 : Int) < 2147483647; decide), _, rfl, a, _, 2, 2, rfl, rfl, e1, rfl, ?_⟩⟩
      rw [upd_upd]
      refine ⟨_, rfl, a, _, 2, _, rfl, rfl, SqL.of upd_same, rfl, _, _, rfl, rfl, cdivz (by decide) (n := 3) (by decide) (by decide), .inl ⟨_, rfl, _, rfl, _, _, rfl, rfl, hm, ?_⟩⟩
      exact out _ _ ⟨_, _, _, rfl, by omega, (xm _).1, (xm _).2⟩
    · -- cell = row[0][row[1] - 1]
      have hl : (c + 1) ≤ (ns.map V.int).length := by
        have := of_decide_eq_false (Bool.eq_false_iff.mpr c1)
        omega
      rw [List.length_map] at hl
      have hi : c.toNat < ns.length := by omega
      have g : atI (ns.map V.int) (c + 1 - 1) = some (.int ns[c.toNat]) := by
        have q0 : atI (ns.map V.int) ((c.toNat : Nat) : Int) = some (.int ns[c.toNat]) := atI_nat (by rw [List.getElem?_map, List.getElem?_eq_getElem hi] <;> rfl)
        rw [show (c + 1 - 1 : Int) = ((c.toNat : Nat) : Int) by omega]
        exact q0
      refine ⟨_, rfl, a, _, 0, _, rfl, rfl, SqL.of e1, rfl, _, rfl, a, _, 1, _, rfl, rfl, SqL.of e1, rfl, _, _, rfl, rfl, sc, _, _, _, rfl, rfl, hS1, g, ?_⟩
      generalize ns[c.toNat] = cell
      -- row[2] = ..
      refine ⟨_, rfl, a, _, 2, _, rfl, rfl, SqL.of e1, rfl, _, _, rfl, rfl, cmul (a := 31) (b := 16) (by omega) (by decide) (by decide), _, rfl, _, _, rfl, rfl, _, _, rfl, rfl, .inl ⟨_, rfl, _, _, rfl, rfl, (by show (0 : Int) < 2147483647; decide), _, rfl, a, _, 2, 2, rfl, rfl, e1, rfl, ?_⟩⟩
      rw [upd_upd]
      -- if cell >= 10 ** 18
      refine ⟨_, rfl, _, _, rfl, rfl, ⟨by decide, by decide, by decide⟩, _, _, rfl, rfl, _, rfl, ?_⟩
      refine ite2 (fun c2 => ?_) (fun c2 => ?_)
      · refine ⟨_, rfl, _, rfl, _, _, rfl, rfl, mlog, _, rfl, a, _, 3, 3, rfl, rfl, upd_same, rfl, ?_⟩
        rw [upd_upd]
        refine ⟨_, rfl, .inl ⟨_, rfl, _, rfl, _, _, rfl, rfl, hm, ?_⟩⟩
        exact out _ _ ⟨_, _, _, rfl, by omega, (xm _).1, (xm _).2⟩
      · refine ⟨_, rfl, .inl ⟨_, rfl, _, rfl, _, _, rfl, rfl, hm, ?_⟩⟩
        exact out _ _ ⟨_, _, _, rfl, by omega, (xm _).1, (xm _).2⟩
abbrev s_law_pick : Stmt := topS 30
abbrev N_law_pick : List Str := ["row", "things"]
theorem sc_law_pick : FnScope N_law_pick ["row", "things"] (defScope s_law_pick) := ⟨rfl, rfl, rfl, by decide +kernel, rfl, by decide +kernel, by decide +kernel⟩
theorem has_law_pick {ns : Scr} (d : Df K mg "_law_pick" s_law_pick ["row", "things"]) (h_law_taken : Has P w K mg base k "_law_taken" ["row", "many"] (spTaken K ns)) (z_len : mg "len" = none) : Has P w K mg base (k + 1) "_law_pick" ["row", "things"] (spPick K ns) := by
  refine d.has sc_law_pick (fun vs H Q E h => ?_) (fun f cdv A outer s H vs Q E hr h => ?_)
  · obtain ⟨a, l, xs, rfl, _⟩ := h
    rfl
  obtain ⟨a, l, xs, rfl, hR, hl, hne, hx, hz, q⟩ := h
  refine ⟨_, (pss_one (ps_ret (pe_ix (r := rIxL K) ix_list (pv 1) (pe_has h_law_taken hr (pa_cons (pv 0) (pa_cons (pe_callB call_len_seq (by rfl) z_len PySem.boot_len (pa_cons (pv 1) pa_nil)) pa_nil))) (fun _ _ => rfl)))), ?_⟩
  have hlen : 0 < xs.length := List.length_pos_iff.mpr hx
  refine ⟨_, rfl, _, rfl, _, rfl, l, _, rfl, .inl (SqL.of hl), ?_⟩
  refine ⟨a, _, rfl, hR, by omega, by omega, fun k H' h0 h1 hR' lb => ?_⟩
  have hi : k.toNat < xs.length := by omega
  refine ⟨l, xs, k, xs[k.toNat], rfl, rfl, SqL.of (lb.lst hne hl), at_of (j := k.toNat) (by omega) (List.getElem?_eq_getElem hi), ?_⟩
  exact q _ _ _ (List.getElem?_eq_getElem hi) hR' lb
abbrev s_law_rate : Stmt := topS 36
abbrev N_law_rate : List Str := ["row"]
theorem sc_law_rate : FnScope N_law_rate ["row"] (defScope s_law_rate) := ⟨rfl, rfl, rfl, by decide +kernel, rfl, by decide +kernel, by decide +kernel⟩
theorem has_law_rate {ns : Scr} (d : Df K mg "_law_rate" s_law_rate ["row"]) (h_law_pick : Has P w K mg base k "_law_pick" ["row", "things"] (spPick K ns)) : Has P w K mg base (k + 1) "_law_rate" ["row"] (spRate K ns) := by
  refine d.has sc_law_rate (fun vs H Q E h => ?_) (fun f cdv A outer s H vs Q E hr h => ?_)
  · obtain ⟨a, rfl, _⟩ := h
    rfl
  obtain ⟨a, rfl, hR, q⟩ := h
  refine ⟨_, (pss_one (ps_ret (pe_has h_law_pick hr (pa_cons (pv 0) (pa_cons (pe_lst (pa_cons (pe_tup (pa_cons pe_int (pa_cons pe_int pa_nil))) (pa_cons (pe_tup (pa_cons pe_int (pa_cons pe_int pa_nil))) (pa_cons (pe_tup (pa_cons pe_int (pa_cons pe_int pa_nil))) (pa_cons (pe_tup (pa_cons pe_int (pa_cons pe_int pa_nil))) (pa_cons (pe_tup (pa_cons pe_int (pa_cons pe_int pa_nil))) (pa_cons (pe_tup (pa_cons (pe_un un_neg pe_int) (pa_cons pe_int pa_nil))) (pa_cons (pe_tup (pa_cons (pe_un un_neg pe_int) (pa_cons pe_int pa_nil))) (pa_cons (pe_tup (pa_cons pe_int (pa_cons pe_int pa_nil))) (pa_cons (pe_tup (pa_cons pe_int (pa_cons pe_int pa_nil))) (pa_cons (pe_tup (pa_cons pe_int (pa_cons pe_int pa_nil))) pa_nil))))))))))) pa_nil))))), ?_⟩
  have two : (2 : Nat) ≤ sizeLine := by decide
  refine ⟨_, rfl, ?_⟩
  refine ⟨two, fun p0 n0 => ?_⟩
  refine ⟨two, fun p1 n1 => ?_⟩
  refine ⟨two, fun p2 n2 => ?_⟩
  refine ⟨two, fun p3 n3 => ?_⟩
  refine ⟨two, fun p4 n4 => ?_⟩
  refine ⟨_, rfl, two, fun p5 n5 => ?_⟩
  refine ⟨_, rfl, two, fun p6 n6 => ?_⟩
  refine ⟨two, fun p7 n7 => ?_⟩
  refine ⟨two, fun p8 n8 => ?_⟩
  refine ⟨two, fun p9 n9 => ?_⟩
  refine ⟨(by show 10 ≤ sizeLine; decide), fun o no => ?_⟩
  have l0 := Le.new (o := .tup [.int 0, .int 1]) n0
  have l1 := Le.new (o := .tup [.int 1, .int 10]) n1
  have l2 := Le.new (o := .tup [.int 1, .int 20]) n2
  have l3 := Le.new (o := .tup [.int 1, .int 2]) n3
  have l4 := Le.new (o := .tup [.int 1, .int 1]) n4
  have l5 := Le.new (o := .tup [.int (-1), .int 2]) n5
  have l6 := Le.new (o := .tup [.int (-1), .int 10]) n6
  have l7 := Le.new (o := .tup [.int 3, .int 1]) n7
  have l8 := Le.new (o := .tup [.int 1, .int 3]) n8
  have l9 := Le.new (o := .tup [.int 7, .int 100]) n9
  have lo := Le.new (o := .lst [.ref p0, .ref p1, .ref p2, .ref p3, .ref p4, .ref p5, .ref p6, .ref p7, .ref p8, .ref p9]) no
  have k8 := l9.trans lo
  have k7 := l8.trans k8
  have k6 := l7.trans k7
  have k5 := l6.trans k6
  have k4 := l5.trans k5
  have k3 := l4.trans k4
  have k2 := l3.trans k3
  have k1 := l2.trans k2
  have k0 := l1.trans k1
  have kk := l0.trans k0
  have hRo := hR.up kk
  have noH := kk.trans (Le.refl _)
  have nA : H o = none := (((((((((l0.trans l1).trans l2).trans l3).trans l4).trans l5).trans l6).trans l7).trans l8).trans l9).free no
  obtain ⟨ys, ha⟩ := hR.lst
  have hoa : o ≠ a := fun z => by
    rw [z, ha] at nA
    cases nA
  refine ⟨a, o, _, rfl, hRo, upd_same, hoa, by simp, by show 10 ≤ 1000; decide, fun j x H' hj hR' lb => ?_⟩
  obtain ⟨ys', ha'⟩ := hRo.lst
  have fin : ∀ (r : Rat) (p : Addr), RateOk r → ST K _ p [.int r.num, .int r.den] → x = .ref p → Q x H' := fun r p hr st e => by
    subst e
    exact q H' (.ref p) r hr ⟨p, rfl, lb.st ha' st⟩ hR' (kk.but.trans lb)
  have rk : ∀ r : Rat, (decide (r.num.natAbs ≤ 1000) && decide (r.den ≤ 1000) && decide (0 < r.num + r.den)) = true → RateOk r := fun r h => by
    simp only [Bool.and_eq_true, decide_eq_true_eq] at h
    exact ⟨h.1.1, h.1.2, h.2⟩
  match j, hj with
  | 0, e => exact fin 0 p0 (rk _ (by decide)) (ST.new.up k0) (Option.some.inj e).symm
  | 1, e => exact fin (mkRat 1 10) p1 (rk _ (by decide)) (ST.new.up k1) (Option.some.inj e).symm
  | 2, e => exact fin (mkRat 1 20) p2 (rk _ (by decide)) (ST.new.up k2) (Option.some.inj e).symm
  | 3, e => exact fin (mkRat 1 2) p3 (rk _ (by decide)) (ST.new.up k3) (Option.some.inj e).symm
  | 4, e => exact fin 1 p4 (rk _ (by decide)) (ST.new.up k4) (Option.some.inj e).symm
  | 5, e => exact fin (mkRat (-1) 2) p5 (rk _ (by decide)) (ST.new.up k5) (Option.some.inj e).symm
  | 6, e => exact fin (mkRat (-1) 10) p6 (rk _ (by decide)) (ST.new.up k6) (Option.some.inj e).symm
  | 7, e => exact fin 3 p7 (rk _ (by decide)) (ST.new.up k7) (Option.some.inj e).symm
  | 8, e => exact fin (mkRat 1 3) p8 (rk _ (by decide)) (ST.new.up k8) (Option.some.inj e).symm
  | 9, e => exact fin (mkRat 7 100) p9 (rk _ (by decide)) (ST.new.up lo) (Option.some.inj e).symm
  | j + 10, e => simp at e
abbrev s_is_integer : Stmt := topS 8
abbrev N_is_integer : List Str := ["value"]
theorem sc_is_integer : FnScope N_is_integer ["value"] (defScope s_is_integer) := ⟨rfl, rfl, rfl, by decide +kernel, rfl, by decide +kernel, by decide +kernel⟩
theorem q_is_integer (d : Df K mg "is_integer" s_is_integer ["value"]) (z_isinstance : mg "isinstance" = none) (z_int : mg "int" = none) (z_bool : mg "bool" = none) : QInteger P w K mg base := by
  obtain ⟨f, fd, F, m, b⟩ := d.ex
  refine ⟨f, m, F.kp, fun M i => ?_⟩
  refine qc_ret (n := 0) (ps := ["value"]) M F rfl b (fun us hl => match us, hl with | [_], _ => rfl) rfl rfl rfl rfl (fun L cdv us D hv hD => ?_)
  cases hv with
  | cons r t =>
    cases t
    have qf : Qf (envOfC "is_integer" (defScope s_is_integer) L f cdv) := ⟨rfl, rfl⟩
    exact qe_and (x := true) (y := true) (qe_isi M qf rfl (qe_loc qf rfl rfl r) rfl (by decide +kernel) z_isinstance z_int rfl rfl (by decide +kernel) (by decide) (by decide) rfl rfl rfl)
      (fun _ => qe_one (qe_not (x := false) (qe_isi M qf rfl (qe_loc qf rfl rfl r) rfl (by decide +kernel) z_isinstance z_bool rfl rfl (by decide +kernel) (by decide) (by decide) rfl rfl rfl)))
theorem has_is_integer (d : Df K mg "is_integer" s_is_integer ["value"]) (z_isinstance : mg "isinstance" = none) (z_int : mg "int" = none) (z_bool : mg "bool" = none) : Has P w K mg base (k + 1) "is_integer" ["value"] spIsInt := by
  refine d.has sc_is_integer (fun vs H Q E h => ?_) (fun f cdv A outer s H vs Q E hr h => ?_)
  · obtain ⟨i, rfl, _⟩ := h
    rfl
  obtain ⟨i, rfl, q⟩ := h
  refine ⟨_, (pss_one (ps_ret (pe_and (pe_callB call_isi (by rfl) z_isinstance (by decide +kernel) (pa_cons (pv 0) (pa_cons (pe_bltn (v := .ty "int") (u := .type "int") (by rfl) z_int (by decide +kernel) rfl) pa_nil))) (pe_one (pe_not (pe_callB call_isi (by rfl) z_isinstance (by decide +kernel) (pa_cons (pv 0) (pa_cons (pe_bltn (v := .ty "bool") (u := .type "bool") (by rfl) z_bool (by decide +kernel) rfl) pa_nil)))))))), ?_⟩
  refine ⟨_, rfl, _, _, _, _, true, rfl, .ty _, .base (.int _), kit_ty (by decide +kernel), true, rfl, iteT ?_⟩
  exact ⟨_, rfl, _, _, _, _, false, rfl, .ty _, .base (.int _), kit_ty (by decide +kernel), false, rfl, q⟩
abbrev s_is_between : Stmt := topS 9
abbrev N_is_between : List Str := ["value", "low", "high"]
theorem sc_is_between : FnScope N_is_between ["value", "low", "high"] (defScope s_is_between) := ⟨rfl, rfl, rfl, by decide +kernel, rfl, by decide +kernel, by decide +kernel⟩
theorem q_is_between (d : Df K mg "is_between" s_is_between ["value", "low", "high"]) (q_is_integer : QInteger P w K mg base) : QBetween P w K mg base := by
  obtain ⟨f, fd, F, m, b⟩ := d.ex
  obtain ⟨g, mI, kI, hI⟩ := q_is_integer.ex
  refine ⟨f, m, F.kp, fun M i lo hi => ?_⟩
  refine qc_ret (n := 1) (ps := ["value", "low", "high"]) M F rfl b (fun us hl => match us, hl with | [_, _, _], _ => rfl) rfl rfl rfl rfl (fun L cdv us D hv hD => ?_)
  cases hv with
  | cons r t =>
    cases t with
    | cons r2 t =>
      cases t with
      | cons r3 t =>
        cases t
        have qf : Qf (envOfC "is_between" (defScope s_is_between) L f cdv) := ⟨rfl, rfl⟩
        exact qe_and (x := true) (y := decide (lo ≤ i ∧ i ≤ hi)) (qe_call M qf (hI M i) hD kI mI (qa_cons (qe_loc qf rfl rfl r) qa_nil)) (fun _ => qe_one (qe_le2 (qe_loc qf rfl rfl r2) (qe_loc qf rfl rfl r) (qe_loc qf rfl rfl r3)))
theorem has_is_between (d : Df K mg "is_between" s_is_between ["value", "low", "high"]) (h_is_integer : Has P w K mg base k "is_integer" ["value"] spIsInt) : Has P w K mg base (k + 1) "is_between" ["value", "low", "high"] spBetween := by
  refine d.has sc_is_between (fun vs H Q E h => ?_) (fun f cdv A outer s H vs Q E hr h => ?_)
  · obtain ⟨i, a, b, rfl, _⟩ := h
    rfl
  obtain ⟨i, a, b, rfl, q⟩ := h
  refine ⟨_, (pss_one (ps_ret (pe_and (pe_has h_is_integer hr (pa_cons (pv 0) pa_nil)) (pe_one (pe_chain op_le op_le (pv 1) (pv 0) (pv 2)))))), ?_⟩
  refine ⟨_, rfl, i, rfl, true, rfl, iteT ?_⟩
  refine ⟨_, rfl, _, rfl, _, _, rfl, rfl, _, rfl, ?_⟩
  refine ite2 (fun c => ?_) (fun c => ?_)
  · have c' := of_decide_eq_true c
    refine ⟨_, rfl, _, _, rfl, rfl, ?_⟩
    show Q (.bl (decide (i ≤ b))) H
    rw [show decide (i ≤ b) = decide (a ≤ i ∧ i ≤ b) by simp [c']]
    exact q
  · have c' := of_decide_eq_false (Bool.eq_false_iff.mpr c)
    show Q (.bl false) H
    rw [show false = decide (a ≤ i ∧ i ≤ b) by simp [c']]
    exact q
abbrev s_is_ratio : Stmt := topS 10
abbrev N_is_ratio : List Str := ["value", "top", "bottom"]
theorem sc_is_ratio : FnScope N_is_ratio ["value"] (defScope s_is_ratio) := ⟨rfl, rfl, rfl, by decide +kernel, rfl, by decide +kernel, by decide +kernel⟩
theorem has_is_ratio (d : Df K mg "is_ratio" s_is_ratio ["value"]) (h_is_integer : Has P w K mg base k "is_integer" ["value"] spIsInt) (z_isinstance : mg "isinstance" = none) (z_tuple : mg "tuple" = none) (z_len : mg "len" = none) (m_gcd : mg "gcd" = some (.builtin "math.gcd")) :
    Has P w K mg base (k + 1) "is_ratio" ["value"] (spIsRatio K) := by
  refine d.has sc_is_ratio (fun vs H Q E h => ?_) (fun f cdv A outer s H vs Q E hr h => ?_)
  · obtain ⟨v, r, rfl, _⟩ := h
    rfl
  obtain ⟨v, r, rfl, ⟨p, rfl, ht⟩, q⟩ := h
  refine ⟨_, (pss_cons (ps_if (PW.pt (pw_or (pt_not (pt_val (pe_callB call_isi (by rfl) z_isinstance (by decide +kernel) (pa_cons (pv 0) (pa_cons (pe_bltn (v := .ty "tuple") (u := .type "tuple") (by rfl) z_tuple (by decide +kernel) rfl) pa_nil))))) (pw_or1 (pt_cmpR op_ne (pe_callB call_len_seq (by rfl) z_len PySem.boot_len (pa_cons (pv 0) pa_nil)) pe_int (nomark _))))) (pss_one (ps_ret pe_bl)) pss_nil)
      (pss_cons (ps_asg (pv 0) (pg_tup (by rfl) (pgs_cons (pg_name (i := 1) sc_is_ratio.nd rfl (.inl rfl)) (pgs_cons (pg_name (i := 2) sc_is_ratio.nd rfl (.inl rfl)) pgs_nil))))
      (pss_one (ps_ret (pe_and (pe_has h_is_integer hr (pa_cons (pv 1) pa_nil)) (pe_and (pe_has h_is_integer hr (pa_cons (pv 2) pa_nil)) (pe_and (pe_cmpR op_gt (pv 2) pe_int (nomark _)) (pe_one (pe_cmpR op_eq (pe_callBfun cr_gcd (by rfl) m_gcd (pa_cons (pv 1) (pa_cons (pv 2) pa_nil))) pe_int (nomark _)))))))))), ?_⟩
  refine ⟨_, rfl, _, _, _, _, true, rfl, .ty _, ht.ty, kit_ty (by decide +kernel), true, rfl, iteF ?_⟩
  refine ⟨_, rfl, p, _, rfl, .inr ht.sq, rfl, false, rfl, iteF ?_⟩
  refine ⟨_, rfl, p, _, rfl, ht.sq, rfl, _, _, rfl, _, _, rfl, rfl, ?_⟩
  refine ⟨_, rfl, r.num, rfl, true, rfl, iteT ?_⟩
  refine ⟨_, rfl, (r.den : Int), rfl, true, rfl, iteT ?_⟩
  refine ⟨_, rfl, _, _, rfl, rfl, _, rfl, ?_⟩
  have hd : (0 : Int) < r.den := by have := r.den_pos; omega
  rw [decide_eq_true hd]
  refine iteT ?_
  refine ⟨_, rfl, _, rfl, _, _, rfl, rfl, ?_⟩
  have hg : Nat.gcd r.num.natAbs (r.den : Int).natAbs = 1 := r.reduced
  rw [hg]
  exact q
abbrev s_check_rate : Stmt := topS 11
abbrev N_check_rate : List Str := ["rate"]
theorem sc_check_rate : FnScope N_check_rate ["rate"] (defScope s_check_rate) := ⟨rfl, rfl, rfl, by decide +kernel, rfl, by decide +kernel, by decide +kernel⟩
theorem has_check_rate (d : Df K mg "check_rate" s_check_rate ["rate"]) (h_is_ratio : Has P w K mg base k "is_ratio" ["value"] (spIsRatio K)) (z_abs : mg "abs" = none) : Has P w K mg base (k + 1) "check_rate" ["rate"] (spCheckRate K) := by
  refine d.has sc_check_rate (fun vs H Q E h => ?_) (fun f cdv A outer s H vs Q E hr h => ?_)
  · obtain ⟨v, r, rfl, _⟩ := h
    rfl
  obtain ⟨v, r, rfl, ⟨p, rfl, ht⟩, ok, q⟩ := h
  refine ⟨_, (pss_one (ps_if (PW.pt (pw_or (pt_not (pt_val (pe_has h_is_ratio hr (pa_cons (pv 0) pa_nil)))) (pw_or (pt_cmpR op_gt (pe_callB call_abs (by rfl) z_abs (by decide +kernel) (pa_cons (pe_ix (r := rIxT K) ix_tup (pv 0) pe_int (fun _ _ => rfl)) pa_nil)) pe_int (nomark _)) (pw_or (pt_cmpR op_gt (pe_ix (r := rIxT K) ix_tup (pv 0) pe_int (fun _ _ => rfl)) pe_int (nomark _)) (pw_or1 (pt_cmpR op_le (pe_ix (r := rIxT K) ix_tup (pv 0) pe_int (fun _ _ => rfl)) (pe_un un_neg (pe_ix (r := rIxT K) ix_tup (pv 0) pe_int (fun _ _ => rfl))) (nomark _))))))) (pss_one ps_never) pss_nil)), ?_⟩
  have h1 := ok.top
  have h2 := ok.bot
  have h3 := ok.pos
  have st := ht.sq
  refine ⟨_, rfl, _, r, rfl, ⟨p, rfl, ht⟩, true, rfl, iteF ?_⟩
  refine ⟨_, rfl, p, _, 0, _, rfl, rfl, st, rfl, _, rfl, _, _, rfl, rfl, _, rfl, ?_⟩
  rw [show (if r.num < 0 then -r.num else r.num) = (r.num.natAbs : Int) by split <;> omega, decide_eq_false (by omega)]
  refine iteF ?_
  refine ⟨_, rfl, p, _, 1, _, rfl, rfl, st, rfl, _, _, rfl, rfl, _, rfl, ?_⟩
  rw [decide_eq_false (by omega)]
  refine iteF ?_
  refine ⟨_, rfl, p, _, 0, _, rfl, rfl, st, rfl, _, rfl, p, _, 1, _, rfl, rfl, st, rfl, _, rfl, _, _, rfl, rfl, _, rfl, ?_⟩
  rw [decide_eq_false (by omega)]
  exact iteF q
abbrev s_check_time : Stmt := topS 12
abbrev N_check_time : List Str := ["time", "low", "high"]
theorem sc_check_time : FnScope N_check_time ["time", "low", "high"] (defScope s_check_time) := ⟨rfl, rfl, rfl, by decide +kernel, rfl, by decide +kernel, by decide +kernel⟩
theorem has_check_time (d : Df K mg "check_time" s_check_time ["time", "low", "high"]) (h_is_between : Has P w K mg base k "is_between" ["value", "low", "high"] spBetween) : Has P w K mg base (k + 1) "check_time" ["time", "low", "high"] spCheckTime := by
  refine d.has sc_check_time (fun vs H Q E h => ?_) (fun f cdv A outer s H vs Q E hr h => ?_)
  · obtain ⟨i, a, b, rfl, _⟩ := h
    rfl
  obtain ⟨i, a, b, rfl, h1, h2, q⟩ := h
  refine ⟨_, (pss_one (ps_if (pt_not (pt_val (pe_has h_is_between hr (pa_cons (pv 0) (pa_cons (pv 1) (pa_cons (pv 2) pa_nil)))))) (pss_one ps_never) pss_nil)), ?_⟩
  refine ⟨_, rfl, _, rfl, _, rfl, i, a, b, rfl, true, ?_, iteF q⟩
  rw [decide_eq_true ⟨h1, h2⟩]
abbrev s_check_loan : Stmt := topS 23
abbrev N_check_loan : List Str := ["amount", "rate", "years"]
theorem sc_check_loan : FnScope N_check_loan ["amount", "rate", "years"] (defScope s_check_loan) := ⟨rfl, rfl, rfl, by decide +kernel, rfl, by decide +kernel, by decide +kernel⟩
theorem has_check_loan (d : Df K mg "check_loan" s_check_loan ["amount", "rate", "years"]) (h_is_between : Has P w K mg base k "is_between" ["value", "low", "high"] spBetween) (h_check_rate : Has P w K mg base k "check_rate" ["rate"] (spCheckRate K))
    (h_check_time : Has P w K mg base k "check_time" ["time", "low", "high"] spCheckTime) {t0 : Tok} (m_MOST_AMOUNT : mg "MOST_AMOUNT" = some (.int 1000000 t0)) : Has P w K mg base (k + 1) "check_loan" ["amount", "rate", "years"] (spCheckLoan K) := by
  refine d.has sc_check_loan (fun vs H Q E h => ?_) (fun f cdv A outer s H vs Q E hr h => ?_)
  · obtain ⟨A, v, r, n, rfl, _⟩ := h
    rfl
  obtain ⟨A, v, r, n, rfl, h1, h2, hn, hm, hv, ok, q⟩ := h
  refine ⟨_, (pss_cons (ps_if (pt_not (pt_val (pe_has h_is_between hr (pa_cons (pv 0) (pa_cons pe_int (pa_cons (pe_glob (v := .int 1000000) (by rfl) m_MOST_AMOUNT ⟨_, rfl⟩) pa_nil)))))) (pss_one ps_never) pss_nil)
      (pss_cons (ps_expr (pe_has h_check_rate hr (pa_cons (pv 1) pa_nil)))
      (pss_one (ps_expr (pe_has h_check_time hr (pa_cons (pv 2) (pa_cons pe_int (pa_cons pe_int pa_nil)))))))), ?_⟩
  refine ⟨_, rfl, A, 1, 1000000, rfl, true, ?_, iteF ?_⟩
  · rw [decide_eq_true ⟨h1, h2⟩]
  · refine ⟨_, rfl, v, r, rfl, hv, ok, ?_⟩
    exact ⟨_, rfl, _, 1, 40, rfl, by omega, by omega, q⟩
abbrev s_make_ratio : Stmt := topS 13
abbrev N_make_ratio : List Str := ["top", "bottom", "shared"]
theorem sc_make_ratio : FnScope N_make_ratio ["top", "bottom"] (defScope s_make_ratio) := ⟨rfl, rfl, rfl, by decide +kernel, rfl, by decide +kernel, by decide +kernel⟩
theorem has_make_ratio (d : Df K mg "make_ratio" s_make_ratio ["top", "bottom"]) (m_gcd : mg "gcd" = some (.builtin "math.gcd")) : Has P w K mg base (k + 1) "make_ratio" ["top", "bottom"] (spMake K) := by
  refine d.has sc_make_ratio (fun vs H Q E h => ?_) (fun f cdv A outer s H vs Q E hr h => ?_)
  · obtain ⟨t, b, n, rfl, _⟩ := h
    rfl
  obtain ⟨t, b, n, rfl, hb, hn, hl, q⟩ := h
  refine ⟨_, (pss_cons (ps_set (i := 2) sc_make_ratio.nd rfl (.inl rfl) (pe_callBfun cr_gcd (by rfl) m_gcd (pa_cons (pv 0) (pa_cons (pv 1) pa_nil))))
      (pss_cons (ps_if (pt_cmpR op_lt (pv 1) pe_int (nomark _)) (pss_one (ps_set (i := 2) sc_make_ratio.nd rfl (.inl rfl) (pe_un un_neg (pv 2)))) pss_nil)
      (pss_one (ps_ret (pe_tup (pa_cons (pe_op op_fdivZ (pv 0) (pv 2)) (pa_cons (pe_op op_fdivZ (pv 1) (pv 2)) pa_nil))))))), ?_⟩
  have hg : ((Nat.gcd t.natAbs b.natAbs : Nat) : Int) ≠ 0 := by
    have : 0 < Nat.gcd t.natAbs b.natAbs := Nat.gcd_pos_of_pos_right _ (Int.natAbs_pos.mpr hb)
    omega
  have hgl : Nat.gcd t.natAbs b.natAbs ≤ b.natAbs := Nat.gcd_le_right _ (Int.natAbs_pos.mpr hb)
  have f1 := fdiv_top (t := t) hb
  have f2 := fdiv_bottom (t := t) hb
  refine ⟨_, rfl, _, rfl, _, _, rfl, ?_⟩
  refine ⟨_, rfl, _, _, rfl, rfl, _, rfl, ?_⟩
  refine ite2 (fun c => ?_) (fun c => ?_)
  · have c' : b < 0 := of_decide_eq_true c
    rw [Int.sign_eq_neg_one_of_neg c', show ∀ z : Int, -1 * z = -z by intro z; omega] at f1 f2
    refine ⟨_, rfl, _, rfl, ?_⟩
    refine ⟨_, rfl, _, rfl, _, _, rfl, rfl, cdivz (by omega) (n := n) (by rw [Int.natAbs_neg]; omega) (by omega), _, rfl, _, rfl, _, _, rfl, rfl, cdivz (by omega) (n := n) (by rw [Int.natAbs_neg]; omega) (by omega), (by show 2 ≤ sizeLine; decide), fun p np => ?_⟩
    exact q _ _ (Le.new np) (RT.new f1 f2)
  · have c' : 0 < b := by
      have := of_decide_eq_false (Bool.eq_false_iff.mpr c)
      omega
    rw [Int.sign_eq_one_of_pos c', Int.one_mul] at f1 f2
    refine ⟨_, rfl, _, rfl, _, _, rfl, rfl, cdivz (by omega) (n := n) (by omega) (by omega), _, rfl, _, rfl, _, _, rfl, rfl, cdivz (by omega) (n := n) (by omega) (by omega), (by show 2 ≤ sizeLine; decide), fun p np => ?_⟩
    exact q _ _ (Le.new np) (RT.new f1 f2)
abbrev s_divided : Stmt := topS 17
abbrev N_divided : List Str := ["one", "other"]
theorem sc_divided : FnScope N_divided ["one", "other"] (defScope s_divided) := ⟨rfl, rfl, rfl, by decide +kernel, rfl, by decide +kernel, by decide +kernel⟩
theorem has_divided (d : Df K mg "divided" s_divided ["one", "other"]) (h_make_ratio : Has P w K mg base k "make_ratio" ["top", "bottom"] (spMake K)) : Has P w K mg base (k + 1) "divided" ["one", "other"] (spR2 K (fun _ b => b ≠ 0) (fun a b => a / b)) := by
  refine d.has sc_divided (fun vs H Q E h => ?_) (fun f cdv A outer s H vs Q E hr h => ?_)
  · obtain ⟨x, y, a, b, n, m, rfl, _⟩ := h
    rfl
  obtain ⟨x, y, a, b, n, m, rfl, ⟨p, rfl, ha⟩, ⟨r, rfl, hb⟩, ba, bb, hl, ok, q⟩ := h
  refine ⟨_, (pss_one (ps_ret (pe_has h_make_ratio hr (pa_cons (pe_op op_mulW (pe_ix (r := rIxT K) ix_tup (pv 0) pe_int (fun _ _ => rfl)) (pe_ix (r := rIxT K) ix_tup (pv 1) pe_int (fun _ _ => rfl))) (pa_cons (pe_op op_mulW (pe_ix (r := rIxT K) ix_tup (pv 0) pe_int (fun _ _ => rfl)) (pe_ix (r := rIxT K) ix_tup (pv 1) pe_int (fun _ _ => rfl))) pa_nil))))), ?_⟩
  have sa := ha.sq
  have sb := hb.sq
  refine ⟨_, rfl, p, _, 0, _, rfl, rfl, sa, rfl, _, rfl, r, _, 1, _, rfl, rfl, sb, rfl, _, _, rfl, rfl, cmul (a := n) (b := m) ba.1 (by exact bb.2) (by omega), ?_⟩
  refine ⟨_, rfl, p, _, 1, _, rfl, rfl, sa, rfl, _, rfl, r, _, 0, _, rfl, rfl, sb, rfl, _, _, rfl, rfl, cmul (a := n) (b := m) (by exact ba.2) (by exact bb.1) (by omega), ?_⟩
  refine ⟨_, _, n + m, rfl, Int.mul_ne_zero (den_ne a) (num_ne ok), (div_parts ba bb).2, by omega, fun H2 v l hv => ?_⟩
  rw [div_eq_divInt] at hv
  exact q H2 v l hv
abbrev s_discount : Stmt := topS 18
abbrev N_discount : List Str := ["rate"]
theorem sc_discount : FnScope N_discount ["rate"] (defScope s_discount) := ⟨rfl, rfl, rfl, by decide +kernel, rfl, by decide +kernel, by decide +kernel⟩
theorem has_discount (d : Df K mg "discount" s_discount ["rate"]) : Has P w K mg base (k + 1) "discount" ["rate"] (spR1 K RateOk (fun r => (1 + r)⁻¹)) := by
  refine d.has sc_discount (fun vs H Q E h => ?_) (fun f cdv A outer s H vs Q E hr h => ?_)
  · obtain ⟨v, r, rfl, _⟩ := h
    rfl
  obtain ⟨v, r, rfl, ⟨p, rfl, ht⟩, ok, q⟩ := h
  refine ⟨_, (pss_one (ps_ret (pe_tup (pa_cons (pe_ix (r := rIxT K) ix_tup (pv 0) pe_int (fun _ _ => rfl)) (pa_cons (pe_op op_add (pe_ix (r := rIxT K) ix_tup (pv 0) pe_int (fun _ _ => rfl)) (pe_ix (r := rIxT K) ix_tup (pv 0) pe_int (fun _ _ => rfl))) pa_nil))))), ?_⟩
  have st := ht.sq
  have e := disc_parts ok.pos
  refine ⟨_, rfl, p, _, 1, _, rfl, rfl, st, rfl, _, rfl, p, _, 0, _, rfl, rfl, st, rfl, _, rfl, p, _, 1, _, rfl, rfl, st, rfl, _, _, rfl, rfl, (by show 2 ≤ sizeLine; decide), fun u nu => ?_⟩
  exact q _ _ (Le.new nu) (RT.new e.1.symm e.2.symm)
abbrev s_plus : Stmt := topS 14
abbrev N_plus : List Str := ["one", "other"]
theorem sc_plus : FnScope N_plus ["one", "other"] (defScope s_plus) := ⟨rfl, rfl, rfl, by decide +kernel, rfl, by decide +kernel, by decide +kernel⟩
theorem has_plus (d : Df K mg "plus" s_plus ["one", "other"]) (h_make_ratio : Has P w K mg base k "make_ratio" ["top", "bottom"] (spMake K)) : Has P w K mg base (k + 1) "plus" ["one", "other"] (spR2 K (fun _ b => True) (fun a b => a + b)) := by
  refine d.has sc_plus (fun vs H Q E h => ?_) (fun f cdv A outer s H vs Q E hr h => ?_)
  · obtain ⟨x, y, a, b, n, m, rfl, _⟩ := h
    rfl
  obtain ⟨x, y, a, b, n, m, rfl, ⟨p, rfl, ha⟩, ⟨r, rfl, hb⟩, ba, bb, hl, ok, q⟩ := h
  refine ⟨_, (pss_one (ps_ret (pe_has h_make_ratio hr (pa_cons (pe_op op_add (pe_op op_mulW (pe_ix (r := rIxT K) ix_tup (pv 0) pe_int (fun _ _ => rfl)) (pe_ix (r := rIxT K) ix_tup (pv 1) pe_int (fun _ _ => rfl))) (pe_op op_mulW (pe_ix (r := rIxT K) ix_tup (pv 1) pe_int (fun _ _ => rfl)) (pe_ix (r := rIxT K) ix_tup (pv 0) pe_int (fun _ _ => rfl)))) (pa_cons (pe_op op_mulW (pe_ix (r := rIxT K) ix_tup (pv 0) pe_int (fun _ _ => rfl)) (pe_ix (r := rIxT K) ix_tup (pv 1) pe_int (fun _ _ => rfl))) pa_nil))))), ?_⟩
  have sa := ha.sq
  have sb := hb.sq
  refine ⟨_, rfl, p, _, 0, _, rfl, rfl, sa, rfl, _, rfl, r, _, 1, _, rfl, rfl, sb, rfl, _, _, rfl, rfl, cmul (a := n) (b := m) ba.1 (by exact bb.2) (by omega), _, rfl, r, _, 0, _, rfl, rfl, sb, rfl, _, rfl, p, _, 1, _, rfl, rfl, sa, rfl, _, _, rfl, rfl, cmul (a := m) (b := n) bb.1 (by exact ba.2) (by omega), _, _, rfl, rfl, ?_⟩
  refine ⟨_, rfl, p, _, 1, _, rfl, rfl, sa, rfl, _, rfl, r, _, 1, _, rfl, rfl, sb, rfl, _, _, rfl, rfl, cmul (a := n) (b := m) (by exact ba.2) (by exact bb.2) (by omega), ?_⟩
  refine ⟨_, _, n + m + 1, rfl, dens_ne a b, (add_parts ba bb).2, by omega, fun H2 v l hv => ?_⟩
  rw [add_eq_divInt] at hv
  exact q H2 v l hv
abbrev s_multiplied : Stmt := topS 16
abbrev N_multiplied : List Str := ["one", "other"]
theorem sc_multiplied : FnScope N_multiplied ["one", "other"] (defScope s_multiplied) := ⟨rfl, rfl, rfl, by decide +kernel, rfl, by decide +kernel, by decide +kernel⟩
theorem has_multiplied (d : Df K mg "multiplied" s_multiplied ["one", "other"]) (h_make_ratio : Has P w K mg base k "make_ratio" ["top", "bottom"] (spMake K)) : Has P w K mg base (k + 1) "multiplied" ["one", "other"] (spR2 K (fun _ b => True) (fun a b => a * b)) := by
  refine d.has sc_multiplied (fun vs H Q E h => ?_) (fun f cdv A outer s H vs Q E hr h => ?_)
  · obtain ⟨x, y, a, b, n, m, rfl, _⟩ := h
    rfl
  obtain ⟨x, y, a, b, n, m, rfl, ⟨p, rfl, ha⟩, ⟨r, rfl, hb⟩, ba, bb, hl, ok, q⟩ := h
  refine ⟨_, (pss_one (ps_ret (pe_has h_make_ratio hr (pa_cons (pe_op op_mulW (pe_ix (r := rIxT K) ix_tup (pv 0) pe_int (fun _ _ => rfl)) (pe_ix (r := rIxT K) ix_tup (pv 1) pe_int (fun _ _ => rfl))) (pa_cons (pe_op op_mulW (pe_ix (r := rIxT K) ix_tup (pv 0) pe_int (fun _ _ => rfl)) (pe_ix (r := rIxT K) ix_tup (pv 1) pe_int (fun _ _ => rfl))) pa_nil))))), ?_⟩
  have sa := ha.sq
  have sb := hb.sq
  refine ⟨_, rfl, p, _, 0, _, rfl, rfl, sa, rfl, _, rfl, r, _, 0, _, rfl, rfl, sb, rfl, _, _, rfl, rfl, cmul (a := n) (b := m) ba.1 bb.1 (by omega), ?_⟩
  refine ⟨_, rfl, p, _, 1, _, rfl, rfl, sa, rfl, _, rfl, r, _, 1, _, rfl, rfl, sb, rfl, _, _, rfl, rfl, cmul (a := n) (b := m) (by exact ba.2) (by exact bb.2) (by omega), ?_⟩
  refine ⟨_, _, n + m, rfl, dens_ne a b, (mul_parts ba bb).2, by omega, fun H2 v l hv => ?_⟩
  rw [mul_eq_divInt] at hv
  exact q H2 v l hv
abbrev s_present_value : Stmt := topS 20
abbrev N_present_value : List Str := ["payments", "rate", "back", "found", "payment"]
theorem sc_present_value : FnScope N_present_value ["payments", "rate"] (defScope s_present_value) := ⟨rfl, rfl, rfl, by decide +kernel, rfl, by decide +kernel, by decide +kernel⟩
theorem has_present_value (d : Df K mg "present_value" s_present_value ["payments", "rate"]) (h_discount : Has P w K mg base k "discount" ["rate"] (spR1 K RateOk (fun r => (1 + r)⁻¹)))
    (h_plus : Has P w K mg base k "plus" ["one", "other"] (spR2 K (fun _ _ => True) (fun a b => a + b))) (h_multiplied : Has P w K mg base k "multiplied" ["one", "other"] (spR2 K (fun _ _ => True) (fun a b => a * b)))
    (z_reversed : mg "reversed" = none) {a_ZERO : Addr} (m_ZERO : mg "ZERO" = some (.ref a_ZERO)) (t_ZERO : ∀ H, ST K H a_ZERO [.int 0, .int 1]) : Has P w K mg base (k + 1) "present_value" ["payments", "rate"] (spPV K) := by
  refine d.has sc_present_value (fun vs H Q E h => ?_) (fun f cdv A outer s H vs Q E hr h => ?_)
  · obtain ⟨p, v, ns, r, rfl, _⟩ := h
    rfl
  obtain ⟨p, v, ns, r, rfl, hp, hl, hok, hv, ok, q⟩ := h
  refine ⟨_, (pss_cons (ps_set (i := 2) sc_present_value.nd rfl (.inl rfl) (pe_has h_discount hr (pa_cons (pv 1) pa_nil)))
      (pss_cons (ps_set (i := 3) sc_present_value.nd rfl (.inl rfl) (pe_glob (v := .ref a_ZERO) (u := .ref a_ZERO) (by rfl) m_ZERO rfl))
      (pss_cons (ps_for PassesOwn.never rfl (_root_.RT.pi_revA (by rfl) z_reversed (pv 0)) (pg_name (i := 4) sc_present_value.nd rfl (.inl rfl)) (pss_one (ps_set (i := 3) sc_present_value.nd rfl (.inl rfl) (pe_has h_plus hr (pa_cons (pe_tup (pa_cons (pv 4) (pa_cons pe_int pa_nil))) (pa_cons (pe_has h_multiplied hr (pa_cons (pv 2) (pa_cons (pv 3) pa_nil))) pa_nil))))))
      (pss_one (ps_ret (pv 3)))))), ?_⟩
  refine ⟨_, rfl, v, r, rfl, hv, ok, fun H1 back l1 hb => ?_⟩
  refine ⟨_, rfl, p, _, rfl, .inr ⟨(hp.up l1).sq, ?_⟩⟩
  have hlen : (ns.map V.int).length = ns.length := List.length_map _
  rw [hlen]
  refine for_rev hlen (fun i σ H' => ∃ vf z, σ = [some (.ref p), some v, some back, some vf, z] ∧ Le H1 H' ∧ RT K H' (pval (1 + r)⁻¹ (ns.drop (ns.length - i))) vf) ⟨.ref a_ZERO, none, rfl, Le.refl _, ?_⟩ ?_ ?_ ?_
  · rw [Nat.sub_zero, List.drop_length]
    exact ⟨a_ZERO, rfl, t_ZERO _⟩
  · rintro i σ H' ⟨vf, z, rfl, l2, _⟩
    exact (hp.up (l1.trans l2)).sq
  · rintro i x σ H' hi hx ⟨vf, z, rfl, l2, hf⟩
    rw [List.getElem?_map] at hx
    obtain ⟨n, hn, rfl⟩ : ∃ n, ns[ns.length - 1 - i]? = some n ∧ V.int n = x := by
      cases e : ns[ns.length - 1 - i]? with
      | none => rw [e] at hx; cases hx
      | some n => rw [e] at hx; exact ⟨n, rfl, Option.some.inj hx⟩
    have hdrop : ns.drop (ns.length - (i + 1)) = n :: ns.drop (ns.length - i) := by
      have hlt : ns.length - 1 - i < ns.length := by omega
      rw [show ns.length - (i + 1) = ns.length - 1 - i by omega, List.drop_eq_getElem_cons hlt, show ns.length - 1 - i + 1 = ns.length - i by omega]
      rw [List.getElem?_eq_getElem hlt] at hn
      rw [Option.some.inj hn]
    have hnb : n.natAbs < 2 ^ 20 := hok n (List.mem_of_getElem? hn)
    have bf : Bd (1 + 33 * ns.length) (pval (1 + r)⁻¹ (ns.drop (ns.length - i))) := (Bd.pval ok.disc (hok.drop _)).mono (by rw [List.length_drop]; omega)
    refine ⟨_, rfl, (by show 2 ≤ sizeLine; decide), fun u nu => ?_⟩
    have l3 := Le.new (o := .tup [.int n, .int 1]) nu
    refine ⟨_, rfl, _, rfl, back, vf, (1 + r)⁻¹, _, _, _, rfl, hb.up (l2.trans l3), hf.up l3, ok.disc, bf, by omega, trivial, fun H2 m l4 hm => ?_⟩
    refine ⟨.ref u, m, (n : Rat), _, 20, _, rfl, RT.up ⟨u, rfl, ?_⟩ l4, hm, Bd.int hnb (by decide), ok.disc.mul bf, by omega, trivial, fun H3 s3 l5 hs => ?_⟩
    · rw [Rat.num_intCast, Rat.den_intCast]
      exact ST.new
    · refine ⟨s3, some (.int n), rfl, ((l2.trans l3).trans l4).trans l5, ?_⟩
      rw [hdrop]
      exact hs
  · rintro σ H' ⟨vf, z, rfl, l2, hf⟩
    rw [Nat.sub_self, List.drop_zero] at hf
    exact ⟨vf, rfl, q H' vf (l1.trans l2) hf⟩
abbrev s_worth_of_ones : Stmt := topS 24
abbrev N_worth_of_ones : List Str := ["rate", "years"]
theorem sc_worth_of_ones : FnScope N_worth_of_ones ["rate", "years"] (defScope s_worth_of_ones) := ⟨rfl, rfl, rfl, by decide +kernel, rfl, by decide +kernel, by decide +kernel⟩
theorem has_worth_of_ones (d : Df K mg "worth_of_ones" s_worth_of_ones ["rate", "years"]) (h_present_value : Has P w K mg base k "present_value" ["payments", "rate"] (spPV K)) : Has P w K mg base (k + 1) "worth_of_ones" ["rate", "years"] (spOnes K) := by
  refine d.has sc_worth_of_ones (fun vs H Q E h => ?_) (fun f cdv A outer s H vs Q E hr h => ?_)
  · obtain ⟨v, r, n, rfl, _⟩ := h
    rfl
  obtain ⟨v, r, n, rfl, hn, hv, ok, q⟩ := h
  refine ⟨_, (pss_one (ps_ret (pe_has h_present_value hr (pa_cons (pe_op op_catA (pe_tup (pa_cons pe_int pa_nil)) (pe_op op_repA (pe_tup (pa_cons pe_int pa_nil)) (pv 1))) (pa_cons (pv 0) pa_nil))))), ?_⟩
  have go : ∀ (p : Addr) (H' : Hp), Le H H' → ST K H' p ((ones n).map V.int) → spPV K [.ref p, v] H' Q (fun _ _ _ => False) := fun p H' l hp =>
    ⟨p, v, ones n, r, rfl, hp, by rw [ones_len]; omega, ones_ok n, hv.up l, ok, fun H2 u l2 hu => q H2 u (l.trans l2) hu⟩
  have e : (ones n).map V.int = .int 0 :: (List.replicate n [V.int 1]).flatten := by
    simp [ones]
  refine ⟨(by show 1 ≤ sizeLine; decide), fun z nz => ?_⟩
  refine ⟨(by show 1 ≤ sizeLine; decide), fun o no => ?_⟩
  have l1 := Le.new (o := .tup [.int 0]) nz
  have l2 := Le.new (o := .tup [.int 1]) no
  refine ⟨_, rfl, o, _, _, rfl, rfl, ST.new, by simp, by omega, by omega, by show 1 ≤ 1000; decide, fun t H3 l3 ht => ?_⟩
  have hz : SqT K H3 z [.int 0] := ((ST.new.up l2).up l3).sq
  rw [show ((n : Nat) : Int).toNat = n by omega] at ht
  refine ⟨z, t, _, _, rfl, rfl, hz, ht.sq, ?_, fun c => by simp at c, fun _ c => ?_, fun _ _ u nu => ?_⟩
  · have : (List.replicate n [V.int 1]).flatten.length = n := by simp
    rw [this]
    exact Nat.le_of_lt (small1000 (by show 1 + n ≤ 1000; omega))
  · refine ⟨_, rfl, go z H3 ((l1.trans l2).trans l3) ?_⟩
    rw [e, c]
    exact (ST.new.up l2).up l3
  · refine ⟨_, rfl, go u _ (((l1.trans l2).trans l3).trans (Le.new nu)) ?_⟩
    rw [e]
    exact ST.new
abbrev s_yearly_payment : Stmt := topS 25
abbrev N_yearly_payment : List Str := ["amount", "rate", "years"]
theorem sc_yearly_payment : FnScope N_yearly_payment ["amount", "rate", "years"] (defScope s_yearly_payment) := ⟨rfl, rfl, rfl, by decide +kernel, rfl, by decide +kernel, by decide +kernel⟩
theorem has_yearly_payment (d : Df K mg "yearly_payment" s_yearly_payment ["amount", "rate", "years"]) (h_divided : Has P w K mg base k "divided" ["one", "other"] (spR2 K (fun _ b => b ≠ 0) (fun a b => a / b)))
    (h_worth_of_ones : Has P w K mg base k "worth_of_ones" ["rate", "years"] (spOnes K)) : Has P w K mg base (k + 1) "yearly_payment" ["amount", "rate", "years"] (spYearly K) := by
  refine d.has sc_yearly_payment (fun vs H Q E h => ?_) (fun f cdv A outer s H vs Q E hr h => ?_)
  · obtain ⟨A, v, r, n, rfl, _⟩ := h
    rfl
  obtain ⟨A, v, r, n, rfl, h1, h2, hn, hm, hv, ok, q⟩ := h
  refine ⟨_, (pss_one (ps_ret (pe_has h_divided hr (pa_cons (pe_tup (pa_cons (pv 0) (pa_cons pe_int pa_nil))) (pa_cons (pe_has h_worth_of_ones hr (pa_cons (pv 1) (pa_cons (pv 2) pa_nil))) pa_nil))))), ?_⟩
  refine ⟨_, rfl, (by show 2 ≤ sizeLine; decide), fun z nz => ?_⟩
  have l1 := Le.new (o := .tup [.int A, .int 1]) nz
  refine ⟨_, rfl, _, rfl, v, r, n, rfl, hm, hv.up l1, ok, fun H2 u l2 hu => ?_⟩
  refine ⟨.ref z, u, (A : Rat), _, 20, _, rfl, RT.up ⟨z, rfl, ?_⟩ l2, hu, amount_bd h1 h2, ones_bd ok hm, by omega, ones_ne ok hn, fun H3 x l3 hx => q H3 x ((l1.trans l2).trans l3) hx⟩
  rw [Rat.num_intCast, Rat.den_intCast]
  exact ST.new
abbrev s_minus : Stmt := topS 15
abbrev N_minus : List Str := ["one", "other"]
theorem sc_minus : FnScope N_minus ["one", "other"] (defScope s_minus) := ⟨rfl, rfl, rfl, by decide +kernel, rfl, by decide +kernel, by decide +kernel⟩
theorem has_minus (d : Df K mg "minus" s_minus ["one", "other"]) (h_make_ratio : Has P w K mg base k "make_ratio" ["top", "bottom"] (spMake K)) : Has P w K mg base (k + 1) "minus" ["one", "other"] (spR2 K (fun _ b => True) (fun a b => a - b)) := by
  refine d.has sc_minus (fun vs H Q E h => ?_) (fun f cdv A outer s H vs Q E hr h => ?_)
  · obtain ⟨x, y, a, b, n, m, rfl, _⟩ := h
    rfl
  obtain ⟨x, y, a, b, n, m, rfl, ⟨p, rfl, ha⟩, ⟨r, rfl, hb⟩, ba, bb, hl, ok, q⟩ := h
  refine ⟨_, (pss_one (ps_ret (pe_has h_make_ratio hr (pa_cons (pe_op op_sub (pe_op op_mulW (pe_ix (r := rIxT K) ix_tup (pv 0) pe_int (fun _ _ => rfl)) (pe_ix (r := rIxT K) ix_tup (pv 1) pe_int (fun _ _ => rfl))) (pe_op op_mulW (pe_ix (r := rIxT K) ix_tup (pv 1) pe_int (fun _ _ => rfl)) (pe_ix (r := rIxT K) ix_tup (pv 0) pe_int (fun _ _ => rfl)))) (pa_cons (pe_op op_mulW (pe_ix (r := rIxT K) ix_tup (pv 0) pe_int (fun _ _ => rfl)) (pe_ix (r := rIxT K) ix_tup (pv 1) pe_int (fun _ _ => rfl))) pa_nil))))), ?_⟩
  have sa := ha.sq
  have sb := hb.sq
  refine ⟨_, rfl, p, _, 0, _, rfl, rfl, sa, rfl, _, rfl, r, _, 1, _, rfl, rfl, sb, rfl, _, _, rfl, rfl, cmul (a := n) (b := m) ba.1 (by exact bb.2) (by omega), _, rfl, r, _, 0, _, rfl, rfl, sb, rfl, _, rfl, p, _, 1, _, rfl, rfl, sa, rfl, _, _, rfl, rfl, cmul (a := m) (b := n) bb.1 (by exact ba.2) (by omega), _, _, rfl, rfl, ?_⟩
  refine ⟨_, rfl, p, _, 1, _, rfl, rfl, sa, rfl, _, rfl, r, _, 1, _, rfl, rfl, sb, rfl, _, _, rfl, rfl, cmul (a := n) (b := m) (by exact ba.2) (by exact bb.2) (by omega), ?_⟩
  refine ⟨_, _, n + m + 1, rfl, dens_ne a b, (add_parts ba bb).2, by omega, fun H2 v l hv => ?_⟩
  rw [sub_eq_divInt] at hv
  exact q H2 v l hv
abbrev s_loan_rows : Stmt := topS 26
abbrev N_loan_rows : List Str := ["amount", "rate", "years", "paid", "left", "rows", "_", "interest", "repaid"]
theorem sc_loan_rows : FnScope N_loan_rows ["amount", "rate", "years"] (defScope s_loan_rows) := ⟨rfl, rfl, rfl, by decide +kernel, rfl, by decide +kernel, by decide +kernel⟩
theorem has_loan_rows (d : Df K mg "loan_rows" s_loan_rows ["amount", "rate", "years"]) (h_check_loan : Has P w K mg base k "check_loan" ["amount", "rate", "years"] (spCheckLoan K)) (h_yearly_payment : Has P w K mg base k "yearly_payment" ["amount", "rate", "years"] (spYearly K))
    (h_multiplied : Has P w K mg base k "multiplied" ["one", "other"] (spR2 K (fun _ _ => True) (fun a b => a * b))) (h_minus : Has P w K mg base k "minus" ["one", "other"] (spR2 K (fun _ _ => True) (fun a b => a - b))) (z_range : mg "range" = none) (z_tuple : mg "tuple" = none) :
    Has P w K mg base (k + 1) "loan_rows" ["amount", "rate", "years"] (spLoanRows K) := by
  refine d.has sc_loan_rows (fun vs H Q E h => ?_) (fun f cdv A outer s H vs Q E hr h => ?_)
  · obtain ⟨A, v, r, n, rfl, _⟩ := h
    rfl
  obtain ⟨A, v, r, n, rfl, h1, h2, hn, hm, hv, ok, q⟩ := h
  refine ⟨_, (pss_cons (ps_expr (pe_has h_check_loan hr (pa_cons (pv 0) (pa_cons (pv 1) (pa_cons (pv 2) pa_nil)))))
      (pss_cons (ps_set (i := 3) sc_loan_rows.nd rfl (.inl rfl) (pe_has h_yearly_payment hr (pa_cons (pv 0) (pa_cons (pv 1) (pa_cons (pv 2) pa_nil)))))
      (pss_cons (ps_set (i := 4) sc_loan_rows.nd rfl (.inl rfl) (pe_tup (pa_cons (pv 0) (pa_cons pe_int pa_nil))))
      (pss_cons (ps_set (i := 5) sc_loan_rows.nd rfl (.inl rfl) (pe_lst pa_nil))
      (pss_cons (ps_for PassesOwn.never rfl (pi_range1 (by rfl) z_range (pa_cons (pv 2) pa_nil)) (pg_name (i := 6) sc_loan_rows.nd rfl (.inl rfl)) (pss_cons (ps_set (i := 7) sc_loan_rows.nd rfl (.inl rfl) (pe_has h_multiplied hr (pa_cons (pv 1) (pa_cons (pv 4) pa_nil))))
      (pss_cons (ps_set (i := 8) sc_loan_rows.nd rfl (.inl rfl) (pe_has h_minus hr (pa_cons (pv 3) (pa_cons (pv 7) pa_nil))))
      (pss_cons (ps_set (i := 4) sc_loan_rows.nd rfl (.inl rfl) (pe_has h_minus hr (pa_cons (pv 4) (pa_cons (pv 8) pa_nil))))
      (pss_one (ps_expr (pe_bm PySem.F.plainAttrs_list PySem.F.slot_list_append PySem.F.type_list_append mt_append (pv 5) (pa_cons (pe_tup (pa_cons (pv 3) (pa_cons (pv 7) (pa_cons (pv 8) (pa_cons (pv 4) pa_nil))))) pa_nil))))))))
      (pss_one (ps_ret (pe_callTy call_tuple_of (by rfl) z_tuple (by decide +kernel) (pa_cons (pv 5) pa_nil))))))))), ?_⟩
  refine ⟨_, rfl, _, rfl, _, rfl, A, v, r, n, rfl, h1, h2, hn, hm, hv, ok, ?_⟩
  refine ⟨_, rfl, _, rfl, _, rfl, A, v, r, n, rfl, h1, h2, hn, hm, hv, ok, fun H1 paid l1 hP => ?_⟩
  refine ⟨_, rfl, (by show 2 ≤ sizeLine; decide), fun z nz => ?_⟩
  have l2 := Le.new (o := .tup [.int A, .int 1]) nz
  refine ⟨Nat.zero_le _, fun o no => ?_⟩
  have l3 := Le.new (o := .lst []) no
  have e0 : (((n : Nat) : Int)).toNat = n := by omega
  refine ⟨_, rfl, _, rfl, by omega, by omega, ?_⟩
  rw [e0]
  have noH : H o = none := (l1.trans l2).free no
  refine for_range (lo := 0) (n := n) (fun i σ H' => ∃ left y6 y7 y8 xs, σ = [some (.int A), some v, some (.int ((n : Nat) : Int)), some paid, some left, some (.ref o), y6, y7, y8] ∧ Le H H' ∧ RT K H' (paidY A r n) paid ∧ RT K H' (lfY A r n i) left ∧
    H' o = some (.lst xs) ∧ xs.length = i ∧ ∀ (j : Nat) (x : V), xs[j]? = some x → LoanRow K A r n H' j x) ⟨.ref z, none, none, none, [], rfl, ((l1.trans l2).trans l3), hP.up (l2.trans l3), RT.up ⟨z, rfl, ?_⟩ l3, upd_same, rfl, fun j x e => by simp at e⟩ ?_ ?_
  · show ST K _ z [.int (A : Rat).num, .int (((A : Rat).den : Nat) : Int)]
    rw [Rat.num_intCast, Rat.den_intCast]
    exact ST.new
  · rintro i σ H' hi ⟨left, y6, y7, y8, xs, rfl, l, hP', hL, ho, hx, hrow⟩
    have bL := lfY_bd ok h1 h2 hn hm (show i ≤ n by omega) (r := r)
    have bP := paidY_bd ok h1 h2 hn hm (r := r)
    refine ⟨_, rfl, _, rfl, v, left, r, lfY A r n i, 10, _, rfl, hv.up l, hL, ok.bd, bL, by omega, trivial, fun Ha ti la ha => ?_⟩
    refine ⟨_, rfl, _, rfl, paid, ti, paidY A r n, _, _, _, rfl, hP'.up la, ha, bP, ok.bd.mul bL, by omega, trivial, fun Hb tp lb hb => ?_⟩
    refine ⟨_, rfl, _, rfl, left, tp, lfY A r n i, _, _, _, rfl, (hL.up la).up lb, hb, bL, bP.sub (ok.bd.mul bL), by omega, trivial, fun Hc tl lc hc => ?_⟩
    have labc := (la.trans lb).trans lc
    have hoc : Hc o = some (.lst xs) := labc.lst ho
    refine ⟨_, rfl, .inl ⟨rfl, _, SqL.of hoc⟩, ?_⟩
    refine ⟨_, rfl, _, rfl, _, rfl, _, rfl, (by show 4 ≤ sizeLine; decide), fun t nt => ?_⟩
    have lt := Le.new (o := .tup [paid, ti, tp, tl]) nt
    have hot := lt.lst hoc
    refine ⟨o, xs, .ref t, rfl, rfl, hot, small1000 (by omega), ?_⟩
    have lall : Le H' (upd Hc t (.tup [paid, ti, tp, tl])) := labc.trans lt
    have row : LoanRow K A r n (upd Hc t (.tup [paid, ti, tp, tl])) i (.ref t) := ⟨t, paid, ti, tp, tl, rfl, ST.new, (hP'.up labc).up lt, ((ha.up lb).up lc).up lt, (hb.up lc).up lt, hc.up lt⟩
    have keep : ∀ {rr : Rat} {u : V}, RT K (upd Hc t (.tup [paid, ti, tp, tl])) rr u → RT K (upd (upd Hc t (.tup [paid, ti, tp, tl])) o (.lst (xs ++ [.ref t]))) rr u := fun h => LeB.at.rt hot h
    have keep4 : ∀ {a b c d : Rat} {u : V}, R4 K (upd Hc t (.tup [paid, ti, tp, tl])) a b c d u → R4 K (upd (upd Hc t (.tup [paid, ti, tp, tl])) o (.lst (xs ++ [.ref t]))) a b c d u := fun ⟨q, x, y, z, u, e, st, g1, g2, g3, g4⟩ =>
      ⟨q, x, y, z, u, e, LeB.at.st hot st, keep g1, keep g2, keep g3, keep g4⟩
    refine ⟨tl, _, _, _, xs ++ [.ref t], rfl, (l.trans lall).own noH, keep ((hP'.up labc).up lt), keep (hc.up lt), upd_same, by rw [List.length_append, hx]; rfl, fun j x e => ?_⟩
    by_cases hj : j < xs.length
    · rw [List.getElem?_append_left hj] at e
      exact keep4 ((hrow j x e).up lall)
    · have hj2 : j = xs.length := by
        have := (List.getElem?_eq_some_iff.mp e).1
        rw [List.length_append] at this
        simp at this
        omega
      subst hj2
      rw [List.getElem?_append_right (Nat.le_refl _), Nat.sub_self] at e
      have ex : V.ref t = x := Option.some.inj e
      subst ex
      rw [hx]
      exact keep4 row
  · rintro σ H' ⟨left, y6, y7, y8, xs, rfl, l, hP', hL, ho, hx, hrow⟩
    refine ⟨_, rfl, o, xs, rfl, .inl ⟨SqL.of ho, fun t nt => ?_⟩⟩
    exact q _ t xs (l.trans (Le.new nt)) upd_same hx fun j x e => R4.up (hrow j x e) (Le.new nt)
abbrev s_law_ratio : Stmt := topS 32
abbrev N_law_ratio : List Str := ["top", "bottom", "one", "other"]
theorem sc_law_ratio : FnScope N_law_ratio ["top", "bottom"] (defScope s_law_ratio) := ⟨rfl, rfl, rfl, by decide +kernel, rfl, by decide +kernel, by decide +kernel⟩
theorem has_law_ratio (d : Df K mg "_law_ratio" s_law_ratio ["top", "bottom"]) (z_abs : mg "abs" = none) (z_int : mg "int" = none) : Has P w K mg base (k + 1) "_law_ratio" ["top", "bottom"] (spMake K) := by
  refine d.has sc_law_ratio (fun vs H Q E h => ?_) (fun f cdv A outer s H vs Q E hr h => ?_)
  · obtain ⟨t, b, n, rfl, _⟩ := h
    rfl
  obtain ⟨t, b, n, rfl, hb, hn, hl, q⟩ := h
  refine ⟨_, (pss_cons (ps_par (i := 2) (j := 3) (by rfl) sc_law_ratio.nd rfl rfl (by decide) rfl rfl (pa_cons (pe_callB call_abs (by rfl) z_abs (by decide +kernel) (pa_cons (pv 0) pa_nil)) (pa_cons (pe_callB call_abs (by rfl) z_abs (by decide +kernel) (pa_cons (pv 1) pa_nil)) pa_nil)) (by rfl))
      (pss_cons (ps_while PassesOwn.never (pt_cmpR op_ne (pv 3) pe_int (nomark _)) (pss_one (ps_par (i := 2) (j := 3) (by rfl) sc_law_ratio.nd rfl rfl (by decide) rfl rfl (pa_cons (pv 3) (pa_cons (pe_op op_mod (pe_callTy call_int1 (by rfl) z_int (by decide +kernel) (pa_cons (pv 2) pa_nil)) (pv 3)) pa_nil)) (by rfl))))
      (pss_one (ps_ret (pe_ifExp (pt_cmpR op_gt (pv 1) pe_int (nomark _)) (pe_tup (pa_cons (pe_op op_fdivZ (pv 0) (pv 2)) (pa_cons (pe_op op_fdivZ (pv 1) (pv 2)) pa_nil))) (pe_tup (pa_cons (pe_op op_sub pe_int (pe_op op_fdivZ (pv 0) (pv 2))) (pa_cons (pe_op op_sub pe_int (pe_op op_fdivZ (pv 1) (pv 2))) pa_nil)))))))), ?_⟩
  have hg : ((Nat.gcd t.natAbs b.natAbs : Nat) : Int) ≠ 0 := by
    have : 0 < Nat.gcd t.natAbs b.natAbs := Nat.gcd_pos_of_pos_right _ (Int.natAbs_pos.mpr hb)
    omega
  have hgl : Nat.gcd t.natAbs b.natAbs ≤ b.natAbs := Nat.gcd_le_right _ (Int.natAbs_pos.mpr hb)
  have f1 := fdiv_top (t := t) hb
  have f2 := fdiv_bottom (t := t) hb
  have dt := gcd_dvd_int t b
  have abs_int : ∀ z : Int, (if z < 0 then -z else z) = ((z.natAbs : Nat) : Int) := fun z => by split <;> omega
  refine ⟨_, rfl, _, rfl, _, rfl, _, rfl, _, _, rfl, ?_⟩
  rw [abs_int, abs_int]
  refine ⟨fun m σ H' => ∃ one : Nat, σ = [some (.int t), some (.int b), some (.int (one : Int)), some (.int ((m : Nat) : Int))] ∧ Nat.gcd one m = Nat.gcd t.natAbs b.natAbs ∧ H' = H, ⟨b.natAbs, t.natAbs, rfl, rfl, rfl⟩, ?_⟩
  rintro m σ H' ⟨one, rfl, eg, rfl⟩
  refine ⟨_, rfl, rfl, _, rfl, ?_⟩
  refine ite2 (fun c => ?_) (fun c => ?_)
  · have hm : m ≠ 0 := fun z => by
      subst z
      simp at c
    refine ⟨fun σ' H'' => σ' = [some (.int t), some (.int b), some (.int (m : Int)), some (.int ((one % m : Nat) : Int))] ∧ H'' = H', fun σ' H'' ⟨e1, e2⟩ => ⟨one % m, Nat.mod_lt _ (by omega), m, e1, ?_, e2⟩, ?_⟩
    · rw [← eg, Nat.gcd_comm one m, Nat.gcd_rec m one, Nat.gcd_comm]
    · refine ⟨_, rfl, _, rfl, .inl ⟨_, rfl, _, rfl, _, _, rfl, rfl, by omega, _, _, rfl, ?_, rfl⟩⟩
      rfl
  · have hm : m = 0 := by
      refine Nat.eq_zero_of_not_pos fun z => c ?_
      rw [Bool.not_eq_true', decide_eq_false_iff_not]
      intro e
      have := V.int.inj e
      omega
    subst hm
    rw [Nat.gcd_zero_right] at eg
    subst eg
    refine ⟨_, rfl, _, _, rfl, rfl, _, rfl, ?_⟩
    refine ite2 (fun c2 => ?_) (fun c2 => ?_)
    · have c' : 0 < b := of_decide_eq_true c2
      rw [Int.sign_eq_one_of_pos c', Int.one_mul] at f1 f2
      refine ⟨_, rfl, _, rfl, _, _, rfl, rfl, cdivz (by omega) (n := n) (by omega) (by omega), _, rfl, _, rfl, _, _, rfl, rfl, cdivz (by omega) (n := n) (by omega) (by omega), (by show 2 ≤ sizeLine; decide), fun p np => ?_⟩
      exact q _ _ (Le.new np) (RT.new f1 f2)
    · have c' : b < 0 := by
        have := of_decide_eq_false (Bool.eq_false_iff.mpr c2)
        omega
      rw [Int.sign_eq_neg_one_of_neg c', show ∀ z : Int, -1 * z = -z by intro z; omega] at f1 f2
      refine ⟨_, rfl, _, rfl, _, _, rfl, rfl, cdivz (by omega) (n := n) (by omega) (by omega), _, _, rfl, rfl, _, rfl, _, rfl, _, _, rfl, rfl, cdivz (by omega) (n := n) (by omega) (by omega), _, _, rfl, rfl, (by show 2 ≤ sizeLine; decide), fun p np => ?_⟩
      exact q _ _ (Le.new np) (RT.new ((fdiv_neg_of hg dt.1).trans f1) ((fdiv_neg_of hg dt.2).trans f2))
abbrev s_law_values : Stmt := topS 37
abbrev N_law_values : List Str := ["payments", "rate", "found", "here", "one"]
theorem sc_law_values : FnScope N_law_values ["payments", "rate"] (defScope s_law_values) := ⟨rfl, rfl, rfl, by decide +kernel, rfl, by decide +kernel, by decide +kernel⟩
theorem has_law_values (d : Df K mg "_law_values" s_law_values ["payments", "rate"]) (h_law_ratio : Has P w K mg base k "_law_ratio" ["top", "bottom"] (spMake K)) : Has P w K mg base (k + 1) "_law_values" ["payments", "rate"] (spValues K) := by
  refine d.has sc_law_values (fun vs H Q E h => ?_) (fun f cdv A outer s H vs Q E hr h => ?_)
  · obtain ⟨p, v, ns, r, rfl, _⟩ := h
    rfl
  obtain ⟨p, v, ns, r, rfl, hp, hl, hok, hv, ok, q⟩ := h
  refine ⟨_, (pss_cons (ps_par (i := 2) (j := 3) (by rfl) sc_law_values.nd rfl rfl (by decide) rfl rfl (pa_cons (pe_lst pa_nil) (pa_cons (pe_tup (pa_cons pe_int (pa_cons pe_int pa_nil))) pa_nil)) (by rfl))
      (pss_cons (ps_for PassesOwn.never rfl (pi_tup (pv 0)) (pg_name (i := 4) sc_law_values.nd rfl (.inl rfl)) (pss_cons (ps_expr (pe_bm PySem.F.plainAttrs_list PySem.F.slot_list_append PySem.F.type_list_append mt_append (pv 2) (pa_cons (pe_has h_law_ratio hr (pa_cons (pe_op op_mulW (pv 4) (pe_ix (r := rIxT K) ix_tup (pv 3) pe_int (fun _ _ => rfl))) (pa_cons (pe_ix (r := rIxT K) ix_tup (pv 3) pe_int (fun _ _ => rfl)) pa_nil))) pa_nil)))
      (pss_one (ps_set (i := 3) sc_law_values.nd rfl (.inl rfl) (pe_has h_law_ratio hr (pa_cons (pe_op op_mulW (pe_ix (r := rIxT K) ix_tup (pv 3) pe_int (fun _ _ => rfl)) (pe_ix (r := rIxT K) ix_tup (pv 1) pe_int (fun _ _ => rfl))) (pa_cons (pe_op op_mulW (pe_ix (r := rIxT K) ix_tup (pv 3) pe_int (fun _ _ => rfl)) (pe_op op_add (pe_ix (r := rIxT K) ix_tup (pv 1) pe_int (fun _ _ => rfl)) (pe_ix (r := rIxT K) ix_tup (pv 1) pe_int (fun _ _ => rfl)))) pa_nil)))))))
      (pss_one (ps_ret (pv 2))))), ?_⟩
  have hlen : (ns.map V.int).length = ns.length := List.length_map _
  refine ⟨Nat.zero_le _, fun o no => ⟨(by show 2 ≤ sizeLine; decide), fun z nz => ⟨_, _, rfl, ?_⟩⟩⟩
  have l1 := Le.new (o := .lst []) no
  have l2 := Le.new (o := .tup [.int 1, .int 1]) nz
  have l12 := l1.trans l2
  have hoz : (upd (upd H o (.lst [])) z (.tup [.int 1, .int 1])) o = some (.lst []) := l2.lst upd_same
  refine ⟨_, rfl, p, rfl, ⟨_, (hp.up l12).sq⟩, ?_⟩
  have bd : Bd 11 (1 + r)⁻¹ := ok.disc
  have pw : ∀ i, i < ns.length → Bd (11 * i + 1) ((1 + r)⁻¹ ^ i) := fun i _ => Bd.pow bd i
  refine for_tup (K := K) (a := p) (xs := ns.map V.int) (fun i σ H' => ∃ here y us, σ = [some (.ref p), some v, some (.ref o), some here, y] ∧ Le H H' ∧ H' o = some (.lst us) ∧ us.length = i ∧ RTs K H' (vals (1 + r)⁻¹ 1 (ns.take i)) us ∧ RT K H' ((1 + r)⁻¹ ^ i) here)
    ⟨.ref z, none, [], rfl, l12, hoz, rfl, .nil, ?_⟩ ?_ ?_ ?_
  · rw [Rat.pow_zero]
    exact ⟨z, rfl, ST.new⟩
  · rintro i σ H' hi ⟨here, y, us, rfl, l, _⟩
    exact (hp.up l).sq
  · rintro i x σ H' hx ⟨here, y, us, rfl, l, ho, hu, hus, ⟨a, rfl, ha⟩⟩
    rw [List.getElem?_map] at hx
    obtain ⟨n, hn, rfl⟩ : ∃ n, ns[i]? = some n ∧ V.int n = x := by
      cases e : ns[i]? with
      | none => rw [e] at hx; cases hx
      | some n => rw [e] at hx; exact ⟨n, rfl, Option.some.inj hx⟩
    have hi : i < ns.length := (List.getElem?_eq_some_iff.mp hn).1
    have hnb : n.natAbs < 2 ^ 20 := hok n (List.mem_of_getElem? hn)
    obtain ⟨b, rfl, hb⟩ := hv
    have sa := ha.sq
    have bp := pw i hi
    have hden : (((1 + r)⁻¹ ^ i).den : Int) ≠ 0 := den_ne _
    refine ⟨_, rfl, .inl ⟨rfl, _, SqL.of ho⟩, ?_⟩
    refine ⟨_, rfl, _, rfl, a, _, 0, _, rfl, rfl, sa, rfl, _, _, rfl, rfl, cmul (a := 20) (b := 11 * i + 1) hnb bp.1 (by omega), _, rfl, a, _, 1, _, rfl, rfl, sa, rfl, ?_⟩
    refine ⟨_, _, 11 * i + 1, rfl, hden, bp.2, by omega, fun H2 u l2 hu2 => ?_⟩
    have ho2 := l2.lst ho
    refine ⟨o, us, u, rfl, rfl, ho2, small1000 (by omega), ?_⟩
    have keep : ∀ {rr : Rat} {w : V}, RT K H2 rr w → RT K (upd H2 o (.lst (us ++ [u]))) rr w := fun h => LeB.at.rt ho2 h
    have sa2 : SqT K (upd H2 o (.lst (us ++ [u]))) a _ := (LeB.at.st ho2 (ha.up l2)).sq
    have sb2 : SqT K (upd H2 o (.lst (us ++ [u]))) b _ := (LeB.at.st ho2 ((hb.up l).up l2)).sq
    have dp := disc_parts ok.pos
    refine ⟨_, rfl, a, _, 0, _, rfl, rfl, sa2, rfl, _, rfl, b, _, 1, _, rfl, rfl, sb2, rfl, _, _, rfl, rfl, cmul (a := 11 * i + 1) (b := 11) bp.1 ?_ (by omega), ?_⟩
    · have := bd.1
      rw [dp.1] at this
      exact this
    have bsum : (r.num + r.den).natAbs < 2 ^ 11 := by
      have := bd.2
      have e := dp.2
      omega
    refine ⟨_, rfl, a, _, 1, _, rfl, rfl, sa2, rfl, _, rfl, b, _, 0, _, rfl, rfl, sb2, rfl, _, rfl, b, _, 1, _, rfl, rfl, sb2, rfl, _, _, rfl, rfl, _, _, rfl, rfl, cmul (a := 11 * i + 1) (b := 11) (by exact bp.2) bsum (by omega), ?_⟩
    refine ⟨_, _, 11 * i + 1 + 11, rfl, Int.mul_ne_zero hden (by have := ok.pos; omega), ?_, by omega, fun H3 h3 l3 hh3 => ?_⟩
    · rw [Int.natAbs_mul]
      exact mul_lt_pow (by exact bp.2) bsum
    · rw [← dp.2, ← dp.1, mul_eq_divInt, ← Rat.pow_succ] at hh3
      have lo : Le H (upd H2 o (.lst (us ++ [u]))) := (l.trans l2).own no
      refine ⟨h3, some (.int n), us ++ [u], rfl, lo.trans l3, l3.lst upd_same, by rw [List.length_append, hu]; rfl, ?_, hh3⟩
      have et : ns.take (i + 1) = ns.take i ++ [n] := by rw [List.take_add_one, hn]; rfl
      rw [et, vals_append, List.length_take, Nat.min_eq_left (by omega), Rat.one_mul]
      have hu3 : RT K (upd H2 o (.lst (us ++ [u]))) ((n : Rat) * (1 + r)⁻¹ ^ i) u := by
        have e1 := mul_eq_divInt (n : Rat) ((1 + r)⁻¹ ^ i)
        rw [Rat.num_intCast, Rat.den_intCast, Int.natCast_one, Int.one_mul] at e1
        rw [e1] at hu2
        exact keep hu2
      exact (paired_imp (fun _ _ g => (keep (RT.up g l2)).up l3) hus).snoc (hu3.up l3)
  · rintro σ H' ⟨here, y, us, rfl, l, ho, hu, hus, _⟩
    rw [hlen, List.take_length] at hus
    exact ⟨_, rfl, q H' o us l no ho hus⟩
abbrev s_law_plus : Stmt := topS 33
abbrev N_law_plus : List Str := ["one", "other"]
theorem sc_law_plus : FnScope N_law_plus ["one", "other"] (defScope s_law_plus) := ⟨rfl, rfl, rfl, by decide +kernel, rfl, by decide +kernel, by decide +kernel⟩
theorem has_law_plus (d : Df K mg "_law_plus" s_law_plus ["one", "other"]) (h_law_ratio : Has P w K mg base k "_law_ratio" ["top", "bottom"] (spMake K)) : Has P w K mg base (k + 1) "_law_plus" ["one", "other"] (spR2 K (fun _ b => True) (fun a b => a + b)) := by
  refine d.has sc_law_plus (fun vs H Q E h => ?_) (fun f cdv A outer s H vs Q E hr h => ?_)
  · obtain ⟨x, y, a, b, n, m, rfl, _⟩ := h
    rfl
  obtain ⟨x, y, a, b, n, m, rfl, ⟨p, rfl, ha⟩, ⟨r, rfl, hb⟩, ba, bb, hl, ok, q⟩ := h
  refine ⟨_, (pss_one (ps_ret (pe_has h_law_ratio hr (pa_cons (pe_op op_add (pe_op op_mulW (pe_ix (r := rIxT K) ix_tup (pv 0) pe_int (fun _ _ => rfl)) (pe_ix (r := rIxT K) ix_tup (pv 1) pe_int (fun _ _ => rfl))) (pe_op op_mulW (pe_ix (r := rIxT K) ix_tup (pv 1) pe_int (fun _ _ => rfl)) (pe_ix (r := rIxT K) ix_tup (pv 0) pe_int (fun _ _ => rfl)))) (pa_cons (pe_op op_mulW (pe_ix (r := rIxT K) ix_tup (pv 0) pe_int (fun _ _ => rfl)) (pe_ix (r := rIxT K) ix_tup (pv 1) pe_int (fun _ _ => rfl))) pa_nil))))), ?_⟩
  have sa := ha.sq
  have sb := hb.sq
  refine ⟨_, rfl, p, _, 0, _, rfl, rfl, sa, rfl, _, rfl, r, _, 1, _, rfl, rfl, sb, rfl, _, _, rfl, rfl, cmul (a := n) (b := m) ba.1 (by exact bb.2) (by omega), _, rfl, r, _, 0, _, rfl, rfl, sb, rfl, _, rfl, p, _, 1, _, rfl, rfl, sa, rfl, _, _, rfl, rfl, cmul (a := m) (b := n) bb.1 (by exact ba.2) (by omega), _, _, rfl, rfl, ?_⟩
  refine ⟨_, rfl, p, _, 1, _, rfl, rfl, sa, rfl, _, rfl, r, _, 1, _, rfl, rfl, sb, rfl, _, _, rfl, rfl, cmul (a := n) (b := m) (by exact ba.2) (by exact bb.2) (by omega), ?_⟩
  refine ⟨_, _, n + m + 1, rfl, dens_ne a b, (add_parts ba bb).2, by omega, fun H2 v l hv => ?_⟩
  rw [add_eq_divInt] at hv
  exact q H2 v l hv
abbrev s_law_alike : Stmt := topS 31
abbrev N_law_alike : List Str := ["found", "due", "k"]
theorem sc_law_alike : FnScope N_law_alike ["found", "due"] (defScope s_law_alike) := ⟨rfl, rfl, rfl, by decide +kernel, rfl, by decide +kernel, by decide +kernel⟩
theorem has_law_alike1 (d : Df K mg "_law_alike" s_law_alike ["found", "due"]) (z_isinstance : mg "isinstance" = none) (z_tuple : mg "tuple" = none) (z_list : mg "list" = none) (z_len : mg "len" = none) (z_range : mg "range" = none) (z_str : mg "str" = none) (z_int : mg "int" = none) (z_bool : mg "bool" = none)
    {n : Nat} {sp : Sp} (h_law_alike : Has P w K mg base k "_law_alike" ["found", "due"] sp) (hsp : ∀ m, n = m + 1 → ∀ vs H Q E, spAlike K m vs H Q E → sp vs H Q E) : Has P w K mg base (k + 1) "_law_alike" ["found", "due"] (spAlike K n) := by
  refine d.has sc_law_alike (fun vs H Q E h => ?_) (fun f cdv A outer s H vs Q E hr h => ?_)
  · obtain ⟨x, y, rfl, _⟩ := h
    rfl
  obtain ⟨x, y, rfl, ha, q⟩ := h
  refine ⟨_, (pss_cons (ps_if (pt_val (pe_callB call_isiT (by rfl) z_isinstance (by decide +kernel) (pa_cons (pv 1) (pa_cons (pe_tup (pa_cons (pe_bltn (v := .ty "tuple") (u := .type "tuple") (by rfl) z_tuple (by decide +kernel) rfl) (pa_cons (pe_bltn (v := .ty "list") (u := .type "list") (by rfl) z_list (by decide +kernel) rfl) pa_nil))) pa_nil)))) (pss_cons (ps_if (PW.pt (pw_or (pt_not (pt_val (pe_callB call_isiT (by rfl) z_isinstance (by decide +kernel) (pa_cons (pv 0) (pa_cons (pe_tup (pa_cons (pe_bltn (v := .ty "tuple") (u := .type "tuple") (by rfl) z_tuple (by decide +kernel) rfl) (pa_cons (pe_bltn (v := .ty "list") (u := .type "list") (by rfl) z_list (by decide +kernel) rfl) pa_nil))) pa_nil))))) (pw_or1 (pt_cmpR op_ne (pe_callB call_isi (by rfl) z_isinstance (by decide +kernel) (pa_cons (pv 0) (pa_cons (pe_bltn (v := .ty "list") (u := .type "list") (by rfl) z_list (by decide +kernel) rfl) pa_nil))) (pe_callB call_isi (by rfl) z_isinstance (by decide +kernel) (pa_cons (pv 1) (pa_cons (pe_bltn (v := .ty "list") (u := .type "list") (by rfl) z_list (by decide +kernel) rfl) pa_nil))) (nomark _))))) (pss_one (ps_ret pe_bl)) pss_nil)
      (pss_cons (ps_if (pt_cmpR op_ne (pe_callB call_len_seq (by rfl) z_len PySem.boot_len (pa_cons (pv 0) pa_nil)) (pe_callB call_len_seq (by rfl) z_len PySem.boot_len (pa_cons (pv 1) pa_nil)) (nomark _)) (pss_one (ps_ret pe_bl)) pss_nil)
      (pss_one (ps_ret (pe_cmpR (op_eqD (hu64 hr)) (pe_lc (own := [("k", 2)]) (g := (gName 2)) rfl sc_law_alike.nd (pi_range1 (by rfl) z_range (pa_cons (pe_callB call_len_seq (by rfl) z_len PySem.boot_len (pa_cons (pv 1) pa_nil)) pa_nil)) (blkOk_by (N := N_law_alike) (sc := defScope s_law_alike) (by decide +kernel)) (fun _ _ _ _ _ => pg_name (i := 2) sc_law_alike.nd rfl (Or.inl rfl)) (fun _ _ _ _ _ => (pts_one (pt_not (pt_val (pe_has h_law_alike hr (pa_cons (pe_ix (r := rIxT K) ix_tup (pv 0) (pv 2) (fun _ _ => rfl)) (pa_cons (pe_ix (r := rIxT K) ix_tup (pv 1) (pv 2) (fun _ _ => rfl)) pa_nil))))))) (fun _ _ _ _ _ => (pv 2))) (pe_lst pa_nil) (nomark _)))))) pss_nil)
      (pss_cons (ps_if (PW.pt (pw_or (pt_cmpR op_isN (pv 1) pe_non (nomark _)) (pw_or1 (pt_val (pe_callB call_isi (by rfl) z_isinstance (by decide +kernel) (pa_cons (pv 1) (pa_cons (pe_bltn (v := .ty "str") (u := .type "str") (by rfl) z_str (by decide +kernel) rfl) pa_nil))))))) (pss_one (ps_ret (pe_and (pe_cmpR op_eq (pv 0) (pv 1) (nomark _)) (pe_one (pe_cmpR op_eq (pe_callB call_isi (by rfl) z_isinstance (by decide +kernel) (pa_cons (pv 0) (pa_cons (pe_bltn (v := .ty "str") (u := .type "str") (by rfl) z_str (by decide +kernel) rfl) pa_nil))) (pe_callB call_isi (by rfl) z_isinstance (by decide +kernel) (pa_cons (pv 1) (pa_cons (pe_bltn (v := .ty "str") (u := .type "str") (by rfl) z_str (by decide +kernel) rfl) pa_nil))) (nomark _)))))) pss_nil)
      (pss_one (ps_ret (pe_and (pe_callB call_isi (by rfl) z_isinstance (by decide +kernel) (pa_cons (pv 0) (pa_cons (pe_bltn (v := .ty "int") (u := .type "int") (by rfl) z_int (by decide +kernel) rfl) pa_nil))) (pe_and (pe_cmpR op_eq (pe_callB call_isi (by rfl) z_isinstance (by decide +kernel) (pa_cons (pv 0) (pa_cons (pe_bltn (v := .ty "bool") (u := .type "bool") (by rfl) z_bool (by decide +kernel) rfl) pa_nil))) (pe_callB call_isi (by rfl) z_isinstance (by decide +kernel) (pa_cons (pv 1) (pa_cons (pe_bltn (v := .ty "bool") (u := .type "bool") (by rfl) z_bool (by decide +kernel) rfl) pa_nil))) (nomark _)) (pe_one (pe_cmpR op_eq (pv 0) (pv 1) (nomark _))))))))), ?_⟩
  have two : (2 : Nat) ≤ sizeLine := by decide
  have pc : Paired ClsV [V.ty "tuple", V.ty "list"] [Value.type "tuple", Value.type "list"] := .cons (.ty _) (.cons (.ty _) .nil)
  have ka : ∀ (T : String) (b1 b2 : Bool), PySem.W.kitOne K (.type T) (.type "tuple") = some b1 → PySem.W.kitOne K (.type T) (.type "list") = some b2 → PySem.W.kitAny K (.type T) [.type "tuple", .type "list"] = some (b1 || b2) := fun T b1 b2 h1 h2 =>
    kitAny_cons h1 (fun e => by
      subst e
      rw [Bool.false_or]
      exact kitAny_cons h2 (fun e2 => by subst e2; exact kitAny_nil) (fun e2 => e2)) (fun e => by subst e; rfl)
  have flat : ∀ z, x = z → y = z → Flat z → (match z with | .int _ => True | .bl _ => True | .non => True | .str _ => True | _ => False) := fun z _ _ hz => by cases z <;> first | trivial | exact hz
  have main : (x = y ∧ Flat x) ∨ ∃ m, n = m + 1 ∧ ∃ a b xs ys, x = .ref a ∧ y = .ref b ∧ ST K H a xs ∧ ST K H b ys ∧ xs.length ≤ 1000 ∧ Paired (Al K H m) xs ys := by
    cases n with
    | zero => exact .inl ha
    | succ m =>
      rcases ha with ha | ha
      · exact .inl ha
      · exact .inr ⟨m, rfl, ha⟩
  rcases main with ⟨rfl, hx⟩ | ⟨m, rfl, a, b, xs, ys, rfl, rfl, ta, tb, hz, hp⟩
  · cases x with
    | int i =>
      refine ⟨_, rfl, two, fun tp np => ⟨_, tp, _, _, _, _, rfl, upd_same, pc, .base (.int i), ka "int" false false (kit_ty (by decide +kernel)) (kit_ty (by decide +kernel)), _, rfl, iteF ?_⟩⟩
      refine ⟨_, rfl, rfl, _, rfl, iteF ?_⟩
      refine ⟨_, rfl, _, _, _, _, _, rfl, .ty _, .base (.int i), kit_ty (r := false) (by decide +kernel), _, rfl, iteF ?_⟩
      refine ⟨_, rfl, _, _, _, _, _, rfl, .ty _, .base (.int i), kit_ty (r := true) (by decide +kernel), _, rfl, iteT ?_⟩
      refine ⟨_, rfl, _, _, _, _, _, rfl, .ty _, .base (.int i), kit_ty (r := false) (by decide +kernel), _, rfl, _, _, _, _, _, rfl, .ty _, .base (.int i), kit_ty (r := false) (by decide +kernel), rfl, _, rfl, iteT ?_⟩
      refine ⟨_, rfl, _, rfl, rfl, ?_⟩
      rw [decide_eq_true rfl]
      exact q _ (Le.new np)
    | bl i =>
      refine ⟨_, rfl, two, fun tp np => ⟨_, tp, _, _, _, _, rfl, upd_same, pc, .base (.bl i), ka "bool" false false (kit_ty (by decide +kernel)) (kit_ty (by decide +kernel)), _, rfl, iteF ?_⟩⟩
      refine ⟨_, rfl, rfl, _, rfl, iteF ?_⟩
      refine ⟨_, rfl, _, _, _, _, _, rfl, .ty _, .base (.bl i), kit_ty (r := false) (by decide +kernel), _, rfl, iteF ?_⟩
      refine ⟨_, rfl, _, _, _, _, _, rfl, .ty _, .base (.bl i), kit_ty (r := true) (by decide +kernel), _, rfl, iteT ?_⟩
      refine ⟨_, rfl, _, _, _, _, _, rfl, .ty _, .base (.bl i), kit_ty (r := true) (by decide +kernel), _, rfl, _, _, _, _, _, rfl, .ty _, .base (.bl i), kit_ty (r := true) (by decide +kernel), rfl, _, rfl, iteT ?_⟩
      refine ⟨_, rfl, _, rfl, rfl, ?_⟩
      rw [decide_eq_true rfl]
      exact q _ (Le.new np)
    | non =>
      refine ⟨_, rfl, two, fun tp np => ⟨_, tp, _, _, _, _, rfl, upd_same, pc, .base .non, ka "NoneType" false false (kit_ty (by decide +kernel)) (kit_ty (by decide +kernel)), _, rfl, iteF ?_⟩⟩
      refine ⟨_, rfl, rfl, _, rfl, iteT ?_⟩
      refine ⟨_, rfl, _, rfl, rfl, _, rfl, iteT ?_⟩
      refine ⟨_, rfl, _, _, _, _, _, rfl, .ty _, .base .non, kit_ty (r := false) (by decide +kernel), _, rfl, _, _, _, _, _, rfl, .ty _, .base .non, kit_ty (r := false) (by decide +kernel), rfl, ?_⟩
      exact q _ (Le.new np)
    | str i =>
      refine ⟨_, rfl, two, fun tp np => ⟨_, tp, _, _, _, _, rfl, upd_same, pc, .base (.str i), ka "str" false false (kit_ty (by decide +kernel)) (kit_ty (by decide +kernel)), _, rfl, iteF ?_⟩⟩
      refine ⟨_, rfl, rfl, _, rfl, iteF ?_⟩
      refine ⟨_, rfl, _, _, _, _, _, rfl, .ty _, .base (.str i), kit_ty (r := true) (by decide +kernel), _, rfl, iteT ?_⟩
      refine ⟨_, rfl, _, rfl, rfl, _, rfl, ?_⟩
      rw [decide_eq_true rfl]
      refine iteT ?_
      refine ⟨_, rfl, _, _, _, _, _, rfl, .ty _, .base (.str i), kit_ty (r := true) (by decide +kernel), _, rfl, _, _, _, _, _, rfl, .ty _, .base (.str i), kit_ty (r := true) (by decide +kernel), rfl, ?_⟩
      exact q _ (Le.new np)
    | byt i => exact hx.elim
    | flt i => exact hx.elim
    | ref i => exact hx.elim
    | ty i => exact hx.elim
  · have hl : xs.length = ys.length := paired_len hp
    refine ⟨_, rfl, two, fun tp np => ⟨_, tp, _, _, _, _, rfl, upd_same, pc, (tb.up (Le.new np)).ty, ka "tuple" true false (kit_ty (by decide +kernel)) (kit_ty (by decide +kernel)), _, rfl, iteT ?_⟩⟩
    have l1 := Le.new (o := .tup [V.ty "tuple", V.ty "list"]) np
    have ta1 := ta.up l1
    have tb1 := tb.up l1
    refine ⟨_, rfl, two, fun tp2 np2 => ⟨_, tp2, _, _, _, _, rfl, upd_same, pc, (ta1.up (Le.new np2)).ty, ka "tuple" true false (kit_ty (by decide +kernel)) (kit_ty (by decide +kernel)), _, rfl, iteF ?_⟩⟩
    have l2 := l1.trans (Le.new (o := .tup [V.ty "tuple", V.ty "list"]) np2)
    have ta2 := ta.up l2
    have tb2 := tb.up l2
    refine ⟨_, rfl, _, _, _, _, _, rfl, .ty _, ta2.ty, kit_ty (r := false) (by decide +kernel), _, rfl, _, _, _, _, _, rfl, .ty _, tb2.ty, kit_ty (r := false) (by decide +kernel), rfl, _, rfl, iteF ?_⟩
    refine ⟨_, rfl, a, _, rfl, .inr ta2.sq, _, rfl, b, _, rfl, .inr tb2.sq, rfl, _, rfl, ?_⟩
    rw [hl, decide_eq_true rfl]
    refine iteF ?_
    refine ⟨_, rfl, b, _, rfl, .inr tb2.sq, _, rfl, by omega, by omega, fun D nD => ?_⟩
    rw [show ((ys.length : Nat) : Int).toNat = ys.length by omega]
    refine lc_range (lo := 0) (n := ys.length) (fun i H' => Le H H' ∧ H' D = some (.lst [])) ⟨l2.trans (Le.new nD), upd_same⟩ ?_ ?_
    · rintro i H' hi ⟨l3, hD⟩
      have ga : xs[i]? = some (xs[i]'(by omega)) := List.getElem?_eq_getElem _
      have gb : ys[i]? = some ys[i] := List.getElem?_eq_getElem hi
      have hal := paired_at hp ga gb
      refine ⟨rfl, ?_⟩
      refine ⟨_, rfl, _, rfl, a, _, _, _, rfl, rfl, (ta.up l3).sq, at_of (j := i) (by omega) ga, _, rfl, _, rfl, b, _, _, _, rfl, rfl, (tb.up l3).sq, at_of (j := i) (by omega) gb, ?_⟩
      refine hsp m rfl _ _ _ _ ⟨_, _, rfl, Al.up l3 hal, fun H4 l4 => ?_⟩
      exact ⟨true, rfl, iteF ⟨l3.trans l4, l4.lst hD⟩⟩
    · rintro H' ⟨l3, hD⟩
      refine ⟨Nat.zero_le _, fun e ne => ?_⟩
      have hD2 : (upd H' e (.lst [])) D = some (.lst []) := (Le.new ne).lst hD
      refine ⟨.list [], .list [], .lst (SqL.of hD2) .nil, .lst (SqL.of upd_same) .nil, rfl, rfl, ?_⟩
      exact q _ (l3.trans (Le.new ne))
/-- by induction on the depth -/
theorem has_law_alike (d : Df K mg "_law_alike" s_law_alike ["found", "due"]) (z_isinstance : mg "isinstance" = none) (z_tuple : mg "tuple" = none) (z_list : mg "list" = none) (z_len : mg "len" = none) (z_range : mg "range" = none) (z_str : mg "str" = none) (z_int : mg "int" = none) (z_bool : mg "bool" = none) :
    ∀ n : Nat, Has P w K mg base (n + 1) "_law_alike" ["found", "due"] (spAlike K n)
  | 0 => has_law_alike1 d z_isinstance z_tuple z_list z_len z_range z_str z_int z_bool (sp := fun _ _ _ _ => False) (by
      obtain ⟨f, fd, F, m, b⟩ := d.ex
      exact ⟨f, fd, ⟨fun _ _ _ _ h => h.elim, fun _ _ _ _ _ _ _ _ _ _ _ _ _ h => h.elim⟩, m, F.kp, b⟩) (fun m e => by omega)
  | n + 1 => has_law_alike1 d z_isinstance z_tuple z_list z_len z_range z_str z_int z_bool (has_law_alike d z_isinstance z_tuple z_list z_len z_range z_str z_int z_bool n) (fun m e vs H Q E h => by
      have : n = m := by omega
      subst this
      exact h)
abbrev s_left_of_loan : Stmt := topS 27
abbrev N_left_of_loan : List Str := ["amount", "rate", "years", "time"]
theorem sc_left_of_loan : FnScope N_left_of_loan ["amount", "rate", "years", "time"] (defScope s_left_of_loan) := ⟨rfl, rfl, rfl, by decide +kernel, rfl, by decide +kernel, by decide +kernel⟩
theorem has_left_of_loan (d : Df K mg "left_of_loan" s_left_of_loan ["amount", "rate", "years", "time"]) (h_check_loan : Has P w K mg base k "check_loan" ["amount", "rate", "years"] (spCheckLoan K)) (h_check_time : Has P w K mg base k "check_time" ["time", "low", "high"] spCheckTime)
    (h_multiplied : Has P w K mg base k "multiplied" ["one", "other"] (spR2 K (fun _ _ => True) (fun a b => a * b))) (h_yearly_payment : Has P w K mg base k "yearly_payment" ["amount", "rate", "years"] (spYearly K)) (h_worth_of_ones : Has P w K mg base k "worth_of_ones" ["rate", "years"] (spOnes K)) :
    Has P w K mg base (k + 1) "left_of_loan" ["amount", "rate", "years", "time"] (spLeft K) := by
  refine d.has sc_left_of_loan (fun vs H Q E h => ?_) (fun f cdv A outer s H vs Q E hr h => ?_)
  · obtain ⟨A, v, r, n, t, rfl, _⟩ := h
    rfl
  obtain ⟨A, v, r, n, t, rfl, h1, h2, hn, hm, ht, hv, ok, q⟩ := h
  refine ⟨_, (pss_cons (ps_expr (pe_has h_check_loan hr (pa_cons (pv 0) (pa_cons (pv 1) (pa_cons (pv 2) pa_nil)))))
      (pss_cons (ps_expr (pe_has h_check_time hr (pa_cons (pv 3) (pa_cons pe_int (pa_cons (pv 2) pa_nil)))))
      (pss_one (ps_ret (pe_has h_multiplied hr (pa_cons (pe_has h_yearly_payment hr (pa_cons (pv 0) (pa_cons (pv 1) (pa_cons (pv 2) pa_nil)))) (pa_cons (pe_has h_worth_of_ones hr (pa_cons (pv 1) (pa_cons (pe_op op_sub (pv 2) (pv 3)) pa_nil))) pa_nil))))))), ?_⟩
  refine ⟨_, rfl, _, rfl, _, rfl, A, v, r, n, rfl, h1, h2, hn, hm, hv, ok, ?_⟩
  refine ⟨_, rfl, _, rfl, _, 0, _, rfl, by omega, by omega, ?_⟩
  refine ⟨_, rfl, _, rfl, _, rfl, A, v, r, n, rfl, h1, h2, hn, hm, hv, ok, fun H2 u l2 hu => ?_⟩
  refine ⟨_, rfl, _, rfl, _, rfl, _, _, rfl, rfl, v, r, n - t, ?_, by omega, hv.up l2, ok, fun H3 x l3 hx => ?_⟩
  · show [v, V.int (((n : Nat) : Int) - ((t : Nat) : Int))] = [v, V.int ((n - t : Nat) : Int)]
    rw [show ((n : Nat) : Int) - ((t : Nat) : Int) = ((n - t : Nat) : Int) by omega]
  · refine ⟨u, x, _, _, _, _, rfl, hu.up l3, hx, paidY_bd ok h1 h2 hn hm, ones_bd ok (by omega : n - t ≤ 40), by omega, trivial, fun H4 y l4 hy => ?_⟩
    refine q H4 y ((l2.trans l3).trans l4) ?_
    rw [lfY_closed ok hn ht]
    exact hy
abbrev s_law_by : Stmt := topS 34
abbrev N_law_by : List Str := ["one", "other"]
theorem sc_law_by : FnScope N_law_by ["one", "other"] (defScope s_law_by) := ⟨rfl, rfl, rfl, by decide +kernel, rfl, by decide +kernel, by decide +kernel⟩
theorem has_law_by (d : Df K mg "_law_by" s_law_by ["one", "other"]) (h_law_ratio : Has P w K mg base k "_law_ratio" ["top", "bottom"] (spMake K)) : Has P w K mg base (k + 1) "_law_by" ["one", "other"] (spR2 K (fun _ b => True) (fun a b => a * b)) := by
  refine d.has sc_law_by (fun vs H Q E h => ?_) (fun f cdv A outer s H vs Q E hr h => ?_)
  · obtain ⟨x, y, a, b, n, m, rfl, _⟩ := h
    rfl
  obtain ⟨x, y, a, b, n, m, rfl, ⟨p, rfl, ha⟩, ⟨r, rfl, hb⟩, ba, bb, hl, ok, q⟩ := h
  refine ⟨_, (pss_one (ps_ret (pe_has h_law_ratio hr (pa_cons (pe_op op_mulW (pe_ix (r := rIxT K) ix_tup (pv 0) pe_int (fun _ _ => rfl)) (pe_ix (r := rIxT K) ix_tup (pv 1) pe_int (fun _ _ => rfl))) (pa_cons (pe_op op_mulW (pe_ix (r := rIxT K) ix_tup (pv 0) pe_int (fun _ _ => rfl)) (pe_ix (r := rIxT K) ix_tup (pv 1) pe_int (fun _ _ => rfl))) pa_nil))))), ?_⟩
  have sa := ha.sq
  have sb := hb.sq
  refine ⟨_, rfl, p, _, 0, _, rfl, rfl, sa, rfl, _, rfl, r, _, 0, _, rfl, rfl, sb, rfl, _, _, rfl, rfl, cmul (a := n) (b := m) ba.1 bb.1 (by omega), ?_⟩
  refine ⟨_, rfl, p, _, 1, _, rfl, rfl, sa, rfl, _, rfl, r, _, 1, _, rfl, rfl, sb, rfl, _, _, rfl, rfl, cmul (a := n) (b := m) (by exact ba.2) (by exact bb.2) (by omega), ?_⟩
  refine ⟨_, _, n + m, rfl, dens_ne a b, (mul_parts ba bb).2, by omega, fun H2 v l hv => ?_⟩
  rw [mul_eq_divInt] at hv
  exact q H2 v l hv
abbrev s_law : Stmt := topS 38
abbrev N_law : List Str := ["script", "row", "amount", "rate", "years", "found", "left", "worth", "one", "paid", "k", "interest", "repaid"]
theorem sc_law : FnScope N_law ["script"] (defScope s_law) := ⟨rfl, rfl, rfl, by decide +kernel, rfl, by decide +kernel, by decide +kernel⟩
theorem ok_law {f : Addr} {fd : FuncData} (F : Fn K "law" s_law f fd) {T : List Addr}
    (h_law_pick : ∀ ns, Has P w K mg base k "_law_pick" ["row", "things"] (spPick K ns)) (h_law_taken : ∀ ns, Has P w K mg base k "_law_taken" ["row", "many"] (spTaken K ns)) (h_law_rate : ∀ ns, Has P w K mg base k "_law_rate" ["row"] (spRate K ns))
    (h_loan_rows : Has P w K mg base k "loan_rows" ["amount", "rate", "years"] (spLoanRows K)) (h_law_values : Has P w K mg base k "_law_values" ["payments", "rate"] (spValues K)) (h_law_plus : Has P w K mg base k "_law_plus" ["one", "other"] (spR2 K (fun _ _ => True) (fun a b => a + b)))
    (h_law_ratio : Has P w K mg base k "_law_ratio" ["top", "bottom"] (spMake K)) (h_law_alike : Has P w K mg base k "_law_alike" ["found", "due"] (spAlike K 2)) (h_left_of_loan : Has P w K mg base k "left_of_loan" ["amount", "rate", "years", "time"] (spLeft K))
    (h_law_by : Has P w K mg base k "_law_by" ["one", "other"] (spR2 K (fun _ _ => True) (fun a b => a * b))) (z_isinstance : mg "isinstance" = none) (z_tuple : mg "tuple" = none) (z_len : mg "len" = none) (z_range : mg "range" = none) : FnOk P w K mg base CX0 (k + 1) f fd ["script"] (spLawT K T) := by
  refine fn_ok F sc_law (fun vs H Q E h => ?_) (fun cdv A outer s H vs Q E hr h => ?_)
  · obtain ⟨a, ns, rfl, _⟩ := h
    rfl
  obtain ⟨a, ns, rfl, hS, h63, hT, q⟩ := h
  have h_law_pick := h_law_pick (a, ns)
  have h_law_taken := h_law_taken (a, ns)
  have h_law_rate := h_law_rate (a, ns)
  refine ⟨_, (pss_cons (ps_set (i := 1) sc_law.nd rfl (.inl rfl) (pe_lst (pa_cons (pv 0) (pa_cons pe_int (pa_cons pe_int (pa_cons pe_int pa_nil))))))
      (pss_cons (ps_par (i := 2) (j := 3) (by rfl) sc_law.nd rfl rfl (by decide) rfl rfl (pa_cons (pe_has h_law_pick hr (pa_cons (pv 1) (pa_cons (pe_lst (pa_cons pe_int (pa_cons pe_int (pa_cons pe_int (pa_cons (pe_op op_add pe_int (pe_has h_law_taken hr (pa_cons (pv 1) (pa_cons pe_int pa_nil)))) pa_nil))))) pa_nil))) (pa_cons (pe_has h_law_rate hr (pa_cons (pv 1) pa_nil)) pa_nil)) (by rfl))
      (pss_cons (ps_set (i := 4) sc_law.nd rfl (.inl rfl) (pe_ifExp (pt_cmpR op_eq (pe_has h_law_taken hr (pa_cons (pv 1) (pa_cons pe_int pa_nil))) pe_int (nomark _)) (pe_has h_law_pick hr (pa_cons (pv 1) (pa_cons (pe_lst (pa_cons pe_int (pa_cons pe_int (pa_cons pe_int (pa_cons pe_int (pa_cons pe_int pa_nil)))))) pa_nil))) (pe_op op_add pe_int (pe_has h_law_taken hr (pa_cons (pv 1) (pa_cons pe_int pa_nil))))))
      (pss_cons (ps_par3 (i := 5) (j := 6) (l := 7) (by rfl) sc_law.nd rfl rfl rfl (by decide) (by decide) (by decide) rfl rfl rfl (pa_cons (pe_has h_loan_rows hr (pa_cons (pv 2) (pa_cons (pv 3) (pa_cons (pv 4) pa_nil)))) (pa_cons (pe_tup (pa_cons (pv 2) (pa_cons pe_int pa_nil))) (pa_cons (pe_tup (pa_cons pe_int (pa_cons pe_int pa_nil))) pa_nil))) (by rfl))
      (pss_cons (ps_if (PW.pt (pw_or (pt_not (pt_val (pe_callB call_isi (by rfl) z_isinstance (by decide +kernel) (pa_cons (pv 5) (pa_cons (pe_bltn (v := .ty "tuple") (u := .type "tuple") (by rfl) z_tuple (by decide +kernel) rfl) pa_nil))))) (pw_or1 (pt_cmpR op_ne (pe_callB call_len_seq (by rfl) z_len PySem.boot_len (pa_cons (pv 5) pa_nil)) (pv 4) (nomark _))))) (pss_one (ps_ret pe_bl)) pss_nil)
      (pss_cons (ps_for PassesOwn.never rfl (pi_list (pe_has h_law_values hr (pa_cons (pe_op op_catA (pe_tup (pa_cons pe_int pa_nil)) (pe_op op_repA (pe_tup (pa_cons pe_int pa_nil)) (pv 4))) (pa_cons (pv 3) pa_nil)))) (pg_name (i := 8) sc_law.nd rfl (.inl rfl)) (pss_one (ps_set (i := 7) sc_law.nd rfl (.inl rfl) (pe_has h_law_plus hr (pa_cons (pv 7) (pa_cons (pv 8) pa_nil))))))
      (pss_cons (ps_set (i := 9) sc_law.nd rfl (.inl rfl) (pe_has h_law_ratio hr (pa_cons (pe_op op_mulW (pv 2) (pe_ix (r := rIxT K) ix_tup (pv 7) pe_int (fun _ _ => rfl))) (pa_cons (pe_ix (r := rIxT K) ix_tup (pv 7) pe_int (fun _ _ => rfl)) pa_nil))))
      (pss_cons (ps_if (pt_not (pt_val (pe_has h_law_alike hr (pa_cons (pe_has h_left_of_loan hr (pa_cons (pv 2) (pa_cons (pv 3) (pa_cons (pv 4) (pa_cons pe_int pa_nil))))) (pa_cons (pe_tup (pa_cons (pv 2) (pa_cons pe_int pa_nil))) pa_nil))))) (pss_one (ps_ret pe_bl)) pss_nil)
      (pss_cons (ps_for PassesOwn.never rfl (pi_range1 (by rfl) z_range (pa_cons (pv 4) pa_nil)) (pg_name (i := 10) sc_law.nd rfl (.inl rfl)) (pss_cons (ps_set (i := 11) sc_law.nd rfl (.inl rfl) (pe_has h_law_by hr (pa_cons (pv 3) (pa_cons (pv 6) pa_nil))))
      (pss_cons (ps_set (i := 12) sc_law.nd rfl (.inl rfl) (pe_has h_law_plus hr (pa_cons (pv 9) (pa_cons (pe_tup (pa_cons (pe_op op_sub pe_int (pe_ix (r := rIxT K) ix_tup (pv 11) pe_int (fun _ _ => rfl))) (pa_cons (pe_ix (r := rIxT K) ix_tup (pv 11) pe_int (fun _ _ => rfl)) pa_nil))) pa_nil))))
      (pss_cons (ps_set (i := 6) sc_law.nd rfl (.inl rfl) (pe_has h_law_plus hr (pa_cons (pv 6) (pa_cons (pe_tup (pa_cons (pe_op op_sub pe_int (pe_ix (r := rIxT K) ix_tup (pv 12) pe_int (fun _ _ => rfl))) (pa_cons (pe_ix (r := rIxT K) ix_tup (pv 12) pe_int (fun _ _ => rfl)) pa_nil))) pa_nil))))
      (pss_cons (ps_if (pt_not (pt_val (pe_has h_law_alike hr (pa_cons (pe_ix (r := rIxT K) ix_tup (pv 5) (pv 10) (fun _ _ => rfl)) (pa_cons (pe_tup (pa_cons (pv 9) (pa_cons (pv 11) (pa_cons (pv 12) (pa_cons (pv 6) pa_nil))))) pa_nil))))) (pss_one (ps_ret pe_bl)) pss_nil)
      (pss_one (ps_if (pt_not (pt_val (pe_has h_law_alike hr (pa_cons (pe_has h_left_of_loan hr (pa_cons (pv 2) (pa_cons (pv 3) (pa_cons (pv 4) (pa_cons (pe_op op_add (pv 10) pe_int) pa_nil))))) (pa_cons (pv 6) pa_nil))))) (pss_one (ps_ret pe_bl)) pss_nil)))))))
      (pss_one (ps_ret (pe_cmpR (op_eqD (hu64 hr)) (pv 6) (pe_tup (pa_cons pe_int (pa_cons pe_int pa_nil))) (nomark _))))))))))))), ?_⟩
  have two : (2 : Nat) ≤ sizeLine := by decide
  have four : (4 : Nat) ≤ sizeLine := by decide
  refine ⟨_, rfl, four, fun ro nro => ?_⟩
  have hR1 : Row K (a, ns) ro (upd H ro (.lst [.ref a, .int 0, .int 3409, .int 0])) := Row.new hS nro (by decide) (by decide)
  generalize upd H ro (.lst [.ref a, .int 0, .int 3409, .int 0]) = H1 at hR1
  -- amount, rate
  refine ⟨_, rfl, _, rfl, ro, 999, rfl, hR1, by decide, by decide, fun k2 H2 k0 k1 hR2 lb2 => ⟨_, _, rfl, rfl, four, fun o no => ?_⟩⟩
  have hR3 := hR2.up (Le.new (o := .lst [.int 1, .int 100, .int 1000000, .int (1 + k2)]) no)
  obtain ⟨y2, e2⟩ := hR2.lst
  have hne : o ≠ ro := fun z => by rw [z, e2] at no; cases no
  refine ⟨ro, o, _, rfl, hR3, upd_same, hne, by simp, by show 4 ≤ 1000; decide, fun j x H4 hj hR4 lb4 => ?_⟩
  obtain ⟨A, rfl, hA1, hA2⟩ : ∃ A : Int, x = .int A ∧ 1 ≤ A ∧ A ≤ 1000000 := by
    match j, hj with
    | 0, e => exact ⟨1, (Option.some.inj e).symm, by decide, by decide⟩
    | 1, e => exact ⟨100, (Option.some.inj e).symm, by decide, by decide⟩
    | 2, e => exact ⟨1000000, (Option.some.inj e).symm, by decide, by decide⟩
    | 3, e => exact ⟨1 + k2, (Option.some.inj e).symm, by omega, by omega⟩
    | j + 4, e => simp at e
  refine ⟨_, rfl, ro, rfl, hR4, fun H5 rv r ok hrv hR5 lb5 => ⟨_, _, rfl, ?_⟩⟩
  -- years
  refine ⟨_, rfl, ro, 3, rfl, hR5, by decide, by decide, fun k3 H6 g0 g1 hR6 lb6 => ⟨rfl, _, rfl, ?_⟩⟩
  obtain ⟨y5, e5⟩ := hR5.lst
  have hr6 := lb6.rt e5 hrv
  obtain ⟨y6, e6⟩ := hR6.lst
  refine if_cont (fun v H7 => ∃ n : Nat, v = .int ((n : Nat) : Int) ∧ 1 ≤ n ∧ n ≤ 40 ∧ RT K H7 r rv) (fun _ Q' g => ?_) (fun _ Q' g => ?_) ?_
  · refine ⟨_, rfl, (by show 5 ≤ sizeLine; decide), fun o2 no2 => ?_⟩
    have l7 := Le.new (o := .lst [.int 1, .int 2, .int 3, .int 8, .int 40]) no2
    have hR7 := hR6.up l7
    have hne2 : o2 ≠ ro := fun z => by rw [z, e6] at no2; cases no2
    obtain ⟨y7, e7⟩ := hR7.lst
    refine ⟨ro, o2, _, rfl, hR7, upd_same, hne2, by simp, by show 5 ≤ 1000; decide, fun j x H8 hj hR8 lb8 => ?_⟩
    have hr8 := lb8.rt e7 (hr6.up l7)
    match j, hj with
    | 0, e => exact g _ _ ⟨1, (Option.some.inj e).symm, by decide, by decide, hr8⟩
    | 1, e => exact g _ _ ⟨2, (Option.some.inj e).symm, by decide, by decide, hr8⟩
    | 2, e => exact g _ _ ⟨3, (Option.some.inj e).symm, by decide, by decide, hr8⟩
    | 3, e => exact g _ _ ⟨8, (Option.some.inj e).symm, by decide, by decide, hr8⟩
    | 4, e => exact g _ _ ⟨40, (Option.some.inj e).symm, by decide, by decide, hr8⟩
    | j + 5, e => simp at e
  · refine ⟨_, rfl, ro, 8, rfl, hR6, by decide, by decide, fun k4 H8 g0 g1 hR8 lb8 => ⟨_, _, rfl, rfl, ?_⟩⟩
    exact g _ _ ⟨(1 + k4).toNat, by show V.int (1 + k4) = V.int ((1 + k4).toNat : Int); congr 1; omega, by omega, by omega, lb8.rt e6 hr6⟩
  rintro v H7 ⟨n, rfl, hn, hm, hr7⟩
  -- found, left, worth
  refine ⟨_, rfl, _, rfl, _, rfl, A, rv, r, n, rfl, hA1, hA2, hn, hm, hr7, ok, fun H8 pf xs l8 hpf hxs hrows => ?_⟩
  refine ⟨_, rfl, two, fun z nz => ⟨two, fun y ny => ⟨_, _, _, rfl, ?_⟩⟩⟩
  have l9 := (Le.new (o := .tup [.int A, .int 1]) nz).trans (Le.new (o := .tup [.int 0, .int 1]) ny)
  have hleft : RT K _ (A : Rat) (.ref z) := (RT.ofInt (K := K) (H := H8) (p := z) (i := A)).up (Le.new (o := .tup [.int 0, .int 1]) ny)
  have hworth : RT K (upd (upd H8 z (.tup [.int A, .int 1])) y (.tup [.int 0, .int 1])) 0 (.ref y) := RT.new rfl rfl
  have hr9 := (hr7.up l8).up l9
  have hf9 : ST K _ pf xs := (ST.up (K := K) (.inl hpf) l9)
  have hrows9 : ∀ (k : Nat) (x : V), xs[k]? = some x → LoanRow K A r n (upd (upd H8 z (.tup [.int A, .int 1])) y (.tup [.int 0, .int 1])) k x := fun k x e => R4.up (hrows k x e) l9
  generalize upd (upd H8 z (.tup [.int A, .int 1])) y (.tup [.int 0, .int 1]) = H9 at hleft hworth hr9 hf9 hrows9
  -- the shape of what was found
  refine ⟨_, rfl, _, _, _, _, _, rfl, .ty _, hf9.ty, kit_ty (r := true) (by decide +kernel), _, rfl, iteF ?_⟩
  refine ⟨_, rfl, pf, _, rfl, .inr hf9.sq, _, rfl, rfl, _, rfl, ?_⟩
  rw [hxs, decide_eq_true rfl]
  refine iteF ?_
  -- for one in _law_values(..)
  refine ⟨(by show 1 ≤ sizeLine; decide), fun u0 nu0 => ⟨(by show 1 ≤ sizeLine; decide), fun u1 nu1 => ?_⟩⟩
  have l10 := (Le.new (o := .tup [.int 0]) nu0).trans (Le.new (o := .tup [.int 1]) nu1)
  have hu0 : ST K (upd (upd H9 u0 (.tup [.int 0])) u1 (.tup [.int 1])) u0 [.int 0] := ST.new.up (Le.new nu1)
  refine ⟨_, rfl, u1, _, _, rfl, rfl, ST.new, by simp, by omega, by omega, by show 1 ≤ 1000; decide, fun u2 H10 l11 hu2 => ?_⟩
  have e1 : (ones n).map V.int = .int 0 :: (List.replicate n [V.int 1]).flatten := by simp [ones]
  rw [show ((n : Nat) : Int).toNat = n by omega] at hu2
  have cat : ∀ Z : VK, (∀ pp H', Le H9 H' → ST K H' pp ((ones n).map V.int) → Z (.ref pp) H') → rCatA K (.ref u0) (.ref u2) H10 Z := fun Z g => by
    refine ⟨u0, u2, _, _, rfl, rfl, ((hu0.up l11)).sq, hu2.sq, ?_, fun c => by simp at c, fun _ c => ?_, fun _ _ u nu => ?_⟩
    · have : (List.replicate n [V.int 1]).flatten.length = n := by simp
      rw [this]
      exact Nat.le_of_lt (small1000 (by show 1 + n ≤ 1000; omega))
    · refine g u0 H10 (l10.trans l11) ?_
      rw [e1, c]
      exact hu0.up l11
    · refine g u _ ((l10.trans l11).trans (Le.new nu)) ?_
      rw [e1]
      exact ST.new
  refine cat _ fun pp H12 l12 hpp => ?_
  refine ⟨_, rfl, pp, rv, ones n, r, rfl, hpp, by rw [ones_len]; omega, ones_ok n, hr9.up l12, ok, fun H13 lv us l13 _ hlv hus => ?_⟩
  have l9d := l12.trans l13
  have ulen : us.length = n + 1 := by
    have := paired_len hus
    rw [vals_len, ones_len] at this
    exact this.symm
  refine ⟨lv, rfl, ⟨us, SqL.of hlv⟩, ?_⟩
  have dok := ok.disc
  refine for_list (K := K) (a := lv) (xs := us) (fun i σ' H' => ∃ wv y8, σ' = [some (.ref a), some (.ref ro), some (.int A), some rv, some (.int ((n : Nat) : Int)), some (.ref pf), some (.ref z), some wv, y8, none, none, none, none] ∧ Le H13 H' ∧ RT K H' (pval (1 + r)⁻¹ ((ones n).take i)) wv)
    ⟨.ref y, none, rfl, Le.refl _, hworth.up l9d⟩ ?_ ?_ ?_
  · rintro i σ' H' hi ⟨wv, y8, rfl, l, _⟩
    exact SqL.of (l.lst hlv)
  · rintro i x σ' H' hx ⟨wv, y8, rfl, l, hw⟩
    have hi : i < us.length := (List.getElem?_eq_some_iff.mp hx).1
    have hi2 : i < (ones n).length := by rw [ones_len]; omega
    have g1 : (ones n)[i]? = some (ones n)[i] := List.getElem?_eq_getElem hi2
    have hxr := paired_at hus (vals_at (1 + r)⁻¹ 1 (ones n) i _ g1) hx
    rw [Rat.one_mul] at hxr
    have nb : ((ones n)[i]).natAbs < 2 ^ 20 := ones_ok n _ (List.getElem_mem hi2)
    have bw : Bd 1400 (pval (1 + r)⁻¹ ((ones n).take i)) := (Bd.pval dok ((ones_ok n).take i)).mono (by rw [List.length_take, ones_len]; omega)
    have bx : Bd 480 (((ones n)[i] : Rat) * (1 + r)⁻¹ ^ i) := ((Bd.int nb (by decide)).mul (Bd.pow dok i)).mono (by rw [ulen] at hi; omega)
    refine ⟨_, rfl, _, rfl, wv, x, _, _, _, _, rfl, hw, hxr.up l, bw, bx, by decide, trivial, fun H14 w2 l14 hw2 => ?_⟩
    refine ⟨w2, some x, rfl, l.trans l14, ?_⟩
    rw [List.take_add_one, g1]
    show RT K H14 (pval (1 + r)⁻¹ (List.take i (ones n) ++ [(ones n)[i]])) w2
    rw [pval_append, List.length_take, Nat.min_eq_left (by omega)]
    exact hw2
  rintro σ' H14 ⟨wv, y8, rfl, l14, hw⟩
  rw [ulen, ← ones_len n, List.take_length] at hw
  have l914 := l9d.trans l14
  -- paid
  have bW := ones_bd ok hm (r := r)
  obtain ⟨wa, rfl, hwa⟩ := hw
  refine ⟨_, rfl, _, rfl, wa, _, 1, _, rfl, rfl, hwa.sq, rfl, _, _, rfl, rfl, cmul (a := 20) (b := 34 + 33 * 40) (by show A.natAbs < 1048576; omega) (by exact bW.2) (by decide), _, rfl, wa, _, 0, _, rfl, rfl, hwa.sq, rfl, ?_⟩
  refine ⟨_, _, 34 + 33 * 40, rfl, num_ne (ones_ne ok hn), bW.1, by decide, fun H15 pd l15 hpd => ?_⟩
  have hpd' : RT K H15 (paidY A r n) pd := by
    have e := div_eq_divInt (A : Rat) (pval (1 + r)⁻¹ (ones n))
    rw [Rat.num_intCast, Rat.den_intCast, Int.natCast_one, Int.one_mul] at e
    rw [e] at hpd
    exact hpd
  have l915 := l914.trans l15
  -- left_of_loan(amount, rate, years, 0)
  refine ⟨_, rfl, _, rfl, _, rfl, A, rv, r, n, 0, rfl, hA1, hA2, hn, hm, by omega, hr9.up l915, ok, fun H16 t0 l16 ht0 => ?_⟩
  refine ⟨_, rfl, two, fun t1 nt1 => ?_⟩
  have l17 := Le.new (o := .tup [.int A, .int 1]) nt1
  refine ⟨_, _, rfl, Al.more (RT.al (ht0.up l17) (lfY_zero A r n ▸ RT.ofInt)), fun H18 l18 => ⟨true, rfl, iteF ?_⟩⟩
  have l15_18 := (l16.trans l17).trans l18
  -- for k in range(years)
  refine ⟨_, rfl, _, rfl, by omega, by omega, ?_⟩
  rw [show ((n : Nat) : Int).toNat = n by omega]
  refine for_range (lo := 0) (n := n) (fun i σ' H' => ∃ lv2 y8 y10 y11 y12, σ' = [some (.ref a), some (.ref ro), some (.int A), some rv, some (.int ((n : Nat) : Int)), some (.ref pf), some lv2, some (.ref wa), y8, some pd, y10, y11, y12] ∧ Le H18 H' ∧ RT K H' (lfY A r n i) lv2)
    ⟨.ref z, _, none, none, none, rfl, Le.refl _, hleft.up (l915.trans l15_18)⟩ ?_ ?_
  · rintro i σ' H' hi ⟨lv2, y8, y10, y11, y12, rfl, l, hL⟩
    have bL := lfY_bd ok hA1 hA2 hn hm (show i ≤ n by omega) (r := r)
    have bL1 := lfY_bd ok hA1 hA2 hn hm (show i + 1 ≤ n by omega) (r := r)
    have bP := paidY_bd ok hA1 hA2 hn hm (r := r)
    have l9' := (l915.trans l15_18).trans l
    have l15' := l15_18.trans l
    -- interest
    refine ⟨_, rfl, _, rfl, rv, lv2, r, lfY A r n i, 10, _, rfl, hr9.up l9', hL, ok.bd, bL, by omega, trivial, fun Ha ti la ha => ?_⟩
    obtain ⟨tia, rfl, sti⟩ := ha
    -- repaid
    refine ⟨_, rfl, _, rfl, tia, _, 0, _, rfl, rfl, sti.sq, rfl, _, _, rfl, rfl, _, rfl, tia, _, 1, _, rfl, rfl, sti.sq, rfl, two, fun m1 nm1 => ?_⟩
    have lm1 := Le.new (o := .tup [.int (0 - (r * lfY A r n i).num), .int ((r * lfY A r n i).den : Nat)]) nm1
    refine ⟨pd, .ref m1, paidY A r n, _, _, _, rfl, (hpd'.up l15').up (la.trans lm1), RT.neg, bP, (ok.bd.mul bL).neg, by omega, trivial, fun Hb tr lb hb => ?_⟩
    have hb' : RT K Hb (paidY A r n - r * lfY A r n i) tr := by
      rw [Rat.sub_eq_add_neg]
      exact hb
    obtain ⟨tra, rfl, str⟩ := hb'
    -- left
    refine ⟨_, rfl, _, rfl, tra, _, 0, _, rfl, rfl, str.sq, rfl, _, _, rfl, rfl, _, rfl, tra, _, 1, _, rfl, rfl, str.sq, rfl, two, fun m2 nm2 => ?_⟩
    have lm2 := Le.new (o := .tup [.int (0 - (paidY A r n - r * lfY A r n i).num), .int ((paidY A r n - r * lfY A r n i).den : Nat)]) nm2
    have bR : Bd 4113 (paidY A r n - r * lfY A r n i) := (bP.sub (ok.bd.mul bL)).mono (by decide)
    have lb2 := (la.trans lm1).trans (lb.trans lm2)
    refine ⟨lv2, .ref m2, lfY A r n i, _, _, _, rfl, hL.up lb2, RT.neg, bL, bR.neg, by decide, trivial, fun Hc tl lc hc => ?_⟩
    have hc' : RT K Hc (lfY A r n (i + 1)) tl := by
      rw [lfY_succ, Rat.sub_eq_add_neg (lfY A r n i)]
      exact hc
    have lc2 := lb2.trans lc
    have hP3 : RT K Hc (paidY A r n) pd := (hpd'.up l15').up lc2
    have hI3 : RT K Hc (r * lfY A r n i) (.ref tia) := RT.up (H := Ha) ⟨tia, rfl, sti⟩ ((lm1.trans (lb.trans lm2)).trans lc)
    have hR3 : RT K Hc (paidY A r n - r * lfY A r n i) (.ref tra) := RT.up (H := Hb) ⟨tra, rfl, str⟩ (lm2.trans lc)
    -- found[k]
    have gx : xs[i]? = some (xs[i]'(by omega)) := List.getElem?_eq_getElem _
    have hrow := R4.up (hrows9 i _ gx) (l9'.trans lc2)
    have hpf2 := hf9.up (l9'.trans lc2)
    refine ⟨_, rfl, _, rfl, pf, _, _, _, rfl, rfl, hpf2.sq, at_of (j := i) (by omega) gx, ?_⟩
    refine ⟨_, rfl, _, rfl, _, rfl, _, rfl, four, fun q1 nq1 => ?_⟩
    have lq1 := Le.new (o := .tup [pd, .ref tia, .ref tra, tl]) nq1
    obtain ⟨fq, fx, fy, fz, fu, fe, fst, f1, f2, f3, f4⟩ := hrow
    refine ⟨_, _, rfl, ?_, fun H20 l20 => ⟨true, rfl, iteF ?_⟩⟩
    · rw [fe]
      exact .inr ⟨fq, q1, _, _, rfl, rfl, fst.up lq1, ST.new, by show 4 ≤ 1000; decide, .cons (RT.al (f1.up lq1) (hP3.up lq1)) (.cons (RT.al (f2.up lq1) (hI3.up lq1)) (.cons (RT.al (f3.up lq1) (hR3.up lq1)) (.cons (RT.al (f4.up lq1) (hc'.up lq1)) .nil)))⟩
    have lqq := lq1.trans l20
    -- left_of_loan(amount, rate, years, k + 1)
    refine ⟨_, rfl, _, rfl, _, rfl, _, rfl, _, _, rfl, rfl, A, rv, r, n, i + 1, ?_, hA1, hA2, hn, hm, by omega, (hr9.up l9').up (lc2.trans lqq), ok, fun H21 t2 l21 ht2 => ?_⟩
    · show [V.int A, rv, V.int ((n : Nat) : Int), V.int (0 + ((i : Nat) : Int) + 1)] = [V.int A, rv, V.int ((n : Nat) : Int), V.int ((i + 1 : Nat) : Int)]
      rw [show (0 + ((i : Nat) : Int) + 1) = ((i + 1 : Nat) : Int) by omega]
    refine ⟨_, rfl, _, _, rfl, Al.more (RT.al ht2 ((hc'.up lqq).up l21)), fun H22 l22 => ⟨true, rfl, iteF ?_⟩⟩
    exact ⟨tl, _, _, _, _, rfl, ((l.trans lc2).trans lqq).trans (l21.trans l22), ((hc'.up lqq).up l21).up l22⟩
  rintro σ' H' ⟨lv2, y8, y10, y11, y12, rfl, l, hL⟩
  rw [lfY_end ok hn] at hL
  refine ⟨_, rfl, two, fun w nw => ?_⟩
  refine ⟨_, _, (hL.up (Le.new nw)).dp, .tup ST.new.sq (.cons (.int 0) (.cons (.int 1) .nil)), rfl, rfl, ?_⟩
  exact q _
end
def loose0 : List Str := ["LifeError", "BadRate", "BadTime", "BadAmount", "ZERO", "is_integer", "is_between", "is_ratio", "check_rate", "check_time", "make_ratio", "plus", "minus", "multiplied", "divided", "discount", "present_value", "MOST_AMOUNT", "check_loan", "worth_of_ones", "yearly_payment", "loan_rows", "left_of_loan", "_law_taken", "_law_pick", "_law_alike", "_law_ratio", "_law_plus", "_law_by", "_law_sum"]
def loose1 : List Str := ["_law_rate", "_law_values"]
def loose : List Str := loose0 ++ loose1
def fa0 : List He.Fa := [.glo "_law_taken", .glo "_law_pick", .glo "_law_rate", .glo "is_integer", .glo "is_between", .glo "is_ratio", .glo "check_rate", .glo "check_time", .glo "check_loan", .glo "make_ratio", .glo "divided", .glo "discount", .glo "plus", .glo "multiplied", .glo "present_value", .glo "worth_of_ones", .glo "yearly_payment", .glo "minus", .glo "loan_rows", .glo "_law_ratio", .glo "_law_values", .glo "_law_plus", .glo "_law_alike", .glo "left_of_loan", .glo "_law_by", .glo "law", .free "abs", .free "bool", .free "int", .free "isinstance"]
def fa1 : List He.Fa := [.free "len", .free "list", .free "range", .free "reversed", .free "str", .free "tuple", .int "MOST_AMOUNT" 1000000]
def fal : List He.Fa := fa0 ++ fa1
def fn0 : List He.DefD := [DD "_law_taken" s_law_taken, DD "_law_pick" s_law_pick, DD "_law_rate" s_law_rate, DD "is_integer" s_is_integer, DD "is_between" s_is_between, DD "is_ratio" s_is_ratio, DD "check_rate" s_check_rate, DD "check_time" s_check_time, DD "check_loan" s_check_loan, DD "make_ratio" s_make_ratio, DD "divided" s_divided, DD "discount" s_discount, DD "plus" s_plus, DD "multiplied" s_multiplied, DD "present_value" s_present_value, DD "worth_of_ones" s_worth_of_ones, DD "yearly_payment" s_yearly_payment, DD "minus" s_minus, DD "loan_rows" s_loan_rows, DD "_law_ratio" s_law_ratio]
def fn1 : List He.DefD := [DD "_law_values" s_law_values, DD "_law_plus" s_law_plus, DD "_law_alike" s_law_alike, DD "left_of_loan" s_left_of_loan, DD "_law_by" s_law_by, DD "law" s_law]
def fnl : List He.DefD := fn0 ++ fn1
def tfl : List He.Defn := []
def bll : List (Str × String) := [("gcd", "math.gcd")]
def tpl : List (Str × List Int) := [("ZERO", [0, 1])]
abbrev Rw : PySem.W.OpenRow := PySem.W.OpenLaw.row PySem.Challenge.rw_actuarium_k09_whole_loans
abbrev hkk : PySem.W.Hook := He.hookX 4 fal fnl [] tfl (exB bll tpl)
def ob (s : PySem.W.SharedT) : He.AlX := He.obsX 4 fal fnl [] tfl (exB bll tpl) (HandSHeadRun.getT s)
theorem ob_eq (s : PySem.W.SharedT) : ob s = hkk.obs s.abs := He.obsX_eq (HandSHeadRun.getT_eq s)
theorem run (w : World) : HandSHeadRun.RunEqI Rw (PySem.W.view Rw.prog [0, 38]) hkk ob 4000 loose w := by
  unfold HandSHeadRun.RunEqI
  kernel_rfl
theorem all_mk {w : World} {K : PySem.W.Frag} {h : Heap} {mg : Str → Option Value} {fa : Addr} (X : K.In h) (G : h.Ns mainGlobals mg) (hfa : mg "law" = some (.ref fa)) (c : He.SaysX fal fnl [] tfl (exB bll tpl) w h K) : LamX.LawAtS PySem.Challenge.rw_actuarium_k09_whole_loans w K CX0 7 63 "script" mg fa h := by
  have c1 := c.t.d
  have bm : (∀ (doc : Unit), True) := fun _ => trivial
  have D_law_taken : Df K mg "_law_taken" s_law_taken ["row", "many"] := df_of X G c1 0 0 rfl rfl (fun _ _ _ _ _ _ us hl => match us, hl with | [_, _], _ => rfl)
  have D_law_pick : Df K mg "_law_pick" s_law_pick ["row", "things"] := df_of X G c1 1 1 rfl rfl (fun _ _ _ _ _ _ us hl => match us, hl with | [_, _], _ => rfl)
  have D_law_rate : Df K mg "_law_rate" s_law_rate ["row"] := df_of X G c1 2 2 rfl rfl (fun _ _ _ _ _ _ us hl => match us, hl with | [_], _ => rfl)
  have D_is_integer : Df K mg "is_integer" s_is_integer ["value"] := df_of X G c1 3 3 rfl rfl (fun _ _ _ _ _ _ us hl => match us, hl with | [_], _ => rfl)
  have D_is_between : Df K mg "is_between" s_is_between ["value", "low", "high"] := df_of X G c1 4 4 rfl rfl (fun _ _ _ _ _ _ us hl => match us, hl with | [_, _, _], _ => rfl)
  have D_is_ratio : Df K mg "is_ratio" s_is_ratio ["value"] := df_of X G c1 5 5 rfl rfl (fun _ _ _ _ _ _ us hl => match us, hl with | [_], _ => rfl)
  have D_check_rate : Df K mg "check_rate" s_check_rate ["rate"] := df_of X G c1 6 6 rfl rfl (fun _ _ _ _ _ _ us hl => match us, hl with | [_], _ => rfl)
  have D_check_time : Df K mg "check_time" s_check_time ["time", "low", "high"] := df_of X G c1 7 7 rfl rfl (fun _ _ _ _ _ _ us hl => match us, hl with | [_, _, _], _ => rfl)
  have D_check_loan : Df K mg "check_loan" s_check_loan ["amount", "rate", "years"] := df_of X G c1 8 8 rfl rfl (fun _ _ _ _ _ _ us hl => match us, hl with | [_, _, _], _ => rfl)
  have D_make_ratio : Df K mg "make_ratio" s_make_ratio ["top", "bottom"] := df_of X G c1 9 9 rfl rfl (fun _ _ _ _ _ _ us hl => match us, hl with | [_, _], _ => rfl)
  have D_divided : Df K mg "divided" s_divided ["one", "other"] := df_of X G c1 10 10 rfl rfl (fun _ _ _ _ _ _ us hl => match us, hl with | [_, _], _ => rfl)
  have D_discount : Df K mg "discount" s_discount ["rate"] := df_of X G c1 11 11 rfl rfl (fun _ _ _ _ _ _ us hl => match us, hl with | [_], _ => rfl)
  have D_plus : Df K mg "plus" s_plus ["one", "other"] := df_of X G c1 12 12 rfl rfl (fun _ _ _ _ _ _ us hl => match us, hl with | [_, _], _ => rfl)
  have D_multiplied : Df K mg "multiplied" s_multiplied ["one", "other"] := df_of X G c1 13 13 rfl rfl (fun _ _ _ _ _ _ us hl => match us, hl with | [_, _], _ => rfl)
  have D_present_value : Df K mg "present_value" s_present_value ["payments", "rate"] := df_of X G c1 14 14 rfl rfl (fun _ _ _ _ _ _ us hl => match us, hl with | [_, _], _ => rfl)
  have D_worth_of_ones : Df K mg "worth_of_ones" s_worth_of_ones ["rate", "years"] := df_of X G c1 15 15 rfl rfl (fun _ _ _ _ _ _ us hl => match us, hl with | [_, _], _ => rfl)
  have D_yearly_payment : Df K mg "yearly_payment" s_yearly_payment ["amount", "rate", "years"] := df_of X G c1 16 16 rfl rfl (fun _ _ _ _ _ _ us hl => match us, hl with | [_, _, _], _ => rfl)
  have D_minus : Df K mg "minus" s_minus ["one", "other"] := df_of X G c1 17 17 rfl rfl (fun _ _ _ _ _ _ us hl => match us, hl with | [_, _], _ => rfl)
  have D_loan_rows : Df K mg "loan_rows" s_loan_rows ["amount", "rate", "years"] := df_of X G c1 18 18 rfl rfl (fun _ _ _ _ _ _ us hl => match us, hl with | [_, _, _], _ => rfl)
  have D_law_ratio : Df K mg "_law_ratio" s_law_ratio ["top", "bottom"] := df_of X G c1 19 19 rfl rfl (fun _ _ _ _ _ _ us hl => match us, hl with | [_, _], _ => rfl)
  have D_law_values : Df K mg "_law_values" s_law_values ["payments", "rate"] := df_of X G c1 20 20 rfl rfl (fun _ _ _ _ _ _ us hl => match us, hl with | [_, _], _ => rfl)
  have D_law_plus : Df K mg "_law_plus" s_law_plus ["one", "other"] := df_of X G c1 21 21 rfl rfl (fun _ _ _ _ _ _ us hl => match us, hl with | [_, _], _ => rfl)
  have D_law_alike : Df K mg "_law_alike" s_law_alike ["found", "due"] := df_of X G c1 22 22 rfl rfl (fun _ _ _ _ _ _ us hl => match us, hl with | [_, _], _ => rfl)
  have D_left_of_loan : Df K mg "left_of_loan" s_left_of_loan ["amount", "rate", "years", "time"] := df_of X G c1 23 23 rfl rfl (fun _ _ _ _ _ _ us hl => match us, hl with | [_, _, _, _], _ => rfl)
  have D_law_by : Df K mg "_law_by" s_law_by ["one", "other"] := df_of X G c1 24 24 rfl rfl (fun _ _ _ _ _ _ us hl => match us, hl with | [_, _], _ => rfl)
  have z_abs : mg "abs" = none := He.free_ok X G (c1.fact 26 (f := .free "abs") rfl)
  have z_bool : mg "bool" = none := He.free_ok X G (c1.fact 27 (f := .free "bool") rfl)
  have z_int : mg "int" = none := He.free_ok X G (c1.fact 28 (f := .free "int") rfl)
  have z_isinstance : mg "isinstance" = none := He.free_ok X G (c1.fact 29 (f := .free "isinstance") rfl)
  have z_len : mg "len" = none := He.free_ok X G (c1.fact 30 (f := .free "len") rfl)
  have z_list : mg "list" = none := He.free_ok X G (c1.fact 31 (f := .free "list") rfl)
  have z_range : mg "range" = none := He.free_ok X G (c1.fact 32 (f := .free "range") rfl)
  have z_reversed : mg "reversed" = none := He.free_ok X G (c1.fact 33 (f := .free "reversed") rfl)
  have z_str : mg "str" = none := He.free_ok X G (c1.fact 34 (f := .free "str") rfl)
  have z_tuple : mg "tuple" = none := He.free_ok X G (c1.fact 35 (f := .free "tuple") rfl)
  obtain ⟨tk_MOST_AMOUNT, m_MOST_AMOUNT⟩ := He.int_ok X G (c1.fact 36 (f := .int "MOST_AMOUNT" 1000000) rfl)
  obtain ⟨a_ZERO, m_ZERO, t_ZERO⟩ := tup_of X G c.more (x := "ZERO") (js := [0, 1]) (by simp [tpl])
  have m_gcd : mg "gcd" = some (.builtin "math.gcd") := blt_of X G c.more (x := "gcd") (id := "math.gcd") (by simp [bll])
  obtain ⟨fd, F⟩ := c1.def_ 25 (d := DD "law" s_law) rfl
  have e := hfa.symm.trans (He.glo_ok X G (c1.fact 25 (f := .glo "law") rfl))
  have e2 : fa = He.ga K "law" := by
    have := Option.some.inj e
    injection this
  subst e2
  have hb := FunD.bindsA (ps := ["script"]) F fun _ _ _ _ _ _ us hl => match us, hl with | [_], _ => rfl
  refine ⟨fd, tfl.map (He.cT K), spLawT K (tfl.map fun p => (He.cT K p).2), ?_, ?_, ?_, fun s u => hb s [u] rfl, ?_, ?_⟩
  · intro p hp
    obtain ⟨x, hx, rfl⟩ := List.mem_map.mp hp
    exact c.empty x hx
  · intro p hp
    obtain ⟨x, hx, rfl⟩ := List.mem_map.mp hp
    exact c.out x hx
  · intro p hp
    obtain ⟨x, hx, rfl⟩ := List.mem_map.mp hp
    exact PySem.W.codeHd_of_K X (c.hd x hx)
  · intro H a ns hl hbit hT hS
    refine ⟨a, ns, rfl, hS, hl, fun p hp => ?_, fun _ => rfl⟩
    obtain ⟨x, hx, rfl⟩ := List.mem_map.mp hp
    exact ⟨#[], hT _ (List.mem_map.mpr ⟨x, hx, rfl⟩), trivial⟩
  intro base KB GB TB
  have h_law_taken := fun ns : Scr => has_law_taken (P := PySem.Challenge.rw_actuarium_k09_whole_loans.prog) (w := w) (base := base) (k := 0) (ns := ns) (d := D_law_taken) (z_int := z_int) (z_len := z_len)
  have h_law_pick := fun ns : Scr => has_law_pick (P := PySem.Challenge.rw_actuarium_k09_whole_loans.prog) (w := w) (base := base) (k := 1) (ns := ns) (d := D_law_pick) (h_law_taken := (h_law_taken ns).mono (by decide)) (z_len := z_len)
  have h_law_rate := fun ns : Scr => has_law_rate (P := PySem.Challenge.rw_actuarium_k09_whole_loans.prog) (w := w) (base := base) (k := 2) (ns := ns) (d := D_law_rate) (h_law_pick := (h_law_pick ns).mono (by decide))
  have h_is_integer := has_is_integer (P := PySem.Challenge.rw_actuarium_k09_whole_loans.prog) (w := w) (base := base) (k := 0) (d := D_is_integer) (z_isinstance := z_isinstance) (z_int := z_int) (z_bool := z_bool)
  have q_is_integer := q_is_integer (P := PySem.Challenge.rw_actuarium_k09_whole_loans.prog) (w := w) (base := base) (d := D_is_integer) (z_isinstance := z_isinstance) (z_int := z_int) (z_bool := z_bool)
  have h_is_between := has_is_between (P := PySem.Challenge.rw_actuarium_k09_whole_loans.prog) (w := w) (base := base) (k := 1) (d := D_is_between) (h_is_integer := h_is_integer.mono (by decide))
  have q_is_between := q_is_between (P := PySem.Challenge.rw_actuarium_k09_whole_loans.prog) (w := w) (base := base) (d := D_is_between) (q_is_integer := q_is_integer)
  have h_is_ratio := has_is_ratio (P := PySem.Challenge.rw_actuarium_k09_whole_loans.prog) (w := w) (base := base) (k := 1) (d := D_is_ratio) (h_is_integer := h_is_integer.mono (by decide)) (z_isinstance := z_isinstance) (z_tuple := z_tuple) (z_len := z_len) (m_gcd := m_gcd)
  have h_check_rate := has_check_rate (P := PySem.Challenge.rw_actuarium_k09_whole_loans.prog) (w := w) (base := base) (k := 2) (d := D_check_rate) (h_is_ratio := h_is_ratio.mono (by decide)) (z_abs := z_abs)
  have h_check_time := has_check_time (P := PySem.Challenge.rw_actuarium_k09_whole_loans.prog) (w := w) (base := base) (k := 2) (d := D_check_time) (h_is_between := h_is_between.mono (by decide))
  have h_check_loan := has_check_loan (P := PySem.Challenge.rw_actuarium_k09_whole_loans.prog) (w := w) (base := base) (k := 3) (d := D_check_loan) (h_is_between := h_is_between.mono (by decide)) (h_check_rate := h_check_rate.mono (by decide)) (h_check_time := h_check_time.mono (by decide)) (m_MOST_AMOUNT := m_MOST_AMOUNT)
  have h_make_ratio := has_make_ratio (P := PySem.Challenge.rw_actuarium_k09_whole_loans.prog) (w := w) (base := base) (k := 0) (d := D_make_ratio) (m_gcd := m_gcd)
  have h_divided := has_divided (P := PySem.Challenge.rw_actuarium_k09_whole_loans.prog) (w := w) (base := base) (k := 1) (d := D_divided) (h_make_ratio := h_make_ratio.mono (by decide))
  have h_discount := has_discount (P := PySem.Challenge.rw_actuarium_k09_whole_loans.prog) (w := w) (base := base) (k := 0) (d := D_discount) 
  have h_plus := has_plus (P := PySem.Challenge.rw_actuarium_k09_whole_loans.prog) (w := w) (base := base) (k := 1) (d := D_plus) (h_make_ratio := h_make_ratio.mono (by decide))
  have h_multiplied := has_multiplied (P := PySem.Challenge.rw_actuarium_k09_whole_loans.prog) (w := w) (base := base) (k := 1) (d := D_multiplied) (h_make_ratio := h_make_ratio.mono (by decide))
  have h_present_value := has_present_value (P := PySem.Challenge.rw_actuarium_k09_whole_loans.prog) (w := w) (base := base) (k := 2) (d := D_present_value) (h_discount := h_discount.mono (by decide)) (h_plus := h_plus.mono (by decide)) (h_multiplied := h_multiplied.mono (by decide)) (z_reversed := z_reversed) (m_ZERO := m_ZERO) (t_ZERO := t_ZERO)
  have h_worth_of_ones := has_worth_of_ones (P := PySem.Challenge.rw_actuarium_k09_whole_loans.prog) (w := w) (base := base) (k := 3) (d := D_worth_of_ones) (h_present_value := h_present_value.mono (by decide))
  have h_yearly_payment := has_yearly_payment (P := PySem.Challenge.rw_actuarium_k09_whole_loans.prog) (w := w) (base := base) (k := 4) (d := D_yearly_payment) (h_divided := h_divided.mono (by decide)) (h_worth_of_ones := h_worth_of_ones.mono (by decide))
  have h_minus := has_minus (P := PySem.Challenge.rw_actuarium_k09_whole_loans.prog) (w := w) (base := base) (k := 1) (d := D_minus) (h_make_ratio := h_make_ratio.mono (by decide))
  have h_loan_rows := has_loan_rows (P := PySem.Challenge.rw_actuarium_k09_whole_loans.prog) (w := w) (base := base) (k := 5) (d := D_loan_rows) (h_check_loan := h_check_loan.mono (by decide)) (h_yearly_payment := h_yearly_payment.mono (by decide)) (h_multiplied := h_multiplied.mono (by decide)) (h_minus := h_minus.mono (by decide)) (z_range := z_range) (z_tuple := z_tuple)
  have h_law_ratio := has_law_ratio (P := PySem.Challenge.rw_actuarium_k09_whole_loans.prog) (w := w) (base := base) (k := 0) (d := D_law_ratio) (z_abs := z_abs) (z_int := z_int)
  have h_law_values := has_law_values (P := PySem.Challenge.rw_actuarium_k09_whole_loans.prog) (w := w) (base := base) (k := 1) (d := D_law_values) (h_law_ratio := h_law_ratio.mono (by decide))
  have h_law_plus := has_law_plus (P := PySem.Challenge.rw_actuarium_k09_whole_loans.prog) (w := w) (base := base) (k := 1) (d := D_law_plus) (h_law_ratio := h_law_ratio.mono (by decide))
  have h_law_alike := has_law_alike (P := PySem.Challenge.rw_actuarium_k09_whole_loans.prog) (w := w) (base := base) (d := D_law_alike) (z_isinstance := z_isinstance) (z_tuple := z_tuple) (z_list := z_list) (z_len := z_len) (z_range := z_range) (z_str := z_str) (z_int := z_int) (z_bool := z_bool) 2
  have h_left_of_loan := has_left_of_loan (P := PySem.Challenge.rw_actuarium_k09_whole_loans.prog) (w := w) (base := base) (k := 5) (d := D_left_of_loan) (h_check_loan := h_check_loan.mono (by decide)) (h_check_time := h_check_time.mono (by decide)) (h_multiplied := h_multiplied.mono (by decide)) (h_yearly_payment := h_yearly_payment.mono (by decide)) (h_worth_of_ones := h_worth_of_ones.mono (by decide))
  have h_law_by := has_law_by (P := PySem.Challenge.rw_actuarium_k09_whole_loans.prog) (w := w) (base := base) (k := 1) (d := D_law_by) (h_law_ratio := h_law_ratio.mono (by decide))
  exact ok_law (P := PySem.Challenge.rw_actuarium_k09_whole_loans.prog) (w := w) (base := base) (k := 6) F (T := tfl.map fun p => (He.cT K p).2) (h_law_pick := fun ns => (h_law_pick ns).mono (by decide)) (h_law_taken := fun ns => (h_law_taken ns).mono (by decide)) (h_law_rate := fun ns => (h_law_rate ns).mono (by decide)) (h_loan_rows := h_loan_rows.mono (by decide)) (h_law_values := h_law_values.mono (by decide)) (h_law_plus := h_law_plus.mono (by decide)) (h_law_ratio := h_law_ratio.mono (by decide)) (h_law_alike := h_law_alike.mono (by decide)) (h_left_of_loan := h_left_of_loan.mono (by decide)) (h_law_by := h_law_by.mono (by decide)) (z_isinstance := z_isinstance) (z_tuple := z_tuple) (z_len := z_len) (z_range := z_range)
end Act
open PySem PySem.W PyProof.Rows
set_option maxHeartbeats 0 in
theorem PySem.Challenge.cw_actuarium_k09_whole_loans_holds : PySem.Challenge.rw_actuarium_k09_whole_loans.Holds := by
  w_on; o_law
  refine HandSHeadRun.head_imp (r := OpenLaw.row PySem.Challenge.rw_actuarium_k09_whole_loans) (q := view (OpenLaw.row PySem.Challenge.rw_actuarium_k09_whole_loans).prog [0, 38]) (H := Act.hkk) (ob := Act.ob) (M := 4000) (loose := Act.loose) (d := HandSHeadRun.topDef (OpenLaw.row PySem.Challenge.rw_actuarium_k09_whole_loans).prog 38) (kwd := []) Act.ob_eq
    Act.run (by kernel_rfl) (by kernel_rfl) (by kernel_rfl) (by rfl) (by first | assumption | decide +kernel) (by decide +kernel) ⟨rfl, rfl, rfl, rfl, rfl, by decide +kernel⟩ ?hw ?hc
  case hw => w_witness2
  case hc =>
    refine LamX.walk_ofTsE (l := PySem.Challenge.rw_actuarium_k09_whole_loans) (n := 63) (k := 7) (x := "script") (CX := fun _ => L2.CX0) rfl (by decide) (by kernel_rfl) ⟨rfl, by decide, by decide⟩ ?F (fun _ _ _ _ _ z => z)
    intro w mg fa h Y G hmg0
    obtain ⟨K, KX, c⟩ := Y
    have hmg : mg ("law" : PySem.Str) = some (.ref fa) := by
      have e : (HandSHeadRun.topDef (OpenLaw.row PySem.Challenge.rw_actuarium_k09_whole_loans).prog 38).name = ("law" : PySem.Str) := by kernel_rfl
      rw [← e]
      exact hmg0
    exact ⟨K, KX, Act.all_mk KX G hmg c⟩
