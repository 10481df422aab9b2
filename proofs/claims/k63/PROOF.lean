import PyProof.Rows.All
import Wide.All
import OpenK.AllK
import Wide.FinOn
import HandS.ForExc
import HandS.Star
import HandS.Sort
import HandS.RevRange
import HandS.Zip
import HandS.Nested
import KE.KTupSum
import KE.GoesEnum
import HandS.ForMost
import HandS.Wide
import HandS.Gcd
import HandS.TupMul
import HandS.TupAny
import HandS.Rev
import HandS.IsInst
import HandS.Conv
import HandS.Style
import HandS.AnyAll
import HandS.Head0
import HandS.Head1
import HandS.Head2
import HandS.Head3
import HandS.HeadEnd
import HandS.HeadHook4
import HandS.HeadWalk
import HandS.Lambda
import KE.DataMinMax
import PyProof.Rows.IntBool
import HandS.ExcIs
import HandS.ExcOwn
import HandS.Iter
import HandS.Deep
import HandS.GenList
import HandS.GenOver
import PyProof.TupleOfGen
import KE.GoesZip
import KE.GoesMore
import PySem.Challenge.RW_actuarium_k63_whole_kinds_learned
set_option Elab.async false
set_option linter.all false
set_option maxRecDepth 100000
set_option maxHeartbeats 4000000
/-! Ratios in lowest terms, as Lean's own rational numbers; how large their two parts are. -/
namespace Act
open scoped Rat
/-- both parts of a ratio are below 2 ^ n -/
def Bd (n : Nat) (r : Rat) : Prop := r.num.natAbs < 2 ^ n ∧ r.den < 2 ^ n
theorem Bd.mono {n m : Nat} {r : Rat} (h : Bd n r) (l : n ≤ m) : Bd m r :=
  ⟨Nat.lt_of_lt_of_le h.1 (Nat.pow_le_pow_right (by decide) l), Nat.lt_of_lt_of_le h.2 (Nat.pow_le_pow_right (by decide) l)⟩
/-- the parts of a quotient of integers are no larger than these -/
theorem divInt_le {t b : Int} (hb : b ≠ 0) : (t /. b).num.natAbs ≤ t.natAbs ∧ (t /. b).den ≤ b.natAbs := by
  constructor
  · rw [Rat.num_divInt]
    rw [Int.natAbs_ediv_of_dvd]
    · rw [Int.natAbs_mul, Int.natAbs_sign_of_ne_zero hb, Nat.one_mul]
      exact Nat.div_le_self _ _
    · exact Int.dvd_mul_of_dvd_right (Int.gcd_dvd_right ..)
  · rw [Rat.den_divInt, if_neg hb]
    exact Nat.div_le_self _ _
theorem Bd.divInt {t b : Int} {n : Nat} (hb : b ≠ 0) (h1 : t.natAbs < 2 ^ n) (h2 : b.natAbs < 2 ^ n) : Bd n (t /. b) :=
  ⟨Nat.lt_of_le_of_lt (divInt_le hb).1 h1, Nat.lt_of_le_of_lt (divInt_le hb).2 h2⟩
theorem mul_lt_pow {a b n m : Nat} (ha : a < 2 ^ n) (hb : b < 2 ^ m) : a * b < 2 ^ (n + m) := by
  rw [Nat.pow_add]
  exact Nat.mul_lt_mul'' ha hb
/-- the unreduced parts of a sum -/
theorem add_parts {a b : Rat} {n m : Nat} (ha : Bd n a) (hb : Bd m b) :
    (a.num * b.den + b.num * a.den).natAbs < 2 ^ (n + m + 1) ∧ ((a.den : Int) * b.den).natAbs < 2 ^ (n + m + 1) := by
  have h1 : (a.num * b.den).natAbs < 2 ^ (n + m) := by
    rw [Int.natAbs_mul]
    exact mul_lt_pow ha.1 hb.2
  have h2 : (b.num * a.den).natAbs < 2 ^ (n + m) := by
    rw [Int.natAbs_mul, Nat.add_comm n m]
    exact mul_lt_pow hb.1 ha.2
  have h3 : ((a.den : Int) * b.den).natAbs < 2 ^ (n + m) := by
    rw [Int.natAbs_mul]
    exact mul_lt_pow ha.2 hb.2
  have e : 2 ^ (n + m + 1) = 2 ^ (n + m) + 2 ^ (n + m) := by rw [Nat.pow_succ]; omega
  have h4 := Int.natAbs_add_le (a.num * b.den) (b.num * a.den)
  omega
theorem add_eq_divInt (a b : Rat) : (a.num * b.den + b.num * a.den) /. ((a.den : Int) * b.den) = a + b := by
  rw [Rat.add_def']
  rw [show ((a.den : Int) * b.den) = ((a.den * b.den : Nat) : Int) by rw [Int.natCast_mul], Rat.divInt_ofNat]
theorem sub_eq_divInt (a b : Rat) : (a.num * b.den - b.num * a.den) /. ((a.den : Int) * b.den) = a - b := by
  rw [Rat.sub_def']
  rw [show ((a.den : Int) * b.den) = ((a.den * b.den : Nat) : Int) by rw [Int.natCast_mul], Rat.divInt_ofNat]
theorem mul_eq_divInt (a b : Rat) : (a.num * b.num) /. ((a.den : Int) * b.den) = a * b := by
  rw [Rat.mul_def']
  rw [show ((a.den : Int) * b.den) = ((a.den * b.den : Nat) : Int) by rw [Int.natCast_mul], Rat.divInt_ofNat]
theorem div_eq_divInt (a b : Rat) : (a.num * b.den) /. ((a.den : Int) * b.num) = a / b := by
  rw [Rat.div_def, Rat.inv_def]
  have h := Rat.divInt_mul_divInt a.num (b.den : Int) (d₁ := (a.den : Int)) (d₂ := b.num)
  rw [Rat.num_divInt_den] at h
  exact h.symm
theorem den_ne (a : Rat) : (a.den : Int) ≠ 0 := by
  have := a.den_nz
  omega
theorem dens_ne (a b : Rat) : ((a.den : Int) * b.den) ≠ 0 := Int.mul_ne_zero (den_ne a) (den_ne b)
theorem Bd.add {a b : Rat} {n m : Nat} (ha : Bd n a) (hb : Bd m b) : Bd (n + m + 1) (a + b) := by
  rw [← add_eq_divInt]
  exact Bd.divInt (dens_ne a b) (add_parts ha hb).1 (add_parts ha hb).2
theorem Bd.neg {a : Rat} {n : Nat} (ha : Bd n a) : Bd n (-a) := ⟨by rw [Rat.neg_num, Int.natAbs_neg]; exact ha.1, ha.2⟩
theorem Bd.sub {a b : Rat} {n m : Nat} (ha : Bd n a) (hb : Bd m b) : Bd (n + m + 1) (a - b) := by
  rw [Rat.sub_eq_add_neg]
  exact ha.add hb.neg
theorem mul_parts {a b : Rat} {n m : Nat} (ha : Bd n a) (hb : Bd m b) :
    (a.num * b.num).natAbs < 2 ^ (n + m) ∧ ((a.den : Int) * b.den).natAbs < 2 ^ (n + m) := by
  rw [Int.natAbs_mul, Int.natAbs_mul]
  exact ⟨mul_lt_pow ha.1 hb.1, mul_lt_pow ha.2 hb.2⟩
theorem Bd.mul {a b : Rat} {n m : Nat} (ha : Bd n a) (hb : Bd m b) : Bd (n + m) (a * b) := by
  rw [← mul_eq_divInt]
  exact Bd.divInt (dens_ne a b) (mul_parts ha hb).1 (mul_parts ha hb).2
theorem div_parts {a b : Rat} {n m : Nat} (ha : Bd n a) (hb : Bd m b) :
    (a.num * b.den).natAbs < 2 ^ (n + m) ∧ ((a.den : Int) * b.num).natAbs < 2 ^ (n + m) := by
  rw [Int.natAbs_mul, Int.natAbs_mul]
  exact ⟨mul_lt_pow ha.1 hb.2, mul_lt_pow ha.2 hb.1⟩
theorem num_ne {b : Rat} (h : b ≠ 0) : b.num ≠ 0 := fun e => h (Rat.num_eq_zero.mp e)
theorem Bd.div {a b : Rat} {n m : Nat} (h : b ≠ 0) (ha : Bd n a) (hb : Bd m b) : Bd (n + m) (a / b) := by
  rw [← div_eq_divInt]
  exact Bd.divInt (Int.mul_ne_zero (den_ne a) (num_ne h)) (div_parts ha hb).1 (div_parts ha hb).2
theorem Bd.int {i : Int} {n : Nat} (h : i.natAbs < 2 ^ n) (h0 : 0 < n) : Bd n (i : Rat) :=
  ⟨by rw [Rat.num_intCast]; exact h, by rw [Rat.den_intCast]; exact Nat.one_lt_two_pow (by omega)⟩
/-- the two parts, as the program reckons them: divided by the greatest common divisor with the sign of the bottom -/
theorem fdiv_top {t b : Int} (hb : b ≠ 0) : t.fdiv (b.sign * ((Nat.gcd t.natAbs b.natAbs : Nat) : Int)) = (t /. b).num := by
  rw [Rat.num_divInt]
  have e : ((b.gcd t : Nat) : Int) = ((Nat.gcd t.natAbs b.natAbs : Nat) : Int) := by
    show ((Nat.gcd b.natAbs t.natAbs : Nat) : Int) = _
    rw [Nat.gcd_comm]
  rw [e]
  have hd : ((Nat.gcd t.natAbs b.natAbs : Nat) : Int) ∣ t := by
    rw [← e]
    exact Int.gcd_dvd_right ..
  have hg : ((Nat.gcd t.natAbs b.natAbs : Nat) : Int) ≠ 0 := by
    have : 0 < Nat.gcd t.natAbs b.natAbs := Nat.gcd_pos_of_pos_right _ (Int.natAbs_pos.mpr hb)
    omega
  obtain ⟨c, hc⟩ := hd
  generalize ((Nat.gcd t.natAbs b.natAbs : Nat) : Int) = g at hc hg e
  subst hc
  rcases Int.lt_or_gt_of_ne hb with h | h
  · rw [Int.sign_eq_neg_one_of_neg h]
    have e1 : (-1 : Int) * g = -g := by omega
    have e2 : (-1 : Int) * (g * c) = g * (-c) := by rw [Int.mul_neg]; omega
    rw [e1, e2, Int.mul_ediv_cancel_left _ hg, show g * c = (-g) * (-c) by rw [Int.neg_mul_neg]]
    rw [Int.fdiv_eq_ediv_of_dvd ⟨-c, rfl⟩, Int.mul_ediv_cancel_left _ (by omega)]
  · rw [Int.sign_eq_one_of_pos h, Int.one_mul, Int.one_mul, Int.mul_ediv_cancel_left _ hg, Int.fdiv_eq_ediv_of_dvd ⟨c, rfl⟩, Int.mul_ediv_cancel_left _ hg]
theorem fdiv_bottom {t b : Int} (hb : b ≠ 0) : b.fdiv (b.sign * ((Nat.gcd t.natAbs b.natAbs : Nat) : Int)) = ((t /. b).den : Int) := by
  rw [Rat.den_divInt, if_neg hb]
  have e : b.gcd t = Nat.gcd t.natAbs b.natAbs := by
    show Nat.gcd b.natAbs t.natAbs = _
    rw [Nat.gcd_comm]
  rw [e]
  have hg : 0 < Nat.gcd t.natAbs b.natAbs := Nat.gcd_pos_of_pos_right _ (Int.natAbs_pos.mpr hb)
  have hd : Nat.gcd t.natAbs b.natAbs ∣ b.natAbs := Nat.gcd_dvd_right _ _
  generalize Nat.gcd t.natAbs b.natAbs = g at hg hd
  obtain ⟨c, hc⟩ := hd
  rw [hc, Nat.mul_div_cancel_left _ hg]
  have hg' : (g : Int) ≠ 0 := by omega
  rcases Int.lt_or_gt_of_ne hb with h | h
  · have e3 : b = (-(g : Int)) * (c : Int) := by
      have : (b.natAbs : Int) = -b := by omega
      rw [hc, Int.natCast_mul] at this
      rw [Int.neg_mul]
      omega
    rw [Int.sign_eq_neg_one_of_neg h, show (-1 : Int) * (g : Int) = -(g : Int) by omega]
    rw [e3, Int.fdiv_eq_ediv_of_dvd ⟨c, rfl⟩, Int.mul_ediv_cancel_left _ (by omega)]
  · have e3 : b = (g : Int) * (c : Int) := by
      have : (b.natAbs : Int) = b := by omega
      rw [hc, Int.natCast_mul] at this
      omega
    rw [Int.sign_eq_one_of_pos h, Int.one_mul]
    rw [e3, Int.fdiv_eq_ediv_of_dvd ⟨c, rfl⟩, Int.mul_ediv_cancel_left _ hg']
end Act
namespace Act
theorem fdiv_neg_of {t g : Int} (hg : g ≠ 0) (hd : g ∣ t) : 0 - t.fdiv g = t.fdiv (-g) := by
  obtain ⟨c, rfl⟩ := hd
  rw [Int.fdiv_eq_ediv_of_dvd ⟨c, rfl⟩, Int.mul_ediv_cancel_left _ hg]
  rw [show g * c = (-g) * (-c) by rw [Int.neg_mul_neg], Int.fdiv_eq_ediv_of_dvd ⟨-c, rfl⟩, Int.mul_ediv_cancel_left _ (by omega)]
  omega
theorem gcd_dvd_int (t b : Int) : ((Nat.gcd t.natAbs b.natAbs : Nat) : Int) ∣ t ∧ ((Nat.gcd t.natAbs b.natAbs : Nat) : Int) ∣ b :=
  ⟨Int.gcd_dvd_left .., Int.gcd_dvd_right ..⟩
end Act
namespace Act
open PySem PySem.Spec PyProof.Rows L2
open scoped Rat
/-- the tables of code objects that make lambdas, and of which name -/
class GT where
  q : Addr → Option Str
variable [GT]
/-! ### heaps: what was there stays; tables of code grow -/
def Le (H H' : Hp) : Prop := ∀ a o, H a = some o → H' a = some o ∨ ∃ ps ps', o = .tbl ps ∧ H' a = some (.tbl ps') ∧ GT.q a = none ∧ (TriplesOk ps.toList → TriplesOk ps'.toList)
theorem Le.refl (H : Hp) : Le H H := fun _ _ h => .inl h
theorem Le.trans {H H1 H2 : Hp} (a : Le H H1) (b : Le H1 H2) : Le H H2 := fun x o h => by
  rcases a x o h with q | ⟨ps, ps', e, q, t⟩
  · exact b x o q
  · rcases b x _ q with r | ⟨qs, qs', e2, r, t2⟩
    · exact .inr ⟨ps, ps', e, r, t⟩
    · cases e2
      exact .inr ⟨ps, qs', e, r, t.1, fun z => t2.2 (t.2 z)⟩
theorem Le.new {H : Hp} {p : Addr} {o : HO} (h : H p = none) : Le H (upd H p o) := fun a u e => .inl (by rw [upd_ne (ne_of_none e h)]; exact e)
theorem Le.free {H H' : Hp} {p : Addr} (l : Le H H') (h : H' p = none) : H p = none := by
  cases e : H p with
  | none => rfl
  | some o =>
    rcases l p o e with q | ⟨ps, ps', _, q, _⟩
    · rw [h] at q; cases q
    · rw [h] at q; cases q
/-- what is new may change -/
theorem Le.own {H H' : Hp} {p : Addr} {o : HO} (l : Le H H') (h : H p = none) : Le H (upd H' p o) := fun a u e => by
  have n : a ≠ p := ne_of_none e h
  rw [upd_ne n]
  exact l a u e
theorem Le.rd {H H' : Hp} {a : Addr} {u : HO} (l : Le H H') (nt : ∀ ps, u ≠ .tbl ps) (h : Rd H a u) : Rd H' a u := by
  rcases h with h | ⟨o, h⟩
  · rcases l a u h with q | ⟨ps, _, e, _⟩
    · exact .inl q
    · exact absurd e (nt ps)
  · rcases l a _ h with q | ⟨ps, _, e, _⟩
    · exact .inr ⟨o, q⟩
    · cases e
theorem Le.t {K : PySem.W.Frag} {H H' : Hp} {a : Addr} {xs : List V} (l : Le H H') (h : SqT K H a xs) : SqT K H' a xs := by
  rcases h with h | h
  · exact .inl (l.rd (fun _ e => by cases e) h)
  · exact .inr h
theorem Le.l {K : PySem.W.Frag} {H H' : Hp} {a : Addr} {xs : List V} (l : Le H H') (h : SqL K H a xs) : SqL K H' a xs := by
  rcases h with h | h
  · exact .inl (l.rd (fun _ e => by cases e) h)
  · exact .inr h
theorem Le.lst {H H' : Hp} {a : Addr} {xs : List V} (l : Le H H') (h : H a = some (.lst xs)) : H' a = some (.lst xs) := by
  rcases l a _ h with q | ⟨ps, _, e, _⟩
  · exact q
  · cases e
/-! ### the tables of the code objects that make generators -/
def TabOk (H : Hp) (p : Addr) : Prop := match GT.q p with
  | none => GxR.TabG H p
  | some q => LamX.TabS H p q
def Tabs (T : List Addr) (H : Hp) : Prop := ∀ p ∈ T, TabOk H p
theorem TabOk.g {H : Hp} {p : Addr} (h : TabOk H p) (q : GT.q p = none) : GxR.TabG H p := by
  unfold TabOk at h
  rw [q] at h
  exact h
theorem TabOk.s {H : Hp} {p : Addr} {q : Str} (h : TabOk H p) (e : GT.q p = some q) : LamX.TabS H p q := by
  unfold TabOk at h
  rw [e] at h
  exact h
theorem TabOk.tbl {H : Hp} {p : Addr} (h : TabOk H p) : ∃ ps, H p = some (.tbl ps) ∧ TriplesOk ps.toList := by
  cases e : GT.q p with
  | none => exact h.g e
  | some q =>
    obtain ⟨ps, a, b, _⟩ := h.s e
    exact ⟨ps, a, b⟩
theorem TabOk.mk {H : Hp} {p : Addr} (a : GT.q p = none → GxR.TabG H p) (b : ∀ q, GT.q p = some q → LamX.TabS H p q) : TabOk H p := by
  unfold TabOk
  cases e : GT.q p with
  | none => exact a e
  | some q => exact b q e
theorem Le.tab {H H' : Hp} {p : Addr} (l : Le H H') (h : GxR.TabG H p) : GxR.TabG H' p := by
  obtain ⟨ps, e, t⟩ := h
  rcases l p _ e with q | ⟨qs, qs', e2, q, t2⟩
  · exact ⟨ps, q, t⟩
  · cases e2
    exact ⟨qs', q, t2.2 t⟩
theorem Tabs.up {T : List Addr} {H H' : Hp} (h : Tabs T H) (l : Le H H') : Tabs T H' := fun p hp => .mk (fun e => l.tab ((h p hp).g e)) fun q e => by
  obtain ⟨ps, e1, t, hc⟩ := (h p hp).s e
  rcases l p _ e1 with r | ⟨qs, qs', e2, r, t2⟩
  · refine ⟨ps, r, t, fun pos cv e3 => ?_⟩
    obtain ⟨c, e4, e5⟩ := hc pos cv e3
    rcases l c _ e5 with r2 | ⟨us, us', e6, _⟩
    · exact ⟨c, e4, r2⟩
    · exact absurd e6 (LamX.codeO_ne us)
  · rw [e] at t2; cases t2.1
theorem le_tabbed {P : Addr} {H H' : Hp} (hg : GT.q P = none) (h : GxR.TabG H P) (t : GxR.Tabbed P H H') : Le H H' := fun a o e => by
  obtain ⟨ps, e1, t1⟩ := h
  obtain ⟨⟨qs, e2, t2⟩, k⟩ := t
  by_cases ha : a = P
  · subst ha
    rw [e1] at e
    cases e
    exact .inr ⟨ps, qs, rfl, e2, hg, fun _ => t2⟩
  · exact .inl (by rw [k a ha]; exact e)
/-! ### ratios in the heap -/
/-- a tuple that was made, or one of the text's own -/
def ST (K : PySem.W.Frag) (H : Hp) (a : Addr) (xs : List V) : Prop :=
  H a = some (.tup xs) ∨ ∃ (o : Obj) (its : Array Value) (n : Nat), K.lookup a = some o ∧ o.cls = .type "tuple" ∧ o.data = .seq its n ∧ its.size ≤ sizeLine ∧ Vals xs its.toList
theorem ST.sq {K : PySem.W.Frag} {H : Hp} {a : Addr} {xs : List V} (h : ST K H a xs) : SqT K H a xs := by
  rcases h with h | h
  · exact .inl (.inl h)
  · exact .inr h
theorem ST.up {K : PySem.W.Frag} {H H' : Hp} {a : Addr} {xs : List V} (h : ST K H a xs) (l : Le H H') : ST K H' a xs := by
  rcases h with h | h
  · rcases l a _ h with q | ⟨ps, _, e, _⟩
    · exact .inl q
    · cases e
  · exact .inr h
theorem ST.ty {K : PySem.W.Frag} {H : Hp} {a : Addr} {xs : List V} (h : ST K H a xs) : TyX K H (.ref a) (.type "tuple") := by
  rcases h with h | ⟨o, its, n, h, c, _⟩
  · exact .base (.tup h)
  · exact .kTuple h c
theorem ST.new {K : PySem.W.Frag} {H : Hp} {a : Addr} {xs : List V} : ST K (upd H a (.tup xs)) a xs := .inl upd_same
def RT (K : PySem.W.Frag) (H : Hp) (r : Rat) (v : V) : Prop := ∃ a, v = .ref a ∧ ST K H a [.int r.num, .int r.den]
theorem RT.up {K : PySem.W.Frag} {H H' : Hp} {r : Rat} {v : V} (h : RT K H r v) (l : Le H H') : RT K H' r v :=
  let ⟨a, e, q⟩ := h
  ⟨a, e, q.up l⟩
theorem RT.new {K : PySem.W.Frag} {H : Hp} {p : Addr} {r : Rat} {i j : Int} (hi : i = r.num) (hj : j = (r.den : Int)) : RT K (upd H p (.tup [.int i, .int j])) r (.ref p) := by
  subst hi hj
  exact ⟨p, rfl, .inl upd_same⟩
/-! ### a list that calls change, all else kept -/
/-- all but what lies at a stays -/
def LeB (a : Addr) (H H' : Hp) : Prop := ∀ b o, b ≠ a → H b = some o → H' b = some o ∨ ∃ ps ps', o = .tbl ps ∧ H' b = some (.tbl ps') ∧ GT.q b = none ∧ (TriplesOk ps.toList → TriplesOk ps'.toList)
theorem Le.but {a : Addr} {H H' : Hp} (l : Le H H') : LeB a H H' := fun b o _ h => l b o h
theorem LeB.refl (a : Addr) (H : Hp) : LeB a H H := (Le.refl H).but
theorem LeB.trans {a : Addr} {H H1 H2 : Hp} (l : LeB a H H1) (k : LeB a H1 H2) : LeB a H H2 := fun x o n h => by
  rcases l x o n h with q | ⟨ps, ps', e, q, t⟩
  · exact k x o n q
  · rcases k x _ n q with r | ⟨qs, qs', e2, r, t2⟩
    · exact .inr ⟨ps, ps', e, r, t⟩
    · cases e2
      exact .inr ⟨ps, qs', e, r, t.1, fun z => t2.2 (t.2 z)⟩
theorem LeB.at {a : Addr} {o : HO} {H : Hp} : LeB a H (upd H a o) := fun b u n h => .inl (by rw [upd_ne n]; exact h)
theorem LeB.put {a : Addr} {o : HO} {H H' : Hp} (l : LeB a H H') : LeB a H (upd H' a o) := l.trans .at
/-- what was new when the list was made may stay forgotten -/
theorem LeB.le {a : Addr} {H H1 H2 : Hp} (l : Le H H1) (k : LeB a H1 H2) (n : H a = none) : Le H H2 := fun b o h => by
  have nb : b ≠ a := ne_of_none h n
  rcases l b o h with q | ⟨ps, ps', e, q, t⟩
  · exact k b o nb q
  · rcases k b _ nb q with r | ⟨qs, qs', e2, r, t2⟩
    · exact .inr ⟨ps, ps', e, r, t⟩
    · cases e2
      exact .inr ⟨ps, qs', e, r, t.1, fun z => t2.2 (t.2 z)⟩
theorem LeB.st {K : PySem.W.Frag} {a b : Addr} {H H' : Hp} {xs ys : List V} (l : LeB a H H') (ha : H a = some (.lst ys)) (h : ST K H b xs) : ST K H' b xs := by
  rcases h with h | h
  · have n : b ≠ a := fun e => by rw [e, ha] at h; cases h
    rcases l b _ n h with q | ⟨ps, _, e, _⟩
    · exact .inl q
    · cases e
  · exact .inr h
theorem LeB.rt {K : PySem.W.Frag} {a : Addr} {r : Rat} {v : V} {H H' : Hp} {ys : List V} (l : LeB a H H') (ha : H a = some (.lst ys)) (h : RT K H r v) : RT K H' r v :=
  let ⟨b, e, q⟩ := h
  ⟨b, e, l.st ha q⟩
theorem LeB.tabs {T : List Addr} {a : Addr} {H H' : Hp} {ys : List V} (l : LeB a H H') (ha : H a = some (.lst ys)) (h : Tabs T H) : Tabs T H' := fun p hp => by
  refine .mk (fun eg => ?_) fun w eg => ?_
  · obtain ⟨ps, e, t⟩ := (h p hp).g eg
    have n : p ≠ a := fun z => by rw [z, ha] at e; cases e
    rcases l p _ n e with q | ⟨qs, qs', e2, q, t2⟩
    · exact ⟨ps, q, t⟩
    · cases e2
      exact ⟨qs', q, t2.2 t⟩
  · obtain ⟨ps, e, t, hc⟩ := (h p hp).s eg
    have n : p ≠ a := fun z => by rw [z, ha] at e; cases e
    rcases l p _ n e with q | ⟨qs, qs', e2, q, t2⟩
    · refine ⟨ps, q, t, fun pos cv e3 => ?_⟩
      obtain ⟨c, e4, e5⟩ := hc pos cv e3
      have nc : c ≠ a := fun z => by rw [z, ha] at e5; cases e5
      rcases l c _ nc e5 with r2 | ⟨us, us', e6, _⟩
      · exact ⟨c, e4, r2⟩
      · exact absurd e6 (LamX.codeO_ne us)
    · rw [eg] at t2; cases t2.1
theorem LeB.lst {a b : Addr} {H H' : Hp} {xs : List V} (l : LeB a H H') (n : b ≠ a) (h : H b = some (.lst xs)) : H' b = some (.lst xs) := by
  rcases l b _ n h with q | ⟨ps, _, e, _⟩
  · exact q
  · cases e
theorem LeB.free {a b : Addr} {H H' : Hp} (l : LeB a H H') (n : b ≠ a) (h : H' b = none) : H b = none := by
  cases e : H b with
  | none => rfl
  | some o =>
    rcases l b o n e with q | ⟨ps, ps', _, q, _⟩
    · rw [h] at q; cases q
    · rw [h] at q; cases q
/-- the law's row of draws: the script, the place, the mixed number, the rest of a great cell -/
abbrev Scr := Addr × List Int
def Row (K : PySem.W.Frag) (N : Scr) (a : Addr) (H : Hp) : Prop :=
  ∃ (c m r : Int), H a = some (.lst [.ref N.1, .int c, .int m, .int r]) ∧ SqL K H N.1 (N.2.map V.int) ∧ 0 ≤ c ∧ 0 ≤ m ∧ m < 2147483647
theorem Row.lst {K : PySem.W.Frag} {N : Scr} {a : Addr} {H : Hp} (h : Row K N a H) : ∃ ys, H a = some (.lst ys) :=
  let ⟨_, _, _, e, _⟩ := h
  ⟨_, e⟩
theorem Row.up {K : PySem.W.Frag} {N : Scr} {a : Addr} {H H' : Hp} (h : Row K N a H) (l : Le H H') : Row K N a H' :=
  let ⟨c, m, r, e, s, x⟩ := h
  ⟨c, m, r, l.lst e, l.l s, x⟩
/-- an address that the script does not stand at -/
def Off (K : PySem.W.Frag) (N : Scr) (D : Addr) : Prop := D ≠ N.1 ∨ ∀ H, SqL K H N.1 (N.2.map V.int)
theorem Row.off {K : PySem.W.Frag} {N : Scr} {a D : Addr} {H : Hp} (h : Row K N a H) (n : H D = none) : Off K N D := by
  obtain ⟨c, m, r, e, s, x⟩ := h
  rcases s with (s | ⟨u, s⟩) | s
  · exact .inl fun z => by rw [← z, n] at s; cases s
  · exact .inl fun z => by rw [← z, n] at s; cases s
  · exact .inr fun H => .inr s
theorem Row.put {K : PySem.W.Frag} {N : Scr} {a D : Addr} {H : Hp} {o : HO} (h : Row K N a H) (f : Off K N D) (n : D ≠ a) : Row K N a (upd H D o) := by
  obtain ⟨c, m, r, e, s, x⟩ := h
  refine ⟨c, m, r, by rw [upd_ne (Ne.symm n)]; exact e, ?_, x⟩
  rcases f with f | f
  · rcases s with (s | ⟨u, s⟩) | s
    · exact .inl (.inl (by rw [upd_ne (Ne.symm f)]; exact s))
    · exact .inl (.inr ⟨u, by rw [upd_ne (Ne.symm f)]; exact s⟩)
    · exact .inr s
  · exact f _
theorem Row.free {K : PySem.W.Frag} {N : Scr} {a D : Addr} {H : Hp} (h : Row K N a H) (n : H D = none) : D ≠ a := fun z => by
  obtain ⟨ys, e⟩ := h.lst
  rw [z, e] at n
  cases n
theorem seqL_but {K : PySem.W.Frag} {ns : List Int} {sc a b : Addr} {H : Hp} {o : HO} {xs : List V} (e : H a = some (.lst (.ref b :: xs))) (h : SqL K H sc (ns.map V.int)) : SqL K (upd H a o) sc (ns.map V.int) := by
  rcases h with (h | ⟨u, h⟩) | h
  · have n : sc ≠ a := fun z => by
      rw [z, e] at h
      cases ns with
      | nil => cases h
      | cons n ns => cases h
    exact .inl (.inl (by rw [upd_ne n]; exact h))
  · have n : sc ≠ a := fun z => by rw [z, e] at h; cases h
    exact .inl (.inr ⟨u, by rw [upd_ne n]; exact h⟩)
  · exact .inr h
/-! ### alike: the same data, n deep -/
def Flat : V → Prop
  | .non => True
  | .bl _ => True
  | .int _ => True
  | .str _ => True
  | _ => False
def Al (K : PySem.W.Frag) (H : Hp) : Nat → V → V → Prop
  | 0, x, y => x = y ∧ Flat x
  | n + 1, x, y => (x = y ∧ Flat x) ∨ ∃ a b xs ys, x = .ref a ∧ y = .ref b ∧ ST K H a xs ∧ ST K H b ys ∧ xs.length ≤ 1000 ∧ Paired (Al K H n) xs ys
theorem paired_imp {α β : Type} {F G : α → β → Prop} (h : ∀ a b, F a b → G a b) : ∀ {xs : List α} {ys : List β}, Paired F xs ys → Paired G xs ys
  | _, _, .nil => .nil
  | _, _, .cons a t => .cons (h _ _ a) (paired_imp h t)
theorem Al.up {K : PySem.W.Frag} {H H' : Hp} (l : Le H H') : ∀ {n : Nat} {x y : V}, Al K H n x y → Al K H' n x y
  | 0, _, _, h => h
  | n + 1, x, y, h => by
    rcases h with h | ⟨a, b, xs, ys, e1, e2, t1, t2, z, p⟩
    · exact .inl h
    · exact .inr ⟨a, b, xs, ys, e1, e2, t1.up l, t2.up l, z, paired_imp (fun _ _ q => Al.up l q) p⟩
theorem Al.more {K : PySem.W.Frag} {H : Hp} : ∀ {n : Nat} {x y : V}, Al K H n x y → Al K H (n + 1) x y
  | 0, _, _, h => .inl h
  | n + 1, x, y, h => by
    rcases h with h | ⟨a, b, xs, ys, e1, e2, t1, t2, z, p⟩
    · exact .inl h
    · exact .inr ⟨a, b, xs, ys, e1, e2, t1, t2, z, paired_imp (fun _ _ q => Al.more q) p⟩
theorem Al.int {K : PySem.W.Frag} {H : Hp} {n : Nat} {i : Int} : Al K H n (.int i) (.int i) := by
  cases n with
  | zero => exact ⟨rfl, trivial⟩
  | succ n => exact .inl ⟨rfl, trivial⟩
theorem RT.al {K : PySem.W.Frag} {H : Hp} {r : Rat} {x y : V} (h : RT K H r x) (h' : RT K H r y) : Al K H 1 x y :=
  let ⟨a, e, q⟩ := h
  let ⟨b, e', q'⟩ := h'
  .inr ⟨a, b, _, _, e, e', q, q', by show 2 ≤ 1000; decide, .cons .int (.cons .int .nil)⟩
/-- a row of ratios -/
def RTs (K : PySem.W.Frag) (H : Hp) : List Rat → List V → Prop := Paired (RT K H)
theorem RTs.up {K : PySem.W.Frag} {H H' : Hp} {rs : List Rat} {vs : List V} (h : RTs K H rs vs) (l : Le H H') : RTs K H' rs vs := paired_imp (fun _ _ q => q.up l) h
theorem paired_len {α β : Type} {F : α → β → Prop} : ∀ {xs : List α} {ys : List β}, Paired F xs ys → xs.length = ys.length
  | _, _, .nil => rfl
  | _, _, .cons _ t => congrArg Nat.succ (paired_len t)
theorem paired_at {α β : Type} {F : α → β → Prop} : ∀ {xs : List α} {ys : List β} {i : Nat} {x : α} {y : β}, Paired F xs ys → xs[i]? = some x → ys[i]? = some y → F x y
  | _, _, i, _, _, .nil, h, _ => by simp at h
  | _, _, 0, _, _, .cons a _, h1, h2 => by
    cases h1
    cases h2
    exact a
  | _, _, i + 1, _, _, .cons _ t, h1, h2 => paired_at (i := i) t h1 h2
/-! ### // by any number but 0 -/
def CDivZ (_ j : Int) : Prop := j ≠ 0 ∧ j.natAbs.log2 < 9000
theorem cdivz {i j : Int} {n : Nat} (h : j ≠ 0) (hb : j.natAbs < 2 ^ n) (hn : n ≤ 9000) : CDivZ i j := by
  refine ⟨h, ?_⟩
  have := (Nat.log2_lt (by omega)).mpr hb
  omega
theorem op_fdivZ {X : Cx} : OpR X (binaryOp .FloorDiv) (rI CDivZ fun i j => .int (i.fdiv j)) := opI fun _ _ _ _ _ _ _ hc q => floordiv_int hc.1 q (.inl (PyProof.noPylong_of_log2 hc.2))
theorem cmul {i j : Int} {a b : Nat} (ha : i.natAbs < 2 ^ a) (hb : j.natAbs < 2 ^ b) (h : a + b ≤ 900000) : CMulW i j :=
  wide_mul (a := a + 1) (b := b + 1) (Nat.lt_of_lt_of_le ha (Nat.pow_le_pow_right (by decide) (by omega))) (Nat.lt_of_lt_of_le hb (Nat.pow_le_pow_right (by decide) (by omega))) (by omega) (by omega) (by omega)
/-! ### a def of the text, and what it promises -/
/-- the def x of the text, its function object at f -/
abbrev Fn (K : PySem.W.Frag) (x : Str) (st : Stmt) (f : Addr) (fd : FuncData) : Prop := FunD K x x (defArgs st) (defBody st) (defScope st) [] [] f fd
structure Df (K : PySem.W.Frag) (mg : Str → Option Value) (x : Str) (st : Stmt) (ps : List Str) : Prop where
  ex : ∃ f fd, Fn K x st f fd ∧ mg x = some (.ref f) ∧ Binds K fd ps []
structure Has (P : Program) (w : World) (K : PySem.W.Frag) (mg : Str → Option Value) (base : Heap) (k : Nat) (x : Str) (ps : List Str) (sp : Sp) : Prop where
  ex : ∃ f fd, FnOk P w K mg base CX0 k f fd ps sp ∧ mg x = some (.ref f) ∧ PySem.W.keepIn K (.ref f) = true ∧ Binds K fd ps []
/-- the same, its code object at c -/
structure DfG (K : PySem.W.Frag) (mg : Str → Option Value) (x : Str) (st : Stmt) (ps : List Str) (c : Addr) : Prop where
  ex : ∃ f fd, Fn K x st f fd ∧ fd.code = .ref c ∧ mg x = some (.ref f) ∧ Binds K fd ps []
section
variable {P : Program} {w : World} {K : PySem.W.Frag} {mg : Str → Option Value} {base : Heap}
theorem Has.mono {j k : Nat} {x : Str} {ps : List Str} {sp : Sp} (h : Has P w K mg base j x ps sp) (l : j ≤ k) : Has P w K mg base k x ps sp :=
  let ⟨f, fd, F, r⟩ := h.ex
  ⟨f, fd, F.mono l, r⟩
theorem fn_ok {x : Str} {st : Stmt} {f : Addr} {fd : FuncData} {ps N : List Str} {k : Nat} {sp : Sp} (F : Fn K x st f fd) (S : FnScope N ps (defScope st)) (len : ∀ vs H Q E, sp vs H Q E → vs.length = ps.length)
    (hbody : ∀ (cdv : Value) (A : Around) (outer : List Env) (s : Shared) (H : Hp) (vs : List V) (Q : VK) (E : XK), Room k (A.deeper (envOfC x (defScope st) s.heap.objs.size f cdv)) → sp vs H Q E →
      ∃ t, PSs (cxOf CX0 P w K mg base N x (defScope st) f cdv A outer s H E).nox (defBody st) t ∧ t { nx := fun _ H' => Q .non H', rt := Q } (start N vs) H) : FnOk P w K mg base CX0 (k + 1) f fd ps sp :=
  F.ok S len fun cdv A outer s H vs Q E hr h => let ⟨t, h1, h2⟩ := hbody cdv A outer s H vs Q E hr h
    ⟨t, h1.nox, h2⟩
theorem fn_okG {x : Str} {st : Stmt} {f c : Addr} {fd : FuncData} {ps N : List Str} {k : Nat} {sp : Sp} (F : Fn K x st f fd) (hc : fd.code = .ref c) (S : FnScope N ps (defScope st)) (len : ∀ vs H Q E, sp vs H Q E → vs.length = ps.length)
    (hbody : ∀ (A : Around) (outer : List Env) (s : Shared) (H : Hp) (vs : List V) (Q : VK) (E : XK), Room k (A.deeper (envOfC x (defScope st) s.heap.objs.size f (.ref c))) → sp vs H Q E →
      ∃ t, PSs (cxOf CX0 P w K mg base N x (defScope st) f (.ref c) A outer s H E).nox (defBody st) t ∧ t { nx := fun _ H' => Q .non H', rt := Q } (start N vs) H) : FnOk P w K mg base CX0 (k + 1) f fd ps sp := by
  obtain ⟨oc, od, dV, kV, doc, pm, an, cdv, ct, osl, rfl, lk, hcd, _, _⟩ := F.ex
  obtain rfl : cdv = .ref c := hc
  exact fn_of lk hcd S len fun A outer s H vs Q E hr h => let ⟨t, h1, h2⟩ := hbody A outer s H vs Q E hr h
    ⟨t, h1.nox, h2⟩
theorem Df.has {x : Str} {st : Stmt} {ps N : List Str} {k : Nat} {sp : Sp} (d : Df K mg x st ps) (S : FnScope N ps (defScope st)) (len : ∀ vs H Q E, sp vs H Q E → vs.length = ps.length)
    (hbody : ∀ (f : Addr) (cdv : Value) (A : Around) (outer : List Env) (s : Shared) (H : Hp) (vs : List V) (Q : VK) (E : XK), Room k (A.deeper (envOfC x (defScope st) s.heap.objs.size f cdv)) → sp vs H Q E →
      ∃ t, PSs (cxOf CX0 P w K mg base N x (defScope st) f cdv A outer s H E).nox (defBody st) t ∧ t { nx := fun _ H' => Q .non H', rt := Q } (start N vs) H) : Has P w K mg base (k + 1) x ps sp := by
  obtain ⟨f, fd, F, m, b⟩ := d.ex
  exact ⟨f, fd, fn_ok F S len fun cdv A outer s H vs Q E hr h => hbody f cdv A outer s H vs Q E hr h, m, F.kp, b⟩
theorem DfG.has {x : Str} {st : Stmt} {ps N : List Str} {k : Nat} {sp : Sp} {c : Addr} (d : DfG K mg x st ps c) (S : FnScope N ps (defScope st)) (len : ∀ vs H Q E, sp vs H Q E → vs.length = ps.length)
    (hbody : ∀ (f : Addr) (A : Around) (outer : List Env) (s : Shared) (H : Hp) (vs : List V) (Q : VK) (E : XK), Room k (A.deeper (envOfC x (defScope st) s.heap.objs.size f (.ref c))) → sp vs H Q E →
      ∃ t, PSs (cxOf CX0 P w K mg base N x (defScope st) f (.ref c) A outer s H E).nox (defBody st) t ∧ t { nx := fun _ H' => Q .non H', rt := Q } (start N vs) H) : Has P w K mg base (k + 1) x ps sp := by
  obtain ⟨f, fd, F, hc, m, b⟩ := d.ex
  exact ⟨f, fd, fn_okG F hc S len fun A outer s H vs Q E hr h => hbody f A outer s H vs Q E hr h, m, F.kp, b⟩
end
theorem pe_has {X : Cx} {x : Str} {k : Nat} {ps : List Str} {sp : Sp} {p pos : Pos} {e : Expr} {es : List Expr} {t : TA} (h : Has X.prog X.w X.K X.mg X.base k x ps sp) (hr : Room k X.A) (ha : PA X (e :: es) t) (hg : Gl X x := by rfl)
    (hdb : (x == ("__debug__" : Str)) = false := by decide) (he : starEach (e :: es) X.env = (false, eval e X.env) :: starEach es X.env := by rfl) (hpl : (backTo pos (starEach es X.env)).any (·.1) = false := by rfl) :
    PE X (.Call (.Name x p) (e :: es) [] pos) (tCall sp [] E0 t) := by
  obtain ⟨f, fd, F, m, kp, b⟩ := h.ex
  exact pe_call F hr hg m kp b .nil pass0 ha hdb he hpl
/-! ### promises about ratios -/
/-- two ratios in, one out -/
def spR2 (K : PySem.W.Frag) (ok : Rat → Rat → Prop) (f : Rat → Rat → Rat) : Sp := fun vs H Q _ => ∃ x y a b n m, vs = [x, y] ∧ RT K H a x ∧ RT K H b y ∧ Bd n a ∧ Bd m b ∧ n + m ≤ 8900 ∧ ok a b ∧ ∀ H' v, Le H H' → RT K H' (f a b) v → Q v H'
/-- two integers in, their quotient out -/
def spMake (K : PySem.W.Frag) : Sp := fun vs H Q _ => ∃ t b n, vs = [.int t, .int b] ∧ b ≠ 0 ∧ b.natAbs < 2 ^ n ∧ n ≤ 8999 ∧ ∀ H' v, Le H H' → RT K H' (t /. b) v → Q v H'
/-- a number drawn from the row -/
def spTaken (K : PySem.W.Frag) (ns : Scr) : Sp := fun vs H Q _ => ∃ a m, vs = [.ref a, .int m] ∧ Row K ns a H ∧ 0 < m ∧ m < 1073741824 ∧ ∀ k H', 0 ≤ k → k < m → Row K ns a H' → LeB a H H' → Q (.int k) H'
/-- one of some things -/
def spPick (K : PySem.W.Frag) (ns : Scr) : Sp := fun vs H Q _ => ∃ a l xs, vs = [.ref a, .ref l] ∧ Row K ns a H ∧ H l = some (.lst xs) ∧ l ≠ a ∧ xs ≠ [] ∧ xs.length ≤ 1000 ∧ ∀ (j : Nat) (x : V) (H' : Hp), xs[j]? = some x → Row K ns a H' → LeB a H H' → Q x H'
/-- alike: True -/
def spAlike (K : PySem.W.Frag) (n : Nat) : Sp := fun vs H Q _ => ∃ x y, vs = [x, y] ∧ Al K H n x y ∧ ∀ H', Le H H' → Q (.bl true) H'
end Act
namespace Act
variable [GT]
open PySem PySem.Spec PyProof.Rows L2
/-! ### a tuple times an integer of any size -/
abbrev tupObj (its : Array Value) (m : Nat) (dx : Option Addr) (sv : Array (Option Value)) : Obj := { cls := .type "tuple", dict := dx, data := .seq its m, slots := sv }
theorem mulOne (l : Addr) (its : Array Value) (m : Nat) (dx : Option Addr) (sv : Array (Option Value)) (u : Tok) :
    Meets (Builtin.«tuple.__mul__» ⟨[.ref l, .int 1 u], []⟩) (fun _ R s => s.heap.get? l = some (tupObj its m dx sv) ∧ R (.ok (.ret (.ref l))) s) :=
  .of_wp fun prog w A R s h => by
    obtain ⟨hp, g, d, tk, os⟩ := s
    obtain ⟨hl, h⟩ := h
    have idx := AutoSeq1.idx_int
    wp_walk using wpAny_loadPart' hl
    all_goals try exact ⟨_, rfl, h⟩
theorem mulNone (l : Addr) (its : Array Value) (m : Nat) (dx : Option Addr) (sv : Array (Option Value)) (x : Int) (u : Tok) (hlow : (decide (x < -(2 ^ 63)) || decide (x ≥ 2 ^ 63)) = false) (h1 : (its.isEmpty || x == 1) = false) (h2 : (decide (x ≤ 0) || its.isEmpty) = true) :
    Meets (Builtin.«tuple.__mul__» ⟨[.ref l, .int x u], []⟩) (fun _ R s => s.heap.get? l = some (tupObj its m dx sv) ∧
      R (.ok (.ret (.ref s.heap.objs.size))) { s with heap := s.heap.push { cls := .type "tuple", data := .seq #[] }, toks := s.toks }) :=
  .of_wp fun prog w A R s h => by
    obtain ⟨hp, g, d, tk, os⟩ := s
    obtain ⟨hl, h⟩ := h
    have idx := AutoSeq1.idx_int
    wp_walk using wpAny_loadPart' hl
    repeat (first
      | (refine wpAny_ite_false (decide_eq_false fun z => by rw [hlow] at z; cases z) ?_; wp_walk using wpAny_loadPart' hl)
      | (refine wpAny_ite_false (decide_eq_false fun z => by rw [h1] at z; cases z) ?_; wp_walk using wpAny_loadPart' hl)
      | (refine wpAny_ite_true (decide_eq_true h2) ?_; wp_walk using wpAny_loadPart' hl))
    exact ⟨_, rfl, h⟩
/-- t * k: some tuple of k copies, all else as it was -/
def rRepA (K : PySem.W.Frag) : R2 := fun x y H Q => ∃ l k xs, x = .ref l ∧ y = .int k ∧ ST K H l xs ∧ xs ≠ [] ∧ -1000 ≤ k ∧ k ≤ 1000 ∧ xs.length ≤ 1000 ∧
  ∀ p H', Le H H' → ST K H' p (List.replicate k.toNat xs).flatten → Q (.ref p) H'
theorem op_repA {X : Cx} : OpR X (binaryOp .Mult) (rRepA X.K) := by
  intro pins s σ H x y v u Q I rx ry h
  obtain ⟨l, k, xs, rfl, rfl, hT, hne, h0, h1, hz, q⟩ := h
  by_cases h2 : 2 ≤ k
  · exact op_repT pins s σ H _ _ v u Q I rx ry ⟨l, k, xs, rfl, rfl, hT.sq, hne, h2, h1, hz, fun p np => q p _ (Le.new np) ST.new⟩
  cases rx
  obtain ⟨t, rfl⟩ := ry
  obtain ⟨its, r, ⟨⟨cl, dx, dat, sv⟩, ho, hc, m, hd⟩, hs⟩ := I.tuple hT.sq
  simp only at hc hd
  subst hc hd
  have hi : its.toArray.isEmpty = false := by
    cases its with
    | nil =>
      cases r
      exact absurd rfl hne
    | cons a b => rfl
  by_cases hk : k = 1
  · subst hk
    refine wpAny_binaryOp_repeat_ref (T := "tuple") (U := "int") (by decide) ⟨_, ho, rfl⟩ (fun z => typeIs_int z 1 t) noFill_tuple_mul F.fills_int_mul F.slot_int_rmul repeat_tuple F.slot_int_index.lookup ?_
    refine call_meets F.slot_int_rmul (typeIs_int s 1 t) F.entry_int_rmul (F.args_int_rmul_2 _ _) (int_rmul_tuple 1 t l its.toArray m dx sv) ⟨ho, rfl, ⟨_, ho, rfl⟩, ?_⟩
    refine call_meets F.slot_tuple_mul ⟨_, ho, rfl⟩ F.entry_tuple_mul (F.args_tuple_mul_2 _ _) (mulOne l its.toArray m dx sv t) ⟨ho, ?_⟩
    refine ⟨.ref l, H, I, rfl, q l H (Le.refl H) ?_⟩
    have e : (List.replicate (1 : Int).toNat xs).flatten = xs := by
      show (List.replicate 1 xs).flatten = xs
      simp
    rw [e]
    exact hT
  · have hk0 : k ≤ 0 := by omega
    refine wpAny_binaryOp_repeat_ref (T := "tuple") (U := "int") (by decide) ⟨_, ho, rfl⟩ (fun z => typeIs_int z k t) noFill_tuple_mul F.fills_int_mul F.slot_int_rmul repeat_tuple F.slot_int_index.lookup ?_
    refine call_meets F.slot_int_rmul (typeIs_int s k t) F.entry_int_rmul (F.args_int_rmul_2 _ _) (int_rmul_tuple k t l its.toArray m dx sv) ⟨ho, rfl, ⟨_, ho, rfl⟩, ?_⟩
    refine call_meets F.slot_tuple_mul ⟨_, ho, rfl⟩ F.entry_tuple_mul (F.args_tuple_mul_2 _ _) (mulNone l its.toArray m dx sv k t ?_ ?_ ?_) ⟨ho, ?_⟩
    · rw [decide_eq_false (by omega), decide_eq_false (by omega)] <;> rfl
    · rw [hi, Bool.false_or]
      exact beq_eq_false_iff_ne.mpr hk
    · rw [decide_eq_true hk0, Bool.true_or]
    · have e : (List.replicate k.toNat xs).flatten = [] := by
        rw [show k.toNat = 0 by omega]
        rfl
      have np : H s.heap.objs.size = none := I.hok.fresh (Nat.le_refl _)
      refine ⟨.ref s.heap.objs.size, upd H s.heap.objs.size (.tup []), I.laid (t' := s.toks) (o := .tup []) (fun b ob z => Heap.get?_push_of_some _ z) (Nat.le_refl _) ⟨Nat.zero_le _, [], .nil, IsTup.new _ _⟩, rfl, q _ _ (Le.new np) ?_⟩
      rw [e]
      exact ST.new
end Act
/-! Payments, their values, and loans: the mathematics. -/
namespace Act
open scoped Rat
structure RateOk (r : Rat) : Prop where
  top : r.num.natAbs ≤ 1000
  bot : r.den ≤ 1000
  pos : 0 < r.num + r.den
/-- one unit a year later -/
theorem grow_parts (r : Rat) : (1 + r).num = r.num + r.den ∧ (1 + r).den = r.den := by
  have hd := den_ne r
  have e : (1 + r) = (r.num + r.den) /. (r.den : Int) := by
    have h := add_eq_divInt 1 r
    rw [← h]
    simp only [Rat.one_num, Rat.one_den, Int.one_mul, Int.natCast_one, Int.mul_one]
    rw [Int.add_comm]
  have g : (r.den : Int).gcd (r.num + r.den) = 1 := by
    have h1 : Int.gcd (r.den : Int) (r.num + r.den) = Int.gcd (r.den : Int) r.num := by
      rw [Int.gcd_comm, Int.gcd_comm (r.den : Int) r.num]
      simp
    rw [h1]
    show Nat.gcd (r.den : Int).natAbs r.num.natAbs = 1
    rw [Nat.gcd_comm]
    exact r.reduced
  constructor
  · rw [e, Rat.num_divInt, g, Int.sign_eq_one_of_pos (by have := r.den_pos; omega), Int.one_mul, Int.natCast_one, Int.ediv_one]
  · rw [e, Rat.den_divInt, if_neg hd, g, Nat.div_one]
    omega
theorem grow_pos {r : Rat} (h : 0 < r.num + r.den) : 0 < 1 + r := by
  rw [Rat.lt_iff]
  rw [(grow_parts r).1]
  simp
  exact h
theorem disc_parts {r : Rat} (h : 0 < r.num + r.den) : ((1 + r)⁻¹).num = r.den ∧ (((1 + r)⁻¹).den : Int) = r.num + r.den := by
  have e := grow_parts r
  rw [Rat.num_inv, Rat.den_inv, e.1, e.2, Int.sign_eq_one_of_pos h, Int.one_mul, if_neg (by omega)]
  exact ⟨rfl, by omega⟩
theorem disc_pos {r : Rat} (h : 0 < r.num + r.den) : 0 < (1 + r)⁻¹ := Rat.inv_pos.mpr (grow_pos h)
theorem RateOk.bd {r : Rat} (h : RateOk r) : Bd 10 r := ⟨by have := h.top; show _ < 1024; omega, by have := h.bot; show _ < 1024; omega⟩
theorem RateOk.disc {r : Rat} (h : RateOk r) : Bd 11 (1 + r)⁻¹ := by
  have e := disc_parts h.pos
  have h1 := h.top
  have h2 := h.bot
  constructor
  · rw [e.1]
    show _ < 2048
    omega
  · show _ < 2048
    omega
theorem RateOk.grow {r : Rat} (h : RateOk r) : Bd 11 (1 + r) := by
  have e := grow_parts r
  have h1 := h.top
  have h2 := h.bot
  constructor
  · rw [e.1]
    show _ < 2048
    omega
  · rw [e.2]
    show _ < 2048
    omega
theorem RateOk.mul_disc {r : Rat} (h : RateOk r) : (1 + r) * (1 + r)⁻¹ = 1 := Rat.mul_inv_cancel _ (Rat.ne_of_gt (grow_pos h.pos))
/-- the value at time 0, by the factor of one year back -/
def pval (d : Rat) : List Int → Rat
  | [] => 0
  | x :: xs => (x : Rat) + d * pval d xs
theorem pval_append (d : Rat) : ∀ (xs : List Int) (x : Int), pval d (xs ++ [x]) = pval d xs + (x : Rat) * d ^ xs.length
  | [], x => by simp only [List.nil_append, pval, List.length_nil, Rat.pow_zero]; grind
  | y :: xs, x => by
    simp only [List.cons_append, pval, List.length_cons, Rat.pow_succ]
    rw [pval_append d xs x]
    grind
theorem Bd.zero {n : Nat} (h : 0 < n) : Bd n 0 := ⟨by rw [Rat.zero_num]; exact Nat.two_pow_pos n, by rw [Rat.zero_den]; exact Nat.one_lt_two_pow (by omega)⟩
theorem Bd.one {n : Nat} (h : 0 < n) : Bd n 1 := ⟨by show 1 < _; exact Nat.one_lt_two_pow (by omega), by show 1 < _; exact Nat.one_lt_two_pow (by omega)⟩
theorem Bd.pow {d : Rat} {m : Nat} (h : Bd m d) : ∀ k : Nat, Bd (m * k + 1) (d ^ k)
  | 0 => by rw [Rat.pow_zero]; exact Bd.one (by omega)
  | k + 1 => by
    rw [Rat.pow_succ]
    exact ((Bd.pow h k).mul h).mono (by rw [Nat.mul_succ]; omega)
/-- payments of the document's size -/
def PayOk (ns : List Int) : Prop := ∀ n ∈ ns, n.natAbs < 2 ^ 20
theorem PayOk.tail {n : Int} {ns : List Int} (h : PayOk (n :: ns)) : PayOk ns := fun m hm => h m (List.mem_cons_of_mem _ hm)
theorem PayOk.drop {ns : List Int} (h : PayOk ns) (k : Nat) : PayOk (ns.drop k) := fun m hm => h m (List.mem_of_mem_drop hm)
theorem PayOk.take {ns : List Int} (h : PayOk ns) (k : Nat) : PayOk (ns.take k) := fun m hm => h m (List.mem_of_mem_take hm)
theorem Bd.pval {d : Rat} (h : Bd 11 d) : ∀ {ns : List Int}, PayOk ns → Bd (1 + 33 * ns.length) (pval d ns)
  | [], _ => Bd.zero (by omega)
  | n :: ns, hp => by
    have h1 := (Bd.int (hp n List.mem_cons_self) (by decide)).add (h.mul (Bd.pval h hp.tail))
    exact h1.mono (by rw [List.length_cons]; omega)
theorem pval_nonneg {d : Rat} (hd : 0 < d) : ∀ {ns : List Int}, (∀ n ∈ ns, 0 ≤ n) → 0 ≤ pval d ns
  | [], _ => Rat.le_refl
  | n :: ns, h => by
    refine Rat.add_nonneg ?_ (Rat.mul_nonneg (Rat.le_of_lt hd) (pval_nonneg hd fun m hm => h m (List.mem_cons_of_mem _ hm)))
    have := h n List.mem_cons_self
    exact Rat.intCast_nonneg.mpr this
/-- payments of 1 at the ends of so many years -/
def ones (n : Nat) : List Int := 0 :: List.replicate n 1
theorem ones_len (n : Nat) : (ones n).length = n + 1 := by simp [ones]
theorem ones_ok (n : Nat) : PayOk (ones n) := fun m hm => by
  rcases List.mem_cons.mp hm with e | e
  · subst e; decide
  · rw [(List.mem_replicate.mp e).2]; decide
theorem pval_ones_succ (d : Rat) (n : Nat) : pval d (ones (n + 1)) = d * (1 + pval d (ones n)) := by
  simp only [ones, List.replicate_succ, pval]
  grind
theorem pval_ones_zero (d : Rat) : pval d (ones 0) = 0 := by
  simp only [ones, List.replicate_zero, pval]
  grind
theorem pval_ones_pos {d : Rat} (hd : 0 < d) (n : Nat) : 0 < pval d (ones (n + 1)) := by
  rw [pval_ones_succ]
  have h0 : 0 ≤ pval d (ones n) := pval_nonneg hd fun m hm => by
    rcases List.mem_cons.mp hm with e | e
    · omega
    · rw [(List.mem_replicate.mp e).2]; decide
  exact Rat.mul_pos hd (by grind)
/-- what is left of a loan: P what is paid each year -/
def lf (A P r : Rat) : Nat → Rat
  | 0 => A
  | k + 1 => lf A P r k - (P - r * lf A P r k)
theorem lf_closed {A P r : Rat} (h : RateOk r) (n : Nat) (hA : A = P * pval (1 + r)⁻¹ (ones n)) : ∀ k, k ≤ n → lf A P r k = P * pval (1 + r)⁻¹ (ones (n - k))
  | 0, _ => by rw [Nat.sub_zero]; exact hA
  | k + 1, hk => by
    have ih := lf_closed h n hA k (by omega)
    have e := h.mul_disc
    show lf A P r k - (P - r * lf A P r k) = _
    rw [ih, show n - k = (n - (k + 1)) + 1 by omega, pval_ones_succ]
    generalize pval (1 + r)⁻¹ (ones (n - (k + 1))) = W
    generalize (1 + r)⁻¹ = d at e ⊢
    grind
theorem paid_eq {A W : Rat} (h : 0 < W) : A = (A / W) * W := (Rat.div_mul_cancel (Rat.ne_of_gt h)).symm
end Act
namespace Act
variable [GT]
open PySem PySem.Spec PyProof.Rows L2
open scoped Rat
/-- an integer: True -/
def spIsInt : Sp := fun vs H Q _ => ∃ i, vs = [.int i] ∧ Q (.bl true) H
def spBetween : Sp := fun vs H Q _ => ∃ i a b, vs = [.int i, .int a, .int b] ∧ Q (.bl (decide (a ≤ i ∧ i ≤ b))) H
def spIsRatio (K : PySem.W.Frag) : Sp := fun vs H Q _ => ∃ v r, vs = [v] ∧ RT K H r v ∧ Q (.bl true) H
def spCheckRate (K : PySem.W.Frag) : Sp := fun vs H Q _ => ∃ v r, vs = [v] ∧ RT K H r v ∧ RateOk r ∧ Q .non H
def spCheckTime : Sp := fun vs H Q _ => ∃ i a b, vs = [.int i, .int a, .int b] ∧ a ≤ i ∧ i ≤ b ∧ Q .non H
/-- payments as the document allows them -/
def PayIn (ns : List Int) : Prop := ns.length ≤ 40 ∧ ∀ n ∈ ns, n.natAbs ≤ 1000000
theorem PayIn.ok {ns : List Int} (h : PayIn ns) : PayOk ns := fun n hn => Nat.lt_of_le_of_lt (h.2 n hn) (by decide)
def spCheckPay (K : PySem.W.Frag) (T : List Addr) : Sp := fun vs H Q _ => ∃ (p : Addr) (ns : List Int), vs = [.ref p] ∧ ST K H p (ns.map V.int) ∧ ns.length ≤ 40 ∧ (∀ n ∈ ns, n.natAbs ≤ 1000000) ∧ Tabs T H ∧ ∀ H', Le H H' → Q .non H'
/-- a ratio in, another one out -/
def spR1 (K : PySem.W.Frag) (ok : Rat → Prop) (f : Rat → Rat) : Sp := fun vs H Q _ => ∃ v r, vs = [v] ∧ RT K H r v ∧ ok r ∧ ∀ H' u, Le H H' → RT K H' (f r) u → Q u H'
def spPV (K : PySem.W.Frag) : Sp := fun vs H Q _ => ∃ p v ns r, vs = [.ref p, v] ∧ ST K H p (ns.map V.int) ∧ ns.length ≤ 60 ∧ PayOk ns ∧ RT K H r v ∧ RateOk r ∧ ∀ H' u, Le H H' → RT K H' (pval (1 + r)⁻¹ ns) u → Q u H'
def spOnes (K : PySem.W.Frag) : Sp := fun vs H Q _ => ∃ v r n, vs = [v, .int ((n : Nat) : Int)] ∧ n ≤ 40 ∧ RT K H r v ∧ RateOk r ∧ ∀ H' u, Le H H' → RT K H' (pval (1 + r)⁻¹ (ones n)) u → Q u H'
def spCheckLoan (K : PySem.W.Frag) : Sp := fun vs H Q _ => ∃ A v r n, vs = [.int A, v, .int ((n : Nat) : Int)] ∧ 1 ≤ A ∧ A ≤ 1000000 ∧ 1 ≤ n ∧ n ≤ 40 ∧ RT K H r v ∧ RateOk r ∧ Q .non H
/-- what is paid each year -/
def paidY (A : Int) (r : Rat) (n : Nat) : Rat := (A : Rat) / pval (1 + r)⁻¹ (ones n)
theorem amount_bd {A : Int} (h1 : 1 ≤ A) (h2 : A ≤ 1000000) : Bd 20 (A : Rat) := Bd.int (by show _ < 1048576; omega) (by decide)
theorem ones_bd {r : Rat} (h : RateOk r) {n m : Nat} (hn : n ≤ m) : Bd (34 + 33 * m) (pval (1 + r)⁻¹ (ones n)) := (Bd.pval h.disc (ones_ok n)).mono (by rw [ones_len]; omega)
theorem ones_ne {r : Rat} (h : RateOk r) {n : Nat} (hn : 1 ≤ n) : pval (1 + r)⁻¹ (ones n) ≠ 0 := by
  obtain ⟨m, rfl⟩ : ∃ m, n = m + 1 := ⟨n - 1, by omega⟩
  exact Rat.ne_of_gt (pval_ones_pos (disc_pos h.pos) m)
theorem paidY_bd {A : Int} {r : Rat} {n : Nat} (h : RateOk r) (h1 : 1 ≤ A) (h2 : A ≤ 1000000) (hn : 1 ≤ n) (hm : n ≤ 40) : Bd 1374 (paidY A r n) :=
  Bd.div (ones_ne h hn) (amount_bd h1 h2) (ones_bd h hm)
theorem paidY_eq {A : Int} {r : Rat} {n : Nat} (h : RateOk r) (hn : 1 ≤ n) : (A : Rat) = paidY A r n * pval (1 + r)⁻¹ (ones n) := (Rat.div_mul_cancel (ones_ne h hn)).symm
def lfY (A : Int) (r : Rat) (n k : Nat) : Rat := lf (A : Rat) (paidY A r n) r k
theorem lfY_closed {A : Int} {r : Rat} {n k : Nat} (h : RateOk r) (hn : 1 ≤ n) (hk : k ≤ n) : lfY A r n k = paidY A r n * pval (1 + r)⁻¹ (ones (n - k)) := lf_closed h n (paidY_eq h hn) k hk
theorem lfY_bd {A : Int} {r : Rat} {n k : Nat} (h : RateOk r) (h1 : 1 ≤ A) (h2 : A ≤ 1000000) (hn : 1 ≤ n) (hm : n ≤ 40) (hk : k ≤ n) : Bd 2728 (lfY A r n k) := by
  rw [lfY_closed h hn hk]
  exact (paidY_bd h h1 h2 hn hm).mul (ones_bd h (by omega : n - k ≤ 40))
theorem lfY_succ (A : Int) (r : Rat) (n k : Nat) : lfY A r n (k + 1) = lfY A r n k - (paidY A r n - r * lfY A r n k) := rfl
theorem lfY_zero (A : Int) (r : Rat) (n : Nat) : lfY A r n 0 = A := rfl
theorem lfY_end {A : Int} {r : Rat} {n : Nat} (h : RateOk r) (hn : 1 ≤ n) : lfY A r n n = 0 := by
  rw [lfY_closed h hn (Nat.le_refl n), Nat.sub_self, pval_ones_zero]
  grind
def spYearly (K : PySem.W.Frag) : Sp := fun vs H Q _ => ∃ A v r n, vs = [.int A, v, .int ((n : Nat) : Int)] ∧ 1 ≤ A ∧ A ≤ 1000000 ∧ 1 ≤ n ∧ n ≤ 40 ∧ RT K H r v ∧ RateOk r ∧ ∀ H' u, Le H H' → RT K H' (paidY A r n) u → Q u H'
/-- a tuple of four ratios -/
def R4 (K : PySem.W.Frag) (H : Hp) (a b c d : Rat) (v : V) : Prop := ∃ q x y z u, v = .ref q ∧ ST K H q [x, y, z, u] ∧ RT K H a x ∧ RT K H b y ∧ RT K H c z ∧ RT K H d u
theorem R4.up {K : PySem.W.Frag} {H H' : Hp} {a b c d : Rat} {v : V} (h : R4 K H a b c d v) (l : Le H H') : R4 K H' a b c d v :=
  let ⟨q, x, y, z, u, e, t, h1, h2, h3, h4⟩ := h
  ⟨q, x, y, z, u, e, t.up l, h1.up l, h2.up l, h3.up l, h4.up l⟩
/-- the row of year k + 1 -/
def LoanRow (K : PySem.W.Frag) (A : Int) (r : Rat) (n : Nat) (H : Hp) (k : Nat) (v : V) : Prop := R4 K H (paidY A r n) (r * lfY A r n k) (paidY A r n - r * lfY A r n k) (lfY A r n (k + 1)) v
def spLoanRows (K : PySem.W.Frag) : Sp := fun vs H Q _ => ∃ A v r n, vs = [.int A, v, .int ((n : Nat) : Int)] ∧ 1 ≤ A ∧ A ≤ 1000000 ∧ 1 ≤ n ∧ n ≤ 40 ∧ RT K H r v ∧ RateOk r ∧
  ∀ H' p xs, Le H H' → H' p = some (.tup xs) → xs.length = n → (∀ (k : Nat) (x : V), xs[k]? = some x → LoanRow K A r n H' k x) → Q (.ref p) H'
def spLeft (K : PySem.W.Frag) : Sp := fun vs H Q _ => ∃ A v r n t, vs = [.int A, v, .int ((n : Nat) : Int), .int ((t : Nat) : Int)] ∧ 1 ≤ A ∧ A ≤ 1000000 ∧ 1 ≤ n ∧ n ≤ 40 ∧ t ≤ n ∧ RT K H r v ∧ RateOk r ∧ ∀ H' u, Le H H' → RT K H' (lfY A r n t) u → Q u H'
/-- the values one by one, as the law reckons them -/
def vals (d : Rat) : Rat → List Int → List Rat
  | _, [] => []
  | h, x :: xs => (x : Rat) * h :: vals d (h * d) xs
theorem vals_len (d : Rat) : ∀ (h : Rat) (xs : List Int), (vals d h xs).length = xs.length
  | _, [] => rfl
  | h, x :: xs => congrArg Nat.succ (vals_len d (h * d) xs)
theorem vals_at (d : Rat) : ∀ (h : Rat) (xs : List Int) (i : Nat) (x : Int), xs[i]? = some x → (vals d h xs)[i]? = some ((x : Rat) * (h * d ^ i))
  | _, [], i, x, e => by simp at e
  | h, y :: xs, 0, x, e => by
    cases e
    show some _ = some _
    rw [Rat.pow_zero, Rat.mul_one]
  | h, y :: xs, i + 1, x, e => by
    show (vals d (h * d) xs)[i]? = _
    rw [vals_at d (h * d) xs i x e, Rat.pow_succ]
    congr 2
    grind
theorem vals_append (d : Rat) : ∀ (h : Rat) (xs : List Int) (x : Int), vals d h (xs ++ [x]) = vals d h xs ++ [(x : Rat) * (h * d ^ xs.length)]
  | h, [], x => by
    show [_] = [_]
    rw [List.length_nil, Rat.pow_zero, Rat.mul_one]
  | h, y :: xs, x => by
    simp only [List.cons_append, vals]
    rw [vals_append d (h * d) xs x, List.length_cons, Rat.pow_succ]
    have e : h * d * d ^ xs.length = h * (d ^ xs.length * d) := by grind
    rw [e]
def spValues (K : PySem.W.Frag) : Sp := fun vs H Q _ => ∃ p v ns r, vs = [.ref p, v] ∧ ST K H p (ns.map V.int) ∧ ns.length ≤ 60 ∧ PayOk ns ∧ RT K H r v ∧ RateOk r ∧
  ∀ H' l us, Le H H' → H l = none → H' l = some (.lst us) → RTs K H' (vals (1 + r)⁻¹ 1 ns) us → Q (.ref l) H'
/-- an interest rate of the law's list -/
def spRate (K : PySem.W.Frag) (ns : Scr) : Sp := fun vs H Q _ => ∃ a, vs = [.ref a] ∧ Row K ns a H ∧ ∀ (H' : Hp) (v : V) (r : Rat), RateOk r → RT K H' r v → Row K ns a H' → LeB a H H' → Q v H'
theorem hu64 {k : Nat} {A : Around} (hr : Room k A) : A.units + 64 < cLine := by
  have := hr.un
  omega
/-- two ways that meet -/
theorem if_cont {c : Prop} [Decidable c] {ta tb : TE} {σ : L2.St} {H : Hp} {Q : VK} (R : V → Hp → Prop) (h1 : c → ∀ Q' : VK, (∀ v H', R v H' → Q' v H') → ta σ H Q') (h2 : ¬ c → ∀ Q' : VK, (∀ v H', R v H' → Q' v H') → tb σ H Q') (h : ∀ v H', R v H' → Q v H') :
    if c then ta σ H Q else tb σ H Q := by
  by_cases e : c
  · rw [if_pos e]
    exact h1 e Q h
  · rw [if_neg e]
    exact h2 e Q h
/-- the law: True for a script of at most 63 integers -/
def spLaw (K : PySem.W.Frag) : Sp := fun vs H Q _ => ∃ (a : Addr) (ns : List Int), vs = [.ref a] ∧ SqL K H a (ns.map V.int) ∧ ns.length ≤ 63 ∧ ∀ H', Q (.bl true) H'
def spLawT (K : PySem.W.Frag) (T : List Addr) : Sp := fun vs H Q _ => ∃ (a : Addr) (ns : List Int), vs = [.ref a] ∧ SqL K H a (ns.map V.int) ∧ ns.length ≤ 63 ∧ Tabs T H ∧ ∀ H', Q (.bl true) H'
/-- the row as the law makes it -/
theorem Row.new {K : PySem.W.Frag} {ns : List Int} {a p : Addr} {H : Hp} {m : Int} (hS : SqL K H a (ns.map V.int)) (np : H p = none) (h0 : 0 ≤ m) (h1 : m < 2147483647) : Row K (a, ns) p (upd H p (.lst [.ref a, .int 0, .int m, .int 0])) :=
  ⟨0, m, 0, upd_same, (Le.new np).l hS, by omega, h0, h1⟩
/-- ratio and its parts, bent in sign -/
theorem RT.neg {K : PySem.W.Frag} {H : Hp} {p : Addr} {r : Rat} : RT K (upd H p (.tup [.int (0 - r.num), .int r.den])) (-r) (.ref p) := RT.new (by rw [Rat.neg_num]; omega) (by rw [Rat.neg_den])
theorem RT.ofInt {K : PySem.W.Frag} {H : Hp} {p : Addr} {i : Int} : RT K (upd H p (.tup [.int i, .int 1])) (i : Rat) (.ref p) := RT.new (by rw [Rat.num_intCast]) (by rw [Rat.den_intCast]; rfl)
theorem RT.dp {K : PySem.W.Frag} {H : Hp} {r : Rat} {v : V} (h : RT K H r v) : Dp K H v (.tuple [.int r.num, .int r.den]) :=
  let ⟨_, e, q⟩ := h
  e ▸ .tup q.sq (.cons (.int _) (.cons (.int _) .nil))
def spPower (K : PySem.W.Frag) : Sp := fun vs H Q _ => ∃ v r n m, vs = [v, .int ((n : Nat) : Int)] ∧ n ≤ 100 ∧ Bd m r ∧ m * n + m ≤ 100000 ∧ RT K H r v ∧ ∀ H' u, Le H H' → RT K H' (r ^ n) u → Q u H'
def spValueAt (K : PySem.W.Frag) (T : List Addr) : Sp := fun vs H Q _ => ∃ p v ns r n, vs = [.ref p, v, .int ((n : Nat) : Int)] ∧ ST K H p (ns.map V.int) ∧ PayIn ns ∧ n ≤ 60 ∧ RT K H r v ∧ RateOk r ∧ Tabs T H ∧ ∀ H' u, Le H H' → RT K H' (pval (1 + r)⁻¹ ns * (1 + r) ^ n) u → Q u H'
def spShifted (K : PySem.W.Frag) (T : List Addr) : Sp := fun vs H Q _ => ∃ (p : Addr) (ns : List Int) (n : Nat), vs = [.ref p, .int ((n : Nat) : Int)] ∧ ST K H p (ns.map V.int) ∧ PayIn ns ∧ n ≤ 40 ∧ n + ns.length ≤ 40 ∧ Tabs T H ∧ ∀ H' u, Le H H' → ST K H' u ((List.replicate n (0 : Int) ++ ns).map V.int) → Q (.ref u) H'
def spLevel (K : PySem.W.Frag) : Sp := fun vs H Q _ => ∃ (n : Nat), vs = [.int ((n : Nat) : Int)] ∧ n ≤ 40 ∧ ∀ H' u, Le H H' → ST K H' u ((List.replicate n (1 : Int)).map V.int) → Q (.ref u) H'
/-! ### loops -/
theorem for_rev {K : PySem.W.Frag} {a : Addr} {n : Nat} {xs : List V} {g : TG} {tb : TS} {D : Ends} {σ : L2.St} {H : Hp} (hn : xs.length = n) (Pv : Nat → L2.St → Hp → Prop) (h0 : Pv 0 σ H) (hl : ∀ i σ H, Pv i σ H → SqT K H a xs)
    (hs : ∀ i x σ H, i < n → xs[n - 1 - i]? = some x → Pv i σ H → g x σ H fun σ2 H2 => tb { D with nx := Pv (i + 1), ct := Pv (i + 1), bk := D.nx } σ2 H2) (hd : ∀ σ H, Pv n σ H → D.nx σ H) :
    ∃ W : Nat → Nat → L2.St → Hp → Prop, (∃ m, W 0 m σ H) ∧ ∀ i m σ H, W i m σ H →
      ((_root_.RT.ItvT K a n).stop i H ∧ D.nx σ H) ∨ ((_root_.RT.ItvT K a n).go i H ∧ ∃ N : L2.St → Hp → Prop, (∀ σ' H', N σ' H' → ∃ m', m' < m ∧ W (i + 1) m' σ' H') ∧ ∀ x H', (_root_.RT.ItvT K a n).yld i H x H' → g x σ H' fun σ2 H2 => tb { D with nx := N, ct := N, bk := D.nx } σ2 H2) := by
  refine ⟨fun i m σ H => m = n - i ∧ i ≤ n ∧ Pv i σ H, ⟨n, rfl, Nat.zero_le _, h0⟩, ?_⟩
  rintro i m σ H ⟨rfl, hi, p⟩
  have q := hl i σ H p
  by_cases c : i < n
  · have hx : xs[n - 1 - i]? = some (xs[n - 1 - i]'(by omega)) := List.getElem?_eq_getElem (by omega)
    refine .inr ⟨⟨c, xs, _, q, hx⟩, Pv (i + 1), fun σ' H' p' => ⟨n - (i + 1), by omega, rfl, c, p'⟩, fun x H' y => ?_⟩
    obtain ⟨e, f⟩ := y
    subst e
    exact hs i x σ H' c (f xs q) p
  · have e : i = n := by omega
    subst e
    exact .inl ⟨Nat.le_refl i, hd σ H p⟩
end Act
namespace Act
variable [GT]
open PySem PySem.Spec PyProof.Rows L2
open GxR (TabB TabG Tabbed GenS inv_tab sh_eta)
/-! ### all(test for x in a tuple), any(..): the test may call defs of the text, quietly -/
/-- the test of one item, in the generator's own frame -/
def EltOk (X : Cx) (scope : Scope) (x : Str) (elt : Expr) (P : Addr) (C : L2.St → Hp → List V → (V → Bool) → Prop) : Prop :=
  ∀ (pins : List (Addr × Obj)) (σ : L2.St) (H1 : Hp) (s1 : Shared), Inv X pins σ H1 s1 → ∀ (xs : List V) (pb : V → Bool), C σ H1 xs pb →
    ∀ (cenv : Env) (A' : Around) (E' : Value → Shared → Prop) (v : V) (u : Value) (s2 : Shared) (m2 : Str → Option Value), cenv.scope = scope → cenv.globals = mainGlobals → cenv.cells = cloFrom X.env.cells scope.names [] →
      A'.handled = none → A'.depth ≤ X.A.depth + 1 → A'.units ≤ X.A.units + 8 → v ∈ xs → RelV v u → s2.heap.Ns cenv.locals m2 → m2 x = some u → (∀ b o, b ≠ P → s1.heap.get? b = some o → s2.heap.get? b = some o) → (∀ b o, X.base.get? b = some o → s2.heap.get? b = some o) →
      wpAny (model X.prog X.w) A' (eval elt cenv) (fun y s3 => y = .bool (pb v) ∧ Keeps s2 s3) E' s2
/-- the j-th answer -/
def ansAt (pb : V → Bool) (xs : List V) (j : Nat) : Bool := (xs[j]?.map pb).getD true
theorem ansAt_some {pb : V → Bool} {xs : List V} {j : Nat} {v : V} (h : xs[j]? = some v) : ansAt pb xs j = pb v := by
  unfold ansAt
  rw [h]
  rfl
theorem map_ansAt (pb : V → Bool) (xs : List V) : (List.range xs.length).map (ansAt pb xs) = xs.map pb := by
  refine List.ext_getElem? fun i => ?_
  rw [List.getElem?_map, List.getElem?_map]
  by_cases hi : i < xs.length
  · rw [List.getElem?_range hi, List.getElem?_eq_getElem hi]
    show some (ansAt pb xs i) = some (pb xs[i])
    rw [ansAt_some (List.getElem?_eq_getElem hi)]
  · rw [List.getElem?_eq_none (by rw [List.length_range]; omega), List.getElem?_eq_none (by omega)]
    rfl
theorem all_ansAt (pb : V → Bool) (xs : List V) : (List.range xs.length).all (ansAt pb xs) = xs.all pb := by
  have h := congrArg (fun l : List Bool => l.all id) (map_ansAt pb xs)
  simpa [List.all_map, Function.comp_def] using h
theorem any_ansAt (pb : V → Bool) (xs : List V) : (List.range xs.length).any (ansAt pb xs) = xs.any pb := by
  have h := congrArg (fun l : List Bool => l.any id) (map_ansAt pb xs)
  simpa [List.any_map, Function.comp_def] using h
/-- a generator that stands ready, over n items with these answers -/
def Gready (X : Cx) (pins : List (Addr × Obj)) (σ : L2.St) (H1 : Hp) (P : Addr) (n : Nat) (an : Nat → Bool) (g : Addr) (s5 : Shared) : Prop :=
  ∃ (fp wr : List Addr) (G : Array GenState → Array GenState → Prop) (F : Nat → Value → Prop) (St : Nat → Shared → Prop),
    WalksS X.prog X.w X.A.in1 g fp wr G n F St ∧ St 0 s5 ∧ TruthOf X.prog X.w X.A.in1 F an ∧ (∀ s', Moved wr G s5 s' → ∃ H2, Tabbed P H1 H2 ∧ Inv X pins σ H2 s')
section
variable {X : Cx} {pins : List (Addr × Obj)} {σ : L2.St} {H : Hp} {s : Shared}
theorem gen_tuple {c P : Addr} {elt iter : Expr} {x : Str} {px gpos : Pos} {scope : Scope} {te : TE} {k : Nat} {C : L2.St → Hp → List V → (V → Bool) → Prop} {Q' : Value → Shared → Prop} {R : List V → (V → Bool) → Hp → Prop}
    (hr : Room k X.A) (TB : TabB X.base X.mg c P) (hcode : X.env.code = .ref c) (S : GenS X.env scope x) (hi : PE X iter te) (hel : EltOk X scope x elt P C) (hs : ∀ v, genFold iter X.env v = pure v) (I : Inv X pins σ H s)
    (h : te σ H fun v H1 => ∃ (a : Addr) (xs : List V) (pb : V → Bool), v = .ref a ∧ SqT X.K H1 a xs ∧ C σ H1 xs pb ∧ TabG H1 P ∧ R xs pb H1)
    (hQ : ∀ xs pb H1 g s5, R xs pb H1 → Gready X pins σ H1 P xs.length (ansAt pb xs) g s5 → Q' (.ref g) s5) :
    wpAny (model X.prog X.w) X.A (eval (.GeneratorExp elt [⟨.Name x px, iter, [], 0⟩] scope gpos) X.env) Q' X.xe s := by
  refine wpAny_GeneratorExp_walksQD hr.hd S.co (closure_ok S.free) S.cell S.dot S.loc S.kind (by have := hr.dp; omega) ?_ hs
  refine thn (hi.run pins s σ H _ I h) fun xv s1 ⟨v, H1, I1, r1, q1⟩ => ?_
  obtain ⟨a, xs, pb, rfl, hsq, hC, ⟨ps, hP, ht⟩, q1⟩ := q1
  obtain rfl : xv = Value.ref a := r1
  obtain ⟨its, rv, ⟨⟨ocl, odc, odt, osl⟩, hoa, hoc, on, hod⟩, hz⟩ := I1.tuple hsq
  simp only at hoc hod
  subst hoc hod
  have hT : s1.heap.IsTuple a its.toArray := ⟨_, hoa, rfl, on, rfl⟩
  have hlta : a < s1.heap.objs.size := Heap.lt_size hoa
  refine wpAny_pyIter_tuple hT ?_
  generalize ho : ({ cls := .type "tuple_iterator", data := .fields #[.ref a, .int 0 0] } : Obj) = o
  have hPs : s1.heap.get? P = some { cls := .none, data := .fields ps } := I1.hok P _ hP
  have hPlt : P < s1.heap.objs.size := Heap.lt_size hPs
  have hP2 : (s1.heap.push o).get? P = some { cls := .none, data := .fields ps } := Heap.get?_push_of_some _ hPs
  have bas : ∀ b u, X.base.get? b = some u → (s1.heap.push o).get? b = some u := fun b u e => Heap.get?_push_of_some _ (I1.bk b u e)
  have cd : PySem.W.CodeHd (s1.heap.push o) c P := TB.code.keeps bas
  have lim2 : (s1.heap.push o).NoLimit := I1.nolimit.push o
  have hsP : cStatics ≠ P := fun e => by
    obtain ⟨_, ⟨o', es, ep, ho', hd, _⟩, _⟩ := I1.nolimit
    rw [e, hPs] at ho'
    cases ho'
    cases hd
  have hsl : cStatics < s1.heap.objs.size := let ⟨_, hns, _⟩ := I1.nolimit; hns.lt
  have sz2 : (s1.heap.push o).objs.size = s1.heap.objs.size + 1 := Heap.size_push ..
  -- behind the code object: h3 is the heap, ps' the table
  have cont : ∀ (code : Value) (h3 : Heap) (tk : Nat) (ps' : Array Value), Heap.ExtBut P (s1.heap.push o) h3 → (s1.heap.push o).objs.size ≤ h3.objs.size → h3.get? P = some { cls := .none, data := .fields ps' } → (∃ more, ps' = ps ++ more) → TriplesOk ps'.toList →
      wpAny (model X.prog X.w) X.A (builtinsFor X.env.globals X.env.builtins) (fun bi s₄ =>
        ∃ Ia fp wr n₀ Pf St₀ pz F, Value.ref s1.heap.objs.size = .ref Ia ∧ (∀ A' : Around, A'.handled = none → Walks X.prog X.w A' Ia fp wr n₀ Pf St₀) ∧ St₀ 0 s₄.heap ∧ (∀ b ∈ fp, b < s₄.heap.objs.size) ∧ s₄.heap.NoLimit ∧ cStatics ∉ wr ∧
          (∀ href : Heap, (∀ b o, s₄.heap.get? b = some o → href.get? b = some o) →
            QuietGenD X.prog X.w (genEnv scope (cloFrom X.env.cells scope.names []) s₄.heap.objs.size code bi X.env) x [] elt (List.range s₄.heap.objs.size) wr Pf pz F href (X.A.depth + 1) (X.A.units + 8)) ∧
          (∀ a h₅ tk gs, gs.bare = true → s₄.heap.objs.size < a → h₅.objs.size = a + 1 → (∀ b o, s₄.heap.get? b = some o → h₅.get? b = some o) →
            WalksS X.prog X.w X.A.in4 a (a :: s₄.heap.objs.size :: List.range s₄.heap.objs.size) (s₄.heap.objs.size :: wr) (GenOnlyQ s₄.gens.size) (passing pz n₀ 0).length
              (fun j y => ∃ i, (passing pz n₀ 0)[j]? = some i ∧ F i y) (GenAt X.prog X.w X.A.in4 a s₄.gens.size s₄.heap.objs.size (List.range s₄.heap.objs.size) wr pz n₀ F) →
            GenAt X.prog X.w X.A.in4 a s₄.gens.size s₄.heap.objs.size (List.range s₄.heap.objs.size) wr pz n₀ F 0 { s₄ with gens := s₄.gens.push gs, toks := tk, heap := h₅ } →
            Q' (.ref a) { s₄ with gens := s₄.gens.push gs, toks := tk, heap := h₅ })) X.xe { s1 with heap := h3, toks := tk } := by
    intro code h3 tk ps' hx hsz hP3 hmore ht3
    obtain ⟨bm, ob, e1, e2, e3, e4, e5, e6, e7, e8⟩ := TB.bm
    have keep3 : ∀ b u, b ≠ P → s1.heap.get? b = some u → h3.get? b = some u := fun b u hb e => hx b u hb (Heap.get?_push_of_some _ e)
    refine wpAny_builtinsFor (m := X.mg) (by rw [I1.ok.glob]; exact ((I1.mod.glob.keeps I1.bk).push o).extBut hx TB.gP) e1 e2 (keep3 _ _ e4 (I1.bk _ _ e5)) e6 e7 e8 ?_
    have hPa : a ≠ P := fun z => by
      rw [z, hPs] at hoa
      cases hoa
    refine ⟨s1.heap.objs.size, [s1.heap.objs.size, a], [s1.heap.objs.size], its.toArray.size, _, _, (fun _ => true), (fun i y => ∃ v u, xs[i]? = some v ∧ its.toArray[i]? = some u ∧ y = .bool (pb v)), rfl, fun A' hA => Walks.tuple hA _ a (Nat.ne_of_lt hlta) its.toArray, ?_, ?_, lim2.extBut hx hsP, ?_, ?_, ?_⟩
    · have hit : h3.get? s1.heap.objs.size = some o := hx _ _ (Ne.symm (Nat.ne_of_lt hPlt)) (Heap.get?_push_size _ (by rw [← ho]; rfl))
      refine ⟨⟨_, hit, ?_, ?_⟩, ⟨_, keep3 _ _ hPa hoa, rfl, on, rfl⟩⟩
      · rw [← ho]
      · rw [← ho]
        rfl
    · intro b hb
      show b < h3.objs.size
      rcases List.mem_cons.mp hb with z | z
      · rw [z]
        show (s1.heap.objs.size : Nat) < h3.objs.size
        omega
      · rcases List.mem_cons.mp z with z | z
        · rw [z]
          exact Nat.lt_trans hlta (by show (s1.heap.objs.size : Nat) < h3.objs.size; omega)
        · cases z
    · intro z
      rcases List.mem_cons.mp z with z | z
      · exact Nat.ne_of_lt hsl z
      · cases z
    · intro href hhref
      refine ⟨fun A' E' i v s₂ m₂ hA hD hU hPv hn hm hk => ?_, fun A' E' i v s₂ m₂ hA hD hU hPv hp hn hm hk => ?_⟩
      · simp only [List.forIn_nil]
        exact wpAny_pure ⟨rfl, GxR.keeps_refl _⟩
      · have hPv' : its[i]? = some v := by simpa using hPv
        have hil : i < xs.length := by
          rw [rv.length]
          exact (List.getElem?_eq_some_iff.mp hPv').1
        have hxi : xs[i]? = some xs[i] := List.getElem?_eq_getElem hil
        obtain ⟨u', hu', ru⟩ := rv.get hxi
        rw [hPv'] at hu'
        cases hu'
        have kold : ∀ b o, b ≠ P → s1.heap.get? b = some o → s₂.heap.get? b = some o := fun b o' hb e => by
          refine hk b (List.mem_range.mpr (Nat.lt_of_lt_of_le (Heap.lt_size e) (Nat.le_trans (by omega) hsz))) (fun z => ?_) o' (hhref b o' (keep3 b o' hb e))
          rcases List.mem_cons.mp z with z | z
          · exact Nat.lt_irrefl _ (z ▸ Heap.lt_size e)
          · cases z
        refine wpAny_mono (hel pins σ H1 s1 I1 xs pb hC _ A' E' xs[i] v s₂ m₂ rfl I1.ok.glob rfl hA hD hU (List.mem_of_getElem? hxi) ru hn hm kold fun b o' e => kold b o' (fun z => ?_) (I1.bk b o' e)) (fun y s3 r => ⟨⟨_, _, hxi, hPv, r.1⟩, r.2⟩) fun _ _ e => e
        have nb := (I1.bs b o' e).2
        rw [z, hP] at nb
        cases nb
    · intro g h5 tk5 gs hgb hag hsz5 hk5 W5 hat
      have hlen : its.toArray.size = xs.length := by rw [List.size_toArray]; exact rv.length.symm
      simp only [GxR.passing_true, List.length_range] at W5
      rw [hlen] at W5 hat
      refine hQ xs pb H1 g _ q1 ⟨_, _, _, _, _, W5.in4_1, hat, ?_, fun s' hm => ?_⟩
      · intro j y sj Qj Ej hy hQj
        obtain ⟨i, hij, v, u, hv, hu, rfl⟩ := hy
        obtain ⟨hj, ej⟩ := List.getElem?_eq_some_iff.mp hij
        rw [List.getElem_range] at ej
        subst ej
        have hQ2 : Qj (ansAt pb xs j) sj := hQj
        rw [ansAt_some hv] at hQ2
        exact wpAny_truthy_bool hQ2
      · obtain ⟨more, em⟩ := hmore
        have nwr : ∀ b u, s1.heap.get? b = some u → b ∉ h3.objs.size :: [s1.heap.objs.size] := fun b u e hb => by
          have hl := Heap.lt_size e
          rcases List.mem_cons.mp hb with z | z
          · rw [z] at hl
            have lt : h3.objs.size < s1.heap.objs.size := hl
            omega
          · rcases List.mem_cons.mp z with z | z
            · exact Nat.lt_irrefl _ (z ▸ hl)
            · cases z
        have J := inv_tab (more := more) (h' := s'.heap) (g' := s'.gens) (d' := s'.drawn) (t' := s'.toks) I1 hP (fun b u hb e => hm.heap b u (nwr b u e) (hk5 b u (keep3 b u hb e)))
          (by rw [← em]; exact hm.heap P _ (nwr P _ hPs) (hk5 P _ hP3)) (AllBare.movedS (I1.bare.push hgb) hm)
        rw [sh_eta s1 s' hm.os] at J
        exact ⟨upd H1 P (.tbl (ps ++ more)), ⟨⟨ps ++ more, upd_same, em ▸ ht3⟩, fun b hb => upd_ne hb⟩, J⟩
  refine ⟨lim2, ?_⟩
  cases hf : codeAmong gpos ps.toList with
  | none =>
    refine wpAny_genexprCodeX hcode (cd.code hP2 ht) (cd.tab hP2) hf fun c' h' tk hx hge hlt hco' _ htab' _ => ?_
    obtain ⟨o1, vs, f1, tf, fl, tg, inF, tx, tt, op, _, _, _, _, _, _, _, _, _, htr, _⟩ := hco'
    exact cont _ h' tk _ hx (Nat.le_trans hge (Nat.le_of_lt hlt)) htab'.2 ⟨_, rfl⟩ htr
  | some cv =>
    refine wpAny_genexprCode_hit hcode (cd.code hP2 ht) hf ?_
    exact cont cv (s1.heap.push o) s1.toks ps (Heap.ExtBut.refl _ _) (Nat.le_refl _) hP2 ⟨#[], by simp⟩ ht
/-- all(test for x in e), any(..), e a tuple; behind it the def's table may have grown -/
def tAllT (K : PySem.W.Frag) (P : Addr) (C : L2.St → Hp → List V → (V → Bool) → Prop) (te : TE) : TE := fun σ H Q => te σ H fun v H1 => ∃ (a : Addr) (xs : List V) (pb : V → Bool), v = .ref a ∧ SqT K H1 a xs ∧ C σ H1 xs pb ∧ TabG H1 P ∧ ∀ H2, Tabbed P H1 H2 → Q (.bl (xs.all pb)) H2
def tAnyT (K : PySem.W.Frag) (P : Addr) (C : L2.St → Hp → List V → (V → Bool) → Prop) (te : TE) : TE := fun σ H Q => te σ H fun v H1 => ∃ (a : Addr) (xs : List V) (pb : V → Bool), v = .ref a ∧ SqT K H1 a xs ∧ C σ H1 xs pb ∧ TabG H1 P ∧ ∀ H2, Tabbed P H1 H2 → Q (.bl (xs.any pb)) H2
theorem pe_allT {c P : Addr} {elt iter : Expr} {x : Str} {px p pos gpos : Pos} {scope : Scope} {te : TE} {k : Nat} {C : L2.St → Hp → List V → (V → Bool) → Prop}
    (hr : Room k X.A) (hm : X.mg "all" = none) (TB : TabB X.base X.mg c P) (hcode : X.env.code = .ref c) (S : GenS X.env scope x) (hi : PE X iter te) (hel : EltOk X scope x elt P C) (hg : Gl X "all" := by rfl) (hb : bootBuiltins "all" = some (.builtin "all") := by decide +kernel)
    (hs : ∀ v, genFold iter X.env v = pure v := by intro _; rfl)
    (he : starEach [.GeneratorExp elt [⟨.Name x px, iter, [], 0⟩] scope gpos] X.env = (false, eval (.GeneratorExp elt [⟨.Name x px, iter, [], 0⟩] scope gpos) X.env) :: starEach [] X.env := by rfl) :
    PE X (.Call (.Name "all" p) [.GeneratorExp elt [⟨.Name x px, iter, [], 0⟩] scope gpos] [] pos) (tAllT X.K P C te) := by
  refine ⟨fun pins s σ H Q I h => wpAny_Call_Name_kw (ld_blt I hg hm hb (PyProof.Rows.callWith_builtin1 ?_ he (by rfl)))⟩
  rw [he]
  refine Calls.spliced_cons (gen_tuple (R := fun xs pb H1 => ∀ H2, Tabbed P H1 H2 → Q (.bl (xs.all pb)) H2) hr TB hcode S hi hel hs I h fun xs pb H1 g s5 hR ⟨fp, wr, G, F, Sg, W, hst, htr, hI⟩ => Calls.spliced_nil ?_)
  refine call_all_walkS (W.self 0 _ _ _ hst ⟨g, fp, wr, G, _, F, Sg, _, rfl, W, hst, htr, fun s' hmv => ?_⟩)
  obtain ⟨H2, hT, J⟩ := hI s' hmv
  refine ⟨.bl _, H2, J, rfl, ?_⟩
  rw [all_ansAt]
  exact hR H2 hT
theorem pe_anyT {c P : Addr} {elt iter : Expr} {x : Str} {px p pos gpos : Pos} {scope : Scope} {te : TE} {k : Nat} {C : L2.St → Hp → List V → (V → Bool) → Prop}
    (hr : Room k X.A) (hm : X.mg "any" = none) (TB : TabB X.base X.mg c P) (hcode : X.env.code = .ref c) (S : GenS X.env scope x) (hi : PE X iter te) (hel : EltOk X scope x elt P C) (hg : Gl X "any" := by rfl) (hb : bootBuiltins "any" = some (.builtin "any") := by decide +kernel)
    (hs : ∀ v, genFold iter X.env v = pure v := by intro _; rfl)
    (he : starEach [.GeneratorExp elt [⟨.Name x px, iter, [], 0⟩] scope gpos] X.env = (false, eval (.GeneratorExp elt [⟨.Name x px, iter, [], 0⟩] scope gpos) X.env) :: starEach [] X.env := by rfl) :
    PE X (.Call (.Name "any" p) [.GeneratorExp elt [⟨.Name x px, iter, [], 0⟩] scope gpos] [] pos) (tAnyT X.K P C te) := by
  refine ⟨fun pins s σ H Q I h => wpAny_Call_Name_kw (ld_blt I hg hm hb (PyProof.Rows.callWith_builtin1 ?_ he (by rfl)))⟩
  rw [he]
  refine Calls.spliced_cons (gen_tuple (R := fun xs pb H1 => ∀ H2, Tabbed P H1 H2 → Q (.bl (xs.any pb)) H2) hr TB hcode S hi hel hs I h fun xs pb H1 g s5 hR ⟨fp, wr, G, F, Sg, W, hst, htr, hI⟩ => Calls.spliced_nil ?_)
  refine call_any_walkS (W.self 0 _ _ _ hst ⟨g, fp, wr, G, _, F, Sg, _, rfl, W, hst, htr, fun s' hmv => ?_⟩)
  obtain ⟨H2, hT, J⟩ := hI s' hmv
  refine ⟨.bl _, H2, J, rfl, ?_⟩
  rw [any_ansAt]
  exact hR H2 hT
end
end Act
namespace Act
variable [GT]
open PySem PySem.Spec PyProof.Rows L2
/-! ### quiet expressions: no object that stood is changed (what a generator's test must keep to) -/
theorem _root_.PySem.Keeps.rfl' (s : Shared) : Keeps s s := GxR.keeps_refl s
theorem _root_.PySem.Keeps.tok (s : Shared) (t : Nat) : Keeps s { s with toks := t } := GxR.keeps_tok s t
theorem _root_.PySem.Keeps.trans' {a b c : Shared} (h : Keeps a b) (k : Keeps b c) : Keeps a c := by
  obtain ⟨h1, t1, rfl, k1⟩ := h
  obtain ⟨h2, t2, rfl, k2⟩ := k
  exact ⟨h2, t2, rfl, fun x o e => k2 x o (k1 x o e)⟩
theorem _root_.PySem.Keeps.keep {a b : Shared} (h : Keeps a b) : ∀ x o, a.heap.get? x = some o → b.heap.get? x = some o := by
  obtain ⟨h1, t1, rfl, k1⟩ := h
  exact k1
/-- what an expression reads: the module's names, this frame's -/
structure Qf (env : Env) : Prop where
  kind : env.scope.kind = .function
  glob : env.globals = mainGlobals
section
variable {P : Program} {w : World} {K : PySem.W.Frag} {mg : Str → Option Value} {base : Heap}
def Qe (P : Program) (w : World) (base : Heap) (env : Env) (m : Str → Option Value) (D : Nat) (e : Expr) (v : V) : Prop :=
  ∀ (A : Around) (E : Value → Shared → Prop) (s : Shared), A.handled = none → A.depth ≤ D → (∀ b o, base.get? b = some o → s.heap.get? b = some o) → s.heap.Ns env.locals m →
    wpAny (model P w) A (eval e env) (fun u s' => RelV v u ∧ Keeps s s') E s
/-- a def that is called with these arguments gives that value, quietly -/
def Qc (P : Program) (w : World) (base : Heap) (n : Nat) (f : Addr) (vs : List V) (r : V) : Prop :=
  ∀ (A : Around) (s : Shared) (us : List Value), A.handled = none → A.depth + n < recursionLimit → (∀ b o, base.get? b = some o → s.heap.get? b = some o) → Vals vs us →
    codeAny (model P w) A (.call (.ref f) ⟨us, []⟩) (fun res s' => ∃ u, res = .ok (.ret u) ∧ RelV r u ∧ Keeps s s') s
variable {env : Env} {m : Str → Option Value} {D : Nat}
theorem qe_loc {x : Str} {pos : Pos} {v : V} {u : Value} (q : Qf env) (hx : env.kindOf x = some .local) (hm : m x = some u) (r : RelV v u) (hd : (x == ("__debug__" : Str)) = false := by decide) : Qe P w base env m D (.Name x pos) v :=
  fun A E s _ _ _ hn => wpAny_Name (wpAny_loadName_local q.kind hx hn hm ⟨r, Keeps.rfl' s⟩) hd
theorem qe_glob {x : Str} {pos : Pos} {v : V} {u : Value} (M : L2.Mod K mg base) (q : Qf env) (hx : env.kindOf x = some .globalImplicit) (hm : mg x = some u) (r : RelV v u) (hd : (x == ("__debug__" : Str)) = false := by decide) : Qe P w base env m D (.Name x pos) v :=
  fun A E s _ _ hb _ => Calls.Name_function_global q.kind hx (Calls.loadGlobal_global (by rw [q.glob]; exact M.glob.keeps hb) hm ⟨r, Keeps.rfl' s⟩) hd
theorem qe_int {i : Int} {j pos} : Qe P w base env m D (.Constant (.int i) j pos) (.int i) := fun A E s _ _ _ _ => wpAny_Constant_int ⟨⟨_, rfl⟩, Keeps.tok s _⟩
theorem qe_neg {e : Expr} {i : Int} {pos : Pos} (h : Qe P w base env m D e (.int i)) : Qe P w base env m D (.UnaryOp .USub e pos) (.int (-i)) :=
  fun A E s hA hD hb hn => UnaryOp_ (thn (h A E s hA hD hb hn) fun u s1 ⟨r, k⟩ => by
    obtain ⟨t, rfl⟩ := r
    exact neg_int ⟨⟨_, rfl⟩, k.trans' (Keeps.tok s1 _)⟩)
theorem qe_le2 {a b c : Expr} {i j l : Int} {pos : Pos} (ha : Qe P w base env m D a (.int i)) (hb : Qe P w base env m D b (.int j)) (hc : Qe P w base env m D c (.int l)) (hm : lastMarks [CmpOp.LtE, CmpOp.LtE] [b, c] = false := by with_unfolding_all rfl) :
    Qe P w base env m D (.Compare a [.LtE, .LtE] [b, c] pos) (.bl (decide (i ≤ j ∧ j ≤ l))) := fun A E s hA hD hk hn => by
  refine Compare_chain (thn (ha A E s hA hD hk hn) fun u s1 ⟨ru, k1⟩ => chain_link (thn (hb A E s1 hA hD (fun x o e => k1.keep x o (hk x o e)) (hn.keeps k1.keep)) fun v s2 ⟨rv, k2⟩ => ?_)) hm
  obtain ⟨t1, rfl⟩ := ru
  obtain ⟨t2, rfl⟩ := rv
  refine le_int (wpAny_truthy_bool ?_)
  have k12 := k1.trans' k2
  by_cases h : i ≤ j
  · rw [decide_eq_true h]
    refine ite_tt (chain_last (thn (hc A E s2 hA hD (fun x o e => k12.keep x o (hk x o e)) (hn.keeps k12.keep)) fun z s3 ⟨rz, k3⟩ => ?_))
    obtain ⟨t3, rfl⟩ := rz
    refine le_int ⟨?_, k12.trans' k3⟩
    show Value.bool _ = Value.bool _
    congr 1
    simp [h]
  · rw [decide_eq_false h]
    refine ite_ff ⟨?_, k12⟩
    show Value.bool _ = Value.bool _
    congr 1
    simp [h]
theorem qe_lt {a b : Expr} {i j : Int} {pos : Pos} (ha : Qe P w base env m D a (.int i)) (hb : Qe P w base env m D b (.int j)) (hm : behindInMarks .Lt b = false := by first | exact nobehind _ (by decide) (by decide) | rfl) :
    Qe P w base env m D (.Compare a [.Lt] [b] pos) (.bl (decide (i < j))) := fun A E s hA hD hk hn =>
  wpAny_Compare1 (thn (ha A E s hA hD hk hn) fun u s1 ⟨ru, k1⟩ => thn (hb A E s1 hA hD (fun x o e => k1.keep x o (hk x o e)) (hn.keeps k1.keep)) fun v s2 ⟨rv, k2⟩ => by
    obtain ⟨t1, rfl⟩ := ru
    obtain ⟨t2, rfl⟩ := rv
    exact lt_int ⟨rfl, k1.trans' k2⟩) hm
theorem qe_and {a b : Expr} {rest : List Expr} {x y : Bool} {pos : Pos} (ha : Qe P w base env m D a (.bl x)) (hb : x = true → Qe P w base env m D (.BoolOp .And (b :: rest) pos) (.bl y)) : Qe P w base env m D (.BoolOp .And (a :: b :: rest) pos) (.bl (x && y)) :=
  fun A E s hA hD hk hn => BoolOp_and (thn (ha A E s hA hD hk hn) fun u s1 ⟨ru, k1⟩ => by
    cases (show u = Value.bool x from ru)
    refine wpAny_truthy_bool ?_
    cases x with
    | true => exact thn (hb rfl A E s1 hA hD (fun x o e => k1.keep x o (hk x o e)) (hn.keeps k1.keep)) fun v s2 ⟨rv, k2⟩ => ⟨rv, k1.trans' k2⟩
    | false => exact ⟨rfl, k1⟩)
theorem qe_one {a : Expr} {op} {v : V} {pos : Pos} (ha : Qe P w base env m D a v) : Qe P w base env m D (.BoolOp op [a] pos) v := fun A E s hA hD hk hn => BoolOp_one (ha A E s hA hD hk hn)
theorem qe_not {a : Expr} {x : Bool} {pos : Pos} (ha : Qe P w base env m D a (.bl x)) : Qe P w base env m D (.UnaryOp .Not a pos) (.bl (!x)) :=
  fun A E s hA hD hk hn => UnaryOp_ (thn (ha A E s hA hD hk hn) fun u s1 ⟨ru, k1⟩ => by
    cases (show u = Value.bool x from ru)
    exact not_of (wpAny_truthy_bool ⟨rfl, k1⟩))
/-- the values of flat kinds, and their built-in class -/
def kindV : V → Option String
  | .non => some "NoneType"
  | .bl _ => some "bool"
  | .int _ => some "int"
  | .str _ => some "str"
  | _ => none
theorem qe_isi {e : Expr} {v : V} {T k : String} {r : Bool} {p p2 pos : Pos} (M : L2.Mod K mg base) (q : Qf env) (hbl : env.builtins = builtinsNs) (he : Qe P w base env m D e v) (hk : kindV v = some k) (hr : kitB k T = some r)
    (z1 : mg "isinstance" = none) (z2 : mg (Str.ofString T) = none) (g1 : env.kindOf "isinstance" = some .globalImplicit) (g2 : env.kindOf (Str.ofString T) = some .globalImplicit)
    (b2 : bootBuiltins (Str.ofString T) = some (.type T)) (nn : Str.ofString T ≠ "__name__") (nd : (Str.ofString T == ("__debug__" : Str)) = false)
    (st1 : starEach [e, .Name (Str.ofString T) p2] env = (false, eval e env) :: starEach [.Name (Str.ofString T) p2] env) (st2 : starEach [.Name (Str.ofString T) p2] env = (false, eval (.Name (Str.ofString T) p2) env) :: starEach [] env)
    (pl : (backTo pos (starEach [.Name (Str.ofString T) p2] env)).any (·.1) = false) :
    Qe P w base env m D (.Call (.Name "isinstance" p) [e, .Name (Str.ofString T) p2] [] pos) (.bl r) := fun A E s hA hD hkp hn => by
  obtain ⟨mb, h1, h2⟩ := M.blt
  have ldb : ∀ (x : Str) (u : Value) (pos : Pos) (s' : Shared) (Q : Value → Shared → Prop) (E : Value → Shared → Prop), mg x = none → env.kindOf x = some .globalImplicit → bootBuiltins x = some u → x ≠ "__name__" → (x == ("__debug__" : Str)) = false → (∀ b o, base.get? b = some o → s'.heap.get? b = some o) → Q u s' →
      wpAny (model P w) A (eval (.Name x pos) env) Q E s' := fun x u pos s' Q E zx gx bx nx dx kx hq =>
    Calls.Name_function_global q.kind gx (Calls.loadGlobal_builtin (by rw [q.glob]; exact M.glob.keeps kx) zx (by rw [hbl]; exact h1.keeps kx) ((h2 x nx).trans bx) hq) dx
  refine wpAny_Call_Name_kw (ldb _ _ _ s _ _ z1 g1 (by decide +kernel : bootBuiltins "isinstance" = some (.builtin "isinstance")) (by decide) (by decide) hkp ?_)
  refine PyProof.Rows.callWith_builtin1 ?_ st1 pl
  rw [st1]
  refine Calls.spliced_cons (thn (he A E s hA hD hkp hn) fun u s1 ⟨ru, k1⟩ => ?_)
  rw [st2]
  refine Calls.spliced_cons (ldb _ _ _ s1 _ _ z2 g2 b2 nn nd (fun x o e => k1.keep x o (hkp x o e)) (Calls.spliced_nil ?_))
  have KI : K.In s1.heap := M.kin.keeps fun x o e => k1.keep x o (hkp x o e)
  have fin : ∀ tk, RelV (.bl r) (Value.bool r) ∧ Keeps s { s1 with toks := tk } := fun tk => ⟨rfl, k1.trans' (Keeps.tok s1 tk)⟩
  cases v with
  | non => cases hk; cases (show u = Value.none from ru); exact PySem.W.kia_one PySem.W.kitx_none KI trivial (kit_ty hr) (by simp) fun tk => fin tk
  | bl b => cases hk; cases (show u = Value.bool b from ru); exact PySem.W.kia_one PySem.W.kitx_bool KI trivial (kit_ty hr) (by simp) fun tk => fin tk
  | int i => cases hk; obtain ⟨t, rfl⟩ := ru; exact PySem.W.kia_one PySem.W.kitx_int KI trivial (kit_ty hr) (by simp) fun tk => fin tk
  | str x => cases hk; obtain ⟨t, rfl⟩ := ru; exact PySem.W.kia_one PySem.W.kitx_str KI trivial (kit_ty hr) (by simp) fun tk => fin tk
  | _ => cases hk
/-- arguments, one by one -/
def Qa (P : Program) (w : World) (base : Heap) (env : Env) (m : Str → Option Value) (D : Nat) (es : List Expr) (vs : List V) : Prop :=
  ∀ (pos : Pos) (A : Around) (E : Value → Shared → Prop) (s : Shared), A.handled = none → A.depth ≤ D → (∀ b o, base.get? b = some o → s.heap.get? b = some o) → s.heap.Ns env.locals m →
    wpAny (model P w) A (spliced (backTo pos (starEach es env))) (fun us s' => Vals vs us ∧ Keeps s s') E s
theorem qa_nil : Qa P w base env m D [] [] := fun pos A E s _ _ _ _ => Calls.spliced_nil ⟨.nil, Keeps.rfl' s⟩
theorem qa_cons {e : Expr} {es : List Expr} {v : V} {vs : List V} (h : Qe P w base env m D e v) (t : Qa P w base env m D es vs) (hs : starEach (e :: es) env = (false, eval e env) :: starEach es env := by rfl) : Qa P w base env m D (e :: es) (v :: vs) :=
  fun pos A E s hA hD hk hn => by
    rw [hs]
    exact Calls.spliced_cons (thn (h A E s hA hD hk hn) fun u s1 ⟨ru, k1⟩ => thn (t pos A E s1 hA hD (fun x o e => k1.keep x o (hk x o e)) (hn.keeps k1.keep)) fun us s2 ⟨rus, k2⟩ => ⟨.cons ru rus, k1.trans' k2⟩)
theorem qe_call {x : Str} {f : Addr} {e : Expr} {es : List Expr} {vs : List V} {r : V} {n : Nat} {p pos : Pos} (M : L2.Mod K mg base) (q : Qf env) (c : Qc P w base n f vs r) (hD : D + n < recursionLimit) (kp : PySem.W.keepIn K (.ref f) = true) (hm : mg x = some (.ref f)) (ha : Qa P w base env m D (e :: es) vs)
    (hx : env.kindOf x = some .globalImplicit := by rfl) (hd : (x == ("__debug__" : Str)) = false := by decide) (he : starEach (e :: es) env = (false, eval e env) :: starEach es env := by rfl) (hpl : (backTo pos (starEach es env)).any (·.1) = false := by rfl) :
    Qe P w base env m D (.Call (.Name x p) (e :: es) [] pos) r := fun A E s hA hDA hk hn => by
  refine wpAny_Call_Name_kw (Calls.Name_function_global q.kind hx (Calls.loadGlobal_global (by rw [q.glob]; exact M.glob.keeps hk) hm ?_) hd)
  refine PySem.W.callWith_K (h₀ := base) M.kin kp (thn (ha pos A E s hA hDA hk hn) fun us s1 ⟨rus, k1⟩ => ⟨M.kin.keeps fun x o e => k1.keep x o (hk x o e), ?_⟩) he hpl
  refine wpAny_call (codeAny_mono (c A s1 us hA (by omega) (fun x o e => k1.keep x o (hk x o e)) rus) fun res s2 ⟨u, e1, ru, k2⟩ => ?_)
  subst e1
  exact ⟨ru, k1.trans' k2⟩
/-- a def whose body is one return, quiet -/
theorem qc_ret {x : Str} {st : Stmt} {f : Addr} {fd : FuncData} {e : Expr} {rp : Pos} {ps : List Str} {vs : List V} {r : V} {n : Nat} (M : L2.Mod K mg base) (F : Fn K x st f fd) (hb : defBody st = [.Return (some e) rp]) (hbind : Binds K fd ps [])
    (hloc : ∀ us : List Value, us.length = ps.length → ((ps.zip us).all fun y => (defScope st).names.lookup y.1 == some .local || (defScope st).names.lookup y.1 == some .cell) = true) (hlen : vs.length = ps.length)
    (hco : (defScope st).isCoroutine = false) (hge : (defScope st).isGenerator = false) (hk : (defScope st).kind = .function)
    (body : ∀ (L : Addr) (cdv : Value) (us : List Value) (D : Nat), Vals vs us → D + n < recursionLimit → Qe P w base (envOfC x (defScope st) L f cdv) (bindL (envOfC x (defScope st) L f cdv).kindOf (ps.zip us) fun _ => none) D e r) : Qc P w base (n + 1) f vs r := by
  intro A s us hA hd hkp hv
  obtain ⟨oc, od, dV, kV, doc, pm, an, cdv, ct, osl, rfl, lk, hcd, _, _⟩ := F.ex
  have KI : K.In s.heap := M.kin.keeps hkp
  have hul : us.length = ps.length := hv.length.symm.trans hlen
  have bt := hbind s us KI (by rw [List.append_nil]; exact hul)
  rw [List.append_nil] at bt
  refine Att.call_fn KI (M.nolimit.keeps hkp) lk hcd (by omega) bt (hloc us hul) (fun s1 IC => ?_) hco hge hk
  have kp1 := IC.toInCall.keep
  obtain ⟨h1, t1, e1⟩ : ∃ h1 t1, s1 = { s with heap := h1, toks := t1 } := IC.toInCall.same
  have ks : Keeps s s1 := ⟨h1, t1, e1, fun b o z => by have := kp1 b o z; rw [e1] at this; exact this⟩
  rw [hb]
  refine wpAny_execs_cons (wpAny_Return_some (thn (body s.heap.objs.size cdv us A.depth.succ hv (by omega) (A.deeper (envOfC x (defScope st) s.heap.objs.size f cdv)) _ s1 hA (Nat.le_refl _) (fun b o z => ks.keep b o (hkp b o z)) IC.toInCall.ns) fun u s2 ⟨ru, k2⟩ => ?_))
  exact ⟨u, rfl, ru, ks.trans' k2⟩
/-- is_between(i, a, b), quiet, for integers -/
structure QBetween (P : Program) (w : World) (K : PySem.W.Frag) (mg : Str → Option Value) (base : Heap) : Prop where
  ex : ∃ f, mg "is_between" = some (.ref f) ∧ PySem.W.keepIn K (.ref f) = true ∧ (L2.Mod K mg base → ∀ i a b : Int, Qc P w base 2 f [.int i, .int a, .int b] (.bl (decide (a ≤ i ∧ i ≤ b))))
/-- is_integer(i), quiet -/
structure QInteger (P : Program) (w : World) (K : PySem.W.Frag) (mg : Str → Option Value) (base : Heap) : Prop where
  ex : ∃ f, mg "is_integer" = some (.ref f) ∧ PySem.W.keepIn K (.ref f) = true ∧ (L2.Mod K mg base → ∀ i : Int, Qc P w base 1 f [.int i] (.bl true))
end
/-- a generator's scope without captured names -/
def gsB (sc : Scope) (x : Str) : Bool := decide (sc.kind = .function) && (!sc.isCoroutine && ((sc.names.all fun y => decide (y.2 ≠ .cell) && decide (y.2 ≠ .free)) && (decide (sc.names.lookup (".0" : Str) = some NameKind.local) && decide (sc.names.lookup x = some .local))))
theorem gens_of {env : Env} {sc : Scope} {x : Str} (h : gsB sc x = true) : GxR.GenS env sc x := by
  obtain ⟨h1, h2⟩ := He.ba h
  obtain ⟨h3, h4⟩ := He.ba h2
  obtain ⟨h5, h6⟩ := He.ba h4
  obtain ⟨h7, h8⟩ := He.ba h6
  have hn := List.all_eq_true.mp h5
  refine ⟨of_decide_eq_true h1, by simpa using h3, fun y hy => of_decide_eq_true (He.ba (hn y hy)).1, of_decide_eq_true h7, of_decide_eq_true h8, fun y hy e => absurd e (of_decide_eq_true (He.ba (hn y hy)).2)⟩
/-- the tests of integers -/
def Cbet (a b : Int) : L2.St → Hp → List V → (V → Bool) → Prop := fun _ _ xs pb => ∃ ns : List Int, xs = ns.map V.int ∧ pb = fun v => match v with | .int i => decide (a ≤ i ∧ i ≤ b) | _ => false
theorem elt_between {X : Cx} {scope : Scope} {x : Str} {P : Addr} {k : Nat} {p px pos : Pos} {lo hi : Expr} {a b : Int} (hr : Room k X.A) (q : QBetween X.prog X.w X.K X.mg X.base) (hk : scope.kind = .function) (hx : scope.names.lookup x = some .local) (hb : scope.names.lookup ("is_between" : Str) = some NameKind.globalImplicit)
    (hlo : ∀ (cenv : Env) (m : Str → Option Value) (D : Nat), cenv.scope = scope → Qf cenv → L2.Mod X.K X.mg X.base → Qe X.prog X.w X.base cenv m D lo (.int a)) (hhi : ∀ (cenv : Env) (m : Str → Option Value) (D : Nat), cenv.scope = scope → Qf cenv → L2.Mod X.K X.mg X.base → Qe X.prog X.w X.base cenv m D hi (.int b))
    (st1 : ∀ cenv : Env, starEach [.Name x px, lo, hi] cenv = (false, eval (.Name x px) cenv) :: starEach [lo, hi] cenv := by intro _; rfl) (st2 : ∀ cenv : Env, starEach [lo, hi] cenv = (false, eval lo cenv) :: starEach [hi] cenv := by intro _; rfl) (st3 : ∀ cenv : Env, starEach [hi] cenv = (false, eval hi cenv) :: starEach [] cenv := by intro _; rfl)
    (pl : ∀ cenv : Env, (backTo pos (starEach [lo, hi] cenv)).any (·.1) = false := by intro _; rfl) (hd : (x == ("__debug__" : Str)) = false := by decide) :
    EltOk X scope x (.Call (.Name "is_between" p) [.Name x px, lo, hi] [] pos) P (Cbet a b) := by
  intro pins σ H1 s1 I xs pb hC cenv A' E' v u s2 m2 hsc hgl _ hA hD hU hv ru hn hm hkeep kb
  obtain ⟨ns, rfl, rfl⟩ := hC
  obtain ⟨i, _, rfl⟩ := List.mem_map.mp hv
  obtain ⟨f, hmf, kp, hq⟩ := q.ex
  have M := I.ok.mod
  have qf : Qf cenv := ⟨by rw [hsc]; exact hk, hgl⟩
  have hdp := hr.dp
  have z := qe_call (D := X.A.depth + 1) (m := m2) (x := "is_between") (p := p) (pos := pos) M qf (hq M i a b) (by omega) kp hmf (qa_cons (qe_loc qf (by show cenv.scope.names.lookup x = _; rw [hsc]; exact hx) hm ru hd) (qa_cons (hlo cenv m2 _ hsc qf M) (qa_cons (hhi cenv m2 _ hsc qf M) qa_nil (st3 cenv)) (st2 cenv)) (st1 cenv)) (by show cenv.scope.names.lookup _ = _; rw [hsc]; exact hb) (by decide) (st1 cenv) (pl cenv)
  refine wpAny_mono (z A' E' s2 hA hD kb hn) (fun y s3 r => ⟨r.1, r.2⟩) fun _ _ e => e
end Act
namespace Act
variable [GT]
open PySem PySem.Spec PyProof.Rows L2
/-! ### what the top has left, looked up by names -/
def DD (x : Str) (st : Stmt) : He.DefD := ⟨(x, none), x, x, defArgs st, defBody st, defScope st, [], []⟩
def intsB : List Value → List Int → Bool
  | [], [] => true
  | .int i _ :: r, j :: js => decide (i = j) && intsB r js
  | _, _ => false
theorem intsB_ok : ∀ {us : List Value} {js : List Int}, intsB us js = true → Vals (js.map V.int) us
  | [], [], _ => .nil
  | [], _ :: _, h => by cases h
  | u :: r, j :: js, h => by
    cases u with
    | int i t =>
      obtain ⟨h1, h2⟩ := He.ba (show (decide (i = j) && intsB r js) = true from h)
      exact .cons ⟨t, by rw [of_decide_eq_true h1]⟩ (intsB_ok h2)
    | _ => cases h
  | u :: _, [], h => by cases u <;> cases h
/-- the module's name x holds a tuple of these integers -/
def tupB (K : PySem.W.Frag) (x : Str) (js : List Int) : Bool := He.eqO (PySem.W.nsIn K mainGlobals x) (some (some (.ref (He.ga K x)))) && (match K.lookup (He.ga K x) with
  | some ⟨.type c, _, .seq its _, _⟩ => decide (c = "tuple") && (decide (its.size ≤ 1000) && intsB its.toList js)
  | _ => false)
theorem tupB_ok {K : PySem.W.Frag} {h : Heap} {mg : Str → Option Value} (X : K.In h) (G : h.Ns mainGlobals mg) {x : Str} {js : List Int} (c : tupB K x js = true) : ∃ a, mg x = some (.ref a) ∧ ∀ H, ST K H a (js.map V.int) := by
  obtain ⟨h1, h2⟩ := He.ba c
  refine ⟨_, PySem.W.mg_of X G (He.eqO_ok h1), fun H => ?_⟩
  cases e : K.lookup (He.ga K x) with
  | none =>
    rw [e] at h2
    cases h2
  | some o =>
    obtain ⟨oc, od, dt, sl⟩ := o
    rw [e] at h2
    cases oc with
    | type c =>
      cases dt with
      | seq its m =>
        obtain ⟨h3, h4⟩ := He.ba (show (decide (c = "tuple") && (decide (its.size ≤ 1000) && intsB its.toList js)) = true from h2)
        obtain ⟨h5, h6⟩ := He.ba h4
        exact .inr ⟨_, its, m, e, by rw [of_decide_eq_true h3], rfl, Nat.le_of_lt (small1000 (of_decide_eq_true h5)), intsB_ok h6⟩
      | _ => cases h2
    | _ => cases dt <;> cases h2
/-- names of other modules' functions, tuples of integers -/
def exB (bl : List (Str × String)) (tp : List (Str × List Int)) (K : PySem.W.Frag) : Bool := (bl.all fun q => He.eqO (PySem.W.nsIn K mainGlobals q.1) (some (some (.builtin q.2)))) && tp.all fun q => tupB K q.1 q.2
section
variable {K : PySem.W.Frag} {h : Heap} {mg : Str → Option Value} {fa : List He.Fa} {fn : List He.DefD} {tf : List He.Defn} {bl : List (Str × String)} {tp : List (Str × List Int)} {w : World}
theorem blt_of (X : K.In h) (G : h.Ns mainGlobals mg) (c : exB bl tp K = true) {x : Str} {id : String} (m : (x, id) ∈ bl) : mg x = some (.builtin id) := by
  obtain ⟨h1, _⟩ := He.ba c
  exact PySem.W.mg_of X G (He.eqO_ok (List.all_eq_true.mp h1 _ m))
theorem tup_of (X : K.In h) (G : h.Ns mainGlobals mg) (c : exB bl tp K = true) {x : Str} {js : List Int} (m : (x, js) ∈ tp) : ∃ a, mg x = some (.ref a) ∧ ∀ H, ST K H a (js.map V.int) := by
  obtain ⟨_, h2⟩ := He.ba c
  exact tupB_ok X G (List.all_eq_true.mp h2 _ m)
theorem df_of {x : Str} {st : Stmt} {ps : List Str} (X : K.In h) (G : h.Ns mainGlobals mg) (c : He.SaysD fa fn K) (i j : Nat) (hi : fn[i]? = some (DD x st)) (hj : fa[j]? = some (.glo x))
    (hb : ∀ (kV doc pm : Value) (an : Option Addr) (cdv ct : Value) (us : List Value), us.length = ps.length → bindArgs (PySem.W.fnOf x x (defArgs st) (defBody st) (defScope st) .none kV doc pm an cdv ct) ⟨us, []⟩ = pure (ps.zip us)) : Df K mg x st ps := by
  obtain ⟨fd, F⟩ := c.def_ i hi
  exact ⟨_, fd, F, He.glo_ok X G (c.fact j hj), F.bindsN hb⟩
theorem dfG_of {x : Str} {st : Stmt} {ps : List Str} (X : K.In h) (G : h.Ns mainGlobals mg) (c : He.SaysD fa fn K) (i j : Nat) (hi : fn[i]? = some (DD x st)) (hj : fa[j]? = some (.glo x))
    (hb : ∀ (kV doc pm : Value) (an : Option Addr) (cdv ct : Value) (us : List Value), us.length = ps.length → bindArgs (PySem.W.fnOf x x (defArgs st) (defBody st) (defScope st) .none kV doc pm an cdv ct) ⟨us, []⟩ = pure (ps.zip us)) :
    DfG K mg x st ps (He.cT K (x, none)).1 := by
  obtain ⟨fd, F⟩ := c.def_ i hi
  refine ⟨He.fAd K (x, none), fd, F, ?_, He.glo_ok X G (c.fact j hj), F.bindsN hb⟩
  obtain ⟨oc, od, dV, kV, doc, pm, an, cdv, ct, osl, e, lk, hcd, _, _⟩ := F.ex
  obtain ⟨c0, hc0⟩ := He.codeIn_ref hcd
  have e1 : fd.code = .ref c0 := by rw [e]; exact hc0
  have e2 : He.codeOf K (x, none) = c0 := He.codeOf_eq lk e1
  show fd.code = .ref (He.codeOf K (x, none))
  rw [e2]
  exact e1
end
end Act
namespace Act
variable [GT]
open PySem PySem.Spec PyProof.Rows L2
/-! # Data without addresses, and what a program's pieces say of it -/
inductive D where
  | non
  | bl (b : Bool)
  | int (i : Int)
  | str (s : Str)
  | tup (xs : List D)
  | lst (xs : List D)
mutual
/-- a value of the machine that holds these data, all that it reaches being of the part F of the heap -/
def Rep (K : PySem.W.Frag) (F : Hp) : D → V → Prop
  | .non, v => v = .non
  | .bl b, v => v = .bl b
  | .int i, v => v = .int i
  | .str s, v => v = .str s
  | .tup ds, v => ∃ a xs, v = .ref a ∧ ST K F a xs ∧ Reps K F ds xs
  | .lst ds, v => ∃ a xs, v = .ref a ∧ F a = some (.lst xs) ∧ Reps K F ds xs
def Reps (K : PySem.W.Frag) (F : Hp) : List D → List V → Prop
  | [], xs => xs = []
  | d :: ds, xs => ∃ x r, xs = x :: r ∧ Rep K F d x ∧ Reps K F ds r
end
abbrev Sub (F G : Hp) : Prop := ∀ a o, F a = some o → G a = some o
theorem ST.sub {K : PySem.W.Frag} {F G : Hp} {a : Addr} {xs : List V} (h : ST K F a xs) (s : Sub F G) : ST K G a xs := by
  rcases h with h | h
  · exact .inl (s _ _ h)
  · exact .inr h
mutual
theorem Rep.up {K : PySem.W.Frag} {F G : Hp} (s : Sub F G) : ∀ {d : D} {v : V}, Rep K F d v → Rep K G d v
  | .non, v, h => by simpa only [Rep] using h
  | .bl b, v, h => by simpa only [Rep] using h
  | .int i, v, h => by simpa only [Rep] using h
  | .str x, v, h => by simpa only [Rep] using h
  | .tup ds, v, h => by
    rw [Rep] at h ⊢
    obtain ⟨a, xs, e, t, r⟩ := h
    exact ⟨a, xs, e, t.sub s, Reps.up s r⟩
  | .lst ds, v, h => by
    rw [Rep] at h ⊢
    obtain ⟨a, xs, e, t, r⟩ := h
    exact ⟨a, xs, e, s _ _ t, Reps.up s r⟩
theorem Reps.up {K : PySem.W.Frag} {F G : Hp} (s : Sub F G) : ∀ {ds : List D} {vs : List V}, Reps K F ds vs → Reps K G ds vs
  | [], vs, h => by simpa only [Reps] using h
  | d :: ds, vs, h => by
    rw [Reps] at h ⊢
    obtain ⟨x, r, e, h1, h2⟩ := h
    exact ⟨x, r, e, Rep.up s h1, Reps.up s h2⟩
end
section
variable {K : PySem.W.Frag} {F : Hp}
theorem Rep.non_iff {v : V} : Rep K F .non v ↔ v = .non := by rw [Rep]
theorem Rep.bl_iff {b : Bool} {v : V} : Rep K F (.bl b) v ↔ v = .bl b := by rw [Rep]
theorem Rep.int_iff {i : Int} {v : V} : Rep K F (.int i) v ↔ v = .int i := by rw [Rep]
theorem Rep.str_iff {s : Str} {v : V} : Rep K F (.str s) v ↔ v = .str s := by rw [Rep]
theorem Rep.tup_iff {ds : List D} {v : V} : Rep K F (.tup ds) v ↔ ∃ a xs, v = .ref a ∧ ST K F a xs ∧ Reps K F ds xs := by rw [Rep]
theorem Rep.lst_iff {ds : List D} {v : V} : Rep K F (.lst ds) v ↔ ∃ a xs, v = .ref a ∧ F a = some (.lst xs) ∧ Reps K F ds xs := by rw [Rep]
theorem Reps.nil_iff {vs : List V} : Reps K F [] vs ↔ vs = [] := by rw [Reps]
theorem Reps.cons_iff {d : D} {ds : List D} {vs : List V} : Reps K F (d :: ds) vs ↔ ∃ x r, vs = x :: r ∧ Rep K F d x ∧ Reps K F ds r := by rw [Reps]
theorem Reps.nil : Reps K F [] [] := Reps.nil_iff.mpr rfl
theorem Reps.cons {d : D} {ds : List D} {v : V} {vs : List V} (h : Rep K F d v) (t : Reps K F ds vs) : Reps K F (d :: ds) (v :: vs) := Reps.cons_iff.mpr ⟨v, vs, rfl, h, t⟩
theorem Reps.len : ∀ {ds : List D} {vs : List V}, Reps K F ds vs → ds.length = vs.length
  | [], vs, h => by rw [Reps.nil_iff] at h; rw [h]; rfl
  | d :: ds, vs, h => by
    obtain ⟨x, r, e, _, h2⟩ := Reps.cons_iff.mp h
    rw [e, List.length_cons, List.length_cons, Reps.len h2]
theorem Reps.app : ∀ {ds es : List D} {vs us : List V}, Reps K F ds vs → Reps K F es us → Reps K F (ds ++ es) (vs ++ us)
  | [], es, vs, us, h, g => by rw [Reps.nil_iff] at h; rw [h]; exact g
  | d :: ds, es, vs, us, h, g => by
    obtain ⟨x, r, e, h1, h2⟩ := Reps.cons_iff.mp h
    rw [e]
    exact .cons h1 (Reps.app h2 g)
theorem Reps.at : ∀ {ds : List D} {vs : List V} {i : Nat} {d : D}, Reps K F ds vs → ds[i]? = some d → ∃ v, vs[i]? = some v ∧ Rep K F d v
  | [], vs, i, d, h, e => by simp at e
  | c :: ds, vs, 0, d, h, e => by
    obtain ⟨x, r, e1, h1, h2⟩ := Reps.cons_iff.mp h
    cases e
    exact ⟨x, by rw [e1]; rfl, h1⟩
  | c :: ds, vs, i + 1, d, h, e => by
    obtain ⟨x, r, e1, h1, h2⟩ := Reps.cons_iff.mp h
    obtain ⟨v, e2, h3⟩ := Reps.at (i := i) h2 e
    exact ⟨v, by rw [e1]; exact e2, h3⟩
theorem Reps.atv : ∀ {ds : List D} {vs : List V} {i : Nat} {v : V}, Reps K F ds vs → vs[i]? = some v → ∃ d, ds[i]? = some d ∧ Rep K F d v
  | [], vs, i, v, h, e => by rw [Reps.nil_iff] at h; rw [h] at e; simp at e
  | c :: ds, vs, 0, v, h, e => by
    obtain ⟨x, r, e1, h1, h2⟩ := Reps.cons_iff.mp h
    rw [e1] at e
    cases e
    exact ⟨c, rfl, h1⟩
  | c :: ds, vs, i + 1, v, h, e => by
    obtain ⟨x, r, e1, h1, h2⟩ := Reps.cons_iff.mp h
    rw [e1] at e
    obtain ⟨d, e2, h3⟩ := Reps.atv (i := i) h2 e
    exact ⟨d, e2, h3⟩
theorem Reps.atI {ds : List D} {vs : List V} {i : Int} {d : D} (h : Reps K F ds vs) (e : atI ds i = some d) : ∃ v, L2.atI vs i = some v ∧ Rep K F d v := by
  unfold L2.atI at e ⊢
  rw [← h.len]
  cases ej : ixN ds.length i with
  | none => rw [ej] at e; cases e
  | some j =>
    rw [ej] at e
    exact h.at e
theorem Reps.set {ds : List D} {vs : List V} (h : Reps K F ds vs) {d : D} {v : V} (g : Rep K F d v) : ∀ {j : Nat}, Reps K F (ds.set j d) (vs.set j v) := by
  induction ds generalizing vs with
  | nil => intro j; rw [Reps.nil_iff] at h; rw [h]; exact Reps.nil
  | cons c ds ih =>
    intro j
    obtain ⟨x, r, e1, h1, h2⟩ := Reps.cons_iff.mp h
    rw [e1]
    cases j with
    | zero => exact .cons g h2
    | succ j => exact .cons h1 (ih h2)
theorem Reps.take {ds : List D} {vs : List V} (h : Reps K F ds vs) : ∀ n, Reps K F (ds.take n) (vs.take n) := by
  induction ds generalizing vs with
  | nil => intro n; rw [Reps.nil_iff] at h; rw [h, List.take_nil, List.take_nil]; exact Reps.nil
  | cons c ds ih =>
    intro n
    obtain ⟨x, r, e1, h1, h2⟩ := Reps.cons_iff.mp h
    rw [e1]
    cases n with
    | zero => exact Reps.nil
    | succ n => exact .cons h1 (ih h2 n)
theorem Reps.drop {ds : List D} {vs : List V} (h : Reps K F ds vs) : ∀ n, Reps K F (ds.drop n) (vs.drop n) := by
  induction ds generalizing vs with
  | nil => intro n; rw [Reps.nil_iff] at h; rw [h, List.drop_nil, List.drop_nil]; exact Reps.nil
  | cons c ds ih =>
    intro n
    obtain ⟨x, r, e1, h1, h2⟩ := Reps.cons_iff.mp h
    rw [e1]
    cases n with
    | zero => exact .cons h1 h2
    | succ n => exact ih h2 n
theorem Reps.rep {ds : List D} {vs : List V} (h : Reps K F ds vs) : ∀ n : Nat, Reps K F (List.replicate n ds).flatten (List.replicate n vs).flatten
  | 0 => Reps.nil
  | n + 1 => by
    rw [List.replicate_succ, List.replicate_succ, List.flatten_cons, List.flatten_cons]
    exact h.app (Reps.rep h n)
theorem Reps.rev {ds : List D} {vs : List V} (h : Reps K F ds vs) : Reps K F ds.reverse vs.reverse := by
  induction ds generalizing vs with
  | nil => rw [Reps.nil_iff] at h; rw [h]; exact Reps.nil
  | cons c ds ih =>
    obtain ⟨x, r, e1, h1, h2⟩ := Reps.cons_iff.mp h
    rw [e1, List.reverse_cons, List.reverse_cons]
    exact (ih h2).app (.cons h1 .nil)
end
/-! ## how the heap goes on -/
/-- what holds the draws: code tables, the script, where the row of draws lies -/
structure Zx where
  T : List Addr
  N : Scr
  r : Option Addr
def LamMore (r : Option Addr) (H' : Hp) (b : Addr) (ps ps' : Array Value) : Prop := ∀ q, GT.q b = some q → r ≠ none ∧ ∀ pos cv, codeAmong pos ps'.toList = some cv → codeAmong pos ps.toList = some cv ∨ ∃ c, cv = .ref c ∧ some c ≠ r ∧ H' c = some (LamX.CodeO c q)
def LeO (r : Option Addr) (H H' : Hp) : Prop := ∀ b o, some b ≠ r → H b = some o → H' b = some o ∨ ∃ ps ps', o = .tbl ps ∧ H' b = some (.tbl ps') ∧ (TriplesOk ps.toList → TriplesOk ps'.toList) ∧ LamMore r H' b ps ps'
theorem lam_keep {r : Option Addr} {H1 H2 : Hp} (k : LeO r H1 H2) {c : Addr} {q : Str} (n : some c ≠ r) (h : H1 c = some (LamX.CodeO c q)) : H2 c = some (LamX.CodeO c q) := by
  rcases k c _ n h with r | ⟨ps, _, e, _⟩
  · exact r
  · exact absurd e (LamX.codeO_ne ps)
theorem LeO.refl (r : Option Addr) (H : Hp) : LeO r H H := fun _ _ _ h => .inl h
theorem LeO.trans {r : Option Addr} {H H1 H2 : Hp} (l : LeO r H H1) (k : LeO r H1 H2) : LeO r H H2 := fun x o n h => by
  rcases l x o n h with q | ⟨ps, ps', e, q, t⟩
  · exact k x o n q
  · rcases k x _ n q with r | ⟨qs, qs', e2, r, t2⟩
    · refine .inr ⟨ps, ps', e, r, t.1, fun w ew => ⟨(t.2 w ew).1, fun pos cv hc => ?_⟩⟩
      rcases (t.2 w ew).2 pos cv hc with h1 | ⟨c, h1, h2, h3⟩
      · exact .inl h1
      · exact .inr ⟨c, h1, h2, lam_keep k h2 h3⟩
    · cases e2
      refine .inr ⟨ps, qs', e, r, fun z => t2.1 (t.1 z), fun w ew => ⟨(t.2 w ew).1, fun pos cv hc => ?_⟩⟩
      rcases (t2.2 w ew).2 pos cv hc with h1 | h1
      · rcases (t.2 w ew).2 pos cv h1 with h1 | ⟨c, h1, h2, h3⟩
        · exact .inl h1
        · exact .inr ⟨c, h1, h2, lam_keep k h2 h3⟩
      · exact .inr h1
theorem LeO.le {H H' : Hp} (l : LeO none H H') : Le H H' := fun a o h => by
  rcases l a o (fun e => nomatch e) h with q | ⟨ps, ps', e, q, t⟩
  · exact .inl q
  · refine .inr ⟨ps, ps', e, q, ?_, t.1⟩
    cases c : GT.q a with
    | none => rfl
    | some w => exact absurd rfl (t.2 w c).1
theorem Le.o {H H' : Hp} (l : Le H H') (r : Option Addr) : LeO r H H' := fun a o _ h => by
  rcases l a o h with q | ⟨ps, ps', e, q, t⟩
  · exact .inl q
  · exact .inr ⟨ps, ps', e, q, t.2, fun w ew => by rw [t.1] at ew; cases ew⟩
theorem LeB.o {a : Addr} {H H' : Hp} (l : LeB a H H') : LeO (some a) H H' := fun b o n h => by
  rcases l b o (fun e => n (by rw [e])) h with q | ⟨ps, ps', e, q, t⟩
  · exact .inl q
  · exact .inr ⟨ps, ps', e, q, t.2, fun w ew => by rw [t.1] at ew; cases ew⟩
theorem LeO.lst {r : Option Addr} {H H' : Hp} {a : Addr} {xs : List V} (l : LeO r H H') (n : some a ≠ r) (h : H a = some (.lst xs)) : H' a = some (.lst xs) := by
  rcases l a _ n h with q | ⟨ps, _, e, _⟩
  · exact q
  · cases e
theorem LeO.free {r : Option Addr} {H H' : Hp} {a : Addr} (l : LeO r H H') (n : some a ≠ r) (h : H' a = none) : H a = none := by
  cases e : H a with
  | none => rfl
  | some o =>
    rcases l a o n e with q | ⟨ps, ps', _, q, _⟩
    · rw [h] at q; cases q
    · rw [h] at q; cases q
def NoTbl (F : Hp) : Prop := ∀ a ps, F a ≠ some (.tbl ps)
structure Ext (K : PySem.W.Frag) (z : Zx) (F H F' H' : Hp) : Prop where
  nt : NoTbl F → NoTbl F'
  ff : Sub F F'
  fh : Sub F' H'
  hh : LeO z.r H H'
  new : ∀ a o, F' a = some o → F a = some o ∨ H a = none
  row : ∀ a, z.r = some a → Row K z.N a H → Row K z.N a H'
  kept : ∀ a, z.r = some a → H a ≠ none → H' a ≠ none
section
variable {K : PySem.W.Frag} {z : Zx} {F H F' H' F'' H'' : Hp}
theorem Ext.refl (s : Sub F H) : Ext K z F H F H := ⟨fun n => n, fun _ _ h => h, s, LeO.refl _ _, fun _ _ h => .inl h, fun _ _ h => h, fun _ _ h => h⟩
theorem Ext.free (e : Ext K z F H F' H') {a : Addr} (h : H' a = none) : H a = none := by
  by_cases n : some a = z.r
  · cases c : H a with
    | none => rfl
    | some o => exact absurd h (e.kept a n.symm (by rw [c]; exact fun z => nomatch z))
  · exact e.hh.free n h
theorem Ext.trans (e : Ext K z F H F' H') (g : Ext K z F' H' F'' H'') : Ext K z F H F'' H'' :=
  ⟨fun n => g.nt (e.nt n), fun a o h => g.ff a o (e.ff a o h), g.fh, e.hh.trans g.hh, fun a o h => by
    rcases g.new a o h with q | q
    · exact e.new a o q
    · exact .inr (e.free q), fun a h r => g.row a h (e.row a h r), fun a h r => g.kept a h (e.kept a h r)⟩
theorem Ext.unfrozen (e : Ext K z F H F' H') {a : Addr} (h : F a = none) (n : H a ≠ none) : F' a = none := by
  cases c : F' a with
  | none => rfl
  | some o =>
    rcases e.new a o c with q | q
    · rw [h] at q; cases q
    · exact absurd q n
/-- a new object that is frozen at once -/
theorem Ext.made (s : Sub F H) {p : Addr} {o : HO} (h : H p = none) (no : ∀ ps, o ≠ .tbl ps := by intro _ q; cases q) : Ext K z F H (upd F p o) (upd H p o) := by
  refine ⟨fun n a ps e => ?_, fun a u e => ?_, fun a u e => ?_, fun a u _ e => .inl ?_, fun a u e => ?_, fun a e r => ?_, fun a e n => ?_⟩
  · by_cases c : a = p
    · subst c; rw [upd_same] at e; exact no ps (Option.some.inj e)
    · rw [upd_ne c] at e; exact n a ps e
  · have : a ≠ p := fun z => by rw [z] at e; have := s _ _ e; rw [h] at this; cases this
    rw [upd_ne this]; exact e
  · by_cases c : a = p
    · subst c; rw [upd_same] at e ⊢; exact e
    · rw [upd_ne c] at e ⊢; exact s _ _ e
  · rw [upd_ne (ne_of_none e h)]; exact e
  · by_cases c : a = p
    · subst c; exact .inr h
    · rw [upd_ne c] at e; exact .inl e
  · exact r.up (Le.new h)
  · by_cases c : a = p
    · subst c; rw [upd_same]; exact fun z => nomatch z
    · rw [upd_ne c]; exact n
/-- a new object of one's own: it may change -/
theorem Ext.own (e : Ext K z F H F' H') {p : Addr} {o : HO} (h : H p = none) (f : F' p = none) (n : some p ≠ z.r) (nc : ∀ c q, H' p ≠ some (LamX.CodeO c q)) : Ext K z F H F' (upd H' p o) := by
  refine ⟨e.nt, e.ff, fun a u q => ?_, fun a u m q => ?_, e.new, fun a q r => ?_, fun a q m => ?_⟩
  · have : a ≠ p := fun z => by rw [z, f] at q; cases q
    rw [upd_ne this]; exact e.fh a u q
  · rw [upd_ne (ne_of_none q h)]
    rcases e.hh a u m q with r | ⟨ps, ps', e1, r, t⟩
    · exact .inl r
    · refine .inr ⟨ps, ps', e1, r, t.1, fun w ew => ⟨(t.2 w ew).1, fun pos cv hc => ?_⟩⟩
      rcases (t.2 w ew).2 pos cv hc with h1 | ⟨c, h1, h2, h3⟩
      · exact .inl h1
      · refine .inr ⟨c, h1, h2, ?_⟩
        rw [upd_ne (fun z => by rw [z] at h3; exact nc _ _ h3)]
        exact h3
  · have np : p ≠ a := fun z => n (by rw [z, q])
    obtain ⟨c, m, rr, e1, s1, x1⟩ := r
    have R := e.row a q ⟨c, m, rr, e1, s1, x1⟩
    exact R.put (Row.off ⟨c, m, rr, e1, s1, x1⟩ h) np
  · by_cases c : a = p
    · subst c; rw [upd_same]; exact fun z => nomatch z
    · rw [upd_ne c]; exact e.kept a q m
theorem Ext.own0 (s : Sub F H) {p : Addr} {o : HO} (h : H p = none) (n : some p ≠ z.r) : Ext K z F H F (upd H p o) := by
  refine (Ext.refl s).own h ?_ n fun c q z => by rw [h] at z; cases z
  cases c : F p with
  | none => rfl
  | some o => have := s _ _ c; rw [h] at this; cases this
/-- what is one's own is frozen -/
theorem Ext.frozen (e : Ext K z F H F' H') {p : Addr} {o : HO} (h : H p = none) (g : H' p = some o) (f : F' p = none) (no : ∀ ps, o ≠ .tbl ps := by intro _ q; cases q) : Ext K z F H (upd F' p o) H' := by
  refine ⟨fun n a ps q => ?_, fun a u q => ?_, fun a u q => ?_, e.hh, fun a u q => ?_, e.row, e.kept⟩
  · by_cases c : a = p
    · subst c; rw [upd_same] at q; exact no ps (Option.some.inj q)
    · rw [upd_ne c] at q; exact e.nt n a ps q
  · have := e.ff a u q
    have np : a ≠ p := fun z => by rw [z, f] at this; cases this
    rw [upd_ne np]; exact this
  · by_cases c : a = p
    · subst c; rw [upd_same] at q; rw [g]; exact q
    · rw [upd_ne c] at q; exact e.fh a u q
  · by_cases c : a = p
    · subst c; exact .inr h
    · rw [upd_ne c] at q; exact e.new a u q
/-- a def that draws nothing -/
theorem Ext.weak {T : List Addr} {N : Scr} (e : Ext K ⟨T, N, none⟩ F H F' H') : Ext K z F H F' H' :=
  ⟨e.nt, e.ff, e.fh, e.hh.le.o _, e.new, fun a _ r => r.up e.hh.le, fun a _ n => by
    cases c : H a with
    | none => exact absurd c n
    | some o =>
      rcases e.hh.le a o c with q | ⟨ps, ps', _, q, _⟩
      · rw [q]; exact fun z => nomatch z
      · rw [q]; exact fun z => nomatch z⟩
end
/-! ## slots -/
inductive Sl where
  | un
  | va (d : D)
  | ow (ds : List D)
  | ro
abbrev Rho := List Sl
def RSl (K : PySem.W.Frag) (z : Zx) (H0 F H : Hp) : Sl → Option V → Prop
  | .un, _ => True
  | .va d, o => ∃ v, o = some v ∧ Rep K F d v
  | .ow ds, o => ∃ a xs, o = some (.ref a) ∧ some a ≠ z.r ∧ F a = none ∧ H0 a = none ∧ H a = some (.lst xs) ∧ Reps K F ds xs
  | .ro, o => ∃ a, o = some (.ref a) ∧ z.r = some a
def Sl.owns : Sl → Bool
  | .ow _ => true
  | _ => false
structure RS (K : PySem.W.Frag) (z : Zx) (F0 H0 : Hp) (ρ : Rho) (F : Hp) (σ : L2.St) (H : Hp) : Prop where
  ext : Ext K z F0 H0 F H
  row : ∀ a, z.r = some a → Row K z.N a H ∧ F a = none ∧ Row K z.N a H0
  tabs : Tabs z.T H
  nt : NoTbl F
  len : ρ.length = σ.length
  slot : ∀ (i : Nat) (s : Sl), ρ[i]? = some s → ∃ o, σ[i]? = some o ∧ RSl K z H0 F H s o
  dist : ∀ (i j : Nat) (s t : Sl) (a : Addr), i ≠ j → ρ[i]? = some s → ρ[j]? = some t → s.owns = true → t.owns = true → σ[i]? = some (some (.ref a)) → σ[j]? ≠ some (some (.ref a))
section
variable {K : PySem.W.Frag} {z : Zx} {F0 H0 F H F' H' : Hp} {ρ : Rho} {σ : L2.St}
theorem RS.sub (h : RS K z F0 H0 ρ F σ H) : Sub F H := h.ext.fh
theorem tabs_up {T : List Addr} {r : Option Addr} (l : LeO r H H') (h : Tabs T H) (hr : ∀ a, r = some a → ∃ xs, H a = some (.lst xs)) : Tabs T H' := fun p hp => by
  refine .mk (fun eg => ?_) fun w eg => ?_
  · obtain ⟨ps, e, t⟩ := (h p hp).g eg
    have n : some p ≠ r := fun q => by
      obtain ⟨xs, e2⟩ := hr p q.symm
      rw [e] at e2; cases e2
    rcases l p _ n e with q | ⟨qs, qs', e2, q, t2⟩
    · exact ⟨ps, q, t⟩
    · cases e2
      exact ⟨qs', q, t2.1 t⟩
  · obtain ⟨ps, e, t, hc⟩ := (h p hp).s eg
    have n : some p ≠ r := fun q => by
      obtain ⟨xs, e2⟩ := hr p q.symm
      rw [e] at e2; cases e2
    have old : ∀ c, H c = some (LamX.CodeO c w) → H' c = some (LamX.CodeO c w) := fun c e5 => lam_keep l (fun z => by
      obtain ⟨xs, e2⟩ := hr c z.symm
      rw [e5] at e2; cases e2) e5
    rcases l p _ n e with q | ⟨qs, qs', e2, q, t2⟩
    · refine ⟨ps, q, t, fun pos cv e3 => ?_⟩
      obtain ⟨c, e4, e5⟩ := hc pos cv e3
      exact ⟨c, e4, old c e5⟩
    · cases e2
      refine ⟨qs', q, t2.1 t, fun pos cv e3 => ?_⟩
      rcases (t2.2 w eg).2 pos cv e3 with h1 | ⟨c, h1, _, h3⟩
      · obtain ⟨c, e4, e5⟩ := hc pos cv h1
        exact ⟨c, e4, old c e5⟩
      · exact ⟨c, h1, h3⟩
theorem RS.step (h : RS K z F0 H0 ρ F σ H) (e : Ext K z F H F' H') : RS K z F0 H0 ρ F' σ H' := by
  refine ⟨h.ext.trans e, fun a q => ?_, tabs_up e.hh h.tabs fun a q => (h.row a q).1.lst, e.nt h.nt, h.len, fun i s q => ?_, h.dist⟩
  · obtain ⟨h1, h2, h3⟩ := h.row a q
    refine ⟨e.row a q h1, e.unfrozen h2 ?_, h3⟩
    obtain ⟨ys, q2⟩ := h1.lst
    rw [q2]; exact fun z => nomatch z
  · obtain ⟨o, q2, hs⟩ := h.slot i s q
    refine ⟨o, q2, ?_⟩
    cases s with
    | un => exact trivial
    | va d =>
      obtain ⟨v, q3, r⟩ := hs
      exact ⟨v, q3, r.up e.ff⟩
    | ow ds =>
      obtain ⟨a, xs, q3, n, f, h0, hl, r⟩ := hs
      exact ⟨a, xs, q3, n, e.unfrozen f (by rw [hl]; exact fun z => nomatch z), h0, e.hh.lst n hl, r.up e.ff⟩
    | ro => exact hs
/-- a slot that is set to what is frozen -/
theorem RS.set (h : RS K z F0 H0 ρ F σ H) (i : Nat) {s : Sl} {o : Option V} (hs : RSl K z H0 F H s o) (hw : s.owns = false) : RS K z F0 H0 (ρ.set i s) F (σ.set i o) H := by
  refine ⟨h.ext, h.row, h.tabs, h.nt, by rw [List.length_set, List.length_set]; exact h.len, fun j t q => ?_, fun j l t u a n q1 q2 w1 w2 e1 => ?_⟩
  · by_cases c : i = j
    · subst c
      by_cases hl : i < ρ.length
      · rw [List.getElem?_set_self hl] at q
        cases q
        exact ⟨o, List.getElem?_set_self (by rw [← h.len]; exact hl), hs⟩
      · rw [List.getElem?_eq_none (by rw [List.length_set]; omega)] at q; cases q
    · rw [List.getElem?_set_ne c] at q ⊢
      exact h.slot j t q
  · by_cases c : i = j
    · subst c
      by_cases hl : i < ρ.length
      · rw [List.getElem?_set_self hl] at q1
        cases q1
        rw [hw] at w1; cases w1
      · rw [List.getElem?_eq_none (by rw [List.length_set]; omega)] at q1; cases q1
    · by_cases c2 : i = l
      · subst c2
        by_cases hl : i < ρ.length
        · rw [List.getElem?_set_self hl] at q2
          cases q2
          rw [hw] at w2; cases w2
        · rw [List.getElem?_eq_none (by rw [List.length_set]; omega)] at q2; cases q2
      · rw [List.getElem?_set_ne c] at q1 e1
        rw [List.getElem?_set_ne c2] at q2 ⊢
        exact h.dist j l t u a n q1 q2 w1 w2 e1
/-- a slot that is set to a new list of one's own -/
theorem RS.setOwn (h : RS K z F0 H0 ρ F σ H) (i : Nat) {a : Addr} {ds : List D} {xs : List V} (e : Ext K z F H F' H') (n : some a ≠ z.r) (ha : H a = none) (f : F' a = none) (hl : H' a = some (.lst xs)) (r : Reps K F' ds xs) :
    RS K z F0 H0 (ρ.set i (.ow ds)) F' (σ.set i (some (.ref a))) H' := by
  have h1 := h.step e
  have other : ∀ (j : Nat) (t : Sl), ρ[j]? = some t → t.owns = true → σ[j]? ≠ some (some (.ref a)) := fun j t q w e1 => by
    obtain ⟨o, q2, hs⟩ := h.slot j t q
    cases t with
    | ow es =>
      obtain ⟨b, ys, q3, _, _, _, hb, _⟩ := hs
      rw [q2, q3] at e1
      cases e1
      rw [ha] at hb; cases hb
    | un => cases w
    | va d => cases w
    | ro => cases w
  refine ⟨h1.ext, h1.row, h1.tabs, h1.nt, by rw [List.length_set, List.length_set]; exact h.len, fun j t q => ?_, fun j l t u b nj q1 q2 w1 w2 e1 => ?_⟩
  · by_cases c : i = j
    · subst c
      by_cases hi : i < ρ.length
      · rw [List.getElem?_set_self hi] at q
        cases q
        exact ⟨_, List.getElem?_set_self (by rw [← h.len]; exact hi), a, xs, rfl, n, f, h.ext.free ha, hl, r⟩
      · rw [List.getElem?_eq_none (by rw [List.length_set]; omega)] at q; cases q
    · rw [List.getElem?_set_ne c] at q ⊢
      exact h1.slot j t q
  · by_cases c : i = j
    · subst c
      by_cases hi : i < ρ.length
      · rw [List.getElem?_set_self (by rw [← h.len]; exact hi)] at e1
        cases e1
        rw [List.getElem?_set_ne nj] at q2 ⊢
        exact other l u q2 w2
      · rw [List.getElem?_eq_none (by rw [List.length_set]; omega)] at q1; cases q1
    · rw [List.getElem?_set_ne c] at q1 e1
      by_cases c2 : i = l
      · subst c2
        by_cases hi : i < ρ.length
        · rw [List.getElem?_set_self (by rw [← h.len]; exact hi)]
          intro e2
          cases e2
          exact other j t q1 w1 e1
        · rw [List.getElem?_eq_none (by rw [List.length_set]; omega)] at q2; cases q2
      · rw [List.getElem?_set_ne c2] at q2 ⊢
        exact h.dist j l t u b nj q1 q2 w1 w2 e1
/-- a list of one's own that changes -/
theorem RS.put (h : RS K z F0 H0 ρ F σ H) {i : Nat} {a : Addr} {ds es : List D} {ys : List V} (hi : ρ[i]? = some (.ow ds)) (ha : σ[i]? = some (some (.ref a))) (r : Reps K F es ys) : RS K z F0 H0 (ρ.set i (.ow es)) F σ (upd H a (.lst ys)) := by
  have hlen : i < ρ.length := (List.getElem?_eq_some_iff.mp hi).1
  obtain ⟨o, q2, b, xs, q3, nr, f, h0, hl, _⟩ := h.slot i _ hi
  rw [ha] at q2
  cases q2
  cases q3
  have other : ∀ (j : Nat) (t : Sl), i ≠ j → ρ[j]? = some t → t.owns = true → σ[j]? ≠ some (some (.ref a)) := fun j t c q w => h.dist i j _ t a c hi q rfl w ha
  refine ⟨h.ext.own h0 f nr (fun c q z => by rw [hl] at z; cases z), fun b q => ?_, fun p hp => ?_, h.nt, by rw [List.length_set]; exact h.len, fun j t q => ?_, fun j l t u b nj q1 q2 w1 w2 e1 => ?_⟩
  · obtain ⟨h1, h2, h3⟩ := h.row b q
    refine ⟨?_, h2, h3⟩
    have np : a ≠ b := fun z => nr (by rw [z, q])
    exact h1.put (h3.off h0) np
  · obtain ⟨ps, e, t⟩ := (h.tabs p hp).tbl
    have c : p ≠ a := fun c => by rw [c, hl] at e; cases e
    refine .mk (fun eg => ⟨ps, by rw [upd_ne c]; exact e, t⟩) fun w eg => ?_
    obtain ⟨qs, e1, t1, hc⟩ := (h.tabs p hp).s eg
    refine ⟨qs, by rw [upd_ne c]; exact e1, t1, fun pos cv h1 => ?_⟩
    obtain ⟨cc, h2, h3⟩ := hc pos cv h1
    exact ⟨cc, h2, by rw [upd_ne (fun z => by rw [z, hl] at h3; cases h3)]; exact h3⟩
  · by_cases c : i = j
    · subst c
      rw [List.getElem?_set_self hlen] at q
      cases q
      exact ⟨_, ha, a, ys, rfl, nr, f, h0, upd_same, r⟩
    · rw [List.getElem?_set_ne c] at q
      obtain ⟨o, q4, hs⟩ := h.slot j t q
      refine ⟨o, q4, ?_⟩
      cases t with
      | un => exact trivial
      | va d => exact hs
      | ro => exact hs
      | ow fs =>
        obtain ⟨b, zs, q5, n5, f5, h5, l5, r5⟩ := hs
        have : b ≠ a := fun c2 => by
          subst c2
          exact other j _ c q rfl (by rw [q4, q5])
        exact ⟨b, zs, q5, n5, f5, h5, by rw [upd_ne this]; exact l5, r5⟩
  · have conv : ∀ (j : Nat) (t : Sl), (ρ.set i (.ow es))[j]? = some t → t.owns = true → ∃ t', ρ[j]? = some t' ∧ t'.owns = true := fun j t q w => by
      by_cases c : i = j
      · subst c; exact ⟨_, hi, rfl⟩
      · rw [List.getElem?_set_ne c] at q; exact ⟨t, q, w⟩
    obtain ⟨t', q1', w1'⟩ := conv j t q1 w1
    obtain ⟨u', q2', w2'⟩ := conv l u q2 w2
    exact h.dist j l t' u' b nj q1' q2' w1' w2' e1
end
end Act
namespace Act
variable [GT]
open PySem PySem.Spec PyProof.Rows L2
structure Exc where
  cls : Str
  arg : Option (Str × D)
abbrev DE := Rho → (D → Prop) → (Exc → Prop) → Prop
abbrev DA := Rho → (List D → Prop) → (Exc → Prop) → Prop
abbrev DT := Rho → (Bool → Prop) → (Exc → Prop) → Prop
def XRep (K : PySem.W.Frag) (mg : Str → Option Value) (F H : Hp) (x : Exc) (c : Value) (dd : Option Addr) : Prop :=
  mg x.cls = some c ∧ match x.arg with
  | none => dd = none
  | some (f, d) => ∃ a u, dd = some a ∧ H a = some (.xd [(f, u)]) ∧ Rep K F d u
inductive Mo where
  | d | b | n
/-- what an expression gave: frozen, borrowed, or a new list of one's own -/
def OwnB (K : PySem.W.Frag) (z : Zx) (F H : Hp) (d : D) (v : V) : Prop := ∃ a xs ds, d = .lst ds ∧ v = .ref a ∧ some a ≠ z.r ∧ F a = none ∧ H a = some (.lst xs) ∧ Reps K F ds xs
def RB (K : PySem.W.Frag) (z : Zx) (F H : Hp) (d : D) (v : V) : Prop := Rep K F d v ∨ OwnB K z F H d v
def RN (K : PySem.W.Frag) (z : Zx) (H F' H' : Hp) (d : D) (v : V) : Prop := ∃ a xs ds, d = .lst ds ∧ v = .ref a ∧ some a ≠ z.r ∧ H a = none ∧ F' a = none ∧ H' a = some (.lst xs) ∧ Reps K F' ds xs
def Res (K : PySem.W.Frag) (z : Zx) (m : Mo) (H F' H' : Hp) (d : D) (v : V) : Prop :=
  match m with
  | .d => Rep K F' d v
  | .b => RB K z F' H' d v
  | .n => RN K z H F' H' d v
def XW (K : PySem.W.Frag) (mg : Str → Option Value) (z : Zx) (W : WX) (σ : L2.St) (F H : Hp) (E : Exc → Prop) : Prop := ∀ x c dd F' H', E x → Ext K z F H F' H' → XRep K mg F' H' x c dd → W c dd σ H'
def teG (K : PySem.W.Frag) (mg : Str → Option Value) (z : Zx) (W : WX) (m : Mo) (f : DE) : TE := fun σ H R =>
  ∃ F0 H0 ρ F Q E, RS K z F0 H0 ρ F σ H ∧ f ρ Q E ∧ (∀ d v F' H', Q d → Ext K z F H F' H' → Res K z m H F' H' d v → R v H') ∧ XW K mg z W σ F H E
def taG (K : PySem.W.Frag) (mg : Str → Option Value) (z : Zx) (W : WX) (f : DA) : TA := fun σ H R =>
  ∃ F0 H0 ρ F Q E, RS K z F0 H0 ρ F σ H ∧ f ρ Q E ∧ (∀ ds vs F' H', Q ds → Ext K z F H F' H' → Reps K F' ds vs → R vs H') ∧ XW K mg z W σ F H E
def ttG (K : PySem.W.Frag) (mg : Str → Option Value) (z : Zx) (W : WX) (f : DT) : TT := fun σ H R =>
  ∃ F0 H0 ρ F Q E, RS K z F0 H0 ρ F σ H ∧ f ρ Q E ∧ (∀ b F' H', Q b → Ext K z F H F' H' → R b H') ∧ XW K mg z W σ F H E
def PD (X : Cx) (z : Zx) (m : Mo) (e : Expr) (f : DE) : Prop := ∀ W, Takes X W → PE X e (teG X.K X.mg z W m f)
def PAD (X : Cx) (z : Zx) (es : List Expr) (f : DA) : Prop := ∀ W, Takes X W → PA X es (taG X.K X.mg z W f)
def PTD (X : Cx) (z : Zx) (e : Expr) (f : DT) : Prop := ∀ W, Takes X W → PT X e (ttG X.K X.mg z W f)
def PWD (X : Cx) (z : Zx) (e : Expr) (f : DT) : Prop := ∀ W, Takes X W → PW X e (ttG X.K X.mg z W f)
theorem peW {X : Cx} {e : Expr} {t t' : TE} (h : PE X e t) (w : ∀ σ H R, t' σ H R → t σ H R) : PE X e t' := ⟨fun pins s σ H Q I g => h.run pins s σ H Q I (w σ H Q g)⟩
theorem paW {X : Cx} {e : List Expr} {t t' : TA} (h : PA X e t) (w : ∀ σ H R, t' σ H R → t σ H R) : PA X e t' := ⟨fun pos pins s σ H Q I g => h.run pos pins s σ H Q I (w σ H Q g)⟩
theorem ptW {X : Cx} {e : Expr} {t t' : TT} (h : PT X e t) (w : ∀ σ H R, t' σ H R → t σ H R) : PT X e t' := ⟨fun pins s σ H Q I g => h.run pins s σ H Q I (w σ H Q g)⟩
theorem pwW {X : Cx} {e : Expr} {t t' : TT} (h : PW X e t) (w : ∀ σ H R, t' σ H R → t σ H R) : PW X e t' := ⟨fun wh pins s σ H Q I g => h.run wh pins s σ H Q I (w σ H Q g)⟩
theorem psW {X : Cx} {e : Stmt} {t t' : TS} (h : PS X e t) (w : ∀ D σ H, t' D σ H → t D σ H) : PS X e t' := ⟨fun pins s σ H Q I g => h.run pins s σ H Q I (w Q σ H g)⟩
theorem pssW {X : Cx} {e : List Stmt} {t t' : TS} (h : PSs X e t) (w : ∀ D σ H, t' D σ H → t D σ H) : PSs X e t' := ⟨fun pins s σ H Q I g => h.run pins s σ H Q I (w Q σ H g)⟩
section
variable {K : PySem.W.Frag} {mg : Str → Option Value} {z : Zx} {W : WX} {σ : L2.St} {F H F' H' F'' H'' : Hp} {E : Exc → Prop} {d : D} {v : V}
theorem XW.step (h : XW K mg z W σ F H E) (e : Ext K z F H F' H') : XW K mg z W σ F' H' E := fun x c dd F2 H2 he g r => h x c dd F2 H2 he (e.trans g) r
theorem OwnB.up (h : OwnB K z F H d v) (e : Ext K z F H F' H') : OwnB K z F' H' d v :=
  let ⟨a, xs, ds, e1, e2, n, f, l, r⟩ := h
  ⟨a, xs, ds, e1, e2, n, e.unfrozen f (by rw [l]; exact fun z => nomatch z), e.hh.lst n l, r.up e.ff⟩
theorem RB.up (h : RB K z F H d v) (e : Ext K z F H F' H') : RB K z F' H' d v := h.imp (fun g => g.up e.ff) fun g => g.up e
theorem RN.up {H0 : Hp} (h : RN K z H0 F H d v) (e : Ext K z F H F' H') : RN K z H0 F' H' d v :=
  let ⟨a, xs, ds, e1, e2, n, h0, f, l, r⟩ := h
  ⟨a, xs, ds, e1, e2, n, h0, e.unfrozen f (by rw [l]; exact fun z => nomatch z), e.hh.lst n l, r.up e.ff⟩
theorem RN.b {H0 : Hp} (h : RN K z H0 F H d v) : RB K z F H d v :=
  let ⟨a, xs, ds, e1, e2, n, _, f, l, r⟩ := h
  .inr ⟨a, xs, ds, e1, e2, n, f, l, r⟩
theorem Res.b : ∀ {m : Mo} {H0 : Hp}, Res K z m H0 F H d v → RB K z F H d v
  | .d, _, h => .inl h
  | .b, _, h => h
  | .n, _, h => RN.b h
theorem sub_free (s : Sub F H) {p : Addr} (h : H p = none) : F p = none := by
  cases c : F p with
  | none => rfl
  | some o => have := s _ _ c; rw [h] at this; cases this
end
section
variable {X : Cx} {z : Zx} {m ma mb mc : Mo} {e ea eb ec : Expr} {f fa fb fc : DE} {pos : Pos}
theorem PD.b (h : PD X z m e f) : PD X z .b e f := fun W tk => peW (h W tk) fun σ H R ⟨F0, H0, ρ, F, Q, E, rs, hf, hq, hx⟩ => ⟨F0, H0, ρ, F, Q, E, rs, hf, fun d v F' H' q e r => hq d v F' H' q e r.b, hx⟩
theorem PD.fr (h : PD X z .n e f) : PD X z .d e f := fun W tk => peW (h W tk) fun σ H R ⟨F0, H0, ρ, F, Q, E, rs, hf, hq, hx⟩ => ⟨F0, H0, ρ, F, Q, E, rs, hf, fun d v F' H' q e r => by
  obtain ⟨a, xs, ds, rfl, rfl, n, h0, ff, l, r⟩ := r
  have e2 := e.frozen h0 l ff
  refine hq _ _ _ _ q e2 ?_
  show Rep _ _ _ _
  rw [Rep.lst_iff]
  refine ⟨a, xs, rfl, upd_same, r.up fun b o h => ?_⟩
  have nb : b ≠ a := fun z => by rw [z, ff] at h; cases h
  rw [upd_ne nb]
  exact h, hx⟩
/-! ## names and constants -/
def eVar (i : Nat) : DE := fun ρ Q _ => match ρ[i]? with
  | some (.va d) => Q d
  | _ => False
def eVarB (i : Nat) : DE := fun ρ Q _ => match ρ[i]? with
  | some (.va d) => Q d
  | some (.ow ds) => Q (.lst ds)
  | _ => False
def eC (d : D) : DE := fun _ Q _ => Q d
theorem d_var (i : Nat) {x : Str} {pos : Pos} (hN : X.N[i]? = some x := by rfl) (hv : Vis X.env.scope x := by first | exact Or.inl rfl | exact Or.inr (Or.inl rfl) | exact Or.inr (Or.inr rfl)) (h1 : (x == ("__debug__" : Str)) = false := by decide) (h2 : (x == ("__classdict__" : Str)) = false := by decide) : PD X z .d (.Name x pos) (eVar i) := fun W tk => peW (pv i hN hv h1 h2) fun σ H R ⟨F0, H0, ρ, F, Q, E, rs, hf, hq, hx⟩ => by
  unfold eVar at hf
  cases e : ρ[i]? with
  | none => rw [e] at hf; cases hf
  | some s =>
    rw [e] at hf
    cases s with
    | va d =>
      obtain ⟨o, q, v, rfl, r⟩ := rs.slot i _ e
      exact ⟨v, q, hq d v F H hf (Ext.refl rs.sub) r⟩
    | un => cases hf
    | ow ds => cases hf
    | ro => cases hf
theorem d_varB (i : Nat) {x : Str} {pos : Pos} (hN : X.N[i]? = some x := by rfl) (hv : Vis X.env.scope x := by first | exact Or.inl rfl | exact Or.inr (Or.inl rfl) | exact Or.inr (Or.inr rfl)) (h1 : (x == ("__debug__" : Str)) = false := by decide) (h2 : (x == ("__classdict__" : Str)) = false := by decide) : PD X z .b (.Name x pos) (eVarB i) := fun W tk => peW (pv i hN hv h1 h2) fun σ H R ⟨F0, H0, ρ, F, Q, E, rs, hf, hq, hx⟩ => by
  unfold eVarB at hf
  cases e : ρ[i]? with
  | none => rw [e] at hf; cases hf
  | some s =>
    rw [e] at hf
    cases s with
    | va d =>
      obtain ⟨o, q, v, rfl, r⟩ := rs.slot i _ e
      exact ⟨v, q, hq d v F H hf (Ext.refl rs.sub) (.inl r)⟩
    | ow ds =>
      obtain ⟨o, q, b, xs, rfl, n, ff, _, l, r⟩ := rs.slot i _ e
      exact ⟨_, q, hq _ _ F H hf (Ext.refl rs.sub) (.inr ⟨b, xs, ds, rfl, rfl, n, ff, l, r⟩)⟩
    | un => cases hf
    | ro => cases hf
theorem d_of_c {v : V} (d : D) (h : PE X e (tC v)) (r : ∀ F, Rep X.K F d v) : PD X z .d e (eC d) := fun W tk => peW h fun σ H R ⟨F0, H0, ρ, F, Q, E, rs, hf, hq, hx⟩ => hq d v F H hf (Ext.refl rs.sub) (r F)
theorem reps_ints {K : PySem.W.Frag} {F : Hp} : ∀ (js : List Int), Reps K F (js.map D.int) (js.map V.int)
  | [] => Reps.nil
  | j :: js => .cons (Rep.int_iff.mpr rfl) (reps_ints js)
theorem d_int {i : Int} {j : Nat} {pos : Pos} : PD X z .d (.Constant (.int i) j pos) (eC (.int i)) := d_of_c _ pe_int fun _ => Rep.int_iff.mpr rfl
theorem d_bl {b : Bool} {j : Nat} {pos : Pos} : PD X z .d (.Constant (.bool b) j pos) (eC (.bl b)) := d_of_c _ pe_bl fun _ => Rep.bl_iff.mpr rfl
theorem d_non {j : Nat} {pos : Pos} : PD X z .d (.Constant .none j pos) (eC .non) := d_of_c _ pe_non fun _ => Rep.non_iff.mpr rfl
theorem d_str {s : Str} {j : Nat} {pos : Pos} : PD X z .d (.Constant (.str s) j pos) (eC (.str s)) := d_of_c _ pe_str fun _ => Rep.str_iff.mpr rfl
theorem d_globI {x : Str} {i : Int} {t : Tok} {pos : Pos} (hm : X.mg x = some (.int i t)) (hg : Gl X x := by rfl) (hd : (x == ("__debug__" : Str)) = false := by decide) : PD X z .d (.Name x pos) (eC (.int i)) := d_of_c _ (pe_glob (v := .int i) hg hm ⟨_, rfl⟩ hd) fun _ => Rep.int_iff.mpr rfl
theorem d_globT {x : Str} {a : Addr} {js : List Int} {pos : Pos} (hm : X.mg x = some (.ref a)) (ht : ∀ H, ST X.K H a (js.map V.int)) (hg : Gl X x := by rfl) (hd : (x == ("__debug__" : Str)) = false := by decide) : PD X z .d (.Name x pos) (eC (.tup (js.map D.int))) := d_of_c _ (pe_glob (v := .ref a) (u := .ref a) hg hm rfl hd) fun F => Rep.tup_iff.mpr ⟨a, js.map V.int, rfl, ht F, reps_ints js⟩
end
end Act
namespace Act
variable [GT]
open PySem PySem.Spec PyProof.Rows L2
/-! ## operators -/
section
variable {K : PySem.W.Frag} {F : Hp}
theorem rep_int {i : Int} : Rep K F (.int i) (.int i) := Rep.int_iff.mpr rfl
theorem rep_bl {i : Bool} : Rep K F (.bl i) (.bl i) := Rep.bl_iff.mpr rfl
theorem rep_non : Rep K F .non .non := Rep.non_iff.mpr rfl
theorem rep_str {i : Str} : Rep K F (.str i) (.str i) := Rep.str_iff.mpr rfl
theorem rep_tup {ds : List D} {v : V} (h : ∃ a xs, v = .ref a ∧ ST K F a xs ∧ Reps K F ds xs) : Rep K F (.tup ds) v := Rep.tup_iff.mpr h
theorem resD {z : Zx} {H F' H' : Hp} {d : D} {v : V} (h : Rep K F' d v) : Res K z .d H F' H' d v := h
theorem rep_lst {ds : List D} {v : V} (h : ∃ a xs, v = .ref a ∧ F a = some (.lst xs) ∧ Reps K F ds xs) : Rep K F (.lst ds) v := Rep.lst_iff.mpr h
end
theorem RS.rf {K : PySem.W.Frag} {z : Zx} {F0 H0 F H : Hp} {ρ : Rho} {σ : L2.St} (h : RS K z F0 H0 ρ F σ H) : ∀ a, z.r = some a → H a ≠ none := fun a e => by
  obtain ⟨ys, q⟩ := (h.row a e).1.lst
  rw [q]; exact fun z => nomatch z
theorem newRow {z : Zx} {H : Hp} {p : Addr} (rf : ∀ a, z.r = some a → H a ≠ none) (np : H p = none) : some p ≠ z.r := fun e => rf p e.symm np
def cap : Nat := 1000000
theorem cap_le {n : Nat} (h : n ≤ cap) : n ≤ sizeLine := Nat.le_trans h (by decide)
theorem cap_lt {n : Nat} (h : n ≤ cap) : n < sizeLine := Nat.lt_of_le_of_lt h (by decide)
/-- an operator's rule, read off the data -/
def OpD (K : PySem.W.Frag) (z : Zx) (m : Mo) (r : R2) (p : D → D → (D → Prop) → Prop) : Prop :=
  ∀ (F H : Hp) (x y : D) (v u : V) (Q : D → Prop) (R : VK), Sub F H → (∀ a, z.r = some a → H a ≠ none) → RB K z F H x v → RB K z F H y u → p x y Q → (∀ d w F' H', Q d → Ext K z F H F' H' → Res K z m H F' H' d w → R w H') → r v u H R
def eOp (p : D → D → (D → Prop) → Prop) (fa fb : DE) : DE := fun ρ Q E => fa ρ (fun x => fb ρ (fun y => p x y Q) E) E
def tOpD (p : D → D → (D → Prop) → Prop) (fa fb : DE) : DT := fun ρ Q E => fa ρ (fun x => fb ρ (fun y => p x y fun d => match d with | .bl b => Q b | _ => False) E) E
section
variable {X : Cx} {z : Zx} {m ma mb mc : Mo} {e ea eb ec : Expr} {f fa fb fc : DE} {pos : Pos} {p p' : D → D → (D → Prop) → Prop} {r r' : R2}
theorem or_op {g : Value → Value → Sem Value} {r r' : R2} (h : OpR X g r) (h' : OpR X g r') : OpR X g (fun x y H Q => r x y H Q ∨ r' x y H Q) := fun pins s σ H x y v u Q I rx ry q => Or.elim q (h pins s σ H x y v u Q I rx ry) (h' pins s σ H x y v u Q I rx ry)
theorem or_ix {r r' : R2} (h : IxR X r) (h' : IxR X r') : IxR X (fun x y H Q => r x y H Q ∨ r' x y H Q) := fun ve se pins s σ H x y v u Q I rx ry q g => Or.elim q (fun c => h ve se pins s σ H x y v u Q I rx ry c g) (fun c => h' ve se pins s σ H x y v u Q I rx ry c g)
theorem tOp_of {K : PySem.W.Frag} {mg : Str → Option Value} {W : WX} (hp : OpD K z m r p) {σ : L2.St} {H : Hp} {R : VK} (h : teG K mg z W m (eOp p fa fb) σ H R) : tOp r (teG K mg z W ma fa) (teG K mg z W mb fb) σ H R := by
  obtain ⟨F0, H0, ρ, F, Q, E, rs, hf, hq, hx⟩ := h
  refine ⟨F0, H0, ρ, F, _, E, rs, hf, fun d v F1 H1 q1 e1 r1 => ⟨F0, H0, ρ, F1, _, E, rs.step e1, q1, fun d2 v2 F2 H2 q2 e2 r2 => ?_, hx.step e1⟩, hx⟩
  refine hp F2 H2 d d2 v v2 Q R e2.fh ((rs.step e1).step e2).rf (r1.b.up e2) r2.b q2 fun d3 w F3 H3 q3 e3 r3 => ?_
  refine hq d3 w F3 H3 q3 ((e1.trans e2).trans e3) ?_
  cases m with
  | d => exact r3
  | b => exact r3
  | n =>
    obtain ⟨a, xs, ds, e4, e5, n, h0, ff, l, r⟩ := r3
    exact ⟨a, xs, ds, e4, e5, n, (e1.trans e2).free h0, ff, l, r⟩
theorem d_op {op : Operator} (ho : OpR X (binaryOp op) r) (hp : OpD X.K z m r p) (ha : PD X z ma ea fa) (hb : PD X z mb eb fb) : PD X z m (.BinOp ea op eb pos) (eOp p fa fb) := fun W tk =>
  peW (pe_op ho (ha W tk) (hb W tk)) fun σ H R h => tOp_of hp h
theorem d_cmp {op : CmpOp} (ho : OpR X (compareOp op) r) (hp : OpD X.K z .d r p) (ha : PD X z ma ea fa) (hb : PD X z mb eb fb) (hm : behindInMarks op eb = false := by exact nomark _) : PD X z .d (.Compare ea [op] [eb] pos) (eOp p fa fb) := fun W tk =>
  peW (pe_cmpR ho (ha W tk) (hb W tk) hm) fun σ H R h => tOp_of hp h
theorem t_cmp {op : CmpOp} (ho : OpR X (compareOp op) r) (hp : OpD X.K z .d r p) (ha : PD X z ma ea fa) (hb : PD X z mb eb fb) (hm : behindInMarks op eb = false := by exact nomark _) : PTD X z (.Compare ea [op] [eb] pos) (tOpD p fa fb) := fun W tk =>
  ptW (pt_cmpR ho (ha W tk) (hb W tk) hm) fun σ H R ⟨F0, H0, ρ, F, Q, E, rs, hf, hq, hx⟩ => tOp_of (m := .d) hp ⟨F0, H0, ρ, F, (fun d => match d with | .bl b => Q b | _ => False), E, rs, hf, (fun d v F' H' q e r => by
    cases d with
    | bl b => exact ⟨b, Rep.bl_iff.mp (show Rep X.K F' (.bl b) v from r), hq b F' H' q e⟩
    | non => cases q
    | int i => cases q
    | str s => cases q
    | tup xs => cases q
    | lst xs => cases q), hx⟩
/-- both are data of the given kinds -/
theorem rb_int {K : PySem.W.Frag} {F H : Hp} {i : Int} {v : V} (h : RB K z F H (.int i) v) : v = .int i := by
  rcases h with h | ⟨_, _, _, e, _⟩
  · exact Rep.int_iff.mp h
  · cases e
theorem rb_bl {K : PySem.W.Frag} {F H : Hp} {b : Bool} {v : V} (h : RB K z F H (.bl b) v) : v = .bl b := by
  rcases h with h | ⟨_, _, _, e, _⟩
  · exact Rep.bl_iff.mp h
  · cases e
theorem rb_str {K : PySem.W.Frag} {F H : Hp} {s : Str} {v : V} (h : RB K z F H (.str s) v) : v = .str s := by
  rcases h with h | ⟨_, _, _, e, _⟩
  · exact Rep.str_iff.mp h
  · cases e
theorem rb_non {K : PySem.W.Frag} {F H : Hp} {v : V} (h : RB K z F H .non v) : v = .non := by
  rcases h with h | ⟨_, _, _, e, _⟩
  · exact Rep.non_iff.mp h
  · cases e
theorem rb_tup {K : PySem.W.Frag} {F H : Hp} {ds : List D} {v : V} (h : RB K z F H (.tup ds) v) : ∃ a xs, v = .ref a ∧ ST K F a xs ∧ Reps K F ds xs := by
  rcases h with h | ⟨_, _, _, e, _⟩
  · exact Rep.tup_iff.mp h
  · cases e
theorem rb_lst {K : PySem.W.Frag} {F H : Hp} {ds : List D} {v : V} (s : Sub F H) (h : RB K z F H (.lst ds) v) : ∃ a xs, v = .ref a ∧ H a = some (.lst xs) ∧ Reps K F ds xs := by
  rcases h with h | ⟨a, xs, es, e, e2, _, _, l, r⟩
  · obtain ⟨a, xs, e, l, r⟩ := Rep.lst_iff.mp h
    exact ⟨a, xs, e, s _ _ l, r⟩
  · cases e
    exact ⟨a, xs, e2, l, r⟩
/-- integers in, something flat out -/
def pI (C : Int → Int → Prop) (g : Int → Int → D) : D → D → (D → Prop) → Prop := fun x y Q => match x, y with
  | .int i, .int j => C i j ∧ Q (g i j)
  | _, _ => False
theorem opd_I {K : PySem.W.Frag} {C : Int → Int → Prop} {g : Int → Int → D} {h : Int → Int → V} (hg : ∀ i j F, Rep K F (g i j) (h i j)) : OpD K z .d (rI C h) (pI C g) := fun F H x y v u Q R s rf hx hy q k => by
  cases x <;> cases y <;> try exact False.elim q
  rename_i i j
  exact ⟨i, j, rb_int hx, rb_int hy, q.1, k _ _ F H q.2 (Ext.refl s) (hg i j F)⟩
def pI0 (g : Int → Int → D) : D → D → (D → Prop) → Prop := fun x y Q => match x, y with
  | .int i, .int j => Q (g i j)
  | _, _ => False
theorem opd_I0 {K : PySem.W.Frag} {g : Int → Int → D} {h : Int → Int → V} (hg : ∀ i j F, Rep K F (g i j) (h i j)) : OpD K z .d (rI0 h) (pI0 g) := fun F H x y v u Q R s rf hx hy q k => by
  cases x <;> cases y <;> try exact False.elim q
  rename_i i j
  exact ⟨i, j, rb_int hx, rb_int hy, k _ _ F H q (Ext.refl s) (hg i j F)⟩
def pAdd : D → D → (D → Prop) → Prop := fun x y Q => match x, y with
  | .int i, .int j => Q (.int (i + j))
  | .tup xs, .tup ys => xs.length + ys.length ≤ cap ∧ Q (.tup (xs ++ ys))
  | _, _ => False
theorem opd_add {K : PySem.W.Frag} : OpD K z .d (fun x y H Q => rI0 (fun i j => V.int (i + j)) x y H Q ∨ rCatA K x y H Q) pAdd := fun F H x y v u Q R s rf hx hy q k => by
  cases x <;> cases y <;> try exact False.elim q
  · rename_i i j
    exact .inl ⟨i, j, rb_int hx, rb_int hy, k _ _ F H q (Ext.refl s) (resD rep_int)⟩
  · rename_i ds es
    obtain ⟨a, xs, rfl, ta, ra⟩ := rb_tup hx
    obtain ⟨b, ys, rfl, tb, rb⟩ := rb_tup hy
    refine .inr ⟨a, b, xs, ys, rfl, rfl, (ta.sub s).sq, (tb.sub s).sq, by rw [← ra.len, ← rb.len]; exact cap_le q.1, fun c => ?_, fun _ c => ?_, fun _ _ p np => ?_⟩
    · subst c
      have : ds = [] := List.eq_nil_of_length_eq_zero (by rw [ra.len]; rfl)
      subst this
      exact k _ _ F H q.2 (Ext.refl s) (resD <| rep_tup ⟨b, ys, rfl, tb, rb⟩)
    · subst c
      have : es = [] := List.eq_nil_of_length_eq_zero (by rw [rb.len]; rfl)
      subst this
      refine k _ _ F H q.2 (Ext.refl s) (resD <| rep_tup ⟨a, xs, rfl, ta, ?_⟩)
      rw [List.append_nil]; exact ra
    · have e := Ext.made (K := K) (z := z) s (o := .tup (xs ++ ys)) np
      exact k _ _ _ _ q.2 e (resD <| rep_tup ⟨p, xs ++ ys, rfl, .inl upd_same, (ra.app rb).up e.ff⟩)
theorem o_add : OpR X (binaryOp .Add) (fun x y H Q => rI0 (fun i j => V.int (i + j)) x y H Q ∨ rCatA X.K x y H Q) := or_op op_add op_catA
/-- two lists joined: a new one -/
def pCat : D → D → (D → Prop) → Prop := fun x y Q => match x, y with
  | .lst xs, .lst ys => xs.length + ys.length ≤ cap ∧ Q (.lst (xs ++ ys))
  | _, _ => False
def pMul : D → D → (D → Prop) → Prop := fun x y Q => match x, y with
  | .int i, .int j => CMulW i j ∧ Q (.int (i * j))
  | .tup xs, .int k => (xs ≠ [] ∧ -1000 ≤ k ∧ k ≤ 1000 ∧ xs.length ≤ 1000) ∧ Q (.tup (List.replicate k.toNat xs).flatten)
  | _, _ => False
/-- t * k: a tuple of k copies -/
def rRep3 (K : PySem.W.Frag) : R2 := fun x y H Q => ∃ l k xs, x = .ref l ∧ y = .int k ∧ ST K H l xs ∧ xs ≠ [] ∧ -1000 ≤ k ∧ k ≤ 1000 ∧ xs.length ≤ 1000 ∧
  (k = 1 → Q (.ref l) H) ∧ (k ≠ 1 → ∀ p, H p = none → Q (.ref p) (upd H p (.tup (List.replicate k.toNat xs).flatten)))
theorem op_rep3 : OpR X (binaryOp .Mult) (rRep3 X.K) := by
  intro pins s σ H x y v u Q I rx ry h
  obtain ⟨l, k, xs, rfl, rfl, hT, hne, h0, h1, hz, q1, q⟩ := h
  by_cases h2 : 2 ≤ k
  · exact op_repT pins s σ H _ _ v u Q I rx ry ⟨l, k, xs, rfl, rfl, hT.sq, hne, h2, h1, hz, q (by omega)⟩
  cases rx
  obtain ⟨t, rfl⟩ := ry
  obtain ⟨its, r, ⟨⟨cl, dx, dat, sv⟩, ho, hc, m, hd⟩, hs⟩ := I.tuple hT.sq
  simp only at hc hd
  subst hc hd
  have hi : its.toArray.isEmpty = false := by
    cases its with
    | nil =>
      cases r
      exact absurd rfl hne
    | cons a b => rfl
  by_cases hk : k = 1
  · subst hk
    refine wpAny_binaryOp_repeat_ref (T := "tuple") (U := "int") (by decide) ⟨_, ho, rfl⟩ (fun z => typeIs_int z 1 t) noFill_tuple_mul F.fills_int_mul F.slot_int_rmul repeat_tuple F.slot_int_index.lookup ?_
    refine call_meets F.slot_int_rmul (typeIs_int s 1 t) F.entry_int_rmul (F.args_int_rmul_2 _ _) (int_rmul_tuple 1 t l its.toArray m dx sv) ⟨ho, rfl, ⟨_, ho, rfl⟩, ?_⟩
    refine call_meets F.slot_tuple_mul ⟨_, ho, rfl⟩ F.entry_tuple_mul (F.args_tuple_mul_2 _ _) (mulOne l its.toArray m dx sv t) ⟨ho, ?_⟩
    exact ⟨.ref l, H, I, rfl, q1 rfl⟩
  · have hk0 : k ≤ 0 := by omega
    refine wpAny_binaryOp_repeat_ref (T := "tuple") (U := "int") (by decide) ⟨_, ho, rfl⟩ (fun z => typeIs_int z k t) noFill_tuple_mul F.fills_int_mul F.slot_int_rmul repeat_tuple F.slot_int_index.lookup ?_
    refine call_meets F.slot_int_rmul (typeIs_int s k t) F.entry_int_rmul (F.args_int_rmul_2 _ _) (int_rmul_tuple k t l its.toArray m dx sv) ⟨ho, rfl, ⟨_, ho, rfl⟩, ?_⟩
    refine call_meets F.slot_tuple_mul ⟨_, ho, rfl⟩ F.entry_tuple_mul (F.args_tuple_mul_2 _ _) (mulNone l its.toArray m dx sv k t ?_ ?_ ?_) ⟨ho, ?_⟩
    · rw [decide_eq_false (by omega), decide_eq_false (by omega)] <;> rfl
    · rw [hi, Bool.false_or]
      exact beq_eq_false_iff_ne.mpr hk
    · rw [decide_eq_true hk0, Bool.true_or]
    · have e : (List.replicate k.toNat xs).flatten = [] := by
        rw [show k.toNat = 0 by omega]
        rfl
      rw [e] at q
      have np : H s.heap.objs.size = none := I.hok.fresh (Nat.le_refl _)
      exact ⟨.ref s.heap.objs.size, upd H s.heap.objs.size (.tup []), I.laid (t' := s.toks) (o := .tup []) (fun b ob z => Heap.get?_push_of_some _ z) (Nat.le_refl _) ⟨Nat.zero_le _, [], .nil, IsTup.new _ _⟩, rfl, q hk _ np⟩
theorem opd_mul {K : PySem.W.Frag} : OpD K z .d (fun x y H Q => rI CMulW (fun i j => V.int (i * j)) x y H Q ∨ rRep3 K x y H Q) pMul := fun F H x y v u Q R s rf hx hy q k => by
  cases x <;> cases y <;> try exact False.elim q
  · rename_i i j
    exact .inl ⟨i, j, rb_int hx, rb_int hy, q.1, k _ _ F H q.2 (Ext.refl s) (resD rep_int)⟩
  · rename_i ds j
    obtain ⟨a, xs, rfl, ta, ra⟩ := rb_tup hx
    obtain ⟨⟨hne, h0, h1, hl⟩, hq⟩ := q
    refine .inr ⟨a, j, xs, rfl, rb_int hy, ta.sub s, fun c => hne (List.eq_nil_of_length_eq_zero (by rw [ra.len, c]; rfl)), h0, h1, by rw [← ra.len]; exact hl, fun c => ?_, fun _ p np => ?_⟩
    · subst c
      refine k _ _ F H hq (Ext.refl s) (resD <| rep_tup ⟨a, xs, rfl, ta, ?_⟩)
      rw [show (1 : Int).toNat = 1 from rfl, show (List.replicate 1 ds).flatten = ds by simp]
      exact ra
    · have e := Ext.made (K := K) (z := z) s (o := .tup (List.replicate j.toNat xs).flatten) np
      exact k _ _ _ _ hq e (resD <| rep_tup ⟨p, _, rfl, .inl upd_same, (ra.rep _).up e.ff⟩)
theorem o_mul : OpR X (binaryOp .Mult) (fun x y H Q => rI CMulW (fun i j => V.int (i * j)) x y H Q ∨ rRep3 X.K x y H Q) := or_op op_mulW op_rep3
theorem opd_cat {K : PySem.W.Frag} : OpD K z .n rCat pCat := fun F H x y v u Q R s rf hx hy q k => by
  cases x <;> cases y <;> try exact False.elim q
  rename_i ds es
  obtain ⟨a, xs, rfl, ta, ra⟩ := rb_lst s hx
  obtain ⟨b, ys, rfl, tb, rb⟩ := rb_lst s hy
  refine ⟨a, b, xs, ys, rfl, rfl, ta, tb, by rw [← ra.len, ← rb.len]; exact cap_le q.1, fun p np => ?_⟩
  have n := newRow rf np
  exact k _ _ F _ q.2 (Ext.own0 s np n) ⟨p, xs ++ ys, ds ++ es, rfl, rfl, n, np, sub_free s np, upd_same, ra.app rb⟩
theorem le_ext {K : PySem.W.Frag} {F H H' : Hp} (nt : NoTbl F) (s : Sub F H) (l : Le H H') : Ext K z F H F H' := by
  refine ⟨fun n => n, fun _ _ h => h, fun a o h => ?_, l.o _, fun _ _ h => .inl h, fun a _ r => r.up l, fun a _ n => ?_⟩
  · rcases l a o (s _ _ h) with q | ⟨ps, _, e, _⟩
    · exact q
    · subst e; exact absurd h (nt a ps)
  · cases c : H a with
    | none => exact absurd c n
    | some o =>
      rcases l a o c with q | ⟨ps, ps', _, q, _⟩
      · rw [q]; exact fun z => nomatch z
      · rw [q]; exact fun z => nomatch z
end
end Act
namespace Act
variable [GT]
open PySem PySem.Spec PyProof.Rows L2
section
variable {X : Cx} {z : Zx} {m ma mb mc : Mo} {e ea eb ec : Expr} {f fa fb fc : DE} {pos : Pos} {p p' : D → D → (D → Prop) → Prop} {r r' : R2}
/-! ## unary operators, comparisons -/
def eNeg (fa : DE) : DE := fun ρ Q E => fa ρ (fun d => match d with | .int i => Q (.int (-i)) | _ => False) E
theorem d_neg (ha : PD X z ma ea fa) : PD X z .d (.UnaryOp .USub ea pos) (eNeg fa) := fun W tk => peW (pe_un un_neg (ha W tk)) fun σ H R ⟨F0, H0, ρ, F, Q, E, rs, hf, hq, hx⟩ => ⟨F0, H0, ρ, F, _, E, rs, hf, (fun d v F1 H1 q1 e1 r1 => by
  cases d <;> try exact False.elim q1
  exact ⟨_, rb_int r1.b, hq _ _ _ _ q1 e1 (resD rep_int)⟩), hx⟩
def eNot (fa : DE) : DE := fun ρ Q E => fa ρ (fun d => match d with | .bl b => Q (.bl (!b)) | _ => False) E
theorem d_not (ha : PD X z ma ea fa) : PD X z .d (.UnaryOp .Not ea pos) (eNot fa) := fun W tk => peW (pe_not (ha W tk)) fun σ H R ⟨F0, H0, ρ, F, Q, E, rs, hf, hq, hx⟩ => ⟨F0, H0, ρ, F, _, E, rs, hf, (fun d v F1 H1 q1 e1 r1 => by
  cases d <;> try exact False.elim q1
  exact ⟨_, rb_bl r1.b, hq _ _ _ _ q1 e1 (resD rep_bl)⟩), hx⟩
abbrev pLt : D → D → (D → Prop) → Prop := pI0 fun i j => .bl (decide (i < j))
abbrev pLe : D → D → (D → Prop) → Prop := pI0 fun i j => .bl (decide (i ≤ j))
abbrev pGt : D → D → (D → Prop) → Prop := pI0 fun i j => .bl (decide (j < i))
abbrev pGe : D → D → (D → Prop) → Prop := pI0 fun i j => .bl (decide (j ≤ i))
abbrev pSub : D → D → (D → Prop) → Prop := pI0 fun i j => .int (i - j)
abbrev pFdiv : D → D → (D → Prop) → Prop := pI CDivZ fun i j => .int (i.fdiv j)
abbrev pMod : D → D → (D → Prop) → Prop := pI (fun _ j => 0 < j) fun i j => .int (i % j)
theorem opd_lt {K : PySem.W.Frag} : OpD K z .d (rI0 fun i j => V.bl (decide (i < j))) pLt := opd_I0 fun _ _ _ => rep_bl
theorem opd_le {K : PySem.W.Frag} : OpD K z .d (rI0 fun i j => V.bl (decide (i ≤ j))) pLe := opd_I0 fun _ _ _ => rep_bl
theorem opd_gt {K : PySem.W.Frag} : OpD K z .d (rI0 fun i j => V.bl (decide (j < i))) pGt := opd_I0 fun _ _ _ => rep_bl
theorem opd_ge {K : PySem.W.Frag} : OpD K z .d (rI0 fun i j => V.bl (decide (j ≤ i))) pGe := opd_I0 fun _ _ _ => rep_bl
theorem opd_sub {K : PySem.W.Frag} : OpD K z .d (rI0 fun i j => V.int (i - j)) pSub := opd_I0 fun _ _ _ => rep_int
theorem opd_fdiv {K : PySem.W.Frag} : OpD K z .d (rI CDivZ fun i j => V.int (i.fdiv j)) pFdiv := opd_I fun _ _ _ => rep_int
theorem opd_mod {K : PySem.W.Frag} : OpD K z .d (rI (fun _ j => 0 < j) fun i j => V.int (i % j)) pMod := opd_I fun _ _ _ => rep_int
/-! ## equality of data -/
mutual
def toPy : D → PyData
  | .non => .none
  | .bl b => .bool b
  | .int i => .int i
  | .str s => .str s
  | .tup ds => .tuple (toPys ds)
  | .lst ds => .list (toPys ds)
def toPys : List D → List PyData
  | [] => []
  | d :: ds => toPy d :: toPys ds
end
mutual
theorem rep_dp {K : PySem.W.Frag} {F H : Hp} (s : Sub F H) : ∀ {d : D} {v : V}, Rep K F d v → Dp K H v (toPy d)
  | .non, v, h => by rw [Rep.non_iff.mp h]; exact .non
  | .bl b, v, h => by rw [Rep.bl_iff.mp h]; exact .bl b
  | .int i, v, h => by rw [Rep.int_iff.mp h]; exact .int i
  | .str x, v, h => by rw [Rep.str_iff.mp h]; exact .str x
  | .tup ds, v, h => by
    obtain ⟨a, xs, e, t, r⟩ := Rep.tup_iff.mp h
    rw [e, toPy]
    exact .tup (t.sub s).sq (reps_dp s r)
  | .lst ds, v, h => by
    obtain ⟨a, xs, e, t, r⟩ := Rep.lst_iff.mp h
    rw [e, toPy]
    exact .lst (SqL.of (s _ _ t)) (reps_dp s r)
theorem reps_dp {K : PySem.W.Frag} {F H : Hp} (s : Sub F H) : ∀ {ds : List D} {vs : List V}, Reps K F ds vs → DpAll K H vs (toPys ds)
  | [], vs, h => by rw [Reps.nil_iff.mp h, toPys]; exact .nil
  | d :: ds, vs, h => by
    obtain ⟨x, r, e, h1, h2⟩ := Reps.cons_iff.mp h
    rw [e, toPys]
    exact .cons (rep_dp s h1) (reps_dp s h2)
end
theorem rb_dp {K : PySem.W.Frag} {F H : Hp} {d : D} {v : V} (s : Sub F H) (h : RB K z F H d v) : Dp K H v (toPy d) := by
  rcases h with h | ⟨a, xs, ds, rfl, rfl, _, _, l, r⟩
  · exact rep_dp s h
  · rw [toPy]
    exact .lst (SqL.of l) (reps_dp s r)
def shp (d : D) : Bool := SeqAt.shaped (toPy d)
def deq (d e : D) : Bool := PyData.eqv (toPy d) (toPy e)
def pEq : D → D → (D → Prop) → Prop := fun x y Q => (shp x = true ∧ shp y = true) ∧ Q (.bl (deq x y))
def pNe : D → D → (D → Prop) → Prop := fun x y Q => (shp x = true ∧ shp y = true) ∧ Q (.bl (!deq x y))
theorem opd_eq {K : PySem.W.Frag} : OpD K z .d (rEqD K) pEq := fun F H x y v u Q R s rf hx hy q k => ⟨toPy x, toPy y, rb_dp s hx, rb_dp s hy, q.1.1, q.1.2, k _ _ F H q.2 (Ext.refl s) (resD rep_bl)⟩
theorem opd_ne {K : PySem.W.Frag} : OpD K z .d (rNeD K) pNe := fun F H x y v u Q R s rf hx hy q k => ⟨toPy x, toPy y, rb_dp s hx, rb_dp s hy, q.1.1, q.1.2, k _ _ F H q.2 (Ext.refl s) (resD rep_bl)⟩
def D.isNon : D → Bool
  | .non => true
  | _ => false
theorem rb_isNon {K : PySem.W.Frag} {F H : Hp} {d : D} {v : V} (s : Sub F H) (h : RB K z F H d v) : decide (v = .non) = d.isNon := by
  cases d with
  | non => rw [rb_non h]; rfl
  | bl b => rw [rb_bl h]; rfl
  | int b => rw [rb_int h]; rfl
  | str b => rw [rb_str h]; rfl
  | tup b => obtain ⟨a, xs, rfl, _⟩ := rb_tup h; rfl
  | lst b => obtain ⟨a, xs, rfl, _⟩ := rb_lst s h; rfl
def pIs : D → D → (D → Prop) → Prop := fun x y Q => match y with
  | .non => Q (.bl x.isNon)
  | _ => False
def pIsNot : D → D → (D → Prop) → Prop := fun x y Q => match y with
  | .non => Q (.bl (!x.isNon))
  | _ => False
theorem opd_is {K : PySem.W.Frag} : OpD K z .d (fun x y H Q => y = V.non ∧ Q (V.bl (decide (x = V.non))) H) pIs := fun F H x y v u Q R s rf hx hy q k => by
  cases y <;> try exact False.elim q
  refine ⟨rb_non hy, ?_⟩
  rw [rb_isNon s hx]
  exact k _ _ F H q (Ext.refl s) (resD rep_bl)
theorem opd_isnot {K : PySem.W.Frag} : OpD K z .d (fun x y H Q => y = V.non ∧ Q (V.bl (!decide (x = V.non))) H) pIsNot := fun F H x y v u Q R s rf hx hy q k => by
  cases y <;> try exact False.elim q
  refine ⟨rb_non hy, ?_⟩
  rw [rb_isNon s hx]
  exact k _ _ F H q (Ext.refl s) (resD rep_bl)
/-! ## chains, and, or, tests -/
def eChain (p p' : D → D → (D → Prop) → Prop) (fa fb fc : DE) : DE := fun ρ Q E => fa ρ (fun x => fb ρ (fun y => p x y fun d => match d with
  | .bl true => fc ρ (fun w => p' y w Q) E
  | .bl false => Q (.bl false)
  | _ => False) E) E
theorem chain_of {K : PySem.W.Frag} {mg : Str → Option Value} {W : WX} (hp : OpD K z .d r p) (hp' : OpD K z .d r' p') {σ : L2.St} {H : Hp} {R : VK} (h : teG K mg z W .d (eChain p p' fa fb fc) σ H R) : tChain r r' (teG K mg z W ma fa) (teG K mg z W mb fb) (teG K mg z W mc fc) σ H R := by
  obtain ⟨F0, H0, ρ, F, Q, E, rs, hf, hq, hx⟩ := h
  exact ⟨F0, H0, ρ, F, _, E, rs, hf, (fun x vx F1 H1 q1 e1 r1 => ⟨F0, H0, ρ, F1, _, E, rs.step e1, q1, (fun y vy F2 H2 q2 e2 r2 => by
    have rs2 := (rs.step e1).step e2
    refine hp F2 H2 x y vx vy _ _ e2.fh rs2.rf (r1.b.up e2) r2.b q2 fun d w F3 H3 q3 e3 r3 => ?_
    cases d <;> try exact False.elim q3
    rename_i b
    refine ⟨b, Rep.bl_iff.mp (show Rep K F3 (.bl b) w from r3), ?_⟩
    cases b with
    | false => exact hq _ _ F3 H3 q3 ((e1.trans e2).trans e3) (resD rep_bl)
    | true =>
      refine ⟨F0, H0, ρ, F3, _, E, rs2.step e3, q3, (fun u vu F4 H4 q4 e4 r4 => ?_), ((hx.step e1).step e2).step e3⟩
      exact hp' F4 H4 y u vy vu Q R e4.fh ((rs2.step e3).step e4).rf ((r2.b.up e3).up e4) r4.b q4 fun d5 w5 F5 H5 q5 e5 r5 => hq d5 w5 F5 H5 q5 (((e1.trans e2).trans e3).trans (e4.trans e5)) r5), hx.step e1⟩), hx⟩
theorem d_chain {op op' : CmpOp} (ho : OpR X (compareOp op) r) (ho' : OpR X (compareOp op') r') (hp : OpD X.K z .d r p) (hp' : OpD X.K z .d r' p') (ha : PD X z ma ea fa) (hb : PD X z mb eb fb) (hc : PD X z mc ec fc)
    (hm : lastMarks [op, op'] [eb, ec] = false := by with_unfolding_all rfl) : PD X z .d (.Compare ea [op, op'] [eb, ec] pos) (eChain p p' fa fb fc) := fun W tk =>
  peW (pe_chain ho ho' (ha W tk) (hb W tk) (hc W tk) hm) fun σ H R h => chain_of hp hp' h
def eAnd (fa fb : DE) : DE := fun ρ Q E => fa ρ (fun d => match d with
  | .bl true => fb ρ Q E
  | .bl false => Q (.bl false)
  | _ => False) E
def eOr (fa fb : DE) : DE := fun ρ Q E => fa ρ (fun d => match d with
  | .bl true => Q (.bl true)
  | .bl false => fb ρ Q E
  | _ => False) E
theorem d_one {op : BoolOp} (ha : PD X z .d ea fa) : PD X z .d (.BoolOp op [ea] pos) fa := fun W tk => pe_one (ha W tk)
theorem d_and {rest : List Expr} (ha : PD X z ma ea fa) (hb : PD X z .d (.BoolOp .And (eb :: rest) pos) fb) : PD X z .d (.BoolOp .And (ea :: eb :: rest) pos) (eAnd fa fb) := fun W tk =>
  peW (pe_and (ha W tk) (hb W tk)) fun σ H R ⟨F0, H0, ρ, F, Q, E, rs, hf, hq, hx⟩ => ⟨F0, H0, ρ, F, _, E, rs, hf, (fun d v F1 H1 q1 e1 r1 => by
    cases d <;> try exact False.elim q1
    rename_i b
    refine ⟨b, rb_bl r1.b, ?_⟩
    cases b with
    | false => exact hq _ _ _ _ q1 e1 (resD rep_bl)
    | true => exact ⟨F0, H0, ρ, F1, _, E, rs.step e1, q1, (fun d2 v2 F2 H2 q2 e2 r2 => hq _ _ _ _ q2 (e1.trans e2) r2), hx.step e1⟩), hx⟩
theorem d_or {rest : List Expr} (ha : PD X z ma ea fa) (hb : PD X z .d (.BoolOp .Or (eb :: rest) pos) fb) : PD X z .d (.BoolOp .Or (ea :: eb :: rest) pos) (eOr fa fb) := fun W tk =>
  peW (pe_or (ha W tk) (hb W tk)) fun σ H R ⟨F0, H0, ρ, F, Q, E, rs, hf, hq, hx⟩ => ⟨F0, H0, ρ, F, _, E, rs, hf, (fun d v F1 H1 q1 e1 r1 => by
    cases d <;> try exact False.elim q1
    rename_i b
    refine ⟨b, rb_bl r1.b, ?_⟩
    cases b with
    | true => exact hq _ _ _ _ q1 e1 (resD rep_bl)
    | false => exact ⟨F0, H0, ρ, F1, _, E, rs.step e1, q1, (fun d2 v2 F2 H2 q2 e2 r2 => hq _ _ _ _ q2 (e1.trans e2) r2), hx.step e1⟩), hx⟩
def tV (fa : DE) : DT := fun ρ Q E => fa ρ (fun d => match d with | .bl b => Q b | _ => False) E
def tN (fa : DT) : DT := fun ρ Q E => fa ρ (fun b => Q (!b)) E
def tA (fa fb : DT) : DT := fun ρ Q E => fa ρ (fun b => if b = true then fb ρ Q E else Q false) E
def tO (fa fb : DT) : DT := fun ρ Q E => fa ρ (fun b => if b = true then Q true else fb ρ Q E) E
variable {ta tb : DT}
theorem t_val (ha : PD X z ma ea fa) (ht : ∀ (whole : Sem Value), PySem.isTrue ea X.env whole = (do let v ← whole; standAt ea.pos; holding [v] (truthy v)) := by intro _; rfl) : PTD X z ea (tV fa) := fun W tk =>
  ptW (pt_val (ha W tk) ht) fun σ H R ⟨F0, H0, ρ, F, Q, E, rs, hf, hq, hx⟩ => ⟨F0, H0, ρ, F, _, E, rs, hf, (fun d v F1 H1 q1 e1 r1 => by
    cases d <;> try exact False.elim q1
    exact ⟨_, rb_bl r1.b, hq _ _ _ q1 e1⟩), hx⟩
theorem t_chain {op op' : CmpOp} (ho : OpR X (compareOp op) r) (ho' : OpR X (compareOp op') r') (hp : OpD X.K z .d r p) (hp' : OpD X.K z .d r' p') (ha : PD X z ma ea fa) (hb : PD X z mb eb fb) (hc : PD X z mc ec fc)
    (hm : lastMarks [op, op'] [eb, ec] = false := by with_unfolding_all rfl) : PTD X z (.Compare ea [op, op'] [eb, ec] pos) (tV (eChain p p' fa fb fc)) := fun W tk =>
  ptW (pt_chain ho ho' (ha W tk) (hb W tk) (hc W tk) hm) fun σ H R ⟨F0, H0, ρ, F, Q, E, rs, hf, hq, hx⟩ => chain_of hp hp' ⟨F0, H0, ρ, F, _, E, rs, hf, (fun d v F1 H1 q1 e1 r1 => by
    cases d <;> try exact False.elim q1
    exact ⟨_, Rep.bl_iff.mp (show Rep X.K F1 (.bl _) v from r1), hq _ _ _ q1 e1⟩), hx⟩
theorem t_not (ha : PTD X z ea ta) : PTD X z (.UnaryOp .Not ea pos) (tN ta) := fun W tk =>
  ptW (pt_not (ha W tk)) fun σ H R ⟨F0, H0, ρ, F, Q, E, rs, hf, hq, hx⟩ => ⟨F0, H0, ρ, F, _, E, rs, hf, (fun b F1 H1 q1 e1 => hq _ _ _ q1 e1), hx⟩
theorem w_and1 (ha : PTD X z ea ta) : PWD X z (.BoolOp .And [ea] pos) ta := fun W tk => pw_and1 (ha W tk)
theorem w_or1 (ha : PTD X z ea ta) : PWD X z (.BoolOp .Or [ea] pos) ta := fun W tk => pw_or1 (ha W tk)
theorem w_and {rest : List Expr} (ha : PTD X z ea ta) (hb : PWD X z (.BoolOp .And (eb :: rest) pos) tb) : PWD X z (.BoolOp .And (ea :: eb :: rest) pos) (tA ta tb) := fun W tk =>
  pwW (pw_and (ha W tk) (hb W tk)) fun σ H R ⟨F0, H0, ρ, F, Q, E, rs, hf, hq, hx⟩ => ⟨F0, H0, ρ, F, _, E, rs, hf, (fun b F1 H1 q1 e1 => by
    cases b with
    | false => exact hq _ _ _ q1 e1
    | true => exact ⟨F0, H0, ρ, F1, _, E, rs.step e1, q1, (fun d2 F2 H2 q2 e2 => hq _ _ _ q2 (e1.trans e2)), hx.step e1⟩), hx⟩
theorem w_or {rest : List Expr} (ha : PTD X z ea ta) (hb : PWD X z (.BoolOp .Or (eb :: rest) pos) tb) : PWD X z (.BoolOp .Or (ea :: eb :: rest) pos) (tO ta tb) := fun W tk =>
  pwW (pw_or (ha W tk) (hb W tk)) fun σ H R ⟨F0, H0, ρ, F, Q, E, rs, hf, hq, hx⟩ => ⟨F0, H0, ρ, F, _, E, rs, hf, (fun b F1 H1 q1 e1 => by
    cases b with
    | true => exact hq _ _ _ q1 e1
    | false => exact ⟨F0, H0, ρ, F1, _, E, rs.step e1, q1, (fun d2 F2 H2 q2 e2 => hq _ _ _ q2 (e1.trans e2)), hx.step e1⟩), hx⟩
theorem t_w (h : PWD X z ea ta) : PTD X z ea ta := fun W tk => (h W tk).pt
def eIf (t : DT) (fa fb : DE) : DE := fun ρ Q E => t ρ (fun b => if b = true then fa ρ Q E else fb ρ Q E) E
theorem d_if (hc : PTD X z ec ta) (ha : PD X z .d ea fa) (hb : PD X z .d eb fb) : PD X z .d (.IfExp ec ea eb pos) (eIf ta fa fb) := fun W tk =>
  peW (pe_ifExp (hc W tk) (ha W tk) (hb W tk)) fun σ H R ⟨F0, H0, ρ, F, Q, E, rs, hf, hq, hx⟩ => ⟨F0, H0, ρ, F, _, E, rs, hf, (fun b F1 H1 q1 e1 => by
    cases b with
    | true => exact ⟨F0, H0, ρ, F1, _, E, rs.step e1, q1, (fun d2 v2 F2 H2 q2 e2 r2 => hq _ _ _ _ q2 (e1.trans e2) r2), hx.step e1⟩
    | false => exact ⟨F0, H0, ρ, F1, _, E, rs.step e1, q1, (fun d2 v2 F2 H2 q2 e2 r2 => hq _ _ _ _ q2 (e1.trans e2) r2), hx.step e1⟩), hx⟩
/-! ## arguments, displays -/
def aNil : DA := fun _ Q _ => Q []
def aCons (fa : DE) (fs : DA) : DA := fun ρ Q E => fa ρ (fun d => fs ρ (fun ds => Q (d :: ds)) E) E
/-- *e: a tuple's things, or a list's -/
def aStar (fa : DE) (fs : DA) : DA := fun ρ Q E => fa ρ (fun d => match d with
  | .tup xs => fs ρ (fun ds => Q (xs ++ ds)) E
  | .lst xs => fs ρ (fun ds => Q (xs ++ ds)) E
  | _ => False) E
variable {es : List Expr} {fs : DA}
theorem a_nil : PAD X z [] aNil := fun W tk => paW pa_nil fun σ H R ⟨F0, H0, ρ, F, Q, E, rs, hf, hq, hx⟩ => hq _ _ F H hf (Ext.refl rs.sub) .nil
theorem a_cons (ha : PD X z .d ea fa) (hs : PAD X z es fs) (he : starEach (ea :: es) X.env = (false, eval ea X.env) :: starEach es X.env := by rfl) : PAD X z (ea :: es) (aCons fa fs) := fun W tk =>
  paW (pa_cons (ha W tk) (hs W tk) he) fun σ H R ⟨F0, H0, ρ, F, Q, E, rs, hf, hq, hx⟩ => ⟨F0, H0, ρ, F, _, E, rs, hf, (fun d v F1 H1 q1 e1 r1 => ⟨F0, H0, ρ, F1, _, E, rs.step e1, q1, (fun ds vs F2 H2 q2 e2 r2 => hq _ _ _ _ q2 (e1.trans e2) (.cons (Rep.up e2.ff r1) r2)), hx.step e1⟩), hx⟩
def eTup (fs : DA) : DE := fun ρ Q E => fs ρ (fun ds => ds.length ≤ cap ∧ Q (.tup ds)) E
def eLst (fs : DA) : DE := fun ρ Q E => fs ρ (fun ds => ds.length ≤ cap ∧ Q (.lst ds)) E
theorem d_tup {n : Nat} (hs : PAD X z es fs) : PD X z .d (.Tuple es n pos) (eTup fs) := fun W tk =>
  peW (pe_tup (hs W tk)) fun σ H R ⟨F0, H0, ρ, F, Q, E, rs, hf, hq, hx⟩ => ⟨F0, H0, ρ, F, _, E, rs, hf, (fun ds vs F1 H1 q1 e1 r1 => ⟨by rw [← r1.len]; exact cap_le q1.1, fun p np => by
    have e2 := Ext.made (K := X.K) (z := z) e1.fh (o := .tup vs) np
    exact hq _ _ _ _ q1.2 (e1.trans e2) (resD <| rep_tup ⟨p, vs, rfl, .inl upd_same, r1.up e2.ff⟩)⟩), hx⟩
theorem d_lst (hs : PAD X z es fs) : PD X z .n (.List es pos) (eLst fs) := fun W tk =>
  peW (pe_lst (hs W tk)) fun σ H R ⟨F0, H0, ρ, F, Q, E, rs, hf, hq, hx⟩ => ⟨F0, H0, ρ, F, _, E, rs, hf, (fun ds vs F1 H1 q1 e1 r1 => ⟨by rw [← r1.len]; exact cap_le q1.1, fun p np => by
    have n := newRow (rs.step e1).rf np
    have e2 := Ext.own0 (K := X.K) e1.fh (o := .lst vs) np n
    exact hq _ _ _ _ q1.2 (e1.trans e2) ⟨p, vs, ds, rfl, rfl, n, e1.free np, sub_free e1.fh np, upd_same, r1⟩⟩), hx⟩
/-! ## d[i], d[i:j] -/
def pIx : D → D → (D → Prop) → Prop := fun x y Q => match x, y with
  | .tup ds, .int i => ∃ d, atI ds i = some d ∧ Q d
  | .lst ds, .int i => ∃ d, atI ds i = some d ∧ Q d
  | _, _ => False
theorem opd_ix {K : PySem.W.Frag} : OpD K z .d (fun x y H Q => rIxT K x y H Q ∨ rIxL K x y H Q) pIx := fun F H x y v u Q R s rf hx hy q k => by
  cases x <;> cases y <;> try exact False.elim q
  · obtain ⟨a, xs, rfl, t, r⟩ := rb_tup hx
    obtain ⟨d, e, hq⟩ := q
    obtain ⟨w, e2, rw_⟩ := r.atI e
    exact .inl ⟨a, xs, _, w, rfl, rb_int hy, (t.sub s).sq, e2, k _ _ F H hq (Ext.refl s) (resD rw_)⟩
  · obtain ⟨a, xs, rfl, t, r⟩ := rb_lst s hx
    obtain ⟨d, e, hq⟩ := q
    obtain ⟨w, e2, rw_⟩ := r.atI e
    exact .inr ⟨a, xs, _, w, rfl, rb_int hy, SqL.of t, e2, k _ _ F H hq (Ext.refl s) (resD rw_)⟩
theorem d_ix (ha : PD X z ma ea fa) (hb : PD X z mb eb fb) (hp : PlainIx eb := by exact fun _ _ => rfl) : PD X z .d (.Subscript ea eb pos) (eOp pIx fa fb) := fun W tk =>
  peW (pe_ix (or_ix ix_tup ix_list) (ha W tk) (hb W tk) hp) fun σ H R h => tOp_of opd_ix h
/-! ## built-in functions -/
def eLen (fa : DE) : DE := fun ρ Q E => fa ρ (fun d => match d with | .tup xs => Q (.int xs.length) | .lst xs => Q (.int xs.length) | _ => False) E
theorem d_len (hz : X.mg "len" = none) {p : Pos} (ha : PD X z ma ea fa) (hg : Gl X "len" := by rfl) (hse : starEach [ea] X.env = (false, eval ea X.env) :: starEach [] X.env := by rfl) : PD X z .d (.Call (.Name "len" p) [ea] [] pos) (eLen fa) := fun W tk =>
  peW (pe_callB call_len_seq hg hz PySem.boot_len (pa_cons (ha W tk) pa_nil hse) (by decide) (by decide) hse (by rfl)) fun σ H R ⟨F0, H0, ρ, F, Q, E, rs, hf, hq, hx⟩ => ⟨F0, H0, ρ, F, _, E, rs, hf, (fun d v F1 H1 q1 e1 r1 => by
    cases d <;> try exact False.elim q1
    · obtain ⟨a, xs, rfl, t, r⟩ := rb_tup r1.b
      refine ⟨a, xs, rfl, .inr (t.sub e1.fh).sq, ?_⟩
      rw [← r.len]
      exact hq _ _ _ _ q1 e1 (resD rep_int)
    · obtain ⟨a, xs, rfl, t, r⟩ := rb_lst e1.fh r1.b
      refine ⟨a, xs, rfl, .inl (SqL.of t), ?_⟩
      rw [← r.len]
      exact hq _ _ _ _ q1 e1 (resD rep_int)), hx⟩
def eTuple (fa : DE) : DE := fun ρ Q E => fa ρ (fun d => match d with | .tup xs => Q (.tup xs) | .lst xs => Q (.tup xs) | _ => False) E
theorem d_tuple (hz : X.mg "tuple" = none) {p : Pos} (ha : PD X z ma ea fa) (hg : Gl X "tuple" := by rfl) (hse : starEach [ea] X.env = (false, eval ea X.env) :: starEach [] X.env := by rfl) : PD X z .d (.Call (.Name "tuple" p) [ea] [] pos) (eTuple fa) := fun W tk =>
  peW (pe_callTy call_tuple_of hg hz (by decide +kernel) (pa_cons (ha W tk) pa_nil hse) (by decide) (by decide) hse (by rfl)) fun σ H R ⟨F0, H0, ρ, F, Q, E, rs, hf, hq, hx⟩ => ⟨F0, H0, ρ, F, _, E, rs, hf, (fun d v F1 H1 q1 e1 r1 => by
    cases d <;> try exact False.elim q1
    · obtain ⟨a, xs, rfl, t, r⟩ := rb_tup r1.b
      exact ⟨a, xs, rfl, .inr ⟨(t.sub e1.fh).sq, hq _ _ _ _ q1 e1 (resD <| rep_tup ⟨a, xs, rfl, t, r⟩)⟩⟩
    · obtain ⟨a, xs, rfl, t, r⟩ := rb_lst e1.fh r1.b
      refine ⟨a, xs, rfl, .inl ⟨SqL.of t, fun p np => ?_⟩⟩
      have e2 := Ext.made (K := X.K) (z := z) e1.fh (o := .tup xs) np
      exact hq _ _ _ _ q1 (e1.trans e2) (resD <| rep_tup ⟨p, xs, rfl, .inl upd_same, r.up e2.ff⟩)), hx⟩
def eList (fa : DE) : DE := fun ρ Q E => fa ρ (fun d => match d with | .tup xs => Q (.lst xs) | .lst xs => Q (.lst xs) | _ => False) E
theorem d_list (hz : X.mg "list" = none) {p : Pos} (ha : PD X z ma ea fa) (hg : Gl X "list" := by rfl) (hse : starEach [ea] X.env = (false, eval ea X.env) :: starEach [] X.env := by rfl) : PD X z .n (.Call (.Name "list" p) [ea] [] pos) (eList fa) := fun W tk =>
  peW (pe_callTy call_list_of hg hz (by decide +kernel) (pa_cons (ha W tk) pa_nil hse) (by decide) (by decide) hse (by rfl)) fun σ H R ⟨F0, H0, ρ, F, Q, E, rs, hf, hq, hx⟩ => ⟨F0, H0, ρ, F, _, E, rs, hf, (fun d v F1 H1 q1 e1 r1 => by
    have fin : ∀ {ds : List D} {xs : List V} {p : Addr}, Q (.lst ds) → Reps X.K F1 ds xs → H1 p = none → R (.ref p) (upd H1 p (.lst xs)) := fun {ds xs p} hQ r np => by
      have n := newRow (rs.step e1).rf np
      exact hq _ _ _ _ hQ (e1.trans (Ext.own0 e1.fh np n)) ⟨p, xs, ds, rfl, rfl, n, e1.free np, sub_free e1.fh np, upd_same, r⟩
    cases d <;> try exact False.elim q1
    · obtain ⟨a, xs, rfl, t, r⟩ := rb_tup r1.b
      exact ⟨a, xs, rfl, .inr (t.sub e1.fh).sq, fun p np => fin q1 r np⟩
    · obtain ⟨a, xs, rfl, t, r⟩ := rb_lst e1.fh r1.b
      exact ⟨a, xs, rfl, .inl (SqL.of t), fun p np => fin q1 r np⟩), hx⟩
def eAbs (fa : DE) : DE := fun ρ Q E => fa ρ (fun d => match d with | .int i => Q (.int (if i < 0 then -i else i)) | _ => False) E
theorem d_abs (hz : X.mg "abs" = none) {p : Pos} (ha : PD X z ma ea fa) (hg : Gl X "abs" := by rfl) (hse : starEach [ea] X.env = (false, eval ea X.env) :: starEach [] X.env := by rfl) : PD X z .d (.Call (.Name "abs" p) [ea] [] pos) (eAbs fa) := fun W tk =>
  peW (pe_callB call_abs hg hz (by decide +kernel) (pa_cons (ha W tk) pa_nil hse) (by decide) (by decide) hse (by rfl)) fun σ H R ⟨F0, H0, ρ, F, Q, E, rs, hf, hq, hx⟩ => ⟨F0, H0, ρ, F, _, E, rs, hf, (fun d v F1 H1 q1 e1 r1 => by
    cases d <;> try exact False.elim q1
    rw [rb_int r1.b]
    exact ⟨_, rfl, hq _ _ _ _ q1 e1 (resD rep_int)⟩), hx⟩
def eInt (fa : DE) : DE := fun ρ Q E => fa ρ (fun d => match d with | .int i => Q (.int i) | .bl b => Q (.int (if b = true then 1 else 0)) | _ => False) E
theorem d_toInt (hz : X.mg "int" = none) {p : Pos} (ha : PD X z ma ea fa) (hg : Gl X "int" := by rfl) (hse : starEach [ea] X.env = (false, eval ea X.env) :: starEach [] X.env := by rfl) : PD X z .d (.Call (.Name "int" p) [ea] [] pos) (eInt fa) := fun W tk =>
  peW (pe_callTy call_int1 hg hz (by decide +kernel) (pa_cons (ha W tk) pa_nil hse) (by decide) (by decide) hse (by rfl)) fun σ H R ⟨F0, H0, ρ, F, Q, E, rs, hf, hq, hx⟩ => ⟨F0, H0, ρ, F, _, E, rs, hf, (fun d v F1 H1 q1 e1 r1 => by
    cases d <;> try exact False.elim q1
    · rw [rb_bl r1.b]
      exact .inr ⟨_, rfl, hq _ _ _ _ q1 e1 (resD rep_int)⟩
    · rw [rb_int r1.b]
      exact .inl ⟨_, rfl, hq _ _ _ _ q1 e1 (resD rep_int)⟩), hx⟩
def eGcd (fa fb : DE) : DE := fun ρ Q E => fa ρ (fun x => fb ρ (fun y => match x, y with | .int i, .int j => Q (.int ((Nat.gcd i.natAbs j.natAbs : Nat) : Int)) | _, _ => False) E) E
theorem d_gcd (hz : X.mg "gcd" = some (.builtin "math.gcd")) {p : Pos} (ha : PD X z ma ea fa) (hb : PD X z mb eb fb) (hg : Gl X "gcd" := by rfl) (hse : starEach [ea, eb] X.env = (false, eval ea X.env) :: starEach [eb] X.env := by rfl) (hse2 : starEach [eb] X.env = (false, eval eb X.env) :: starEach [] X.env := by rfl)
    (hpl : (backTo pos (starEach [eb] X.env)).any (·.1) = false := by rfl) : PD X z .d (.Call (.Name "gcd" p) [ea, eb] [] pos) (eGcd fa fb) := fun W tk =>
  peW (pe_callBfun cr_gcd hg hz (pa_cons (ha W tk) (pa_cons (hb W tk) pa_nil hse2) hse) (by decide) hse hpl) fun σ H R ⟨F0, H0, ρ, F, Q, E, rs, hf, hq, hx⟩ => ⟨F0, H0, ρ, F, _, E, rs, hf, (fun d v F1 H1 q1 e1 r1 => ⟨F0, H0, ρ, F1, _, E, rs.step e1, q1, (fun d2 v2 F2 H2 q2 e2 r2 => by
    cases d <;> cases d2 <;> try exact False.elim q2
    rw [rb_int r1.b, rb_int r2.b]
    exact ⟨_, _, rfl, hq _ _ _ _ q2 (e1.trans e2) (resD rep_int)⟩), hx.step e1⟩), hx⟩
end
end Act
namespace Act
variable [GT]
open PySem PySem.Spec PyProof.Rows L2
/-! ## isinstance -/
def D.ty : D → String
  | .non => "NoneType"
  | .bl _ => "bool"
  | .int _ => "int"
  | .str _ => "str"
  | .tup _ => "tuple"
  | .lst _ => "list"
def isKT (k T : String) : Bool := k == T || (k == "bool" && T == "int")
def tyKinds : List String := ["NoneType", "bool", "int", "str", "tuple", "list"]
theorem ty_mem (d : D) : d.ty ∈ tyKinds := by cases d <;> simp [D.ty, tyKinds]
theorem rb_ty {K : PySem.W.Frag} {z : Zx} {F H : Hp} {d : D} {v : V} (s : Sub F H) (h : RB K z F H d v) : TyX K H v (.type d.ty) := by
  cases d with
  | non => rw [rb_non h]; exact .base .non
  | bl b => rw [rb_bl h]; exact .base (.bl _)
  | int b => rw [rb_int h]; exact .base (.int _)
  | str b => rw [rb_str h]; exact .base (.str _)
  | tup b => obtain ⟨a, xs, rfl, t, _⟩ := rb_tup h; exact (t.sub s).ty
  | lst b => obtain ⟨a, xs, rfl, t, _⟩ := rb_lst s h; exact .base (.lst t)
def D.is (d : D) (T : String) : Bool := isKT d.ty T
def eIsI (T : String) (fa : DE) : DE := fun ρ Q E => fa ρ (fun d => Q (.bl (d.is T))) E
def eIsI2 (T U : String) (fa : DE) : DE := fun ρ Q E => fa ρ (fun d => Q (.bl (d.is T || d.is U))) E
section
variable {X : Cx} {z : Zx} {m ma mb mc : Mo} {e ea eb ec : Expr} {f fa fb fc : DE} {pos : Pos} {es : List Expr} {fs : DA}
theorem d_isi {T : String} {p p2 : Pos} (z1 : X.mg "isinstance" = none) (z2 : X.mg (Str.ofString T) = none) (ha : PD X z ma ea fa) (hT : ∀ k ∈ tyKinds, kitB k T = some (isKT k T) := by decide +kernel) (hg : Gl X "isinstance" := by rfl) (hg2 : Gl X (Str.ofString T) := by rfl)
    (hb : bootBuiltins (Str.ofString T) = some (.type T) := by decide +kernel) (hse : starEach [ea, .Name (Str.ofString T) p2] X.env = (false, eval ea X.env) :: starEach [.Name (Str.ofString T) p2] X.env := by rfl)
    (hse2 : starEach [.Name (Str.ofString T) p2] X.env = (false, eval (.Name (Str.ofString T) p2) X.env) :: starEach [] X.env := by rfl) (hpl : (backTo pos (starEach [.Name (Str.ofString T) p2] X.env)).any (·.1) = false := by rfl) (hn : Str.ofString T ≠ "__name__" := by decide) (hd : (Str.ofString T == ("__debug__" : Str)) = false := by decide) :
    PD X z .d (.Call (.Name "isinstance" p) [ea, .Name (Str.ofString T) p2] [] pos) (eIsI T fa) := fun W tk =>
  peW (pe_callB call_isi hg z1 (by decide +kernel) (pa_cons (ha W tk) (pa_cons (pe_bltn (v := .ty T) (u := .type T) hg2 z2 hb rfl hn hd) pa_nil hse2) hse) (by decide) (by decide) hse hpl) fun σ H R ⟨F0, H0, ρ, F, Q, E, rs, hf, hq, hx⟩ => ⟨F0, H0, ρ, F, _, E, rs, hf, (fun d v F1 H1 q1 e1 r1 =>
    ⟨v, _, _, _, _, rfl, .ty T, rb_ty e1.fh r1.b, kit_ty (hT _ (ty_mem d)), hq _ _ _ _ q1 e1 (resD rep_bl)⟩), hx⟩
end
/-! ## defs -/
abbrev SpD := List D → (D → Prop) → (Exc → Prop) → Prop
def z0 (T : List Addr) : Zx := ⟨T, (0, []), none⟩
def spOf (K : PySem.W.Frag) (mg : Str → Option Value) (T : List Addr) (sp : SpD) : Sp := fun vs H R E =>
  ∃ ds F Q ex, Sub F H ∧ NoTbl F ∧ Tabs T H ∧ Reps K F ds vs ∧ sp ds Q ex ∧ (∀ d v F' H', Q d → Ext K (z0 T) F H F' H' → Rep K F' d v → R v H') ∧ (∀ x c dd F' H', ex x → Ext K (z0 T) F H F' H' → XRep K mg F' H' x c dd → E c dd H')
/-- with the row of draws as the first argument -/
def spOfR (K : PySem.W.Frag) (mg : Str → Option Value) (T : List Addr) (N : Scr) (sp : SpD) : Sp := fun vs H R E =>
  ∃ a us ds F Q ex, vs = .ref a :: us ∧ Row K N a H ∧ F a = none ∧ Sub F H ∧ NoTbl F ∧ Tabs T H ∧ Reps K F ds us ∧ sp ds Q ex ∧ (∀ d v F' H', Q d → Ext K ⟨T, N, some a⟩ F H F' H' → Rep K F' d v → R v H') ∧ (∀ x c dd F' H', ex x → Ext K ⟨T, N, some a⟩ F H F' H' → XRep K mg F' H' x c dd → E c dd H')
structure HasD (P : Program) (w : World) (K : PySem.W.Frag) (mg : Str → Option Value) (base : Heap) (T : List Addr) (k : Nat) (x : Str) (ps : List Str) (sp : SpD) : Prop where
  ex : ∃ f fd, FnOk P w K mg base (L2.CX P w) k f fd ps (spOf K mg T sp) ∧ mg x = some (.ref f) ∧ PySem.W.keepIn K (.ref f) = true ∧ Binds K fd ps []
structure HasR (P : Program) (w : World) (K : PySem.W.Frag) (mg : Str → Option Value) (base : Heap) (T : List Addr) (k : Nat) (x : Str) (ps : List Str) (sp : SpD) : Prop where
  ex : ∃ f fd, (∀ N, FnOk P w K mg base (L2.CX P w) k f fd ps (spOfR K mg T N sp)) ∧ mg x = some (.ref f) ∧ PySem.W.keepIn K (.ref f) = true ∧ Binds K fd ps []
theorem HasD.mono {P : Program} {w : World} {K : PySem.W.Frag} {mg : Str → Option Value} {base : Heap} {T : List Addr} {j k : Nat} {x : Str} {ps : List Str} {sp : SpD} (h : HasD P w K mg base T j x ps sp) (l : j ≤ k) : HasD P w K mg base T k x ps sp :=
  let ⟨f, fd, F, r⟩ := h.ex
  ⟨f, fd, F.mono l, r⟩
theorem HasR.mono {P : Program} {w : World} {K : PySem.W.Frag} {mg : Str → Option Value} {base : Heap} {T : List Addr} {j k : Nat} {x : Str} {ps : List Str} {sp : SpD} (h : HasR P w K mg base T j x ps sp) (l : j ≤ k) : HasR P w K mg base T k x ps sp :=
  let ⟨f, fd, F, r⟩ := h.ex
  ⟨f, fd, fun N => (F N).mono l, r⟩
def eCall (sp : SpD) (fs : DA) : DE := fun ρ Q E => fs ρ (fun ds => sp ds Q E) E
def eCallR (i : Nat) (sp : SpD) (fs : DA) : DE := fun ρ Q E => match ρ[i]? with
  | some .ro => fs ρ (fun ds => sp ds Q E) E
  | _ => False
section
variable {X : Cx} {z : Zx} {m ma mb mc : Mo} {e ea eb ec : Expr} {f fa fb fc : DE} {pos : Pos} {es : List Expr} {fs : DA}
theorem d_call {x : Str} {k : Nat} {ps : List Str} {sp : SpD} {p : Pos} (h : HasD X.prog X.w X.K X.mg X.base z.T k x ps sp) (hr : Room k X.A) (ha : PAD X z (ea :: es) fs) (hg : Gl X x := by rfl)
    (hdb : (x == ("__debug__" : Str)) = false := by decide) (he : starEach (ea :: es) X.env = (false, eval ea X.env) :: starEach es X.env := by rfl) (hpl : (backTo pos (starEach es X.env)).any (·.1) = false := by rfl) :
    PD X z .d (.Call (.Name x p) (ea :: es) [] pos) (eCall sp fs) := fun W tk => by
  obtain ⟨f, fd, F, m, kp, b⟩ := h.ex
  refine peW (pe_callS F hr hg m kp b (passAt tk) (ha W tk) hdb he hpl) fun σ H R ⟨F0, H0, ρ, F, Q, E, rs, hf, hq, hx⟩ => ⟨F0, H0, ρ, F, _, E, rs, hf, (fun ds vs F1 H1 q1 e1 r1 => ?_), hx⟩
  have rs1 := rs.step e1
  exact ⟨ds, F1, Q, E, rs1.sub, rs1.nt, rs1.tabs, r1, q1, fun d v F' H' q2 e2 r2 => hq d v F' H' q2 (e1.trans (Ext.weak e2)) r2, fun x c dd F' H' q2 e2 r2 => hx x c dd F' H' q2 (e1.trans (Ext.weak e2)) r2⟩
theorem d_callR {x y : Str} {k i : Nat} {ps : List Str} {sp : SpD} {p p2 : Pos} (h : HasR X.prog X.w X.K X.mg X.base z.T k x ps sp) (hr : Room k X.A) (ha : PAD X z es fs) (hN : X.N[i]? = some y := by rfl) (hv : Vis X.env.scope y := by first | exact Or.inl rfl | exact Or.inr (Or.inl rfl) | exact Or.inr (Or.inr rfl)) (hg : Gl X x := by rfl)
    (hdb : (x == ("__debug__" : Str)) = false := by decide) (he : starEach (.Name y p2 :: es) X.env = (false, eval (.Name y p2) X.env) :: starEach es X.env := by rfl) (hpl : (backTo pos (starEach es X.env)).any (·.1) = false := by rfl) (h1 : (y == ("__debug__" : Str)) = false := by decide) (h2 : (y == ("__classdict__" : Str)) = false := by decide) :
    PD X z .d (.Call (.Name x p) (.Name y p2 :: es) [] pos) (eCallR i sp fs) := fun W tk => by
  obtain ⟨f, fd, F, m, kp, b⟩ := h.ex
  refine peW (pe_callS (F z.N) hr hg m kp b (passAt tk) (pa_cons (pv i hN hv h1 h2) (ha W tk) he) hdb he hpl) fun σ H R ⟨F0, H0, ρ, F, Q, E, rs, hf, hq, hx⟩ => ?_
  unfold eCallR at hf
  cases e : ρ[i]? with
  | none => rw [e] at hf; cases hf
  | some s =>
    rw [e] at hf
    cases s <;> try exact False.elim hf
    obtain ⟨o, q, a, rfl, hz⟩ := rs.slot i _ e
    refine ⟨.ref a, q, F0, H0, ρ, F, _, E, rs, hf, (fun ds vs F1 H1 q1 e1 r1 => ?_), hx⟩
    have rs1 := rs.step e1
    obtain ⟨w1, w2, w3⟩ := rs1.row a hz
    have ez : (⟨z.T, z.N, some a⟩ : Zx) = z := by rw [← hz]
    refine ⟨a, vs, ds, F1, Q, E, rfl, w1, w2, rs1.sub, rs1.nt, rs1.tabs, r1, q1, fun d v F' H' q2 e2 r2 => ?_, fun x c dd F' H' q2 e2 r2 => ?_⟩
    · rw [ez] at e2
      exact hq d v F' H' q2 (e1.trans e2) r2
    · rw [ez] at e2
      exact hx x c dd F' H' q2 (e1.trans e2) r2
end
end Act
namespace Act
variable [GT]
open PySem PySem.Spec PyProof.Rows L2
structure PEnds where
  nx : Rho → Prop
  rt : D → Prop
  bk : Rho → Prop
  ct : Rho → Prop
  ex : Exc → Rho → Prop
abbrev DS := PEnds → Rho → Prop
structure Lk (K : PySem.W.Frag) (mg : Str → Option Value) (z : Zx) (W : WX) (F0 H0 F : Hp) (pe : PEnds) (Dn : Ends) : Prop where
  nx : ∀ ρ F' σ H', pe.nx ρ → RS K z F0 H0 ρ F' σ H' → Sub F F' → Dn.nx σ H'
  bk : ∀ ρ F' σ H', pe.bk ρ → RS K z F0 H0 ρ F' σ H' → Sub F F' → Dn.bk σ H'
  ct : ∀ ρ F' σ H', pe.ct ρ → RS K z F0 H0 ρ F' σ H' → Sub F F' → Dn.ct σ H'
  rt : ∀ d v F' H', pe.rt d → Ext K z F0 H0 F' H' → Rep K F' d v → Dn.rt v H'
  ex : ∀ x ρ c dd F' σ H', pe.ex x ρ → RS K z F0 H0 ρ F' σ H' → Sub F F' → XRep K mg F' H' x c dd → W c dd σ H'
def tsG (K : PySem.W.Frag) (mg : Str → Option Value) (z : Zx) (W : WX) (f : DS) : TS := fun Dn σ H => ∃ F0 H0 ρ F pe, RS K z F0 H0 ρ F σ H ∧ f pe ρ ∧ Lk K mg z W F0 H0 F pe Dn
def PSD (X : Cx) (z : Zx) (st : Stmt) (f : DS) : Prop := ∀ W, Takes X W → PS X st (tsG X.K X.mg z W f)
def PSsD (X : Cx) (z : Zx) (st : List Stmt) (f : DS) : Prop := ∀ W, Takes X W → PSs X st (tsG X.K X.mg z W f)
theorem Lk.up {K : PySem.W.Frag} {mg : Str → Option Value} {z : Zx} {W : WX} {F0 H0 F G : Hp} {pe : PEnds} {Dn : Ends} (h : Lk K mg z W F0 H0 F pe Dn) (s : Sub F G) : Lk K mg z W F0 H0 G pe Dn :=
  ⟨fun ρ F' σ H' p r t => h.nx ρ F' σ H' p r fun a o e => t a o (s a o e), fun ρ F' σ H' p r t => h.bk ρ F' σ H' p r fun a o e => t a o (s a o e), fun ρ F' σ H' p r t => h.ct ρ F' σ H' p r fun a o e => t a o (s a o e), h.rt,
    fun x ρ c dd F' σ H' p r t => h.ex x ρ c dd F' σ H' p r fun a o e => t a o (s a o e)⟩
theorem Lk.xw {K : PySem.W.Frag} {mg : Str → Option Value} {z : Zx} {W : WX} {F0 H0 F H : Hp} {pe : PEnds} {Dn : Ends} {ρ : Rho} {σ : L2.St} (h : Lk K mg z W F0 H0 F pe Dn) (rs : RS K z F0 H0 ρ F σ H) : XW K mg z W σ F H (fun x => pe.ex x ρ) :=
  fun x c dd F' H' p e xr => h.ex x ρ c dd F' σ H' p (rs.step e) e.ff xr
section
variable {X : Cx} {z : Zx} {m ma mb mc : Mo} {e ea eb ec : Expr} {f fa fb fc : DE} {pos : Pos} {es : List Expr} {fs : DA} {st : Stmt} {sts sts' : List Stmt} {g g' : DS} {t : DT}
/-! ## blocks -/
theorem b_nil : PSsD X z [] (fun pe ρ => pe.nx ρ) := fun W tk => pssW pss_nil fun Dn σ H ⟨F0, H0, ρ, F, pe, rs, hf, lk⟩ => lk.nx ρ F σ H hf rs fun _ _ h => h
theorem b_one (h : PSD X z st g) : PSsD X z [st] g := fun W tk => pss_one (h W tk)
def sSeq (g g' : DS) : DS := fun pe ρ => g { pe with nx := g' pe } ρ
theorem b_cons (h : PSD X z st g) (h' : PSsD X z sts g') : PSsD X z (st :: sts) (sSeq g g') := fun W tk => pssW (pss_cons (h W tk) (h' W tk)) fun Dn σ H ⟨F0, H0, ρ, F, pe, rs, hf, lk⟩ =>
  ⟨F0, H0, ρ, F, _, rs, hf, ⟨fun ρ' F' σ' H' p r s => ⟨F0, H0, ρ', F', pe, r, p, lk.up s⟩, lk.bk, lk.ct, lk.rt, lk.ex⟩⟩
/-! ## assignments -/
def sSet (i : Nat) (fa : DE) : DS := fun pe ρ => fa ρ (fun d => pe.nx (ρ.set i (.va d))) (fun x => pe.ex x ρ)
theorem s_set {i : Nat} {x : Str} {pos' : Pos} (nd : X.N.Nodup) (ha : PD X z .d ea fa) (hi : X.N[i]? = some x := by rfl) (hl : Loc X.env.scope x := by first | exact Or.inl rfl | exact Or.inr rfl) (hsw : swapsWith ea (some (.Name x pos')) pos.line X.env = pure false := by rfl)
    (hfn : X.fn x = true ∨ X.env.scope.names.lookup x = some .local := by first | exact Or.inl rfl | exact Or.inr rfl) : PSD X z (.Assign [.Name x pos'] ea pos) (sSet i fa) := fun W tk =>
  psW (ps_set nd hi hl (ha W tk) hsw hfn) fun Dn σ H ⟨F0, H0, ρ, F, pe, rs, hf, lk⟩ => ⟨F0, H0, ρ, F, _, _, rs, hf, (fun d v F' H' q e r => lk.nx _ F' _ H' q ((rs.step e).set i (s := .va d) (o := some v) ⟨v, rfl, r⟩ rfl) e.ff), lk.xw rs⟩
/-- x = a new list, one's own from here on -/
def sOwn (i : Nat) (fa : DE) : DS := fun pe ρ => fa ρ (fun d => match d with | .lst ds => pe.nx (ρ.set i (.ow ds)) | _ => False) (fun x => pe.ex x ρ)
theorem s_own {i : Nat} {x : Str} {pos' : Pos} (nd : X.N.Nodup) (ha : PD X z .n ea fa) (hi : X.N[i]? = some x := by rfl) (hl : Loc X.env.scope x := by first | exact Or.inl rfl | exact Or.inr rfl) (hsw : swapsWith ea (some (.Name x pos')) pos.line X.env = pure false := by rfl)
    (hfn : X.fn x = true ∨ X.env.scope.names.lookup x = some .local := by first | exact Or.inl rfl | exact Or.inr rfl) : PSD X z (.Assign [.Name x pos'] ea pos) (sOwn i fa) := fun W tk =>
  psW (ps_set nd hi hl (ha W tk) hsw hfn) fun Dn σ H ⟨F0, H0, ρ, F, pe, rs, hf, lk⟩ => ⟨F0, H0, ρ, F, _, _, rs, hf, (fun d v F' H' q e r => by
    obtain ⟨a, xs, ds, rfl, rfl, n, h0, ff, l, r⟩ := r
    exact lk.nx _ F' _ H' q (rs.setOwn i e n h0 ff l r) e.ff), lk.xw rs⟩
/-! ## targets: a name, a tuple of targets -/
abbrev DG := D → Rho → (Rho → Prop) → Prop
theorem wipe_cons (σ : L2.St) (i : Nat) (vs : List Nat) : wipe σ (i :: vs) = (wipe σ vs).set i none := rfl
theorem wipe_set : ∀ (vs : List Nat) (σ : L2.St) (i : Nat) (x : Option V), i ∈ vs → wipe (σ.set i x) vs = wipe σ vs
  | j :: vs, σ, i, x, h => by
    rw [wipe_cons, wipe_cons]
    by_cases hm : i ∈ vs
    · rw [wipe_set vs σ i x hm]
    · have hij : i = j := by
        rcases List.mem_cons.mp h with q | q
        · exact q
        · exact absurd q hm
      subst hij
      have comm : ∀ (us : List Nat) (τ : L2.St), i ∉ us → wipe (τ.set i x) us = (wipe τ us).set i x := fun us => by
        induction us with
        | nil => intro τ _; rfl
        | cons u us ih =>
          intro τ hu
          rw [wipe_cons, wipe_cons, ih τ fun m => hu (List.mem_cons_of_mem _ m), List.set_comm _ _ fun e => hu (by rw [e]; exact List.mem_cons_self)]
      rw [comm vs σ hm, List.set_set]
/-- σ' differs from σ in these slots alone -/
def Wr (ws : List Nat) (σ σ' : L2.St) : Prop := ∀ vs : List Nat, (∀ i ∈ ws, i ∈ vs) → wipe σ' vs = wipe σ vs
def tgG (K : PySem.W.Frag) (z : Zx) (ws : List Nat) (g : DG) : TG := fun v σ H R => ∃ F0 H0 ρ F d Q, RS K z F0 H0 ρ F σ H ∧ Rep K F d v ∧ g d ρ Q ∧ ∀ ρ' σ', Q ρ' → RS K z F0 H0 ρ' F σ' H → Wr ws σ σ' → R σ' H
def PGD (X : Cx) (z : Zx) (ws : List Nat) (tg : Expr) (g : DG) : Prop := PG X tg (tgG X.K z ws g)
theorem pgW {X : Cx} {e : Expr} {t t' : TG} (h : PG X e t) (w : ∀ v σ H R, t' v σ H R → t v σ H R) : PG X e t' := ⟨fun pins s σ H v u Q I r g => h.run pins s σ H v u Q I r (w v σ H Q g)⟩
def gVa (i : Nat) : DG := fun d ρ Q => Q (ρ.set i (.va d))
theorem g_name (i : Nat) {x : Str} (nd : X.N.Nodup) (hi : X.N[i]? = some x := by rfl) (hl : Loc X.env.scope x := by first | exact Or.inl rfl | exact Or.inr rfl) (hfn : X.fn x = true ∨ X.env.scope.names.lookup x = some .local := by first | exact Or.inl rfl | exact Or.inr rfl) : PGD X z [i] (.Name x pos) (gVa i) :=
  pgW (pg_name nd hi hl hfn) fun v σ H R ⟨F0, H0, ρ, F, d, Q, rs, r, hg, hR⟩ => hR _ _ hg (rs.set i (s := .va d) (o := some v) ⟨v, rfl, r⟩ rfl) fun vs h => wipe_set vs σ i _ (h i List.mem_cons_self)
abbrev DGs := List D → Rho → (Rho → Prop) → Prop
def tgsG (K : PySem.W.Frag) (z : Zx) (ws : List Nat) (g : DGs) : TGs := fun vs σ H R => ∃ F0 H0 ρ F ds Q, RS K z F0 H0 ρ F σ H ∧ Reps K F ds vs ∧ g ds ρ Q ∧ ∀ ρ' σ', Q ρ' → RS K z F0 H0 ρ' F σ' H → Wr ws σ σ' → R σ' H
def PGsD (X : Cx) (z : Zx) (ws : List Nat) (tg : List Expr) (g : DGs) : Prop := PGs X tg (tgsG X.K z ws g)
theorem pgsW {X : Cx} {e : List Expr} {t t' : TGs} (h : PGs X e t) (w : ∀ v σ H R, t' v σ H R → t v σ H R) : PGs X e t' := ⟨fun pins s σ H v u Q I r g => h.run pins s σ H v u Q I r (w v σ H Q g)⟩
def gNil' : DGs := fun ds ρ Q => match ds with | [] => Q ρ | _ => False
def gCons' (g : DG) (gs : DGs) : DGs := fun ds ρ Q => match ds with | d :: ds => g d ρ (fun ρ' => gs ds ρ' Q) | _ => False
theorem gs_nil : PGsD X z [] [] gNil' := pgsW pgs_nil fun v σ H R ⟨F0, H0, ρ, F, ds, Q, rs, r, hg, hR⟩ => by
  cases ds <;> try exact False.elim hg
  exact ⟨Reps.nil_iff.mp r, hR _ _ hg rs fun _ _ => rfl⟩
theorem gs_cons {g : DG} {gs : DGs} {w1 w2 : List Nat} (h : PGD X z w1 ea g) (hs : PGsD X z w2 es gs) (he : (assignEach (ea :: es) X.env).map (·.2) = assign ea X.env :: (assignEach es X.env).map (·.2) := by rfl) : PGsD X z (w1 ++ w2) (ea :: es) (gCons' g gs) := pgsW (pgs_cons h hs he) fun v σ H R ⟨F0, H0, ρ, F, ds, Q, rs, r, hg, hR⟩ => by
  cases ds <;> try exact False.elim hg
  obtain ⟨x, us, e, h1, h2⟩ := Reps.cons_iff.mp r
  exact ⟨x, us, e, F0, H0, ρ, F, _, _, rs, h1, hg, fun ρ' σ' q rs' wr => ⟨F0, H0, ρ', F, _, Q, rs', h2, q, fun ρ2 σ2 q2 r2 wr2 => hR ρ2 σ2 q2 r2 fun vs hv => (wr2 vs fun i hi => hv i (List.mem_append_right _ hi)).trans (wr vs fun i hi => hv i (List.mem_append_left _ hi))⟩⟩
def gTup' (n : Nat) (gs : DGs) : DG := fun d ρ Q => match d with
  | .tup ds => ds.length = n ∧ gs ds ρ Q
  | _ => False
theorem g_tup {gs : DGs} {k n : Nat} {ws : List Nat} (hc : X.calm = true) (hs : PGsD X z ws es gs) (hn : (assignEach es X.env).length = n := by rfl) (h0 : (assignEach es X.env).findIdx? (·.1) = none := by rfl) : PGD X z ws (.Tuple es k pos) (gTup' n gs) := pgW (pg_tup hc hs hn h0) fun v σ H R ⟨F0, H0, ρ, F, d, Q, rs, r, hg, hR⟩ => by
  cases d <;> try exact False.elim hg
  obtain ⟨a, xs, e, t, r⟩ := Rep.tup_iff.mp r
  exact ⟨a, xs, e, (t.sub rs.sub).sq, by rw [← r.len]; exact hg.1, F0, H0, ρ, F, _, Q, rs, r, hg.2, hR⟩
def sAsg (fa : DE) (g : DG) : DS := fun pe ρ => fa ρ (fun d => g d ρ pe.nx) (fun x => pe.ex x ρ)
theorem s_asg {tg : Expr} {g : DG} {ws : List Nat} (ha : PD X z .d ea fa) (hg : PGD X z ws tg g) (h1 : swapsWithSole [tg] ea pos.line X.env = pure false := by rfl) (h2 : swappedStores [tg] ea X.env = pure none := by rfl)
    (h3 : (assignEach [tg] X.env).map (·.2) = [assign tg X.env] := by rfl) : PSD X z (.Assign [tg] ea pos) (sAsg fa g) := fun W tk =>
  psW (ps_asg (ha W tk) hg h1 h2 h3) fun Dn σ H ⟨F0, H0, ρ, F, pe, rs, hf, lk⟩ => ⟨F0, H0, ρ, F, _, _, rs, hf, (fun d v F' H' q e r => ⟨F0, H0, ρ, F', d, _, rs.step e, r, q, fun ρ' σ' q' rs' _ => lk.nx _ F' _ H' q' rs' e.ff⟩), lk.xw rs⟩
/-- a, b = e, e': no tuple is made -/
def slOf (m : Mo) (d : D) (Q : Sl → Prop) : Prop := match m with
  | .n => (match d with | .lst ds => Q (.ow ds) | _ => False)
  | .d => Q (.va d)
  | .b => False
def sPar (i j : Nat) (ma mb : Mo) (fa fb : DE) : DS := fun pe ρ => fa ρ (fun d => fb ρ (fun d' => slOf ma d fun s => slOf mb d' fun s' => pe.nx ((ρ.set i s).set j s')) (fun x => pe.ex x ρ)) (fun x => pe.ex x ρ)
theorem setM {K : PySem.W.Frag} {F0 H0 F H F1 H1 : Hp} {ρ : Rho} {σ : L2.St} {m : Mo} {d : D} {v : V} {Q : Sl → Prop} (rs : RS K z F0 H0 ρ F σ H) (e : Ext K z F H F1 H1) (r : Res K z m H F1 H1 d v) (q : slOf m d Q) (i : Nat) : ∃ s, Q s ∧ RS K z F0 H0 (ρ.set i s) F1 (σ.set i (some v)) H1 := by
  cases m with
  | d => exact ⟨_, q, (rs.step e).set i (s := .va d) (o := some v) ⟨v, rfl, r⟩ rfl⟩
  | b => cases q
  | n =>
    obtain ⟨a, xs, ds, rfl, rfl, n, h0, ff, l, r⟩ := r
    exact ⟨_, q, rs.setOwn i e n h0 ff l r⟩
theorem Res.step {K : PySem.W.Frag} {H F1 H1 F2 H2 : Hp} {m : Mo} {d : D} {v : V} (r : Res K z m H F1 H1 d v) (e : Ext K z F1 H1 F2 H2) : Res K z m H F2 H2 d v := by
  cases m with
  | d => exact Rep.up e.ff r
  | b => exact RB.up r e
  | n => exact RN.up r e
theorem Res.start {K : PySem.W.Frag} {H H' F1 H1 : Hp} {m : Mo} {d : D} {v : V} (r : Res K z m H' F1 H1 d v) (e : ∀ a, H' a = none → H a = none) : Res K z m H F1 H1 d v := by
  cases m with
  | d => exact r
  | b => exact r
  | n =>
    obtain ⟨a, xs, ds, e1, e2, n, h0, ff, l, r⟩ := r
    exact ⟨a, xs, ds, e1, e2, n, e a h0, ff, l, r⟩
/-- what two expressions gave, the second list no other than the first -/
theorem setM2 {K : PySem.W.Frag} {F0 H0 F H F1 H1 F2 H2 : Hp} {ρ : Rho} {σ : L2.St} {m m' : Mo} {d d' : D} {v v' : V} {Q : Sl → Sl → Prop} (rs : RS K z F0 H0 ρ F σ H) (e : Ext K z F H F1 H1) (e' : Ext K z F1 H1 F2 H2) (r : Res K z m H F1 H1 d v) (r' : Res K z m' H1 F2 H2 d' v')
    (q : slOf m d fun s => slOf m' d' fun s' => Q s s') (i j : Nat) : ∃ s s', Q s s' ∧ RS K z F0 H0 ((ρ.set i s).set j s') F2 ((σ.set i (some v)).set j (some v')) H2 := by
  obtain ⟨s, q1, rs1⟩ := setM rs e r q i
  obtain ⟨s', q2, rs2⟩ := setM rs1 e' r' q1 j
  exact ⟨s, s', q2, rs2⟩
theorem s_par {i j : Nat} {x y : Str} {px py pt pt2 : Pos} {kt k2 : Nat} (hc : X.calm = true) (nd : X.N.Nodup) (ha : PD X z ma ea fa) (hb : PD X z mb eb fb) (hx : X.N[i]? = some x := by rfl) (hy : X.N[j]? = some y := by rfl) (hij : i ≠ j := by decide) (lx : X.env.scope.names.lookup x = some .local := by rfl) (ly : X.env.scope.names.lookup y = some .local := by rfl)
    (he : starEach [ea, eb] X.env = (false, eval ea X.env) :: starEach [eb] X.env := by rfl) (he2 : starEach [eb] X.env = (false, eval eb X.env) :: starEach [] X.env := by rfl)
    (h1 : swappedStores [.Tuple [.Name x px, .Name y py] kt pt] (.Tuple [ea, eb] k2 pt2) X.env = pure (some [x, y]) := by rfl) (h2 : swapsWithSole [.Tuple [.Name x px, .Name y py] kt pt] (.Tuple [ea, eb] k2 pt2) pos.line X.env = pure false := by rfl) :
    PSD X z (.Assign [.Tuple [.Name x px, .Name y py] kt pt] (.Tuple [ea, eb] k2 pt2) pos) (sPar i j ma mb fa fb) := fun W tk =>
  psW (ps_par hc nd hx hy hij lx ly (pa_cons (ha W tk) (pa_cons (hb W tk) pa_nil he2) he) h1 h2) fun Dn σ H ⟨F0, H0, ρ, F, pe, rs, hf, lk⟩ => ⟨F0, H0, ρ, F, _, _, rs, hf, (fun d v F1 H1 q1 e1 r1 => ⟨F0, H0, ρ, F1, _, _, rs.step e1, q1, (fun d' v' F2 H2 q2 e2 r2 => by
    obtain ⟨s, s', q, rs2⟩ := setM2 rs e1 e2 r1 r2 q2 i j
    exact ⟨v, v', rfl, lk.nx _ F2 _ H2 q rs2 (e1.trans e2).ff⟩), (lk.xw rs).step e1⟩), lk.xw rs⟩
def sPar3 (i j l : Nat) (ma mb mc : Mo) (fa fb fc : DE) : DS := fun pe ρ => fa ρ (fun d => fb ρ (fun d' => fc ρ (fun d'' => slOf ma d fun s => slOf mb d' fun s' => slOf mc d'' fun s'' => pe.nx (((ρ.set i s).set j s').set l s'')) (fun x => pe.ex x ρ)) (fun x => pe.ex x ρ)) (fun x => pe.ex x ρ)
theorem s_par3 {i j l : Nat} {x y w : Str} {px py pw pt pt2 : Pos} {kt k2 : Nat} (hc : X.calm = true) (nd : X.N.Nodup) (ha : PD X z ma ea fa) (hb : PD X z mb eb fb) (hcc : PD X z mc ec fc) (hx : X.N[i]? = some x := by rfl) (hy : X.N[j]? = some y := by rfl) (hw : X.N[l]? = some w := by rfl) (hij : i ≠ j := by decide) (hil : i ≠ l := by decide) (hjl : j ≠ l := by decide)
    (lx : X.env.scope.names.lookup x = some .local := by rfl) (ly : X.env.scope.names.lookup y = some .local := by rfl) (lw : X.env.scope.names.lookup w = some .local := by rfl)
    (he : starEach [ea, eb, ec] X.env = (false, eval ea X.env) :: starEach [eb, ec] X.env := by rfl) (he2 : starEach [eb, ec] X.env = (false, eval eb X.env) :: starEach [ec] X.env := by rfl) (he3 : starEach [ec] X.env = (false, eval ec X.env) :: starEach [] X.env := by rfl)
    (h1 : swappedStores [.Tuple [.Name x px, .Name y py, .Name w pw] kt pt] (.Tuple [ea, eb, ec] k2 pt2) X.env = pure (some [x, y, w]) := by rfl) (h2 : swapsWithSole [.Tuple [.Name x px, .Name y py, .Name w pw] kt pt] (.Tuple [ea, eb, ec] k2 pt2) pos.line X.env = pure false := by rfl) :
    PSD X z (.Assign [.Tuple [.Name x px, .Name y py, .Name w pw] kt pt] (.Tuple [ea, eb, ec] k2 pt2) pos) (sPar3 i j l ma mb mc fa fb fc) := fun W tk =>
  psW (ps_par3 hc nd hx hy hw hij hil hjl lx ly lw (pa_cons (ha W tk) (pa_cons (hb W tk) (pa_cons (hcc W tk) pa_nil he3) he2) he) h1 h2) fun Dn σ H ⟨F0, H0, ρ, F, pe, rs, hf, lk⟩ => ⟨F0, H0, ρ, F, _, _, rs, hf, (fun d v F1 H1 q1 e1 r1 => ⟨F0, H0, ρ, F1, _, _, rs.step e1, q1, (fun d' v' F2 H2 q2 e2 r2 => ⟨F0, H0, ρ, F2, _, _, (rs.step e1).step e2, q2, (fun d'' v'' F3 H3 q3 e3 r3 => by
    obtain ⟨s, qa, rs1⟩ := setM rs e1 r1 q3 i
    obtain ⟨s', qb, rs2⟩ := setM rs1 e2 r2 qa j
    obtain ⟨s'', qc, rs3⟩ := setM rs2 e3 r3 qb l
    exact ⟨v, v', v'', rfl, lk.nx _ F3 _ H3 qc rs3 ((e1.trans e2).trans e3).ff⟩), ((lk.xw rs).step e1).step e2⟩), (lk.xw rs).step e1⟩), lk.xw rs⟩
/-! ## the others -/
def sRet (fa : DE) : DS := fun pe ρ => fa ρ pe.rt (fun x => pe.ex x ρ)
theorem s_ret (ha : PD X z .d ea fa) : PSD X z (.Return (some ea) pos) (sRet fa) := fun W tk =>
  psW (ps_ret (ha W tk)) fun Dn σ H ⟨F0, H0, ρ, F, pe, rs, hf, lk⟩ => ⟨F0, H0, ρ, F, _, _, rs, hf, (fun d v F' H' q e r => lk.rt d v F' H' q (rs.ext.trans e) r), lk.xw rs⟩
def sExpr (fa : DE) : DS := fun pe ρ => fa ρ (fun _ => pe.nx ρ) (fun x => pe.ex x ρ)
theorem s_expr (ha : PD X z ma ea fa) (hsw : swapsWith ea none pos.line X.env = pure false := by rfl) : PSD X z (.Expr ea pos) (sExpr fa) := fun W tk =>
  psW (ps_expr (ha W tk) hsw) fun Dn σ H ⟨F0, H0, ρ, F, pe, rs, hf, lk⟩ => ⟨F0, H0, ρ, F, _, _, rs, hf, (fun d v F' H' q e r => lk.nx ρ F' σ H' q (rs.step e) e.ff), lk.xw rs⟩
def sIf (t : DT) (g g' : DS) : DS := fun pe ρ => t ρ (fun b => if b = true then g pe ρ else g' pe ρ) (fun x => pe.ex x ρ)
theorem s_if (hc : PTD X z ec t) (h : PSsD X z sts g) (h' : PSsD X z sts' g') : PSD X z (.If ec sts sts' pos) (sIf t g g') := fun W tk =>
  psW (ps_if (hc W tk) (h W tk) (h' W tk)) fun Dn σ H ⟨F0, H0, ρ, F, pe, rs, hf, lk⟩ => ⟨F0, H0, ρ, F, _, _, rs, hf, (fun b F' H' q e => by
    cases b with
    | true => exact ⟨F0, H0, ρ, F', pe, rs.step e, q, lk.up e.ff⟩
    | false => exact ⟨F0, H0, ρ, F', pe, rs.step e, q, lk.up e.ff⟩), lk.xw rs⟩
theorem s_pass : PSD X z (.Pass pos) (fun pe ρ => pe.nx ρ) := fun W tk => psW ps_pass fun Dn σ H ⟨F0, H0, ρ, F, pe, rs, hf, lk⟩ => lk.nx ρ F σ H hf rs fun _ _ h => h
theorem s_break : PSD X z (.Break pos) (fun pe ρ => pe.bk ρ) := fun W tk => psW ps_break fun Dn σ H ⟨F0, H0, ρ, F, pe, rs, hf, lk⟩ => lk.bk ρ F σ H hf rs fun _ _ h => h
theorem s_continue : PSD X z (.Continue pos) (fun pe ρ => pe.ct ρ) := fun W tk => psW ps_continue fun Dn σ H ⟨F0, H0, ρ, F, pe, rs, hf, lk⟩ => lk.ct ρ F σ H hf rs fun _ _ h => h
/-- what does not happen -/
theorem s_never : PSD X z st (fun _ _ => False) := fun W tk => psW ps_never fun Dn σ H ⟨F0, H0, ρ, F, pe, rs, hf, lk⟩ => hf
/-! ## lists of one's own -/
def sApp (i : Nat) (fa : DE) : DS := fun pe ρ => match ρ[i]? with
  | some (.ow ds) => fa ρ (fun d => ds.length ≤ cap ∧ pe.nx (ρ.set i (.ow (ds ++ [d])))) (fun x => pe.ex x ρ)
  | _ => False
theorem s_app {i : Nat} {x : Str} {p1 p2 p3 : Pos} (ha : PD X z .d ea fa) (hN : X.N[i]? = some x := by rfl) (hv : Vis X.env.scope x := by first | exact Or.inl rfl | exact Or.inr (Or.inl rfl) | exact Or.inr (Or.inr rfl)) (h1 : (x == ("__debug__" : Str)) = false := by decide) (h2 : (x == ("__classdict__" : Str)) = false := by decide)
    (hb : attributeBase (.Name x p1) "append" X.env (eval (.Name x p1) X.env) = eval (.Name x p1) X.env := by rfl)
    (h3 : (((backTo p3 (starEach [ea] X.env)).all (fun x => !x.1) && (backToKw p3 (keywordEach [] X.env)).all fun x => x.1.isSome) && decide (([ea].length + ([] : List Keyword).length + if ([] : List Keyword).isEmpty = true then 0 else 1) < 30)) = true := by rfl) (hline : (p2.endLine == p3.line) = true := by rfl)
    (he : starEach [ea] X.env = (false, eval ea X.env) :: starEach [] X.env := by rfl) (hsw : swapsWith (.Call (.Attribute (.Name x p1) "append" p2) [ea] [] p3) none pos.line X.env = pure false := by rfl) :
    PSD X z (.Expr (.Call (.Attribute (.Name x p1) "append" p2) [ea] [] p3) pos) (sApp i fa) := fun W tk =>
  psW (ps_expr (pe_bm PySem.F.plainAttrs_list PySem.F.slot_list_append PySem.F.type_list_append mt_append (pv i hN hv h1 h2) (pa_cons (ha W tk) pa_nil he) hb h3 hline he (by rfl)) hsw) fun Dn σ H ⟨F0, H0, ρ, F, pe, rs, hf, lk⟩ => by
    unfold sApp at hf
    cases e : ρ[i]? with
    | none => rw [e] at hf; cases hf
    | some s =>
      rw [e] at hf
      cases s <;> try exact False.elim hf
      obtain ⟨o, q, a, xs, rfl, n, ff, h0, l, r⟩ := rs.slot i _ e
      refine ⟨_, q, .inl ⟨rfl, xs, SqL.of l⟩, F0, H0, ρ, F, _, _, rs, hf, (fun d v F1 H1 q1 e1 r1 => ?_), lk.xw rs⟩
      have rs1 := rs.step e1
      obtain ⟨o, q', a', xs', ea, n', ff', h0', l', r'⟩ := rs1.slot i _ e
      rw [q] at q'
      cases q'
      cases ea
      refine ⟨a, xs', v, rfl, rfl, l', by rw [← r'.len]; exact cap_lt q1.1, ?_⟩
      exact lk.nx _ F1 σ _ q1.2 (rs1.put e q (r'.app (.cons r1 .nil))) e1.ff
def sPut (i : Nat) (fa fi : DE) : DS := fun pe ρ => fa ρ (fun d => match ρ[i]? with
  | some (.ow ds) => fi ρ (fun k => match k with
    | .int k => ∃ j, ixN ds.length k = some j ∧ pe.nx (ρ.set i (.ow (ds.set j d)))
    | _ => False) (fun x => pe.ex x ρ)
  | _ => False) (fun x => pe.ex x ρ)
theorem s_put {i : Nat} {x : Str} {p1 p2 : Pos} (ha : PD X z .d ea fa) (hi : PD X z mb eb fb) (hN : X.N[i]? = some x := by rfl) (hv : Vis X.env.scope x := by first | exact Or.inl rfl | exact Or.inr (Or.inl rfl) | exact Or.inr (Or.inr rfl)) (h1 : (x == ("__debug__" : Str)) = false := by decide) (h2 : (x == ("__classdict__" : Str)) = false := by decide)
    (h3 : ∀ v : Value, assign (.Subscript (.Name x p1) eb p2) X.env v = (do let ov ← holding [v] (eval (.Name x p1) X.env); let iv ← holding [v, ov] (eval eb X.env); standAt p2; holding [v, ov, iv] (setItem ov iv v); release [v, ov, iv] []) := by intro _; rfl)
    (g1 : swapsWithSole [.Subscript (.Name x p1) eb p2] ea pos.line X.env = pure false := by rfl) (g2 : swappedStores [.Subscript (.Name x p1) eb p2] ea X.env = pure none := by rfl)
    (g3 : (assignEach [.Subscript (.Name x p1) eb p2] X.env).map (·.2) = [assign (.Subscript (.Name x p1) eb p2) X.env] := by rfl) : PSD X z (.Assign [.Subscript (.Name x p1) eb p2] ea pos) (sPut i fa fb) := fun W tk =>
  psW (ps_asg (ha W tk) (pg_sub (pv i hN hv h1 h2) (hi W tk) set_list h3) g1 g2 g3) fun Dn σ H ⟨F0, H0, ρ, F, pe, rs, hf, lk⟩ => ⟨F0, H0, ρ, F, _, _, rs, hf, (fun d v F1 H1 q1 e1 r1 => by
    cases e : ρ[i]? with
    | none => rw [e] at q1; cases q1
    | some s =>
      rw [e] at q1
      cases s <;> try exact False.elim q1
      have rs1 := rs.step e1
      obtain ⟨o, q, a, xs, rfl, n, ff, h0, l, r⟩ := rs1.slot i _ e
      refine ⟨_, q, F0, H0, ρ, F1, _, _, rs1, q1, (fun k w F2 H2 q2 e2 r2 => ?_), (lk.xw rs).step e1⟩
      cases k <;> try exact False.elim q2
      rename_i k
      obtain ⟨j, hj, q3⟩ := q2
      have rs2 := rs1.step e2
      obtain ⟨o, q', a', xs', ea, n', ff', h0', l', r'⟩ := rs2.slot i _ e
      rw [q] at q'
      cases q'
      cases ea
      refine ⟨a, xs', k, j, rfl, rb_int r2.b, l', by rw [← r'.len]; exact hj, ?_⟩
      exact lk.nx _ F2 σ _ q3 (rs2.put e q (r'.set (Rep.up e2.ff r1))) (e1.trans e2).ff), lk.xw rs⟩
end
end Act
namespace Act
variable [GT]
open PySem PySem.Spec PyProof.Rows L2
/-! ## freezing -/
theorem RS.freeze {K : PySem.W.Frag} {z : Zx} {F0 H0 F H : Hp} {ρ : Rho} {σ : L2.St} (h : RS K z F0 H0 ρ F σ H) {i : Nat} {ds : List D} (e : ρ[i]? = some (.ow ds)) : ∃ F', Sub F F' ∧ RS K z F0 H0 (ρ.set i (.va (.lst ds))) F' σ H := by
  obtain ⟨o, q, a, xs, rfl, n, ff, h0, l, r⟩ := h.slot i _ e
  have sb : Sub F (upd F a (.lst xs)) := fun b o c => by
    have : b ≠ a := fun c2 => by rw [c2, ff] at c; cases c
    rw [upd_ne this]; exact c
  have ow : ∀ j t, i ≠ j → ρ[j]? = some t → t.owns = true → σ[j]? ≠ some (some (.ref a)) := fun j t n q1 w => h.dist i j _ t a n e q1 rfl w q
  have hlen : i < ρ.length := (List.getElem?_eq_some_iff.mp e).1
  have keep : ∀ (j : Nat) (t : Sl), (ρ.set i (.va (.lst ds)))[j]? = some t → t.owns = true → i ≠ j ∧ ρ[j]? = some t := fun j t q1 w => by
    by_cases c : i = j
    · subst c
      rw [List.getElem?_set_self hlen] at q1
      cases q1; cases w
    · rw [List.getElem?_set_ne c] at q1
      exact ⟨c, q1⟩
  refine ⟨upd F a (.lst xs), sb, h.ext.frozen h0 l ff, fun b c => ?_, h.tabs, fun b ps c => ?_, by rw [List.length_set]; exact h.len, fun j t q1 => ?_, fun j l2 t u b nj q1 q2 w1 w2 e1 => ?_⟩
  · obtain ⟨h1, h2, h3⟩ := h.row b c
    have : b ≠ a := fun c2 => n (by rw [← c2, c])
    exact ⟨h1, by rw [upd_ne this]; exact h2, h3⟩
  · by_cases c2 : b = a
    · subst c2; rw [upd_same] at c; cases c
    · rw [upd_ne c2] at c; exact h.nt b ps c
  · by_cases c : i = j
    · subst c
      rw [List.getElem?_set_self hlen] at q1
      cases q1
      exact ⟨_, q, .ref a, rfl, rep_lst ⟨a, xs, rfl, upd_same, r.up sb⟩⟩
    · rw [List.getElem?_set_ne c] at q1
      obtain ⟨o, q3, hs⟩ := h.slot j t q1
      refine ⟨o, q3, ?_⟩
      cases t with
      | un => exact trivial
      | va d =>
        obtain ⟨v, q4, r4⟩ := hs
        exact ⟨v, q4, r4.up sb⟩
      | ro => exact hs
      | ow es =>
        obtain ⟨b, ys, q4, n4, f4, h4, l4, r4⟩ := hs
        have nb : b ≠ a := fun c2 => ow j _ c q1 rfl (by rw [q3, q4, c2])
        exact ⟨b, ys, q4, n4, by rw [upd_ne nb]; exact f4, h4, l4, r4.up sb⟩
  · obtain ⟨c1, p1⟩ := keep j t q1 w1
    obtain ⟨c2, p2⟩ := keep l2 u q2 w2
    exact h.dist j l2 t u b nj p1 p2 w1 w2 e1
def sFrz (i : Nat) (g : DS) : DS := fun pe ρ => match ρ[i]? with
  | some (.ow ds) => g pe (ρ.set i (.va (.lst ds)))
  | some (.va _) => g pe ρ
  | _ => False
section
variable {X : Cx} {z : Zx} {m ma mb mc : Mo} {e ea eb ec : Expr} {f fa fb fc : DE} {pos : Pos} {es : List Expr} {fs : DA} {st : Stmt} {sts sts' : List Stmt} {g g' : DS} {t : DT}
theorem frz_of {K : PySem.W.Frag} {mg : Str → Option Value} {W : WX} {Dn : Ends} {σ : L2.St} {H : Hp} {i : Nat} (h : tsG K mg z W (sFrz i g) Dn σ H) : tsG K mg z W g Dn σ H := by
  obtain ⟨F0, H0, ρ, F, pe, rs, hf, lk⟩ := h
  unfold sFrz at hf
  cases e : ρ[i]? with
  | none => rw [e] at hf; cases hf
  | some s =>
    rw [e] at hf
    cases s <;> try exact False.elim hf
    · exact ⟨F0, H0, ρ, F, pe, rs, hf, lk⟩
    · obtain ⟨F', sb, rs'⟩ := rs.freeze e
      exact ⟨F0, H0, _, F', pe, rs', hf, lk.up sb⟩
theorem s_frz (i : Nat) (h : PSD X z st g) : PSD X z st (sFrz i g) := fun W tk => psW (h W tk) fun Dn σ H c => frz_of c
theorem b_frz (i : Nat) (h : PSsD X z sts g) : PSsD X z sts (sFrz i g) := fun W tk => pssW (h W tk) fun Dn σ H c => frz_of c
/-! ## what a for walks -/
def ItOk (K : PySem.W.Frag) (z : Zx) (F : Hp) (J : It) (ds : List D) : Prop := ∀ (i : Nat) (F' H' : Hp), Sub F F' → Sub F' H' → (∀ a, z.r = some a → H' a ≠ none) →
  (∀ d, ds[i]? = some d → J.go i H' ∧ ∀ x H'', J.yld i H' x H'' → ∃ F'', Ext K z F' H' F'' H'' ∧ Rep K F'' d x) ∧ (ds.length ≤ i → J.stop i H')
abbrev DI := Rho → (List D → Prop) → (Exc → Prop) → Prop
def tiG (K : PySem.W.Frag) (mg : Str → Option Value) (z : Zx) (W : WX) (f : DI) : TI := fun σ H R => ∃ F0 H0 ρ F Q E, RS K z F0 H0 ρ F σ H ∧ f ρ Q E ∧ (∀ ds J F' H', Q ds → Ext K z F H F' H' → ItOk K z F' J ds → R J H') ∧ XW K mg z W σ F H E
def PID (X : Cx) (z : Zx) (tg e : Expr) (f : DI) : Prop := ∀ W, Takes X W → PI X tg e (tiG X.K X.mg z W f)
theorem piW {tg : Expr} {t t' : TI} (h : PI X tg e t) (w : ∀ σ H R, t' σ H R → t σ H R) : PI X tg e t' := ⟨fun pins s σ H R I g => h.run pins s σ H R I (w σ H R g)⟩
theorem pi_any {tg l : Expr} {tl : TE} (hl : PE X l tl) : PI X tg l (fun σ H R => tl σ H fun x H1 => ∃ a, x = .ref a ∧ (((∃ xs, SqL X.K H1 a xs) ∧ R (Itl X.K a) H1) ∨ ((∃ xs, SqT X.K H1 a xs) ∧ R (Itt X.K a) H1))) := by
  refine ⟨fun pins s σ H R I h => ?_⟩
  refine thn (hl.run pins s σ H _ I h) fun v s1 ⟨x, H1, I1, r1, q1⟩ => ?_
  obtain ⟨a, e, q1⟩ := q1
  subst e
  cases r1
  rcases q1 with ⟨⟨xs, hq⟩, q⟩ | ⟨⟨xs, hq⟩, q⟩
  · obtain ⟨its, rv, p, hz⟩ := I1.list hq
    refine wpAny_pyIter_list p.isList ?_
    refine ⟨s1.heap.objs.size, [s1.heap.objs.size], _, _, H1, rfl, I1.kept (t' := s1.toks) fun b o e => Heap.get?_push_of_some _ e, turn_list a _, ⟨_, Heap.get?_push_size _ rfl, rfl, rfl⟩, fun b hb => ?_, q⟩
    have e : b = s1.heap.objs.size := by simpa using hb
    subst e
    exact I1.fpOk (Nat.le_refl _) (I1.hok.fresh (Nat.le_refl _))
  · obtain ⟨its, rv, p, hz⟩ := I1.tuple hq
    refine wpAny_pyIter_tuple (show s1.heap.IsTuple a its.toArray from p) ?_
    refine ⟨s1.heap.objs.size, [s1.heap.objs.size], _, _, H1, rfl, I1.kept (t' := s1.toks) fun b o e => Heap.get?_push_of_some _ e, turn_tuple a _, ⟨_, Heap.get?_push_size _ rfl, rfl, rfl⟩, fun b hb => ?_, q⟩
    have e : b = s1.heap.objs.size := by simpa using hb
    subst e
    exact I1.fpOk (Nat.le_refl _) (I1.hok.fresh (Nat.le_refl _))
def iAny (fa : DE) : DI := fun ρ Q E => fa ρ (fun d => match d with | .tup ds => Q ds | .lst ds => Q ds | _ => False) E
theorem i_any {tg : Expr} (ha : PD X z .d ea fa) : PID X z tg ea (iAny fa) := fun W tk => piW (pi_any (ha W tk)) fun σ H R ⟨F0, H0, ρ, F, Q, E, rs, hf, hq, hx⟩ => ⟨F0, H0, ρ, F, _, E, rs, hf, (fun d v F1 H1 q1 e1 r1 => by
  cases d <;> try exact False.elim q1
  · rename_i ds
    obtain ⟨a, xs, rfl, t, r⟩ := Rep.tup_iff.mp r1
    refine ⟨a, rfl, .inr ⟨⟨xs, (t.sub e1.fh).sq⟩, hq ds _ F1 H1 q1 e1 fun i F' H' s1 s2 _ => ⟨fun d hd => ?_, fun hl => ⟨xs, ((t.sub s1).sub s2).sq, by rw [← r.len]; exact hl⟩⟩⟩⟩
    obtain ⟨v, hv, rv⟩ := r.at hd
    refine ⟨⟨xs, v, ((t.sub s1).sub s2).sq, hv⟩, fun x H'' y => ?_⟩
    obtain ⟨rfl, y⟩ := y
    have := (y xs ((t.sub s1).sub s2).sq).symm.trans hv
    cases this
    exact ⟨F', Ext.refl s2, rv.up s1⟩
  · rename_i ds
    obtain ⟨a, xs, rfl, t, r⟩ := Rep.lst_iff.mp r1
    refine ⟨a, rfl, .inl ⟨⟨xs, SqL.of (e1.fh _ _ t)⟩, hq ds _ F1 H1 q1 e1 fun i F' H' s1 s2 _ => ⟨fun d hd => ?_, fun hl => ⟨xs, SqL.of (s2 _ _ (s1 _ _ t)), by rw [← r.len]; exact hl⟩⟩⟩⟩
    obtain ⟨v, hv, rv⟩ := r.at hd
    refine ⟨⟨xs, v, SqL.of (s2 _ _ (s1 _ _ t)), hv⟩, fun x H'' y => ?_⟩
    obtain ⟨rfl, y⟩ := y
    have := (y xs (SqL.of (s2 _ _ (s1 _ _ t)))).symm.trans hv
    cases this
    exact ⟨F', Ext.refl s2, rv.up s1⟩), hx⟩
def rangeD (lo : Int) (n : Nat) : List D := (List.range n).map fun (i : Nat) => D.int (lo + (i : Int))
theorem rangeD_len (lo : Int) (n : Nat) : (rangeD lo n).length = n := by simp [rangeD]
theorem itok_range {K : PySem.W.Frag} {F : Hp} {lo : Int} {n : Nat} : ItOk K z F (Itr lo n) (rangeD lo n) := fun i F' H' s1 s2 _ => ⟨fun d hd => by
  have hi : i < n := by
    have := (List.getElem?_eq_some_iff.mp hd).1
    rwa [rangeD_len] at this
  refine ⟨hi, fun x H'' y => ?_⟩
  obtain ⟨rfl, rfl⟩ := y
  have : d = .int (lo + (i : Nat)) := by
    simp [rangeD, hi] at hd
    exact hd.symm
  subst this
  exact ⟨F', Ext.refl s2, rep_int⟩, fun hl => by rw [rangeD_len] at hl; exact hl⟩
def iRan1 (fa : DE) : DI := fun ρ Q E => fa ρ (fun d => match d with | .int j => (-(2 ^ 62) ≤ j ∧ j < 2 ^ 62) ∧ Q (rangeD 0 j.toNat) | _ => False) E
def iRan2 (fa fb : DE) : DI := fun ρ Q E => fa ρ (fun d => fb ρ (fun d' => match d, d' with | .int i, .int j => (-(2 ^ 62) ≤ i ∧ i < 2 ^ 62 ∧ -(2 ^ 62) ≤ j ∧ j < 2 ^ 62) ∧ Q (rangeD i (j - i).toNat) | _, _ => False) E) E
theorem i_range1 {tg : Expr} {p : Pos} (hm : X.mg "range" = none) (ha : PD X z ma ea fa) (hg : Gl X "range" := by rfl) (hse : starEach [ea] X.env = (false, eval ea X.env) :: starEach [] X.env := by rfl) : PID X z tg (.Call (.Name "range" p) [ea] [] pos) (iRan1 fa) := fun W tk =>
  piW (pi_range1 hg hm (pa_cons (ha W tk) pa_nil hse) hse) fun σ H R ⟨F0, H0, ρ, F, Q, E, rs, hf, hq, hx⟩ => ⟨F0, H0, ρ, F, _, E, rs, hf, (fun d v F1 H1 q1 e1 r1 => by
    cases d <;> try exact False.elim q1
    exact ⟨_, by rw [rb_int r1.b], q1.1.1, q1.1.2, hq _ _ F1 H1 q1.2 e1 itok_range⟩), hx⟩
theorem i_range2 {tg : Expr} {p : Pos} (hm : X.mg "range" = none) (ha : PD X z ma ea fa) (hb : PD X z mb eb fb) (hg : Gl X "range" := by rfl) (hse : starEach [ea, eb] X.env = (false, eval ea X.env) :: starEach [eb] X.env := by rfl) (hse2 : starEach [eb] X.env = (false, eval eb X.env) :: starEach [] X.env := by rfl) : PID X z tg (.Call (.Name "range" p) [ea, eb] [] pos) (iRan2 fa fb) := fun W tk =>
  piW (pi_range2 hg hm (pa_cons (ha W tk) (pa_cons (hb W tk) pa_nil hse2) hse) (by rw [hse, hse2]; rfl) (by rw [hse2]; rfl)) fun σ H R ⟨F0, H0, ρ, F, Q, E, rs, hf, hq, hx⟩ => ⟨F0, H0, ρ, F, _, E, rs, hf, (fun d v F1 H1 q1 e1 r1 => ⟨F0, H0, ρ, F1, _, E, rs.step e1, q1, (fun d' v' F2 H2 q2 e2 r2 => by
    cases d <;> cases d' <;> try exact False.elim q2
    exact ⟨_, _, by rw [rb_int r1.b, rb_int r2.b], q2.1, hq _ _ F2 H2 q2.2 (e1.trans e2) itok_range⟩), hx.step e1⟩), hx⟩
def iRev' (fa : DE) : DI := fun ρ Q E => fa ρ (fun d => match d with | .tup ds => Q ds.reverse | .lst ds => Q ds.reverse | _ => False) E
theorem i_rev {tg : Expr} {p : Pos} (hm : X.mg "reversed" = none) (ha : PD X z .d ea fa) (hg : Gl X "reversed" := by rfl) (hse : starEach [ea] X.env = (false, eval ea X.env) :: starEach [] X.env := by rfl) : PID X z tg (.Call (.Name "reversed" p) [ea] [] pos) (iRev' fa) := fun W tk =>
  piW (_root_.RT.pi_revA hg hm (ha W tk) hse) fun σ H R ⟨F0, H0, ρ, F, Q, E, rs, hf, hq, hx⟩ => ⟨F0, H0, ρ, F, _, E, rs, hf, (fun d v F1 H1 q1 e1 r1 => by
  have rev : ∀ {ds : List D} {xs : List V} {i : Nat} {d : D}, Reps X.K F1 ds xs → ds.reverse[i]? = some d → i < xs.length ∧ ∃ v, xs[xs.length - 1 - i]? = some v ∧ Rep X.K F1 d v := fun {ds xs i d} r hd => by
    have hi : i < ds.length := by
      have := (List.getElem?_eq_some_iff.mp hd).1
      rwa [List.length_reverse] at this
    rw [List.getElem?_reverse hi] at hd
    rw [← r.len]
    exact ⟨hi, r.at hd⟩
  cases d <;> try exact False.elim q1
  · rename_i ds
    obtain ⟨a, xs, rfl, t, r⟩ := Rep.tup_iff.mp r1
    refine ⟨a, xs, rfl, .inr ⟨(t.sub e1.fh).sq, hq ds.reverse _ F1 H1 q1 e1 fun i F' H' s1 s2 _ => ⟨fun d hd => ?_, fun hl => by rw [List.length_reverse, r.len] at hl; exact hl⟩⟩⟩
    obtain ⟨hi, v, hv, rv⟩ := rev r hd
    refine ⟨⟨hi, xs, v, ((t.sub s1).sub s2).sq, hv⟩, fun x H'' y => ?_⟩
    obtain ⟨rfl, y⟩ := y
    have := (y xs ((t.sub s1).sub s2).sq).symm.trans hv
    cases this
    exact ⟨F', Ext.refl s2, rv.up s1⟩
  · rename_i ds
    obtain ⟨a, xs, rfl, t, r⟩ := Rep.lst_iff.mp r1
    refine ⟨a, xs, rfl, .inl ⟨SqL.of (e1.fh _ _ t), hq ds.reverse _ F1 H1 q1 e1 fun i F' H' s1 s2 _ => ⟨fun d hd => ?_, fun hl => by rw [List.length_reverse, r.len] at hl; exact hl⟩⟩⟩
    obtain ⟨hi, v, hv, rv⟩ := rev r hd
    refine ⟨⟨hi, xs, v, SqL.of (s2 _ _ (s1 _ _ t)), hv⟩, fun x H'' y => ?_⟩
    obtain ⟨rfl, y⟩ := y
    have := (y xs (SqL.of (s2 _ _ (s1 _ _ t)))).symm.trans hv
    cases this
    exact ⟨F', Ext.refl s2, rv.up s1⟩), hx⟩
/-! ## for, while -/
def forF (g : DG) (b : DS) (pe : PEnds) : List D → Rho → Prop
  | [], ρ => pe.nx ρ
  | d :: ds, ρ => g d ρ fun ρ1 => b { pe with nx := forF g b pe ds, ct := forF g b pe ds, bk := pe.nx } ρ1
def sFor (fi : DI) (g : DG) (b : DS) : DS := fun pe ρ => fi ρ (fun ds => forF g b pe ds ρ) (fun x => pe.ex x ρ)
theorem s_for {tg : Expr} {fi : DI} {gt : DG} {ws : List Nat} (po : PassesOwn (model X.prog X.w) X.A X.env X.xe) (hc : X.calm = true) (hi : PID X z tg ea fi) (ht : PGD X z ws tg gt) (hb : PSsD X z sts g) (hfs : ∀ x : Value, foldedSetIterable ea X.env x = pure x := by intro _; rfl) : PSD X z (.For tg ea sts [] pos) (sFor fi gt g) := fun W tk =>
  psW (ps_for po hc (hi W tk) ht (hb W tk) hfs) fun Dn σ H ⟨F0, H0, ρ, F, pe, rs, hf, lk⟩ => ⟨F0, H0, ρ, F, _, _, rs, hf, (fun ds J F1 H1 q1 e1 it => by
    have lk1 := lk.up e1.ff
    refine ⟨fun i m σ' H' => ∃ ρ' F', RS X.K z F0 H0 ρ' F' σ' H' ∧ Sub F1 F' ∧ i ≤ ds.length ∧ m = ds.length - i ∧ forF gt g pe (ds.drop i) ρ', ⟨ds.length, ρ, F1, rs.step e1, fun _ _ h => h, Nat.zero_le _, rfl, q1⟩, ?_⟩
    rintro i m σ' H' ⟨ρ', F', rs', sb, hi, rfl, hF⟩
    obtain ⟨i1, i2⟩ := it i F' H' sb rs'.sub rs'.rf
    by_cases c : i < ds.length
    · right
      obtain ⟨hgo, hy⟩ := i1 ds[i] (List.getElem?_eq_getElem c)
      rw [List.drop_eq_getElem_cons c] at hF
      refine ⟨hgo, fun σ2 H2 => ∃ ρ' F', RS X.K z F0 H0 ρ' F' σ2 H2 ∧ Sub F1 F' ∧ forF gt g pe (ds.drop (i + 1)) ρ', fun σ2 H2 ⟨ρ2, F2, r2, s2, h2⟩ => ⟨ds.length - (i + 1), by omega, ρ2, F2, r2, s2, c, rfl, h2⟩, fun x H'' y => ?_⟩
      obtain ⟨F'', e2, r2⟩ := hy x H'' y
      refine ⟨F0, H0, ρ', F'', ds[i], _, rs'.step e2, r2, hF, fun ρ2 σ2 q2 rs2 _ => ⟨F0, H0, ρ2, F'', _, rs2, q2, ?_⟩⟩
      have sb2 : Sub F1 F'' := fun a o h => e2.ff a o (sb a o h)
      have lk2 := lk1.up sb2
      exact ⟨fun ρ3 F3 σ3 H3 p r s => ⟨ρ3, F3, r, fun a o h => s a o (sb2 a o h), p⟩, lk2.nx, fun ρ3 F3 σ3 H3 p r s => ⟨ρ3, F3, r, fun a o h => s a o (sb2 a o h), p⟩, lk2.rt, lk2.ex⟩
    · left
      have e : i = ds.length := by omega
      subst e
      rw [List.drop_length] at hF
      exact ⟨i2 (Nat.le_refl _), lk1.nx ρ' F' σ' H' hF rs' sb⟩), lk.xw rs⟩
/-- W: what holds at the test, by a number that falls -/
def sWhile (t : DT) (b : DS) : DS := fun pe ρ => ∃ Wv : Nat → Rho → Prop, (∃ m, Wv m ρ) ∧ ∀ m ρ, Wv m ρ → t ρ (fun c => if c = true then b { pe with nx := fun ρ' => ∃ m', m' < m ∧ Wv m' ρ', ct := fun ρ' => ∃ m', m' < m ∧ Wv m' ρ', bk := pe.nx } ρ else pe.nx ρ) (fun x => pe.ex x ρ)
theorem s_while (po : PassesOwn (model X.prog X.w) X.A X.env X.xe) (hc : PTD X z ec t) (hb : PSsD X z sts g) : PSD X z (.While ec sts [] pos) (sWhile t g) := fun W tk =>
  psW (ps_while po (hc W tk) (hb W tk)) fun Dn σ H ⟨F0, H0, ρ, F, pe, rs, hf, lk⟩ => by
    obtain ⟨Wv, ⟨n, hn⟩, hW⟩ := hf
    refine ⟨fun m σ' H' => ∃ ρ' F', RS X.K z F0 H0 ρ' F' σ' H' ∧ Sub F F' ∧ Wv m ρ', ⟨n, ρ, F, rs, fun _ _ h => h, hn⟩, ?_⟩
    rintro m σ' H' ⟨ρ', F', rs', sb, hw⟩
    have lk1 := lk.up sb
    refine ⟨F0, H0, ρ', F', _, _, rs', hW m ρ' hw, (fun b F1 H1 q1 e1 => ?_), lk1.xw rs'⟩
    have sb1 : Sub F F1 := fun a o h => e1.ff a o (sb a o h)
    cases b with
    | false => exact lk1.nx ρ' F1 σ' H1 q1 (rs'.step e1) e1.ff
    | true =>
      refine ⟨fun σ2 H2 => ∃ m', m' < m ∧ ∃ ρ' F', RS X.K z F0 H0 ρ' F' σ2 H2 ∧ Sub F F' ∧ Wv m' ρ', fun σ2 H2 ⟨m', h1, h2⟩ => ⟨m', h1, h2⟩, F0, H0, ρ', F1, _, rs'.step e1, q1, ?_⟩
      have lk2 := lk.up sb1
      exact ⟨fun ρ3 F3 σ3 H3 ⟨m', h1, p⟩ r s => ⟨m', h1, ρ3, F3, r, fun a o h => s a o (sb1 a o h), p⟩, lk2.nx, fun ρ3 F3 σ3 H3 ⟨m', h1, p⟩ r s => ⟨m', h1, ρ3, F3, r, fun a o h => s a o (sb1 a o h), p⟩, lk2.rt, lk2.ex⟩
/-! ## comprehensions -/
def wipeR : Rho → List Nat → Rho
  | ρ, [] => ρ
  | ρ, i :: vs => (wipeR ρ vs).set i .un
theorem RS.wipe {K : PySem.W.Frag} {F0 H0 F H : Hp} : ∀ {vs : List Nat} {ρ : Rho} {σ : L2.St}, RS K z F0 H0 ρ F σ H → RS K z F0 H0 (wipeR ρ vs) F (L2.wipe σ vs) H
  | [], ρ, σ, h => h
  | i :: vs, ρ, σ, h => (RS.wipe (vs := vs) h).set i (s := .un) (o := none) trivial rfl
def lcF (g : DG) (t : DT) (fe : DE) (ρ : Rho) (Q : D → Prop) : List D → List D → Prop
  | [], acc => Q (.lst acc)
  | d :: ds, acc => g d ρ fun ρ2 => t ρ2 (fun b => if b = true then fe ρ2 (fun y => acc.length ≤ cap ∧ lcF g t fe ρ Q ds (acc ++ [y])) (fun _ => False) else lcF g t fe ρ Q ds acc) (fun _ => False)
def eLc (fi : DI) (g : DG) (t : DT) (fe : DE) (vs : List Nat) : DE := fun ρ Q E => fi ρ (fun ds => lcF g t fe (wipeR ρ vs) Q ds []) E
def tTrue : DT := fun _ Q _ => Q true
abbrev W0 : WX := fun _ _ _ _ => False
theorem xw0 {K : PySem.W.Frag} {mg : Str → Option Value} {σ : L2.St} {F H : Hp} : XW K mg z W0 σ F H (fun _ => False) := fun x c dd F' H' h => False.elim h
theorem lc_of {K : PySem.W.Frag} {mg : Str → Option Value} {W : WX} {fi : DI} {gt : DG} {fe : DE} {ws vs : List Nat} {σ : L2.St} {H : Hp} {R : VK} (hws : ∀ i ∈ ws, i ∈ vs) (h : teG K mg z W .n (eLc fi gt t fe vs) σ H R) :
    tLc (tiG K mg z W fi) (tgG K z ws gt) (ttG K mg z W0 t) (teG K mg z W0 .d fe) vs σ H R := by
  obtain ⟨F0, H0, ρ, F, Q, E, rs, hf, hq, hx⟩ := h
  refine ⟨F0, H0, ρ, F, _, E, rs, hf, (fun ds J F1 H1 q1 e1 it Dl nD => ?_), hx⟩
  have rs1 := rs.step e1
  have n := newRow rs1.rf nD
  have fD := sub_free e1.fh nD
  refine ⟨fun i m H' => ∃ F' acc xs, Ext K z F1 H1 F' H' ∧ F' Dl = none ∧ H' Dl = some (.lst xs) ∧ Reps K F' acc xs ∧ i ≤ ds.length ∧ m = ds.length - i ∧ lcF gt t fe (wipeR ρ vs) Q (ds.drop i) acc, ⟨ds.length, F1, [], [], Ext.own0 e1.fh nD n, fD, upd_same, .nil, Nat.zero_le _, rfl, q1⟩, ?_⟩
  rintro i m H' ⟨F', acc, xs, e2, f2, l2, r2, hi, rfl, hF⟩
  have rs2 := rs1.step e2
  have sb : Sub F1 F' := e2.ff
  obtain ⟨i1, i2⟩ := it i F' H' sb e2.fh rs2.rf
  by_cases c : i < ds.length
  · right
    obtain ⟨hgo, hy⟩ := i1 ds[i] (List.getElem?_eq_getElem c)
    rw [List.drop_eq_getElem_cons c] at hF
    refine ⟨hgo, fun H2 => ∃ F' acc xs, Ext K z F1 H1 F' H2 ∧ F' Dl = none ∧ H2 Dl = some (.lst xs) ∧ Reps K F' acc xs ∧ lcF gt t fe (wipeR ρ vs) Q (ds.drop (i + 1)) acc, fun H2 ⟨F2, acc, xs, a1, a2, a3, a4, a5⟩ => ⟨ds.length - (i + 1), by omega, F2, acc, xs, a1, a2, a3, a4, c, rfl, a5⟩, fun x H'' y => ?_⟩
    obtain ⟨F'', e3, r3⟩ := hy x H'' y
    refine ⟨F0, H0, wipeR ρ vs, F'', ds[i], _, (rs2.step e3).wipe, r3, hF, fun ρ3 σ3 q3 rs3 wr => ⟨?_, F0, H0, ρ3, F'', _, _, rs3, q3, (fun b F4 H4 q4 e4 => ?_), xw0⟩⟩
    · rw [wr vs hws]
      have ww : ∀ (us : List Nat) (τ : L2.St), (∀ i ∈ us, i ∈ vs) → L2.wipe (L2.wipe τ us) vs = L2.wipe τ vs := fun us => by
        induction us with
        | nil => intro τ _; rfl
        | cons u us ih =>
          intro τ hu
          rw [wipe_cons, wipe_set vs _ u _ (hu u List.mem_cons_self), ih _ fun i hi => hu i (List.mem_cons_of_mem _ hi)]
      exact ww vs σ fun _ h => h
    · have e34 := e3.trans e4
      have n2 : H' Dl ≠ none := by rw [l2]; exact fun z => nomatch z
      cases b with
      | false => exact ⟨F4, acc, xs, e2.trans e34, e34.unfrozen f2 n2, e34.hh.lst n l2, r2.up e34.ff, q4⟩
      | true =>
        refine ⟨F0, H0, ρ3, F4, _, _, rs3.step e4, q4, (fun y v F5 H5 q5 e5 r5 => ?_), xw0⟩
        have e35 := e34.trans e5
        have l5 := e35.hh.lst n l2
        have f5 := e35.unfrozen f2 n2
        refine ⟨xs, l5, by rw [← r2.len]; exact cap_lt q5.1, F5, acc ++ [y], xs ++ [v], ?_, f5, upd_same, (r2.up e35.ff).app (.cons r5 .nil), q5.2⟩
        exact (e2.trans e35).own nD f5 n fun c q z => by rw [l5] at z; cases z
  · left
    have e : i = ds.length := by omega
    subst e
    rw [List.drop_length] at hF
    exact ⟨i2 (Nat.le_refl _), hq _ _ F' H' hF (e1.trans e2) ⟨Dl, xs, acc, rfl, rfl, n, e1.free nD, f2, l2, r2⟩⟩
theorem d_lc {elt tg : Expr} {ifs : List Expr} {scope : Scope} {own : List (Str × Nat)} {fi : DI} {gt : DG} {fe : DE} {ws : List Nat} (hc : X.calm = true) (nd : X.N.Nodup) (hi : PID X z tg ea fi) (hb : BlkOk X.N X.env.scope scope own)
    (ht : ∀ s H C cl fp, PGD (X.blk s H scope (compEnvC scope cl C X.env) fp) z ws tg gt) (hif : ∀ s H C cl fp, PTs (X.blk s H scope (compEnvC scope cl C X.env) fp) ifs (ttG X.K X.mg z W0 t))
    (he : ∀ s H C cl fp, PD (X.blk s H scope (compEnvC scope cl C X.env) fp) z .d elt fe) (hws : ∀ i ∈ ws, i ∈ own.map (·.2) := by decide) (hfs : ∀ x : Value, foldedSetIterable ea X.env x = pure x := by intro _; rfl) :
    PD X z .n (.ListComp elt [⟨tg, ea, ifs, 0⟩] scope pos) (eLc fi gt t fe (own.map (·.2))) := fun W tk =>
  peW (pe_lc (g := tgG X.K z ws gt) hc nd (hi W tk) hb (fun s H C cl fp => ht s H C cl fp) hif (fun s H C cl fp => he s H C cl fp W0 takes0) hfs) fun σ H R h => lc_of hws h
theorem s_lc {elt tg : Expr} {ifs : List Expr} {scope : Scope} {own : List (Str × Nat)} {fi : DI} {gt : DG} {fe : DE} {ws : List Nat} {i : Nat} {y : Str} {py spos : Pos} (hc : X.calm = true) (nd : X.N.Nodup) (hi : PID X z tg ea fi) (hb : BlkOk X.N X.env.scope scope own)
    (ht : ∀ s H C cl fp, PGD (X.blk s H scope (compEnvC scope cl C X.env) fp) z ws tg gt) (hif : ∀ s H C cl fp, PTs (X.blk s H scope (compEnvC scope cl C X.env) fp) ifs (ttG X.K X.mg z W0 t))
    (he : ∀ s H C cl fp, PD (X.blk s H scope (compEnvC scope cl C X.env) fp) z .d elt fe) (hy : X.N[i]? = some y := by rfl) (ly : X.env.scope.names.lookup y = some .local := by rfl) (hsw : swapsWith (.ListComp elt [⟨tg, ea, ifs, 0⟩] scope pos) (some (.Name y py)) spos.line X.env = pure true := by exact sw_true rfl rfl rfl (by decide +kernel))
    (hws : ∀ i ∈ ws, i ∈ own.map (·.2) := by decide) (hfs : ∀ x : Value, foldedSetIterable ea X.env x = pure x := by intro _; rfl) :
    PSD X z (.Assign [.Name y py] (.ListComp elt [⟨tg, ea, ifs, 0⟩] scope pos) spos) (sOwn i (eLc fi gt t fe (own.map (·.2)))) := fun W tk =>
  psW (ps_setLc (g := tgG X.K z ws gt) hc nd hy ly hsw (hi W tk) hb (fun s H C cl fp => ht s H C cl fp) hif (fun s H C cl fp => he s H C cl fp W0 takes0) hfs) fun Dn σ H ⟨F0, H0, ρ, F, pe, rs, hf, lk⟩ => lc_of (W := W) hws ⟨F0, H0, ρ, F, _, _, rs, hf, (fun d v F' H' q e r => by
    obtain ⟨a, xs, ds, rfl, rfl, n, h0, ff, l, r⟩ := r
    exact lk.nx _ F' _ H' q (rs.setOwn i e n h0 ff l r) e.ff), lk.xw rs⟩
theorem ifs_nil : PTs X [] (ttG X.K X.mg z W0 tTrue) := ⟨fun pins s σ H Q I h => pts_nil.run pins s σ H Q I (by
  obtain ⟨F0, H0, ρ, F, Q, E, rs, hf, hq, hx⟩ := h
  exact hq true F H hf (Ext.refl rs.sub))⟩
theorem ifs_one (h : PTD X z ec t) : PTs X [ec] (ttG X.K X.mg z W0 t) := pts_one (h W0 takes0)
end
end Act
namespace Act
variable [GT]
open PySem PySem.Spec PyProof.Rows L2
def startR (N : List Str) (ds : List D) : Rho := ds.map .va ++ List.replicate (N.length - ds.length) .un
/-- the ends of a def -/
abbrev pends (Q : D → Prop) (E : Exc → Prop) : PEnds := ⟨fun _ => Q .non, Q, fun _ => False, fun _ => False, fun x _ => E x⟩
theorem rs_start {K : PySem.W.Frag} {T : List Addr} {F H : Hp} {N : List Str} {ds : List D} {vs : List V} (s : Sub F H) (nt : NoTbl F) (t : Tabs T H) (r : Reps K F ds vs) : RS K (z0 T) F H (startR N ds) F (L2.start N vs) H := by
  have hl := r.len
  refine ⟨Ext.refl s, (fun a e => nomatch e), t, nt, by simp [startR, L2.start, hl], fun i sl q => ?_, fun i j sl t a n q1 q2 w1 w2 => ?_⟩
  · by_cases c : i < ds.length
    · have q' : ds[i]?.map Sl.va = some sl := by
        rw [← List.getElem?_map, ← List.getElem?_append_left (by rw [List.length_map]; exact c)]
        exact q
      cases e : ds[i]? with
      | none => rw [e] at q'; cases q'
      | some d =>
        rw [e] at q'
        cases q'
        obtain ⟨v, e2, rv⟩ := r.at e
        refine ⟨some v, ?_, v, rfl, rv⟩
        unfold L2.start
        rw [List.getElem?_append_left (by rw [List.length_map, ← hl]; exact c), List.getElem?_map, e2]
        rfl
    · unfold startR at q
      rw [List.getElem?_append_right (by rw [List.length_map]; omega), List.length_map, List.getElem?_replicate] at q
      split at q
      · rename_i c2
        cases q
        refine ⟨none, ?_, trivial⟩
        unfold L2.start
        rw [List.getElem?_append_right (by rw [List.length_map]; omega), List.length_map, List.getElem?_replicate, if_pos (by omega)]
      · cases q
  · have : ∀ (i : Nat) (sl : Sl), (startR N ds)[i]? = some sl → sl.owns = false := fun i sl q => by
      have m : sl ∈ startR N ds := List.mem_of_getElem? q
      unfold startR at m
      rcases List.mem_append.mp m with m | m
      · obtain ⟨d, _, rfl⟩ := List.mem_map.mp m
        rfl
      · rw [(List.mem_replicate.mp m).2]; rfl
    rw [this i sl q1] at w1
    cases w1
section
variable {P : Program} {w : World} {K : PySem.W.Frag} {mg : Str → Option Value} {base : Heap} {T : List Addr}
theorem Df.hasD {x : Str} {st : Stmt} {ps N : List Str} {k : Nat} {sp : SpD} {fb : DS} (d : Df K mg x st ps) (S : FnScope N ps (defScope st)) (len : ∀ ds Q E, sp ds Q E → ds.length = ps.length)
    (hb : ∀ (f : Addr) (cdv : Value) (A : Around) (outer : List Env) (s : Shared) (H : Hp) (E : XK), Room k (A.deeper (envOfC x (defScope st) s.heap.objs.size f cdv)) →
      PassesOwn (model P w) (A.deeper (envOfC x (defScope st) s.heap.objs.size f cdv)) (envOfC x (defScope st) s.heap.objs.size f cdv) (cxOf (L2.CX P w) P w K mg base N x (defScope st) f cdv A outer s H E).xe →
      PSsD (cxOf (L2.CX P w) P w K mg base N x (defScope st) f cdv A outer s H E) (z0 T) (defBody st) fb)
    (hp : ∀ ds Q E, sp ds Q E → ∃ ρ0, startR N ds = ρ0 ∧ fb (pends Q E) ρ0) : HasD P w K mg base T (k + 1) x ps sp := by
  obtain ⟨f, fd, F, m, b⟩ := d.ex
  refine ⟨f, fd, F.ok S (fun vs H Q E ⟨ds, F, Q', ex, _, _, _, r, h, _⟩ => r.len.symm.trans (len ds Q' ex h)) fun cdv A outer s H vs Q E hr h => ?_, m, F.kp, b⟩
  obtain ⟨ds, F, Q', ex, sb, nt, t, r, h, hq, hx⟩ := h
  refine ⟨_, hb f cdv A outer s H E hr (passes_of (X := cxOf (L2.CX P w) P w K mg base N x (defScope st) f cdv A outer s H E) (K := fun e s'' => L2.CX P w outer H s E e s'') rfl) _ (takes_of rfl rfl rfl rfl), ?_⟩
  refine ⟨F, H, startR N ds, F, _, rs_start sb nt t r, (let ⟨_, e, g⟩ := hp ds Q' ex h; e ▸ g), ?_⟩
  exact ⟨fun ρ F' σ H' p rs _ => hq _ _ F' H' p rs.ext rep_non, fun _ _ _ _ p => False.elim p, fun _ _ _ _ p => False.elim p, fun d v F' H' p e r => hq d v F' H' p e r, fun x ρ c dd F' σ H' p rs _ xr => hx x c dd F' H' p rs.ext xr⟩
theorem rs_startR {N : Scr} {F H : Hp} {Nm : List Str} {ds : List D} {vs : List V} {a : Addr} (row : Row K N a H) (fa : F a = none) (s : Sub F H) (nt : NoTbl F) (t : Tabs T H) (r : Reps K F ds vs) (hN : 0 < Nm.length) : RS K ⟨T, N, some a⟩ F H (.ro :: startR (Nm.drop 1) ds) F (L2.start Nm (.ref a :: vs)) H := by
  have h := rs_start (N := Nm.drop 1) s nt t r
  have e : L2.start Nm (.ref a :: vs) = some (.ref a) :: L2.start (Nm.drop 1) vs := by
    unfold L2.start
    rw [List.map_cons, List.cons_append, List.length_cons, List.length_drop, Nat.sub_sub, Nat.add_comm 1]
  rw [e]
  refine ⟨Ext.refl s, fun b q => ?_, t, nt, by rw [List.length_cons, List.length_cons, h.len], fun i sl q => ?_, fun i j sl t a n q1 q2 w1 w2 => ?_⟩
  · cases q
    exact ⟨row, fa, row⟩
  · cases i with
    | zero =>
      cases q
      exact ⟨_, rfl, a, rfl, rfl⟩
    | succ i =>
      obtain ⟨o, q2, hs⟩ := h.slot i sl q
      refine ⟨o, q2, ?_⟩
      cases sl with
      | un => exact trivial
      | va d => exact hs
      | ow ds => obtain ⟨b, xs, q3, _, f0, h0, hl, _⟩ := hs; rw [h0] at hl; cases hl
      | ro => obtain ⟨b, _, q3⟩ := hs; cases q3
  · have : ∀ (i : Nat) (sl : Sl), (Sl.ro :: startR (Nm.drop 1) ds)[i]? = some sl → sl.owns = false := fun i sl q => by
      have m : sl ∈ Sl.ro :: startR (Nm.drop 1) ds := List.mem_of_getElem? q
      rcases List.mem_cons.mp m with m | m
      · rw [m]; rfl
      · unfold startR at m
        rcases List.mem_append.mp m with m | m
        · obtain ⟨d, _, rfl⟩ := List.mem_map.mp m
          rfl
        · rw [(List.mem_replicate.mp m).2]; rfl
    rw [this i sl q1] at w1
    cases w1
theorem Df.hasR {x y : Str} {st : Stmt} {ps N : List Str} {k : Nat} {sp : SpD} {fb : DS} (d : Df K mg x st (y :: ps)) (S : FnScope N (y :: ps) (defScope st)) (len : ∀ ds Q E, sp ds Q E → ds.length = ps.length) (hN : 0 < N.length)
    (hb : ∀ (Sc : Scr) (a : Addr) (f : Addr) (cdv : Value) (A : Around) (outer : List Env) (s : Shared) (H : Hp) (E : XK), Room k (A.deeper (envOfC x (defScope st) s.heap.objs.size f cdv)) →
      PassesOwn (model P w) (A.deeper (envOfC x (defScope st) s.heap.objs.size f cdv)) (envOfC x (defScope st) s.heap.objs.size f cdv) (cxOf (L2.CX P w) P w K mg base N x (defScope st) f cdv A outer s H E).xe →
      PSsD (cxOf (L2.CX P w) P w K mg base N x (defScope st) f cdv A outer s H E) ⟨T, Sc, some a⟩ (defBody st) fb)
    (hp : ∀ ds Q E, sp ds Q E → ∃ ρ0, Sl.ro :: startR (N.drop 1) ds = ρ0 ∧ fb (pends Q E) ρ0) : HasR P w K mg base T (k + 1) x (y :: ps) sp := by
  obtain ⟨f, fd, F, m, b⟩ := d.ex
  refine ⟨f, fd, fun Sc => F.ok S (fun vs H Q E ⟨a, us, ds, F, Q', ex, e, _, _, _, _, _, r, h, _⟩ => by rw [e, List.length_cons, List.length_cons, ← r.len, len ds Q' ex h]) fun cdv A outer s H vs Q E hr h => ?_, m, F.kp, b⟩
  obtain ⟨a, us, ds, F, Q', ex, rfl, row, fa, sb, nt, t, r, h, hq, hx⟩ := h
  refine ⟨_, hb Sc a f cdv A outer s H E hr (passes_of (X := cxOf (L2.CX P w) P w K mg base N x (defScope st) f cdv A outer s H E) (K := fun e s'' => L2.CX P w outer H s E e s'') rfl) _ (takes_of rfl rfl rfl rfl), ?_⟩
  refine ⟨F, H, _, F, _, rs_startR row fa sb nt t r hN, (let ⟨_, e, g⟩ := hp ds Q' ex h; e ▸ g), ?_⟩
  exact ⟨fun ρ F' σ H' p rs _ => hq _ _ F' H' p rs.ext rep_non, fun _ _ _ _ p => False.elim p, fun _ _ _ _ p => False.elim p, fun d v F' H' p e r => hq d v F' H' p e r, fun x ρ c dd F' σ H' p rs _ xr => hx x c dd F' H' p rs.ext xr⟩
/-! ## what was proved of the draws by hand -/
theorem fnok_cx {k : Nat} {f : Addr} {fd : FuncData} {ps : List Str} {sp sp' : Sp} (h : FnOk P w K mg base CX0 k f fd ps sp) (g : ∀ vs H Q E, sp' vs H Q E → sp vs H Q E) : FnOk P w K mg base (L2.CX P w) k f fd ps sp' :=
  ⟨fun vs H Q E q => h.len vs H Q E (g vs H Q E q), fun A outer s H args us vs Q E hr e0 hb r q => codeAny_mono (h.run A outer s H args us vs Q E hr e0 hb r (g vs H Q E q)) fun res s' c => by
    cases res with
    | ok fl => cases fl <;> exact c
    | error e => exact False.elim c⟩
def spTakenD : SpD := fun ds Q _ => ∃ m, ds = [.int m] ∧ 0 < m ∧ m < 1073741824 ∧ ∀ k, 0 ≤ k → k < m → Q (.int k)
theorem lo_ext {F H H' : Hp} {a : Addr} {Sc : Scr} (nt : NoTbl F) (s : Sub F H) (fa : F a = none) (l : LeB a H H') (r : Row K Sc a H') : Ext K ⟨T, Sc, some a⟩ F H F H' := by
  refine ⟨fun n => n, fun _ _ h => h, fun b o h => ?_, fun b o n h => l.o b o n h, fun _ _ h => .inl h, fun b e _ => ?_, fun b e _ => ?_⟩
  · have nb : b ≠ a := fun e => by rw [e, fa] at h; cases h
    rcases l b o nb (s _ _ h) with q | ⟨ps, _, e, _⟩
    · exact q
    · subst e; exact absurd h (nt b ps)
  · cases e; exact r
  · cases e
    obtain ⟨ys, q⟩ := r.lst
    rw [q]; exact fun z => nomatch z
theorem taken_conv {Sc : Scr} {vs : List V} {H : Hp} {Q : VK} {E : XK} (h : spOfR K mg T Sc spTakenD vs H Q E) : spTaken K Sc vs H Q E := by
  obtain ⟨a, us, ds, F, Q', ex, rfl, row, fa, sb, nt, t, r, ⟨m, rfl, h0, h1, hq⟩, hQ, _⟩ := h
  obtain ⟨x, r2, e, h2, h3⟩ := Reps.cons_iff.mp r
  rw [Reps.nil_iff.mp h3, Rep.int_iff.mp h2] at e
  exact ⟨a, m, by rw [e], row, h0, h1, fun k H' k0 k1 row' l => hQ _ _ F H' (hq k k0 k1) (lo_ext nt sb fa l row') rep_int⟩
/-! ## the law itself -/
def tFirst (c : Int) (i : Nat) : TS := tAsg (tLst (tCons (tVar 0) (tCons (tC (.int 0)) (tCons (tC (.int c)) (tCons (tC (.int 0)) tNil))))) (gName i)
theorem law_ok {st : Stmt} {N : List Str} {k : Nat} {fb : DS} {f : Addr} {fd : FuncData} {c : Int} (F : Fn K "law" st f fd) (S : FnScope N ["script"] (defScope st)) {s1 : Stmt} {rest : List Stmt} (hst : defBody st = s1 :: rest) (hc : 0 ≤ c ∧ c < 2147483647) (hN : 2 ≤ N.length)
    (h1 : ∀ (cdv : Value) (A : Around) (outer : List Env) (s : Shared) (H : Hp) (E : XK), PS (cxOf CX0 P w K mg base N "law" (defScope st) f cdv A outer s H E).nox s1 (tFirst c 1))
    (hb : ∀ (Sc : Scr) (a : Addr) (cdv : Value) (A : Around) (outer : List Env) (s : Shared) (H : Hp) (E : XK), Room k (A.deeper (envOfC "law" (defScope st) s.heap.objs.size f cdv)) →
      PassesOwn (model P w) (A.deeper (envOfC "law" (defScope st) s.heap.objs.size f cdv)) (envOfC "law" (defScope st) s.heap.objs.size f cdv) (fun _ _ => False) →
      PSsD (cxOf CX0 P w K mg base N "law" (defScope st) f cdv A outer s H E).nox ⟨T, Sc, some a⟩ rest fb)
    (hp : ∃ ρ0, Sl.un :: .ro :: List.replicate (N.length - 2) .un = ρ0 ∧ fb ⟨fun _ => False, fun d => d = .bl true, fun _ => False, fun _ => False, fun _ _ => False⟩ ρ0) : FnOk P w K mg base CX0 (k + 1) f fd ["script"] (spLawT K T) := by
  refine fn_ok F S (fun vs H Q E h => ?_) fun cdv A outer s H vs Q E hr h => ?_
  · obtain ⟨a, ns, rfl, _⟩ := h
    rfl
  obtain ⟨a, ns, rfl, hS, hl, hT, q⟩ := h
  refine ⟨tSeq (tFirst c 1) (fun Dn σ H => ∃ z : Zx, z.T = T ∧ (∃ Sc p, z = ⟨T, Sc, some p⟩) ∧ tsG K mg z W0 fb Dn σ H), ?_, ?_⟩
  · rw [hst]
    refine pss_cons (h1 cdv A outer s H E) ⟨fun pins s' σ H' D I g => ?_⟩
    obtain ⟨z, _, ⟨Sc, p, rfl⟩, g⟩ := g
    exact (hb Sc p cdv A outer s H E hr PassesOwn.never W0 takes0).run pins s' σ H' D I g
  · refine ⟨.ref a, rfl, (by show 4 ≤ sizeLine; decide), fun p np => ?_⟩
    have row : Row K (a, ns) p (upd H p (.lst [.ref a, .int 0, .int c, .int 0])) := Row.new hS np hc.1 hc.2
    refine ⟨⟨T, (a, ns), some p⟩, rfl, ⟨_, _, rfl⟩, fun _ => none, upd H p (.lst [.ref a, .int 0, .int c, .int 0]), _, fun _ => none, _, ?_, (let ⟨_, e, g⟩ := hp; e ▸ g), ?_⟩
    · have eN : N.length - 1 = (N.length - 2) + 1 := by omega
      have es : (L2.start N [.ref a]).set 1 (some (.ref p)) = some (.ref a) :: some (.ref p) :: List.replicate (N.length - 2) none := by
        show (some (V.ref a) :: List.replicate (N.length - 1) none).set 1 _ = _
        rw [eN, List.replicate_succ]
        rfl
      rw [es]
      refine ⟨Ext.refl (fun a o h => nomatch h), fun b q => ?_, hT.up (Le.new np), fun a ps => (fun h => nomatch h), by simp, fun i sl q => ?_, fun i j sl t a n q1 q2 w1 w2 => ?_⟩
      · cases q
        exact ⟨row, rfl, row⟩
      · cases i with
        | zero =>
          cases q
          exact ⟨_, rfl, trivial⟩
        | succ i =>
          cases i with
          | zero =>
            cases q
            exact ⟨_, rfl, p, rfl, rfl⟩
          | succ i =>
            have q' : (List.replicate (N.length - 2) Sl.un)[i]? = some sl := q
            rw [List.getElem?_replicate] at q'
            split at q'
            · rename_i c2
              cases q'
              refine ⟨none, ?_, trivial⟩
              show (List.replicate (N.length - 2) (none : Option V))[i]? = some none
              rw [List.getElem?_replicate, if_pos c2]
            · cases q'
      · have m : sl ∈ Sl.un :: Sl.ro :: List.replicate (N.length - 2) Sl.un := List.mem_of_getElem? q1
        have : sl.owns = false := by
          rcases List.mem_cons.mp m with m | m
          · rw [m]; rfl
          · rcases List.mem_cons.mp m with m | m
            · rw [m]; rfl
            · rw [(List.mem_replicate.mp m).2]; rfl
        rw [this] at w1
        cases w1
    · refine ⟨fun _ _ _ _ p => False.elim p, fun _ _ _ _ p => False.elim p, fun _ _ _ _ p => False.elim p, fun d v F' H' p e r => ?_, fun _ _ _ _ _ _ _ p => False.elim p⟩
      subst p
      rw [Rep.bl_iff.mp r]
      exact q H'
end
end Act
namespace Act
variable [GT]
open PySem PySem.Spec PyProof.Rows L2
section
variable {X : Cx} {z : Zx} {m ma mb mc : Mo} {e ea eb ec : Expr} {f fa fb fc : DE} {pos : Pos} {es : List Expr} {fs : DA} {st : Stmt} {sts sts' : List Stmt} {g g' : DS} {t : DT}
/-! ## slices -/
abbrev DO := Rho → (Option Int → Prop) → (Exc → Prop) → Prop
def toG (K : PySem.W.Frag) (mg : Str → Option Value) (z : Zx) (W : WX) (f : DO) : TO := fun σ H R => ∃ F0 H0 ρ F Q E, RS K z F0 H0 ρ F σ H ∧ f ρ Q E ∧ (∀ b F' H', Q b → Ext K z F H F' H' → R b H') ∧ XW K mg z W σ F H E
def POD (X : Cx) (z : Zx) (e : Option Expr) (f : DO) : Prop := ∀ W, Takes X W → PO X e (toG X.K X.mg z W f)
theorem poW {e : Option Expr} {t t' : TO} (h : PO X e t) (w : ∀ σ H R, t' σ H R → t σ H R) : PO X e t' := ⟨fun pins s σ H R I g => h.run pins s σ H R I (w σ H R g)⟩
def oNone : DO := fun _ Q _ => Q none
def oSome (fa : DE) : DO := fun ρ Q E => fa ρ (fun d => match d with | .int i => Q (some i) | _ => False) E
theorem o_none : POD X z none oNone := fun W tk => poW po_none fun σ H R ⟨F0, H0, ρ, F, Q, E, rs, hf, hq, hx⟩ => hq _ F H hf (Ext.refl rs.sub)
theorem o_some (ha : PD X z ma ea fa) : POD X z (some ea) (oSome fa) := fun W tk => poW (po_some (ha W tk)) fun σ H R ⟨F0, H0, ρ, F, Q, E, rs, hf, hq, hx⟩ => ⟨F0, H0, ρ, F, _, E, rs, hf, (fun d v F1 H1 q1 e1 r1 => by
  cases d <;> try exact False.elim q1
  exact ⟨_, rb_int r1.b, hq _ _ _ q1 e1⟩), hx⟩
def cutD (xs : List D) (lo hi : Option Int) : List D := (xs.drop (HT.sIx xs.length 0 lo)).take (HT.sIx xs.length xs.length hi - HT.sIx xs.length 0 lo)
theorem reps_cut {K : PySem.W.Frag} {F : Hp} {ds : List D} {xs : List V} (h : Reps K F ds xs) (lo hi : Option Int) : Reps K F (cutD ds lo hi) (cutV xs lo hi) := by
  unfold cutD cutV
  rw [h.len]
  exact (h.drop _).take _
def eSlT (fa : DE) (fl fh : DO) : DE := fun ρ Q E => fa ρ (fun d => fl ρ (fun lo => fh ρ (fun hi => match d with | .tup ds => Q (.tup (cutD ds lo hi)) | _ => False) E) E) E
theorem d_slT {lo hi : Option Expr} {p2 : Pos} {fl fh : DO} (ha : PD X z ma ea fa) (hl : POD X z lo fl) (hh : POD X z hi fh) : PD X z .d (.Subscript ea (.Slice lo hi none p2) pos) (eSlT fa fl fh) := fun W tk =>
  peW (pe_slice sl_tupA (ha W tk) (hl W tk) (hh W tk)) fun σ H R ⟨F0, H0, ρ, F, Q, E, rs, hf, hq, hx⟩ => ⟨F0, H0, ρ, F, _, E, rs, hf, (fun d v F1 H1 q1 e1 r1 => ⟨F0, H0, ρ, F1, _, E, rs.step e1, q1, (fun l F2 H2 q2 e2 => ⟨F0, H0, ρ, F2, _, E, (rs.step e1).step e2, q2, (fun u F3 H3 q3 e3 => by
    cases d <;> try exact False.elim q3
    rename_i ds
    obtain ⟨a, xs, rfl, t, r⟩ := rb_tup ((r1.b.up e2).up e3)
    have ee := (e1.trans e2).trans e3
    refine ⟨a, xs, rfl, (t.sub e3.fh).sq, fun c => ?_, fun c p np => ?_⟩
    · have : cutD ds l u = ds := by
        unfold cutD
        rw [r.len, c.1, c.2, List.drop_zero, Nat.sub_zero, ← r.len, List.take_length]
      have q3 : Q (.tup (cutD ds l u)) := q3
      rw [this] at q3
      exact hq _ _ _ _ q3 ee (resD <| rep_tup ⟨a, xs, rfl, t, r⟩)
    · have e4 := Ext.made (K := X.K) (z := z) e3.fh (o := .tup (cutV xs l u)) np
      exact hq _ _ _ _ q3 (ee.trans e4) (resD <| rep_tup ⟨p, _, rfl, .inl upd_same, (reps_cut r l u).up e4.ff⟩)), (hx.step e1).step e2⟩), hx.step e1⟩), hx⟩
def eSlL (fa : DE) (fl fh : DO) : DE := fun ρ Q E => fa ρ (fun d => fl ρ (fun lo => fh ρ (fun hi => match d with | .lst ds => Q (.lst (cutD ds lo hi)) | _ => False) E) E) E
theorem d_slL {lo hi : Option Expr} {p2 : Pos} {fl fh : DO} (ha : PD X z ma ea fa) (hl : POD X z lo fl) (hh : POD X z hi fh) : PD X z .n (.Subscript ea (.Slice lo hi none p2) pos) (eSlL fa fl fh) := fun W tk =>
  peW (pe_slice sl_list (ha W tk) (hl W tk) (hh W tk)) fun σ H R ⟨F0, H0, ρ, F, Q, E, rs, hf, hq, hx⟩ => ⟨F0, H0, ρ, F, _, E, rs, hf, (fun d v F1 H1 q1 e1 r1 => ⟨F0, H0, ρ, F1, _, E, rs.step e1, q1, (fun l F2 H2 q2 e2 => ⟨F0, H0, ρ, F2, _, E, (rs.step e1).step e2, q2, (fun u F3 H3 q3 e3 => by
    cases d <;> try exact False.elim q3
    rename_i ds
    obtain ⟨a, xs, rfl, t, r⟩ := rb_lst e3.fh ((r1.b.up e2).up e3)
    have ee := (e1.trans e2).trans e3
    refine ⟨a, xs, rfl, SqL.of t, fun p np => ?_⟩
    have n := newRow (rs.step ee).rf np
    exact hq _ _ _ _ q3 (ee.trans (Ext.own0 e3.fh np n)) ⟨p, _, _, rfl, rfl, n, ee.free np, sub_free e3.fh np, upd_same, reps_cut r l u⟩), (hx.step e1).step e2⟩), hx.step e1⟩), hx⟩
def eRevL (fa : DE) : DE := fun ρ Q E => fa ρ (fun d => match d with | .lst ds => Q (.lst ds.reverse) | _ => False) E
theorem d_revL {k : Nat} {p1 p2 p3 : Pos} (ha : PD X z ma ea fa) : PD X z .n (.Subscript ea (.Slice none none (some (.UnaryOp .USub (.Constant (.int 1) k p1) p2)) p3) pos) (eRevL fa) := fun W tk =>
  peW (pe_revL (ha W tk)) fun σ H R ⟨F0, H0, ρ, F, Q, E, rs, hf, hq, hx⟩ => ⟨F0, H0, ρ, F, _, E, rs, hf, (fun d v F1 H1 q1 e1 r1 => by
    cases d <;> try exact False.elim q1
    obtain ⟨a, xs, rfl, t, r⟩ := rb_lst e1.fh r1.b
    refine ⟨a, xs, rfl, SqL.of t, fun p np => ?_⟩
    have n := newRow (rs.step e1).rf np
    exact hq _ _ _ _ q1 (e1.trans (Ext.own0 e1.fh np n)) ⟨p, _, _, rfl, rfl, n, e1.free np, sub_free e1.fh np, upd_same, r.rev⟩), hx⟩
theorem a_star {p : Pos} (ha : PD X z ma ea fa) (hs : PAD X z es fs) (he : starEach (.Starred ea p :: es) X.env = (true, eval ea X.env) :: starEach es X.env := by rfl) : PAD X z (.Starred ea p :: es) (aStar fa fs) := fun W tk =>
  paW (_root_.StX.pa_star (ha W tk) (hs W tk) he) fun σ H R ⟨F0, H0, ρ, F, Q, E, rs, hf, hq, hx⟩ => ⟨F0, H0, ρ, F, _, E, rs, hf, (fun d v F1 H1 q1 e1 r1 => by
    cases d <;> try exact False.elim q1
    · obtain ⟨a, xs, rfl, t, r⟩ := rb_tup r1.b
      exact ⟨a, xs, rfl, .inl (t.sub e1.fh).sq, F0, H0, ρ, F1, _, E, rs.step e1, q1, (fun ds vs F2 H2 q2 e2 r2 => hq _ _ _ _ q2 (e1.trans e2) ((r.up e2.ff).app r2)), hx.step e1⟩
    · obtain ⟨a, xs, rfl, t, r⟩ := rb_lst e1.fh r1.b
      exact ⟨a, xs, rfl, .inr (SqL.of t), F0, H0, ρ, F1, _, E, rs.step e1, q1, (fun ds vs F2 H2 q2 e2 r2 => hq _ _ _ _ q2 (e1.trans e2) ((r.up e2.ff).app r2)), hx.step e1⟩), hx⟩
/-! ## in, two at once -/
def D.flat : D → Bool
  | .tup _ => false
  | .lst _ => false
  | _ => true
def dV : D → V
  | .non => .non
  | .bl b => .bl b
  | .int i => .int i
  | .str s => .str s
  | _ => .non
theorem rep_flat {K : PySem.W.Frag} {F : Hp} {d : D} {v : V} (h : Rep K F d v) (c : d.flat = true) : v = dV d ∧ flatV v = true := by
  cases d with
  | non => rw [Rep.non_iff.mp h]; exact ⟨rfl, rfl⟩
  | bl b => rw [Rep.bl_iff.mp h]; exact ⟨rfl, rfl⟩
  | int b => rw [Rep.int_iff.mp h]; exact ⟨rfl, rfl⟩
  | str b => rw [Rep.str_iff.mp h]; exact ⟨rfl, rfl⟩
  | tup b => cases c
  | lst b => cases c
theorem reps_flat {K : PySem.W.Frag} {F : Hp} : ∀ {ds : List D} {vs : List V}, Reps K F ds vs → ds.all D.flat = true → vs = ds.map dV ∧ vs.all flatV = true
  | [], vs, h, _ => by rw [Reps.nil_iff.mp h]; exact ⟨rfl, rfl⟩
  | d :: ds, vs, h, c => by
    obtain ⟨x, r, e, h1, h2⟩ := Reps.cons_iff.mp h
    rw [List.all_cons, Bool.and_eq_true] at c
    obtain ⟨e1, f1⟩ := rep_flat h1 c.1
    obtain ⟨e2, f2⟩ := reps_flat h2 c.2
    rw [e, e1, e2]
    refine ⟨rfl, ?_⟩
    rw [List.all_cons, ← e1, f1, ← e2, f2]
    rfl
def pInG (neg : Bool) : D → D → (D → Prop) → Prop := fun x y Q => match y with
  | .tup ds => (x.flat = true ∧ ds.all D.flat = true) ∧ Q (.bl (if neg = true then !inV (dV x) (ds.map dV) else inV (dV x) (ds.map dV)))
  | .lst ds => (x.flat = true ∧ ds.all D.flat = true) ∧ Q (.bl (if neg = true then !inV (dV x) (ds.map dV) else inV (dV x) (ds.map dV)))
  | _ => False
abbrev pIn := pInG false
abbrev pNotIn := pInG true
theorem rb_flat {K : PySem.W.Frag} {F H : Hp} {d : D} {v : V} (h : RB K z F H d v) (c : d.flat = true) : v = dV d ∧ flatV v = true := by
  rcases h with h | ⟨_, _, _, e, _⟩
  · exact rep_flat h c
  · subst e; cases c
theorem opd_inG {K : PySem.W.Frag} {neg : Bool} : OpD K z .d (rIn K neg) (pInG neg) := fun F H x y v u Q R s rf hx hy q k => by
  cases y <;> try exact False.elim q
  · obtain ⟨a, xs, rfl, t, r⟩ := rb_tup hy
    obtain ⟨e1, f1⟩ := rb_flat hx q.1.1
    obtain ⟨e2, f2⟩ := reps_flat r q.1.2
    refine ⟨a, xs, rfl, .inr (t.sub s).sq, f1, f2, ?_⟩
    rw [e1, e2]
    exact k _ _ F H q.2 (Ext.refl s) (resD rep_bl)
  · obtain ⟨a, xs, rfl, t, r⟩ := rb_lst s hy
    obtain ⟨e1, f1⟩ := rb_flat hx q.1.1
    obtain ⟨e2, f2⟩ := reps_flat r q.1.2
    refine ⟨a, xs, rfl, .inl (SqL.of t), f1, f2, ?_⟩
    rw [e1, e2]
    exact k _ _ F H q.2 (Ext.refl s) (resD rep_bl)
theorem opd_in {K : PySem.W.Frag} : OpD K z .d (rIn K false) pIn := opd_inG
theorem opd_notin {K : PySem.W.Frag} : OpD K z .d (rIn K true) pNotIn := opd_inG
/-! ## max, min of two; sum, max, min of a list -/
def e2I (g : Int → Int → Int) (fa fb : DE) : DE := fun ρ Q E => fa ρ (fun x => fb ρ (fun y => match x, y with | .int i, .int j => Q (.int (g i j)) | _, _ => False) E) E
abbrev max2 (i j : Int) : Int := if j > i then j else i
abbrev min2 (i j : Int) : Int := if j < i then j else i
theorem call2I {x : Str} {id : String} {gg : Int → Int → Int} (h : CallR X (.builtin id) fun xs H Q => ∃ i j, xs = [V.int i, V.int j] ∧ Q (V.int (gg i j)) H) (hz : X.mg x = none) {p : Pos} (ha : PD X z ma ea fa) (hb : PD X z mb eb fb) (hg : Gl X x) (hbt : bootBuiltins x = some (.builtin id)) (hn : x ≠ "__name__") (hd : (x == ("__debug__" : Str)) = false)
    (hse : starEach [ea, eb] X.env = (false, eval ea X.env) :: starEach [eb] X.env) (hse2 : starEach [eb] X.env = (false, eval eb X.env) :: starEach [] X.env) (hpl : (backTo pos (starEach [eb] X.env)).any (·.1) = false) : PD X z .d (.Call (.Name x p) [ea, eb] [] pos) (e2I gg fa fb) := fun W tk =>
  peW (pe_callB h hg hz hbt (pa_cons (ha W tk) (pa_cons (hb W tk) pa_nil hse2) hse) hn hd hse hpl) fun σ H R ⟨F0, H0, ρ, F, Q, E, rs, hf, hq, hx⟩ => ⟨F0, H0, ρ, F, _, E, rs, hf, (fun d v F1 H1 q1 e1 r1 => ⟨F0, H0, ρ, F1, _, E, rs.step e1, q1, (fun d2 v2 F2 H2 q2 e2 r2 => by
    cases d <;> cases d2 <;> try exact False.elim q2
    rw [rb_int r1.b, rb_int r2.b]
    exact ⟨_, _, rfl, hq _ _ _ _ q2 (e1.trans e2) (resD rep_int)⟩), hx.step e1⟩), hx⟩
theorem d_max2 (hz : X.mg "max" = none) {p : Pos} (ha : PD X z ma ea fa) (hb : PD X z mb eb fb) (hc : X.calm = true := by rfl) (hg : Gl X "max" := by rfl) (hse : starEach [ea, eb] X.env = (false, eval ea X.env) :: starEach [eb] X.env := by rfl) (hse2 : starEach [eb] X.env = (false, eval eb X.env) :: starEach [] X.env := by rfl) (hpl : (backTo pos (starEach [eb] X.env)).any (·.1) = false := by rfl) :
    PD X z .d (.Call (.Name "max" p) [ea, eb] [] pos) (e2I max2 fa fb) := call2I (call_max2 hc) hz ha hb hg (by decide +kernel) (by decide) (by decide) hse hse2 hpl
theorem d_min2 (hz : X.mg "min" = none) {p : Pos} (ha : PD X z ma ea fa) (hb : PD X z mb eb fb) (hc : X.calm = true := by rfl) (hg : Gl X "min" := by rfl) (hse : starEach [ea, eb] X.env = (false, eval ea X.env) :: starEach [eb] X.env := by rfl) (hse2 : starEach [eb] X.env = (false, eval eb X.env) :: starEach [] X.env := by rfl) (hpl : (backTo pos (starEach [eb] X.env)).any (·.1) = false := by rfl) :
    PD X z .d (.Call (.Name "min" p) [ea, eb] [] pos) (e2I min2 fa fb) := call2I (call_min2 hc) hz ha hb hg (by decide +kernel) (by decide) (by decide) hse hse2 hpl
theorem reps_intsV {K : PySem.W.Frag} {F : Hp} : ∀ {ns : List Int} {vs : List V}, Reps K F (ns.map D.int) vs → vs = ns.map V.int
  | [], vs, h => Reps.nil_iff.mp h
  | n :: ns, vs, h => by
    obtain ⟨x, r, e, h1, h2⟩ := Reps.cons_iff.mp h
    rw [e, Rep.int_iff.mp h1, reps_intsV h2]
    rfl
def eSum (fa : DE) : DE := fun ρ Q E => fa ρ (fun d => match d with | .lst ds => ∃ ns : List Int, ds = ns.map D.int ∧ Q (.int ns.sum) | _ => False) E
theorem d_sum (hz : X.mg "sum" = none) {p : Pos} (ha : PD X z ma ea fa) (hc : X.calm = true := by rfl) (hg : Gl X "sum" := by rfl) (hse : starEach [ea] X.env = (false, eval ea X.env) :: starEach [] X.env := by rfl) : PD X z .d (.Call (.Name "sum" p) [ea] [] pos) (eSum fa) := fun W tk =>
  peW (pe_callB (cr_sum hc) hg hz (by decide +kernel) (pa_cons (ha W tk) pa_nil hse) (by decide) (by decide) hse (by rfl)) fun σ H R ⟨F0, H0, ρ, F, Q, E, rs, hf, hq, hx⟩ => ⟨F0, H0, ρ, F, _, E, rs, hf, (fun d v F1 H1 q1 e1 r1 => by
    cases d <;> try exact False.elim q1
    obtain ⟨ns, rfl, hQ⟩ := q1
    obtain ⟨a, xs, rfl, t, r⟩ := rb_lst e1.fh r1.b
    exact ⟨a, ns, rfl, by rw [← reps_intsV r]; exact SqL.of t, hq _ _ _ _ hQ e1 (resD rep_int)⟩), hx⟩
def eMaxL (fa : DE) : DE := fun ρ Q E => fa ρ (fun d => match d with | .lst ds => ∃ ns : List Int, ds = ns.map D.int ∧ 0 < ns.length ∧ ∀ m, m ∈ ns → (∀ y, y ∈ ns → y ≤ m) → Q (.int m) | _ => False) E
theorem d_max (hz : X.mg "max" = none) {p : Pos} (ha : PD X z ma ea fa) (hc : X.calm = true := by rfl) (hg : Gl X "max" := by rfl) (hse : starEach [ea] X.env = (false, eval ea X.env) :: starEach [] X.env := by rfl) : PD X z .d (.Call (.Name "max" p) [ea] [] pos) (eMaxL fa) := fun W tk =>
  peW (pe_callB (cr_max hc) hg hz (by decide +kernel) (pa_cons (ha W tk) pa_nil hse) (by decide) (by decide) hse (by rfl)) fun σ H R ⟨F0, H0, ρ, F, Q, E, rs, hf, hq, hx⟩ => ⟨F0, H0, ρ, F, _, E, rs, hf, (fun d v F1 H1 q1 e1 r1 => by
    cases d <;> try exact False.elim q1
    obtain ⟨ns, rfl, hl, hQ⟩ := q1
    obtain ⟨a, xs, rfl, t, r⟩ := rb_lst e1.fh r1.b
    exact ⟨a, ns, rfl, by rw [← reps_intsV r]; exact SqL.of t, hl, fun m h1 h2 => hq _ _ _ _ (hQ m h1 h2) e1 (resD rep_int)⟩), hx⟩
/-! ## reversed(range(..)) -/
def revD (lo : Int) (n : Nat) : List D := (List.range n).map fun (i : Nat) => D.int (lo + (i : Int) * (-1))
theorem itok_rev {K : PySem.W.Frag} {F : Hp} {lo : Int} {n : Nat} : ItOk K z F (Itc lo (-1) n) (revD lo n) := fun i F' H' s1 s2 _ => ⟨fun d hd => by
  have hl : (revD lo n).length = n := by simp [revD]
  have hi : i < n := by
    have := (List.getElem?_eq_some_iff.mp hd).1
    rwa [hl] at this
  refine ⟨hi, fun x H'' y => ?_⟩
  obtain ⟨rfl, rfl⟩ := y
  have : d = .int (lo + (i : Nat) * (-1)) := by
    simp [revD, hi] at hd
    rw [← hd]
    congr 1
    omega
  subst this
  exact ⟨F', Ext.refl s2, rep_int⟩, fun hl => by
    have h2 : (revD lo n).length = n := by simp [revD]
    rw [h2] at hl; exact hl⟩
def iRevR1 (fa : DE) : DI := fun ρ Q E => fa ρ (fun d => match d with | .int j => (-(2 ^ 62) ≤ j ∧ j < 2 ^ 62) ∧ Q (revD ((j.toNat : Nat) - 1) j.toNat) | _ => False) E
theorem i_revR1 {tg : Expr} {p p2 pos2 : Pos} (hm : X.mg "reversed" = none) (hm2 : X.mg "range" = none) (ha : PD X z ma ea fa) (hg : Gl X "reversed" := by rfl) (hg2 : Gl X "range" := by rfl) (hse : starEach [ea] X.env = (false, eval ea X.env) :: starEach [] X.env := by rfl)
    (hse2 : starEach [.Call (.Name "range" p2) [ea] [] pos2] X.env = (false, eval (.Call (.Name "range" p2) [ea] [] pos2) X.env) :: starEach [] X.env := by rfl) : PID X z tg (.Call (.Name "reversed" p) [.Call (.Name "range" p2) [ea] [] pos2] [] pos) (iRevR1 fa) := fun W tk =>
  piW (pi_revR hg hm (prg_1 hg2 hm2 (ha W tk) hse) hse2) fun σ H R ⟨F0, H0, ρ, F, Q, E, rs, hf, hq, hx⟩ => by
    refine ⟨F0, H0, ρ, F, _, E, rs, hf, (fun d v F1 H1 q1 e1 r1 => ?_), hx⟩
    cases d <;> try exact False.elim q1
    rename_i j
    refine ⟨j, rb_int r1.b, by omega, by omega, q1.1.1, q1.1.2, ?_⟩
    have e : (0 : Int) + (((j - 0).toNat : Nat) : Int) - 1 = (j.toNat : Nat) - 1 := by rw [Int.sub_zero]; omega
    rw [e, Int.sub_zero]
    exact hq _ _ F1 H1 q1.2 e1 itok_rev
theorem s_retN : PSD X z (.Return none pos) (fun pe ρ => pe.rt .non) := fun W tk => psW ps_retN fun Dn σ H ⟨F0, H0, ρ, F, pe, rs, hf, lk⟩ => lk.rt _ _ F H hf rs.ext rep_non
def sAugI (i : Nat) (g : Int → Int → Int) (fa : DE) : DS := fun pe ρ => match ρ[i]? with
  | some (.va (.int x)) => fa ρ (fun d => match d with | .int y => pe.nx (ρ.set i (.va (.int (g x y)))) | _ => False) (fun x => pe.ex x ρ)
  | _ => False
theorem aug_of {i : Nat} {x : Str} {op : Operator} {g : Int → Int → Int} {pos' : Pos} (hp : PIp X op (ipI g)) (nd : X.N.Nodup) (ha : PD X z ma ea fa) (hi : X.N[i]? = some x) (hl : Loc X.env.scope x) (hfn : X.fn x = true ∨ X.env.scope.names.lookup x = some .local) : PSD X z (.AugAssign (.Name x pos') op ea pos) (sAugI i g fa) := fun W tk =>
  psW (ps_aug nd hi hl (ha W tk) hp hfn) fun Dn σ H ⟨F0, H0, ρ, F, pe, rs, hf, lk⟩ => by
    unfold sAugI at hf
    cases e : ρ[i]? with
    | none => rw [e] at hf; cases hf
    | some s =>
      rw [e] at hf
      cases s <;> try exact False.elim hf
      rename_i d0
      cases d0 <;> try exact False.elim hf
      rename_i x0
      obtain ⟨o, q, v, rfl, r⟩ := rs.slot i _ e
      refine ⟨v, q, F0, H0, ρ, F, _, _, rs, hf, (fun d w F1 H1 q1 e1 r1 => ?_), lk.xw rs⟩
      cases d <;> try exact False.elim q1
      exact ⟨x0, _, Rep.int_iff.mp r, rb_int r1.b, lk.nx _ F1 _ H1 q1 ((rs.step e1).set i (s := .va (.int (g x0 _))) (o := some (.int (g x0 _))) ⟨_, rfl, rep_int⟩ rfl) e1.ff⟩
theorem s_augAdd {i : Nat} {x : Str} {pos' : Pos} (nd : X.N.Nodup) (ha : PD X z ma ea fa) (hi : X.N[i]? = some x := by rfl) (hl : Loc X.env.scope x := by first | exact Or.inl rfl | exact Or.inr rfl) (hfn : X.fn x = true ∨ X.env.scope.names.lookup x = some .local := by first | exact Or.inl rfl | exact Or.inr rfl) : PSD X z (.AugAssign (.Name x pos') .Add ea pos) (sAugI i (fun a b => a + b) fa) := aug_of ip_add nd ha hi hl hfn
theorem s_augSub {i : Nat} {x : Str} {pos' : Pos} (nd : X.N.Nodup) (ha : PD X z ma ea fa) (hi : X.N[i]? = some x := by rfl) (hl : Loc X.env.scope x := by first | exact Or.inl rfl | exact Or.inr rfl) (hfn : X.fn x = true ∨ X.env.scope.names.lookup x = some .local := by first | exact Or.inl rfl | exact Or.inr rfl) : PSD X z (.AugAssign (.Name x pos') .Sub ea pos) (sAugI i (fun a b => a - b) fa) := aug_of ip_sub nd ha hi hl hfn
/-- repeated lists -/
def pRepL : D → D → (D → Prop) → Prop := fun x y Q => match x, y with
  | .lst xs, .int k => (-(2 ^ 63) ≤ k ∧ k < 2 ^ 63 ∧ xs.length * k.toNat ≤ cap) ∧ Q (.lst (List.replicate k.toNat xs).flatten)
  | _, _ => False
theorem opd_repL {K : PySem.W.Frag} : OpD K z .n rRep pRepL := fun F H x y v u Q R s rf hx hy q k => by
  cases x <;> cases y <;> try exact False.elim q
  obtain ⟨a, xs, rfl, t, r⟩ := rb_lst s hx
  obtain ⟨⟨h1, h2, h3⟩, hQ⟩ := q
  refine ⟨a, _, xs, rfl, rb_int hy, t, h1, h2, by rw [← r.len]; exact cap_le h3, fun p np => ?_⟩
  have n := newRow rf np
  exact k _ _ F _ hQ (Ext.own0 s np n) ⟨p, _, _, rfl, rfl, n, np, sub_free s np, upd_same, r.rep _⟩
end
section
variable {P : Program} {w : World} {K : PySem.W.Frag} {mg : Str → Option Value} {base : Heap} {T : List Addr}
theorem DfG.hasD {x : Str} {st : Stmt} {ps N : List Str} {k : Nat} {c : Addr} {sp : SpD} {fb : DS} (d : DfG K mg x st ps c) (S : FnScope N ps (defScope st)) (len : ∀ ds Q E, sp ds Q E → ds.length = ps.length)
    (hb : ∀ (f : Addr) (A : Around) (outer : List Env) (s : Shared) (H : Hp) (E : XK), Room k (A.deeper (envOfC x (defScope st) s.heap.objs.size f (.ref c))) →
      PassesOwn (model P w) (A.deeper (envOfC x (defScope st) s.heap.objs.size f (.ref c))) (envOfC x (defScope st) s.heap.objs.size f (.ref c)) (cxOf (L2.CX P w) P w K mg base N x (defScope st) f (.ref c) A outer s H E).xe →
      PSsD (cxOf (L2.CX P w) P w K mg base N x (defScope st) f (.ref c) A outer s H E) (z0 T) (defBody st) fb)
    (hp : ∀ ds Q E, sp ds Q E → ∃ ρ0, startR N ds = ρ0 ∧ fb (pends Q E) ρ0) : HasD P w K mg base T (k + 1) x ps sp := by
  obtain ⟨f, fd, F, hc, m, b⟩ := d.ex
  obtain ⟨oc, od, dV, kV, doc, pm, an, cdv, ct, osl, rfl, lk, hcd, _, _⟩ := F.ex
  obtain rfl : cdv = .ref c := hc
  refine ⟨f, _, fn_of lk hcd S (fun vs H Q E ⟨ds, F, Q', ex, _, _, _, r, h, _⟩ => r.len.symm.trans (len ds Q' ex h)) fun A outer s H vs Q E hr h => ?_, m, F.kp, b⟩
  obtain ⟨ds, F, Q', ex, sb, nt, t, r, h, hq, hx⟩ := h
  refine ⟨_, hb f A outer s H E hr (passes_of (X := cxOf (L2.CX P w) P w K mg base N x (defScope st) f (.ref c) A outer s H E) (K := fun e s'' => L2.CX P w outer H s E e s'') rfl) _ (takes_of rfl rfl rfl rfl), ?_⟩
  refine ⟨F, H, startR N ds, F, _, rs_start sb nt t r, (let ⟨_, e, g⟩ := hp ds Q' ex h; e ▸ g), ?_⟩
  exact ⟨fun ρ F' σ H' p rs _ => hq _ _ F' H' p rs.ext rep_non, fun _ _ _ _ p => False.elim p, fun _ _ _ _ p => False.elim p, fun d v F' H' p e r => hq d v F' H' p e r, fun x ρ c dd F' σ H' p rs _ xr => hx x c dd F' H' p rs.ext xr⟩
end
end Act
namespace Act
variable [GT]
open PySem PySem.Spec PyProof.Rows L2
/-! ## all(test for x in a tuple of integers), any(..) -/
def Cint (pb : Int → Bool) : L2.St → Hp → List V → (V → Bool) → Prop := fun _ _ xs p => ∃ ns : List Int, xs = ns.map V.int ∧ p = fun v => match v with | .int i => pb i | _ => false
def eAllI (pb : Int → Bool) (fa : DE) : DE := fun ρ Q E => fa ρ (fun d => match d with | .tup ds => ∃ ns : List Int, ds = ns.map D.int ∧ Q (.bl (ns.all pb)) | _ => False) E
def eAnyI (pb : Int → Bool) (fa : DE) : DE := fun ρ Q E => fa ρ (fun d => match d with | .tup ds => ∃ ns : List Int, ds = ns.map D.int ∧ Q (.bl (ns.any pb)) | _ => False) E
section
variable {X : Cx} {z : Zx} {m ma mb mc : Mo} {e ea eb ec : Expr} {f fa fb fc : DE} {pos : Pos}
theorem all_map_int (pb : Int → Bool) (ns : List Int) : ((ns.map V.int).all fun v => match v with | .int i => pb i | _ => false) = ns.all pb := by
  rw [List.all_map]; rfl
theorem any_map_int (pb : Int → Bool) (ns : List Int) : ((ns.map V.int).any fun v => match v with | .int i => pb i | _ => false) = ns.any pb := by
  rw [List.any_map]; rfl
theorem d_allI {c P : Addr} {elt : Expr} {x : Str} {px p gpos : Pos} {scope : Scope} {k : Nat} {pb : Int → Bool} (hr : Room k X.A) (hm : X.mg "all" = none) (TB : GxR.TabB X.base X.mg c P) (hT : P ∈ z.T) (hgt : GT.q P = none) (hcode : X.env.code = .ref c) (S : GxR.GenS X.env scope x) (ha : PD X z ma ea fa) (hel : EltOk X scope x elt P (Cint pb))
    (hg : Gl X "all" := by rfl) (hs : ∀ v, genFold ea X.env v = pure v := by intro _; rfl)
    (he : starEach [.GeneratorExp elt [⟨.Name x px, ea, [], 0⟩] scope gpos] X.env = (false, eval (.GeneratorExp elt [⟨.Name x px, ea, [], 0⟩] scope gpos) X.env) :: starEach [] X.env := by rfl) :
    PD X z .d (.Call (.Name "all" p) [.GeneratorExp elt [⟨.Name x px, ea, [], 0⟩] scope gpos] [] pos) (eAllI pb fa) := fun W tk =>
  peW (pe_allT hr hm TB hcode S (ha W tk) hel hg (by decide +kernel) hs he) fun σ H R ⟨F0, H0, ρ, F, Q, E, rs, hf, hq, hx⟩ => ⟨F0, H0, ρ, F, _, E, rs, hf, (fun d v F1 H1 q1 e1 r1 => by
    cases d <;> try exact False.elim q1
    obtain ⟨ns, rfl, hQ⟩ := q1
    obtain ⟨a, xs, rfl, t, r⟩ := rb_tup r1.b
    have rs1 := rs.step e1
    refine ⟨a, ns.map V.int, _, rfl, by rw [← reps_intsV r]; exact (t.sub e1.fh).sq, ⟨ns, rfl, rfl⟩, (rs1.tabs _ hT).g hgt, fun H2 hTb => ?_⟩
    have l := le_tabbed hgt ((rs1.tabs _ hT).g hgt) hTb
    rw [all_map_int]
    exact hq _ _ F1 H2 hQ (e1.trans (le_ext rs1.nt rs1.sub l)) (resD rep_bl)), hx⟩
theorem d_anyI {c P : Addr} {elt : Expr} {x : Str} {px p gpos : Pos} {scope : Scope} {k : Nat} {pb : Int → Bool} (hr : Room k X.A) (hm : X.mg "any" = none) (TB : GxR.TabB X.base X.mg c P) (hT : P ∈ z.T) (hgt : GT.q P = none) (hcode : X.env.code = .ref c) (S : GxR.GenS X.env scope x) (ha : PD X z ma ea fa) (hel : EltOk X scope x elt P (Cint pb))
    (hg : Gl X "any" := by rfl) (hs : ∀ v, genFold ea X.env v = pure v := by intro _; rfl)
    (he : starEach [.GeneratorExp elt [⟨.Name x px, ea, [], 0⟩] scope gpos] X.env = (false, eval (.GeneratorExp elt [⟨.Name x px, ea, [], 0⟩] scope gpos) X.env) :: starEach [] X.env := by rfl) :
    PD X z .d (.Call (.Name "any" p) [.GeneratorExp elt [⟨.Name x px, ea, [], 0⟩] scope gpos] [] pos) (eAnyI pb fa) := fun W tk =>
  peW (pe_anyT hr hm TB hcode S (ha W tk) hel hg (by decide +kernel) hs he) fun σ H R ⟨F0, H0, ρ, F, Q, E, rs, hf, hq, hx⟩ => ⟨F0, H0, ρ, F, _, E, rs, hf, (fun d v F1 H1 q1 e1 r1 => by
    cases d <;> try exact False.elim q1
    obtain ⟨ns, rfl, hQ⟩ := q1
    obtain ⟨a, xs, rfl, t, r⟩ := rb_tup r1.b
    have rs1 := rs.step e1
    refine ⟨a, ns.map V.int, _, rfl, by rw [← reps_intsV r]; exact (t.sub e1.fh).sq, ⟨ns, rfl, rfl⟩, (rs1.tabs _ hT).g hgt, fun H2 hTb => ?_⟩
    have l := le_tabbed hgt ((rs1.tabs _ hT).g hgt) hTb
    rw [any_map_int]
    exact hq _ _ F1 H2 hQ (e1.trans (le_ext rs1.nt rs1.sub l)) (resD rep_bl)), hx⟩
/-- is_between(x, a, b) with constants: of the module, or written -/
theorem bet_glob {cenv : Env} {mm : Str → Option Value} {D : Nat} {x : Str} {i : Int} {t : Tok} {pos : Pos} (qf : Qf cenv) (M : L2.Mod X.K X.mg X.base) (hm : X.mg x = some (.int i t)) (hx : cenv.kindOf x = some .globalImplicit) (hd : (x == ("__debug__" : Str)) = false := by decide) : Qe X.prog X.w X.base cenv mm D (.Name x pos) (.int i) := qe_glob M qf hx hm ⟨_, rfl⟩ hd
end
theorem qe_gt {P : Program} {w : World} {base : Heap} {env : Env} {m : Str → Option Value} {D : Nat} {a b : Expr} {i j : Int} {pos : Pos} (ha : Qe P w base env m D a (.int i)) (hb : Qe P w base env m D b (.int j)) (hm : behindInMarks .Gt b = false := by first | exact nobehind _ (by decide) (by decide) | rfl) :
    Qe P w base env m D (.Compare a [.Gt] [b] pos) (.bl (decide (j < i))) := fun A E s hA hD hk hn =>
  wpAny_Compare1 (thn (ha A E s hA hD hk hn) fun u s1 ⟨ru, k1⟩ => thn (hb A E s1 hA hD (fun x o e => k1.keep x o (hk x o e)) (hn.keeps k1.keep)) fun v s2 ⟨rv, k2⟩ => by
    obtain ⟨t1, rfl⟩ := ru
    obtain ⟨t2, rfl⟩ := rv
    exact gt_int ⟨rfl, k1.trans' k2⟩) hm
theorem elt_gt {X : Cx} {scope : Scope} {x : Str} {P : Addr} {px pos cp : Pos} {j : Int} {jj : Nat} (hk : scope.kind = .function) (hx : scope.names.lookup x = some .local) (hd : (x == ("__debug__" : Str)) = false := by decide) :
    EltOk X scope x (.Compare (.Name x px) [.Gt] [.Constant (.int j) jj cp] pos) P (Cint fun i => decide (j < i)) := by
  intro pins σ H1 s1 I xs pb hC cenv A' E' v u s2 m2 hsc hgl _ hA hD hU hv ru hn hm hkeep kb
  obtain ⟨ns, rfl, rfl⟩ := hC
  obtain ⟨i, _, rfl⟩ := List.mem_map.mp hv
  have qf : Qf cenv := ⟨by rw [hsc]; exact hk, hgl⟩
  have z := qe_gt (P := X.prog) (w := X.w) (base := X.base) (D := X.A.depth + 1) (m := m2) (pos := pos) (qe_loc (pos := px) qf (by show cenv.scope.names.lookup x = _; rw [hsc]; exact hx) hm ru hd) (qe_int (i := j) (j := jj) (pos := cp))
  exact wpAny_mono (z A' E' s2 hA hD kb hn) (fun y s3 r => ⟨r.1, r.2⟩) fun _ _ e => e
theorem elt_lt {X : Cx} {scope : Scope} {x : Str} {P : Addr} {px pos cp : Pos} {j : Int} {jj : Nat} (hk : scope.kind = .function) (hx : scope.names.lookup x = some .local) (hd : (x == ("__debug__" : Str)) = false := by decide) :
    EltOk X scope x (.Compare (.Name x px) [.Lt] [.Constant (.int j) jj cp] pos) P (Cint fun i => decide (i < j)) := by
  intro pins σ H1 s1 I xs pb hC cenv A' E' v u s2 m2 hsc hgl _ hA hD hU hv ru hn hm hkeep kb
  obtain ⟨ns, rfl, rfl⟩ := hC
  obtain ⟨i, _, rfl⟩ := List.mem_map.mp hv
  have qf : Qf cenv := ⟨by rw [hsc]; exact hk, hgl⟩
  have z := qe_lt (P := X.prog) (w := X.w) (base := X.base) (D := X.A.depth + 1) (m := m2) (pos := pos) (qe_loc (pos := px) qf (by show cenv.scope.names.lookup x = _; rw [hsc]; exact hx) hm ru hd) (qe_int (i := j) (j := jj) (pos := cp))
  exact wpAny_mono (z A' E' s2 hA hD kb hn) (fun y s3 r => ⟨r.1, r.2⟩) fun _ _ e => e
end Act
namespace Act
variable [GT]
open PySem PySem.Spec PyProof.Rows L2
section
variable {X : Cx} {z : Zx} {m ma mb mc : Mo} {e ea eb ec : Expr} {f fa fb fc : DE} {pos : Pos}
theorem or_call {f : Value} {r r' : List V → Hp → VK → Prop} (h : CallR X f r) (h' : CallR X f r') : CallR X f (fun xs H Q => r xs H Q ∨ r' xs H Q) := fun pins s σ H xs us Q I rx q => Or.elim q (h pins s σ H xs us Q I rx) (h' pins s σ H xs us Q I rx)
def rSumT (K : PySem.W.Frag) : List V → Hp → VK → Prop := fun vs H Q => ∃ (a : Addr) (ns : List Int), vs = [V.ref a] ∧ SqT K H a (ns.map V.int) ∧ Q (.int ns.sum) H
theorem cr_sumT (hc : X.calm = true) : CallR X (.builtin "sum") (rSumT X.K) := by
  intro pins s σ H vs us Q I r h
  obtain ⟨a, ns, rfl, hs, q⟩ := h
  obtain ⟨its, rv, hl, _⟩ := I.tuple hs
  rw [Vals.ref1 r]
  have ht : s.heap.IsTuple a its.toArray := hl
  obtain ⟨xs, hx⟩ := rv.ints.allInts.items
  have hn : numsOf its.toArray.toList = ns := by rw [show its.toArray.toList = its from rfl, rv.ints.numsOf]
  rw [hx] at ht hn
  rw [nums_intItems] at hn
  refine PySem.W.ktm_sumG (I.ok.hd hc) ht fun h' tk t' hk => ?_
  have e : preSum (numAt xs) xs.size = ns.sum := by
    rw [preSum_eq, List.take_of_length_le (by simp), hn]
  rw [e]
  exact ⟨.int _, H, I.kept hk, ⟨_, rfl⟩, q⟩
def eSum2 (fa : DE) : DE := fun ρ Q E => fa ρ (fun d => match d with | .lst ds => ∃ ns : List Int, ds = ns.map D.int ∧ Q (.int ns.sum) | .tup ds => ∃ ns : List Int, ds = ns.map D.int ∧ Q (.int ns.sum) | _ => False) E
theorem d_sumA (hz : X.mg "sum" = none) {p : Pos} (ha : PD X z ma ea fa) (hc : X.calm = true := by rfl) (hg : Gl X "sum" := by rfl) (hse : starEach [ea] X.env = (false, eval ea X.env) :: starEach [] X.env := by rfl) : PD X z .d (.Call (.Name "sum" p) [ea] [] pos) (eSum2 fa) := fun W tk =>
  peW (pe_callB (or_call (cr_sum hc) (cr_sumT hc)) hg hz (by decide +kernel) (pa_cons (ha W tk) pa_nil hse) (by decide) (by decide) hse (by rfl)) fun σ H R ⟨F0, H0, ρ, F, Q, E, rs, hf, hq, hx⟩ => ⟨F0, H0, ρ, F, _, E, rs, hf, (fun d v F1 H1 q1 e1 r1 => by
    cases d <;> try exact False.elim q1
    · obtain ⟨ns, rfl, hQ⟩ := q1
      obtain ⟨a, xs, rfl, t, r⟩ := rb_tup r1.b
      exact .inr ⟨a, ns, rfl, by rw [← reps_intsV r]; exact (t.sub e1.fh).sq, hq _ _ _ _ hQ e1 (resD rep_int)⟩
    · obtain ⟨ns, rfl, hQ⟩ := q1
      obtain ⟨a, xs, rfl, t, r⟩ := rb_lst e1.fh r1.b
      exact .inl ⟨a, ns, rfl, by rw [← reps_intsV r]; exact SqL.of t, hq _ _ _ _ hQ e1 (resD rep_int)⟩), hx⟩
/-! ## enumerate, zip -/
def enumD : Nat → List D → List D
  | _, [] => []
  | i, d :: ds => .tup [.int (i : Nat), d] :: enumD (i + 1) ds
theorem enumD_len : ∀ (i : Nat) (ds : List D), (enumD i ds).length = ds.length
  | _, [] => rfl
  | i, _ :: ds => congrArg Nat.succ (enumD_len (i + 1) ds)
theorem enumD_at : ∀ (k : Nat) (ds : List D) (i : Nat), (enumD k ds)[i]? = ds[i]?.map fun d => .tup [.int ((k + i : Nat) : Nat), d]
  | _, [], i => by simp [enumD]
  | k, d :: ds, 0 => by simp [enumD]
  | k, d :: ds, i + 1 => by
    have := enumD_at (k + 1) ds i
    simp only [enumD, List.getElem?_cons_succ]
    rw [this, show k + 1 + i = k + (i + 1) by omega]
def iEnu (fa : DE) : DI := fun ρ Q E => fa ρ (fun d => match d with | .lst ds => Q (enumD 0 ds) | _ => False) E
theorem i_enum {p tpos : Pos} {elts : List Expr} {kk : Nat} (hm : X.mg "enumerate" = none) (ha : PD X z .d ea fa) (hg : Gl X "enumerate" := by rfl) (hse : starEach [ea] X.env = (false, eval ea X.env) :: starEach [] X.env := by rfl) : PID X z (.Tuple elts kk tpos) (.Call (.Name "enumerate" p) [ea] [] pos) (iEnu fa) := fun W tk =>
  piW (pi_enum hg hm (pa_cons (ha W tk) pa_nil hse) hse) fun σ H R ⟨F0, H0, ρ, F, Q, E, rs, hf, hq, hx⟩ => ⟨F0, H0, ρ, F, _, E, rs, hf, (fun d v F1 H1 q1 e1 r1 => by
    cases d <;> try exact False.elim q1
    rename_i ds
    obtain ⟨a, xs, rfl, t, r⟩ := Rep.lst_iff.mp r1
    refine ⟨a, xs, rfl, SqL.of (e1.fh _ _ t), hq (enumD 0 ds) _ F1 H1 q1 e1 fun i F' H' s1 s2 rf => ⟨fun d hd => ?_, fun hl => ⟨xs, SqL.of (s2 _ _ (s1 _ _ t)), by rw [enumD_len] at hl; rw [← r.len]; exact hl⟩⟩⟩
    rw [enumD_at] at hd
    cases ed : ds[i]? with
    | none => rw [ed] at hd; cases hd
    | some c =>
      rw [ed] at hd
      cases hd
      obtain ⟨v, hv, rv⟩ := r.at ed
      refine ⟨⟨xs, v, SqL.of (s2 _ _ (s1 _ _ t)), hv⟩, fun x H'' y => ?_⟩
      obtain ⟨Tn, w, rfl, nT, rfl, y⟩ := y
      have := (y xs (SqL.of (s2 _ _ (s1 _ _ t)))).symm.trans hv
      cases this
      have e2 := Ext.made (K := X.K) (z := z) s2 (o := .tup [.int (i : Nat), v]) nT
      exact ⟨_, e2, rep_tup ⟨Tn, _, rfl, .inl upd_same, .cons (by rw [Nat.zero_add]; exact rep_int) (.cons ((rv.up s1).up e2.ff) .nil)⟩⟩), hx⟩
def zipD : List D → List D → List D
  | d :: ds, e :: es => .tup [d, e] :: zipD ds es
  | _, _ => []
theorem zipD_len : ∀ (ds es : List D), (zipD ds es).length = min ds.length es.length
  | [], es => by simp [zipD]
  | d :: ds, [] => by simp [zipD]
  | d :: ds, e :: es => by simp only [zipD, List.length_cons, zipD_len ds es]; omega
theorem zipD_at : ∀ (ds es : List D) (i : Nat) (c : D), (zipD ds es)[i]? = some c → ∃ d e, ds[i]? = some d ∧ es[i]? = some e ∧ c = .tup [d, e]
  | [], es, i, c, h => by simp [zipD] at h
  | d :: ds, [], i, c, h => by simp [zipD] at h
  | d :: ds, e :: es, 0, c, h => by
    simp [zipD] at h
    exact ⟨d, e, rfl, rfl, h.symm⟩
  | d :: ds, e :: es, i + 1, c, h => zipD_at ds es i c (by simpa [zipD] using h)
def iZip' (fa fb : DE) : DI := fun ρ Q E => fa ρ (fun d => fb ρ (fun d' => match d, d' with | .lst ds, .lst es => Q (zipD ds es) | .tup ds, .tup es => Q (zipD ds es) | _, _ => False) E) E
theorem i_zip {p tpos : Pos} {elts : List Expr} {kk : Nat} (hm : X.mg "zip" = none) (ha : PD X z .d ea fa) (hb : PD X z .d eb fb) (hg : Gl X "zip" := by rfl) (hse : starEach [ea, eb] X.env = (false, eval ea X.env) :: starEach [eb] X.env := by rfl) (hse2 : starEach [eb] X.env = (false, eval eb X.env) :: starEach [] X.env := by rfl)
    (hpl : (backTo pos (starEach [eb] X.env)).any (·.1) = false := by rfl) : PID X z (.Tuple elts kk tpos) (.Call (.Name "zip" p) [ea, eb] [] pos) (iZip' fa fb) := fun W tk =>
  piW (_root_.RZ.pi_zipA hg hm (pa_cons (ha W tk) (pa_cons (hb W tk) pa_nil hse2) hse) hse hpl) fun σ H R ⟨F0, H0, ρ, F, Q, E, rs, hf, hq, hx⟩ => ⟨F0, H0, ρ, F, _, E, rs, hf, (fun d v F1 H1 q1 e1 r1 => ⟨F0, H0, ρ, F1, _, E, rs.step e1, q1, (fun d' v' F2 H2 q2 e2 r2 => by
    have r1' := Rep.up e2.ff r1
    cases d <;> cases d' <;> try exact False.elim q2
    · rename_i ds es
      obtain ⟨a, xs, rfl, t, r⟩ := Rep.tup_iff.mp r1'
      obtain ⟨b, ys, rfl, t', r'⟩ := Rep.tup_iff.mp r2
      refine ⟨a, b, xs, ys, rfl, .inr ⟨(t.sub e2.fh).sq, (t'.sub e2.fh).sq, hq (zipD ds es) _ F2 H2 q2 (e1.trans e2) fun i F' H' s1 s2 rf => ⟨fun d hd => ?_, fun hl => ⟨xs, ys, ((t.sub s1).sub s2).sq, ((t'.sub s1).sub s2).sq, by rw [zipD_len, r.len, r'.len] at hl; omega⟩⟩⟩⟩
      obtain ⟨d1, d2, h1, h2, rfl⟩ := zipD_at _ _ _ _ hd
      obtain ⟨v, hv, rv⟩ := r.at h1
      obtain ⟨u, hu, ru⟩ := r'.at h2
      refine ⟨⟨xs, ys, v, u, ((t.sub s1).sub s2).sq, ((t'.sub s1).sub s2).sq, hv, hu⟩, fun x H'' y => ?_⟩
      obtain ⟨Tn, w1, w2, rfl, nT, rfl, y1, y2⟩ := y
      have e3 := (y1 xs ((t.sub s1).sub s2).sq).symm.trans hv
      have e4 := (y2 ys ((t'.sub s1).sub s2).sq).symm.trans hu
      cases e3
      cases e4
      have e2 := Ext.made (K := X.K) (z := z) s2 (o := .tup [v, u]) nT
      exact ⟨_, e2, rep_tup ⟨Tn, _, rfl, .inl upd_same, .cons ((rv.up s1).up e2.ff) (.cons ((ru.up s1).up e2.ff) .nil)⟩⟩
    · rename_i ds es
      obtain ⟨a, xs, rfl, t, r⟩ := Rep.lst_iff.mp r1'
      obtain ⟨b, ys, rfl, t', r'⟩ := Rep.lst_iff.mp r2
      refine ⟨a, b, xs, ys, rfl, .inl ⟨SqL.of (e2.fh _ _ t), SqL.of (e2.fh _ _ t'), hq (zipD ds es) _ F2 H2 q2 (e1.trans e2) fun i F' H' s1 s2 rf => ⟨fun d hd => ?_, fun hl => ⟨xs, ys, SqL.of (s2 _ _ (s1 _ _ t)), SqL.of (s2 _ _ (s1 _ _ t')), by rw [zipD_len, r.len, r'.len] at hl; omega⟩⟩⟩⟩
      obtain ⟨d1, d2, h1, h2, rfl⟩ := zipD_at _ _ _ _ hd
      obtain ⟨v, hv, rv⟩ := r.at h1
      obtain ⟨u, hu, ru⟩ := r'.at h2
      refine ⟨⟨xs, ys, v, u, SqL.of (s2 _ _ (s1 _ _ t)), SqL.of (s2 _ _ (s1 _ _ t')), hv, hu⟩, fun x H'' y => ?_⟩
      obtain ⟨Tn, w1, w2, rfl, nT, rfl, y1, y2⟩ := y
      have e3 := (y1 xs (SqL.of (s2 _ _ (s1 _ _ t)))).symm.trans hv
      have e4 := (y2 ys (SqL.of (s2 _ _ (s1 _ _ t')))).symm.trans hu
      cases e3
      cases e4
      have e2 := Ext.made (K := X.K) (z := z) s2 (o := .tup [v, u]) nT
      exact ⟨_, e2, rep_tup ⟨Tn, _, rfl, .inl upd_same, .cons ((rv.up s1).up e2.ff) (.cons ((ru.up s1).up e2.ff) .nil)⟩⟩), hx.step e1⟩), hx⟩
/-! ## isinstance of two classes -/
theorem ktA {K : PySem.W.Frag} {k T U : String} (hT : kitB k T = some (isKT k T)) (hU : kitB k U = some (isKT k U)) : PySem.W.kitAny K (.type k) [.type T, .type U] = some (isKT k T || isKT k U) := by
  have h1 := kit_ty (K := K) hT
  have h2 := kit_ty (K := K) hU
  unfold PySem.W.kitAny
  cases c : isKT k T with
  | true => simp_all [PySem.W.kitAny]
  | false =>
    cases c2 : isKT k U with
    | true => simp_all [PySem.W.kitAny]
    | false => simp_all [PySem.W.kitAny]
theorem d_isi2 {T U : String} {p p2 p3 p4 : Pos} {n : Nat} (z1 : X.mg "isinstance" = none) (z2 : X.mg (Str.ofString T) = none) (z3 : X.mg (Str.ofString U) = none) (ha : PD X z ma ea fa) (hT : ∀ k ∈ tyKinds, kitB k T = some (isKT k T) := by decide +kernel) (hU : ∀ k ∈ tyKinds, kitB k U = some (isKT k U) := by decide +kernel) (hg : Gl X "isinstance" := by rfl) (hg2 : Gl X (Str.ofString T) := by rfl) (hg3 : Gl X (Str.ofString U) := by rfl)
    (hb : bootBuiltins (Str.ofString T) = some (.type T) := by decide +kernel) (hb3 : bootBuiltins (Str.ofString U) = some (.type U) := by decide +kernel) (hse : starEach [ea, .Tuple [.Name (Str.ofString T) p2, .Name (Str.ofString U) p3] n p4] X.env = (false, eval ea X.env) :: starEach [.Tuple [.Name (Str.ofString T) p2, .Name (Str.ofString U) p3] n p4] X.env := by rfl)
    (hse2 : starEach [.Tuple [.Name (Str.ofString T) p2, .Name (Str.ofString U) p3] n p4] X.env = (false, eval (.Tuple [.Name (Str.ofString T) p2, .Name (Str.ofString U) p3] n p4) X.env) :: starEach [] X.env := by rfl)
    (hse3 : starEach [.Name (Str.ofString T) p2, .Name (Str.ofString U) p3] X.env = (false, eval (.Name (Str.ofString T) p2) X.env) :: starEach [.Name (Str.ofString U) p3] X.env := by rfl) (hse4 : starEach [.Name (Str.ofString U) p3] X.env = (false, eval (.Name (Str.ofString U) p3) X.env) :: starEach [] X.env := by rfl)
    (hpl : (backTo pos (starEach [.Tuple [.Name (Str.ofString T) p2, .Name (Str.ofString U) p3] n p4] X.env)).any (·.1) = false := by rfl) (hn : Str.ofString T ≠ "__name__" := by decide) (hd : (Str.ofString T == ("__debug__" : Str)) = false := by decide) (hn3 : Str.ofString U ≠ "__name__" := by decide) (hd3 : (Str.ofString U == ("__debug__" : Str)) = false := by decide) :
    PD X z .d (.Call (.Name "isinstance" p) [ea, .Tuple [.Name (Str.ofString T) p2, .Name (Str.ofString U) p3] n p4] [] pos) (eIsI2 T U fa) := fun W tk =>
  peW (pe_callB call_isiT hg z1 (by decide +kernel) (pa_cons (ha W tk) (pa_cons (pe_tup (pa_cons (pe_bltn (v := .ty T) (u := .type T) hg2 z2 hb rfl hn hd) (pa_cons (pe_bltn (v := .ty U) (u := .type U) hg3 z3 hb3 rfl hn3 hd3) pa_nil hse4) hse3)) pa_nil hse2) hse) (by decide) (by decide) hse hpl) fun σ H R ⟨F0, H0, ρ, F, Q, E, rs, hf, hq, hx⟩ => ⟨F0, H0, ρ, F, _, E, rs, hf, (fun d v F1 H1 q1 e1 r1 => ⟨by show 2 ≤ sizeLine; decide, fun p np => by
    have rs1 := rs.step e1
    have nr := newRow rs1.rf np
    have e2 : Ext X.K z F1 H1 F1 (upd H1 p (.tup [.ty T, .ty U])) := Ext.own0 e1.fh np nr
    exact ⟨v, p, _, _, [.type T, .type U], _, rfl, upd_same, .cons (.ty T) (.cons (.ty U) .nil), rb_ty e2.fh (r1.b.up e2), ktA (hT _ (ty_mem d)) (hU _ (ty_mem d)), hq _ _ _ _ q1 (e1.trans e2) (resD rep_bl)⟩⟩), hx⟩
end
end Act
namespace Act
variable [GT]
open PySem PySem.Spec PyProof.Rows L2
/-! ## enumerate over a tuple -/
theorem meets_enumT (l : Addr) (items : Array Value) (n : Nat) (dx : Option Addr) (sv : Array (Option Value)) :
    Meets (Builtin.«enumerate.__new__» ⟨[.type "enumerate", .ref l], []⟩) (fun _ R s => s.heap.get? l = some { cls := .type "tuple", dict := dx, data := .seq items n, slots := sv } ∧
      R (.ok (.ret (.ref (s.heap.push { cls := .type "tuple_iterator", data := .fields #[.ref l, .int 0 0] }).objs.size)))
        { s with heap := (s.heap.push { cls := .type "tuple_iterator", data := .fields #[.ref l, .int 0 0] }).push { cls := .type "enumerate", data := .fields #[.none, .bool false, .ref s.heap.objs.size, rawInt 0, .none, .none] } }) :=
  .of_wp fun prog w A R s h => by
    obtain ⟨hp, g, d, tk, os⟩ := s; obtain ⟨hl, h⟩ := h
    have hsub := sub_enumerate
    have hL : Heap.IsTuple (Shared.heap ⟨hp, g, d, tk, os⟩) l items := ⟨_, hl, rfl, n, rfl⟩
    wp_walk using AutoSeq1.wpAny_loadPart' hl
    refine wpAny_stack_any fun st => wpAny_pure ?_
    split
    · rename_i c _ _ _ _ _
      cases (c == Value.type "enumerate")
      · wp_walk using AutoSeq1.wpAny_loadPart' hl, wpAny_pyIter_tuple hL
        exact ⟨_, rfl, h⟩
      · wp_walk using AutoSeq1.wpAny_loadPart' hl, wpAny_pyIter_tuple hL
        exact ⟨_, rfl, h⟩
    · wp_walk using AutoSeq1.wpAny_loadPart' hl, wpAny_pyIter_tuple hL
      exact ⟨_, rfl, h⟩
theorem call_enumT {prog : Program} {w : World} {A : Around} {E : Value → Shared → Prop} {s : Shared} {l : Addr} {items : Array Value} {Q : Value → Shared → Prop} (hL : s.heap.IsTuple l items)
    (h : ∀ h', IsEnum h' (s.heap.objs.size + 1) s.heap.objs.size 0 .none → h'.IsTupleIter s.heap.objs.size l 0 → h'.objs.size = s.heap.objs.size + 2 →
      (∀ b o, s.heap.get? b = some o → h'.get? b = some o) → Q (.ref (s.heap.objs.size + 1)) { s with heap := h' }) :
    wpAny (model prog w) A (call (.type "enumerate") [.ref l]) Q E s := by
  obtain ⟨⟨c, dct, dt, sl⟩, hl, hc, n, hd⟩ := hL
  replace hc : c = .type "tuple" := hc
  replace hd : dt = .seq items n := hd
  subst hc hd
  refine callType_new F.called_enumerate (by decide) (F.typeCall_enumerate_1 _) (F.newCall_enumerate_1 _) (fun obj => F.args_object_init_2 obj _) F.entry_enumerate_new
    (meets_enumT l items n dct sl) ⟨hl, ?_⟩
  have hz : (s.heap.push { cls := .type "tuple_iterator", data := .fields #[.ref l, .int 0 0] }).objs.size = s.heap.objs.size + 1 := Heap.size_push ..
  show _ ∧ _
  rw [hz]
  have he : IsEnum ((s.heap.push { cls := .type "tuple_iterator", data := .fields #[.ref l, .int 0 0] }).push
      { cls := .type "enumerate", data := .fields #[.none, .bool false, .ref s.heap.objs.size, rawInt 0, .none, .none] }) (s.heap.objs.size + 1) s.heap.objs.size 0 .none := by
    have := Heap.get?_push_size (s.heap.push { cls := .type "tuple_iterator", data := .fields #[.ref l, .int 0 0] })
      (o := { cls := .type "enumerate", data := .fields #[.none, .bool false, .ref s.heap.objs.size, rawInt 0, .none, .none] }) rfl
    rw [hz] at this; exact this
  exact ⟨⟨_, he, rfl⟩, h _ he ⟨_, Heap.get?_push_of_some _ (Heap.get?_push_size _ rfl), rfl, rfl⟩ (by rw [Heap.size_push, hz]) fun b o x => Heap.get?_push_of_some _ (Heap.get?_push_of_some _ x)⟩
def IteT (K : PySem.W.Frag) (a : Addr) : It :=
  ⟨fun i H => ∃ (xs : List V) (x : V), SqT K H a xs ∧ xs[i]? = some x, fun i H v H' => ∃ T x, v = .ref T ∧ H T = none ∧ H' = upd H T (.tup [.int (i : Nat), x]) ∧ ∀ xs, SqT K H a xs → xs[i]? = some x, fun i H => ∃ xs : List V, SqT K H a xs ∧ xs.length ≤ i⟩
theorem turn_enumT {P : Program} {w : World} {K : PySem.W.Frag} {elts : List Expr} {kk : Nat} {tpos : Pos} (a e it : Addr) :
    Turn P w K (.Tuple elts kk tpos) (IteT K a) [e, it] e (fun i h => (∃ old, IsEnum h e it ((i : Nat) : Int) old) ∧ h.IsTupleIter it a i ∧ e ≠ it) where
  mem := by simp
  obj := fun i h st b hb => by
    obtain ⟨⟨old, he⟩, ⟨o, ho, hc, hd⟩, _⟩ := st
    have e' : b = e ∨ b = it := by simpa using hb
    rcases e' with z | z
    · rw [z]; exact ⟨_, he, fun v q => nomatch q⟩
    · rw [z]; exact ⟨o, ho, fun v q => by rw [hd] at q; cases q⟩
  keep := fun i h h' st k => let ⟨⟨old, he⟩, hi, hne⟩ := st; ⟨⟨old, k e (by simp) _ he⟩, hi.at fun o q => k it (by simp) o q, hne⟩
  item := by
    intro X hP hw hK hc i pins s σ H E I hf st hg
    subst hP hw hK
    obtain ⟨⟨old, he⟩, hit, hne⟩ := st
    obtain ⟨xs, x, hq, hx⟩ := hg
    obtain ⟨its, rv, p, hz⟩ := I.tuple hq
    have pT : s.heap.IsTuple a its.toArray := p
    obtain ⟨u, hu, ru⟩ := rv.get hx
    have hel : e < s.heap.objs.size := Heap.lt_size he
    have hil : it < s.heap.objs.size := by obtain ⟨_, q, _⟩ := hit; exact Heap.lt_size q
    have hae : a ≠ e := fun z => by
      obtain ⟨o, ho, hc, _⟩ := pT
      rw [z, he] at ho
      cases ho
      exact absurd (show (Value.type "enumerate") = Value.type "tuple" from hc) (by decide)
    have hai : a ≠ it := fun z => by
      obtain ⟨o, ho, hc, _⟩ := pT
      obtain ⟨o2, ho2, hc2, _⟩ := hit
      rw [z, ho2] at ho
      cases ho
      rw [hc] at hc2
      exact absurd hc2 (by decide)
    have hsz : its.toArray.size = its.length := List.size_toArray
    have hlt : i < its.toArray.size := by rw [hsz]; exact (List.getElem?_eq_some_iff.mp hu).1
    refine wpAny_pyNext_enum_itemC (Draws.tuple (prog := X.prog) (w := X.w) (A := X.A.in1) (I.ok.hd hc) it a hai its.toArray) he ⟨hit, pT⟩ hlt hne (by simp [hne, Ne.symm hae]) fun u' h' tk hu' ho hst' hT hsz' hk => ?_
    have eu : u' = u := by
      have : its[i]? = some u' := by simpa using hu'
      rw [hu] at this
      exact (Option.some.inj this).symm
    subst eu
    refine ⟨_, rfl, wpAny_letOwnedTupleGo_enum (s := { s with heap := h', toks := tk + 1 }) ho fun h'' he' sb => ?_⟩
    have hT2 : h''.get? s.heap.objs.size = some { cls := .type "tuple", data := .seq #[.int i tk, u'] } := (sb.2 _ (Nat.ne_of_gt hel)).trans hT
    have new : ObjOk X.prog X.w (upd H s.heap.objs.size (.tup [.int (i : Nat), x])) h'' s.heap.objs.size (.tup [.int (i : Nat), x]) :=
      ⟨by show 2 ≤ sizeLine; decide, [.int i tk, u'], .cons ⟨_, rfl⟩ (.cons ru .nil), ⟨_, hT2, rfl, _, rfl⟩⟩
    have I1 : Inv X pins σ (upd H s.heap.objs.size (.tup [.int (i : Nat), x])) { s with heap := h'', toks := tk + 1 } :=
      I.turnedNew (ch := [e, it]) (fun b ob hb q => (sb.2 b (fun z => hb (by simp [z]))).trans (hk b ob (fun z => hb (by simp [z])) (fun z => hb (by simp [z])) q)) hf (Nat.le_refl _) new
    refine ⟨.ref s.heap.objs.size, _, I1, rfl, ⟨_, x, rfl, I.hok.fresh (Nat.le_refl _), rfl, fun ys hy => ?_⟩, ⟨⟨u', ?_⟩, hst'.1.at fun o q => (sb.2 it (Ne.symm hne)).trans q, hne⟩, fun b hb => ?_⟩
    · rw [I.tuple_inj hy hq]; exact hx
    · have e1 : ((i + 1 : Nat) : Int) = (i : Int) + 1 := by omega
      rw [e1]; exact he'
    · have hb' : b < s.heap.objs.size := by
        have e' : b = e ∨ b = it := by simpa using hb
        rcases e' with z | z
        · rw [z]; exact hel
        · rw [z]; exact hil
      rw [upd_ne (Nat.ne_of_lt hb')]
      exact (hf b hb).1
  done := by
    intro X hP hw hK hc i pins s σ H E I hf st hg
    subst hP hw hK
    obtain ⟨⟨old, he⟩, hit, hne⟩ := st
    obtain ⟨xs, hq, hx⟩ := hg
    obtain ⟨its, rv, p, hz⟩ := I.tuple hq
    have pT : s.heap.IsTuple a its.toArray := p
    have hai : a ≠ it := fun z => by
      obtain ⟨o, ho, hc, _⟩ := pT
      obtain ⟨o2, ho2, hc2, _⟩ := hit
      rw [z, ho2] at ho
      cases ho
      rw [hc] at hc2
      exact absurd hc2 (by decide)
    obtain ⟨f0, f1, f2, f3, f4, f5⟩ := hf it (by simp)
    have hl := rv.length
    have hTy : s.TypeIs (.ref e) "enumerate" := ⟨_, he, rfl⟩
    unfold pyNext
    refine wpAny_bind (wpAny_attempt (wpAny_callSpecial?_slot (name := Str.ofString "__next__") hTy F.slot_enumerate_next
      (wpAny_call_entry F.slot_enumerate_next hTy F.entry_enumerate_next ?_ (F.args_enumerate_next_1 _))))
    show wpAny _ _ (field (.ref e) 2 >>= _) _ _ _
    refine wpAny_bind (wpAny_field he rfl (x := .ref it) rfl ?_)
    refine wpAny_bind (wpAny_nextOf_tuple_end (I.ok.hd hc) hit pT (by simp; omega) fun h' x he' hx' => ?_)
    obtain ⟨o, ho, hc⟩ := hx'
    refine wpAny_bind (wpAny_isInstance (T := "StopIteration") (b := true) ⟨o, ho, hc⟩ isSubtype_stop ?_)
    exact wpAny_pure ⟨rfl, I.turned (t' := s.toks) (fun b o hb q => he' b o hb q) f0 f1 f3 f4 f5⟩
  self := fun A i s Q E st h => let ⟨⟨_, he⟩, _⟩ := st; wpAny_pyIter_enum he h
theorem pi_enumA {X : Cx} {e : Expr} {ta : TA} {p pos tpos : Pos} {elts : List Expr} {kk : Nat} (hg : Gl X "enumerate") (hm : X.mg "enumerate" = none) (ha : PA X [e] ta) (hs : starEach [e] X.env = [(false, eval e X.env)] := by rfl) :
    PI X (.Tuple elts kk tpos) (.Call (.Name "enumerate" p) [e] [] pos) (fun σ H R => ta σ H fun vs H1 => ∃ a xs, vs = [.ref a] ∧ ((SqL X.K H1 a xs ∧ R (Ite X.K a) H1) ∨ (SqT X.K H1 a xs ∧ R (IteT X.K a) H1))) := by
  refine ⟨fun pins s σ H R I h => ?_⟩
  refine Call_ (ld_blt I hg hm boot_enumerate (PyProof.Rows.callWith_type1 (thn (ha.run pos pins s σ H _ I h) fun us s1 ⟨vs, H1, I1, r1, q1⟩ => ?_) hs rfl))
  obtain ⟨a, xs, ex, q1⟩ := q1
  subst ex
  cases r1 with
  | cons r rr =>
    cases rr
    cases r
    have fp : ∀ b, b ∈ [s1.heap.objs.size + 1, s1.heap.objs.size] → FpOk X pins H1 b := fun b hb => by
      have e' : b = s1.heap.objs.size + 1 ∨ b = s1.heap.objs.size := by simpa using hb
      have hle : s1.heap.objs.size ≤ b := by
        rcases e' with z | z
        · rw [z]; exact Nat.le_add_right _ _
        · rw [z]; exact Nat.le_refl _
      exact I1.fpOk hle (I1.hok.fresh hle)
    rcases q1 with ⟨hq, q⟩ | ⟨hq, q⟩
    · obtain ⟨its, rv, p', hz⟩ := I1.list hq
      refine call_enumerate_list p'.isList fun h' he hit hsz hk => wpAny_pyIter_enum he ?_
      have I2 : Inv X pins σ H1 { s1 with heap := h' } := I1.kept (t' := s1.toks) hk
      exact ⟨s1.heap.objs.size + 1, [s1.heap.objs.size + 1, s1.heap.objs.size], _, _, H1, rfl, I2, turn_enum a (s1.heap.objs.size + 1) s1.heap.objs.size, ⟨⟨.none, he⟩, hit, Nat.succ_ne_self _⟩, fp, q⟩
    · obtain ⟨its, rv, p', hz⟩ := I1.tuple hq
      refine call_enumT (show s1.heap.IsTuple a its.toArray from p') fun h' he hit hsz hk => wpAny_pyIter_enum he ?_
      have I2 : Inv X pins σ H1 { s1 with heap := h' } := I1.kept (t' := s1.toks) hk
      exact ⟨s1.heap.objs.size + 1, [s1.heap.objs.size + 1, s1.heap.objs.size], _, _, H1, rfl, I2, turn_enumT a (s1.heap.objs.size + 1) s1.heap.objs.size, ⟨⟨.none, he⟩, hit, Nat.succ_ne_self _⟩, fp, q⟩
section
variable {X : Cx} {z : Zx} {m ma mb mc : Mo} {e ea eb ec : Expr} {f fa fb fc : DE} {pos : Pos}
def iEnuA (fa : DE) : DI := fun ρ Q E => fa ρ (fun d => match d with | .lst ds => Q (enumD 0 ds) | .tup ds => Q (enumD 0 ds) | _ => False) E
theorem i_enumA {p tpos : Pos} {elts : List Expr} {kk : Nat} (hm : X.mg "enumerate" = none) (ha : PD X z .d ea fa) (hg : Gl X "enumerate" := by rfl) (hse : starEach [ea] X.env = (false, eval ea X.env) :: starEach [] X.env := by rfl) : PID X z (.Tuple elts kk tpos) (.Call (.Name "enumerate" p) [ea] [] pos) (iEnuA fa) := fun W tk =>
  piW (pi_enumA hg hm (pa_cons (ha W tk) pa_nil hse) hse) fun σ H R ⟨F0, H0, ρ, F, Q, E, rs, hf, hq, hx⟩ => ⟨F0, H0, ρ, F, _, E, rs, hf, (fun d v F1 H1 q1 e1 r1 => by
    cases d <;> try exact False.elim q1
    · rename_i ds
      obtain ⟨a, xs, rfl, t, r⟩ := Rep.tup_iff.mp r1
      refine ⟨a, xs, rfl, .inr ⟨(t.sub e1.fh).sq, hq (enumD 0 ds) _ F1 H1 q1 e1 fun i F' H' s1 s2 rf => ⟨fun d hd => ?_, fun hl => ⟨xs, ((t.sub s1).sub s2).sq, by rw [enumD_len] at hl; rw [← r.len]; exact hl⟩⟩⟩⟩
      rw [enumD_at] at hd
      cases ed : ds[i]? with
      | none => rw [ed] at hd; cases hd
      | some c =>
        rw [ed] at hd
        cases hd
        obtain ⟨v, hv, rv⟩ := r.at ed
        refine ⟨⟨xs, v, ((t.sub s1).sub s2).sq, hv⟩, fun x H'' y => ?_⟩
        obtain ⟨Tn, w, rfl, nT, rfl, y⟩ := y
        have := (y xs ((t.sub s1).sub s2).sq).symm.trans hv
        cases this
        have e2 := Ext.made (K := X.K) (z := z) s2 (o := .tup [.int (i : Nat), v]) nT
        exact ⟨_, e2, rep_tup ⟨Tn, _, rfl, .inl upd_same, .cons (by rw [Nat.zero_add]; exact rep_int) (.cons ((rv.up s1).up e2.ff) .nil)⟩⟩
    · rename_i ds
      obtain ⟨a, xs, rfl, t, r⟩ := Rep.lst_iff.mp r1
      refine ⟨a, xs, rfl, .inl ⟨SqL.of (e1.fh _ _ t), hq (enumD 0 ds) _ F1 H1 q1 e1 fun i F' H' s1 s2 rf => ⟨fun d hd => ?_, fun hl => ⟨xs, SqL.of (s2 _ _ (s1 _ _ t)), by rw [enumD_len] at hl; rw [← r.len]; exact hl⟩⟩⟩⟩
      rw [enumD_at] at hd
      cases ed : ds[i]? with
      | none => rw [ed] at hd; cases hd
      | some c =>
        rw [ed] at hd
        cases hd
        obtain ⟨v, hv, rv⟩ := r.at ed
        refine ⟨⟨xs, v, SqL.of (s2 _ _ (s1 _ _ t)), hv⟩, fun x H'' y => ?_⟩
        obtain ⟨Tn, w, rfl, nT, rfl, y⟩ := y
        have := (y xs (SqL.of (s2 _ _ (s1 _ _ t)))).symm.trans hv
        cases this
        have e2 := Ext.made (K := X.K) (z := z) s2 (o := .tup [.int (i : Nat), v]) nT
        exact ⟨_, e2, rep_tup ⟨Tn, _, rfl, .inl upd_same, .cons (by rw [Nat.zero_add]; exact rep_int) (.cons ((rv.up s1).up e2.ff) .nil)⟩⟩), hx⟩
end
end Act
namespace Act
variable [GT]
open PySem PySem.Spec PyProof.Rows L2
open GxR (TabB TabG Tabbed GenS inv_tab sh_eta)
/-! ## all(test for x in range(n)) -/
theorem walks_mono {prog : Program} {w : World} {A : Around} {I : Addr} {fp wr : List Addr} {n : Nat} {P P' : Nat → Value → Prop} {St : Nat → Heap → Prop} (W : Walks prog w A I fp wr n P St) (hP : ∀ i v, i < n → P i v → P' i v) : Walks prog w A I fp wr n P' St where
  sub := W.sub
  frame := W.frame
  item := fun i s Q E hi st hQ => W.item i s Q E hi st fun v h' tk hv st' hk => hQ v h' tk (hP i v hi hv) st' hk
  done := W.done
  self := W.self
section
variable {X : Cx} {pins : List (Addr × Obj)} {σ : L2.St} {H : Hp} {s : Shared}
theorem gen_range {c P : Addr} {elt iter : Expr} {x : Str} {px gpos : Pos} {scope : Scope} {tr : L2.St → Hp → (Int → Int → Hp → Prop) → Prop} {k : Nat} {C : L2.St → Hp → List V → (V → Bool) → Prop} {Q' : Value → Shared → Prop} {R : List V → (V → Bool) → Hp → Prop}
    (hr : Room k X.A) (TB : TabB X.base X.mg c P) (hcode : X.env.code = .ref c) (S : GenS X.env scope x) (hi : PRg X iter tr) (hel : EltOk X scope x elt P C) (hs : ∀ v, genFold iter X.env v = pure v) (I : Inv X pins σ H s)
    (h : tr σ H fun lo hi H1 => lo = 0 ∧ 0 ≤ hi ∧ hi < 2 ^ 62 ∧ ∃ (pb : V → Bool), C σ H1 ((List.range hi.toNat).map fun (i : Nat) => V.int (i : Int)) pb ∧ TabG H1 P ∧ R ((List.range hi.toNat).map fun (i : Nat) => V.int (i : Int)) pb H1)
    (hQ : ∀ xs pb H1 g s5, R xs pb H1 → Gready X pins σ H1 P xs.length (ansAt pb xs) g s5 → Q' (.ref g) s5) :
    wpAny (model X.prog X.w) X.A (eval (.GeneratorExp elt [⟨.Name x px, iter, [], 0⟩] scope gpos) X.env) Q' X.xe s := by
  refine wpAny_GeneratorExp_walksQD hr.hd S.co (closure_ok S.free) S.cell S.dot S.loc S.kind (by have := hr.dp; omega) ?_ hs
  refine thn (hi pins s σ H _ I h) fun xv s1 hx => ?_
  obtain ⟨r, lo, hi_, t1, t2, t3, H1, rfl, hrng, I1, rfl, h0, h62, pb, hC, ⟨ps, hP, ht⟩, q1⟩ := hx
  generalize hxs : ((List.range hi_.toNat).map fun (i : Nat) => V.int (i : Int)) = xs at hC q1
  have hxl : xs.length = hi_.toNat := by rw [← hxs, List.length_map, List.length_range]
  refine wpAny_pyIter_range hrng (small_one (by decide) (by decide) (by omega) (by omega)) ?_
  have hsize : Builtin.Range.rangeSize 0 hi_ 1 = ((hi_.toNat : Nat) : Int) := by rw [rangeSize_one]; split <;> omega
  generalize ho : ({ cls := .type "range_iterator", data := .fields #[rawInt 0, rawInt (Builtin.Range.rangeSize 0 hi_ 1), rawInt 1] } : Obj) = o
  have hPs : s1.heap.get? P = some { cls := .none, data := .fields ps } := I1.hok P _ hP
  have hPlt : P < s1.heap.objs.size := Heap.lt_size hPs
  have hP2 : (s1.heap.push o).get? P = some { cls := .none, data := .fields ps } := Heap.get?_push_of_some _ hPs
  have bas : ∀ b u, X.base.get? b = some u → (s1.heap.push o).get? b = some u := fun b u e => Heap.get?_push_of_some _ (I1.bk b u e)
  have cd : PySem.W.CodeHd (s1.heap.push o) c P := TB.code.keeps bas
  have lim2 : (s1.heap.push o).NoLimit := I1.nolimit.push o
  have hsP : cStatics ≠ P := fun e => by
    obtain ⟨_, ⟨o', es, ep, ho', hd, _⟩, _⟩ := I1.nolimit
    rw [e, hPs] at ho'
    cases ho'
    cases hd
  have hsl : cStatics < s1.heap.objs.size := let ⟨_, hns, _⟩ := I1.nolimit; hns.lt
  have sz2 : (s1.heap.push o).objs.size = s1.heap.objs.size + 1 := Heap.size_push ..
  -- behind the code object: h3 is the heap, ps' the table
  have cont : ∀ (code : Value) (h3 : Heap) (tk : Nat) (ps' : Array Value), Heap.ExtBut P (s1.heap.push o) h3 → (s1.heap.push o).objs.size ≤ h3.objs.size → h3.get? P = some { cls := .none, data := .fields ps' } → (∃ more, ps' = ps ++ more) → TriplesOk ps'.toList →
      wpAny (model X.prog X.w) X.A (builtinsFor X.env.globals X.env.builtins) (fun bi s₄ =>
        ∃ Ia fp wr n₀ Pf St₀ pz F, Value.ref s1.heap.objs.size = .ref Ia ∧ (∀ A' : Around, A'.handled = none → Walks X.prog X.w A' Ia fp wr n₀ Pf St₀) ∧ St₀ 0 s₄.heap ∧ (∀ b ∈ fp, b < s₄.heap.objs.size) ∧ s₄.heap.NoLimit ∧ cStatics ∉ wr ∧
          (∀ href : Heap, (∀ b o, s₄.heap.get? b = some o → href.get? b = some o) →
            QuietGenD X.prog X.w (genEnv scope (cloFrom X.env.cells scope.names []) s₄.heap.objs.size code bi X.env) x [] elt (List.range s₄.heap.objs.size) wr Pf pz F href (X.A.depth + 1) (X.A.units + 8)) ∧
          (∀ a h₅ tk gs, gs.bare = true → s₄.heap.objs.size < a → h₅.objs.size = a + 1 → (∀ b o, s₄.heap.get? b = some o → h₅.get? b = some o) →
            WalksS X.prog X.w X.A.in4 a (a :: s₄.heap.objs.size :: List.range s₄.heap.objs.size) (s₄.heap.objs.size :: wr) (GenOnlyQ s₄.gens.size) (passing pz n₀ 0).length
              (fun j y => ∃ i, (passing pz n₀ 0)[j]? = some i ∧ F i y) (GenAt X.prog X.w X.A.in4 a s₄.gens.size s₄.heap.objs.size (List.range s₄.heap.objs.size) wr pz n₀ F) →
            GenAt X.prog X.w X.A.in4 a s₄.gens.size s₄.heap.objs.size (List.range s₄.heap.objs.size) wr pz n₀ F 0 { s₄ with gens := s₄.gens.push gs, toks := tk, heap := h₅ } →
            Q' (.ref a) { s₄ with gens := s₄.gens.push gs, toks := tk, heap := h₅ })) X.xe { s1 with heap := h3, toks := tk } := by
    intro code h3 tk ps' hx hsz hP3 hmore ht3
    obtain ⟨bm, ob, e1, e2, e3, e4, e5, e6, e7, e8⟩ := TB.bm
    have keep3 : ∀ b u, b ≠ P → s1.heap.get? b = some u → h3.get? b = some u := fun b u hb e => hx b u hb (Heap.get?_push_of_some _ e)
    refine wpAny_builtinsFor (m := X.mg) (by rw [I1.ok.glob]; exact ((I1.mod.glob.keeps I1.bk).push o).extBut hx TB.gP) e1 e2 (keep3 _ _ e4 (I1.bk _ _ e5)) e6 e7 e8 ?_
    refine ⟨s1.heap.objs.size, [s1.heap.objs.size], [s1.heap.objs.size], hi_.toNat, _, _, (fun _ => true), (fun i y => ∃ v, xs[i]? = some v ∧ y = .bool (pb v)), rfl, fun A' hA => walks_mono (Walks.range hA _ 0 1 hi_.toNat) (P' := fun i v => i < hi_.toNat ∧ ∃ t, v = .int (0 + (i : Int) * 1) t) (fun i v hi h => ⟨hi, h⟩), ?_, ?_, lim2.extBut hx hsP, ?_, ?_, ?_⟩
    · have hit : h3.get? s1.heap.objs.size = some o := hx _ _ (Ne.symm (Nat.ne_of_lt hPlt)) (Heap.get?_push_size _ (by rw [← ho]; rfl))
      rw [← ho, hsize] at hit
      exact hit
    · intro b hb
      show b < h3.objs.size
      have e := List.mem_singleton.mp hb
      rw [e]
      show (s1.heap.objs.size : Nat) < h3.objs.size
      omega
    · intro z
      rcases List.mem_cons.mp z with z | z
      · exact Nat.ne_of_lt hsl z
      · cases z
    · intro href hhref
      refine ⟨fun A' E' i v s₂ m₂ hA hD hU hPv hn hm hk => ?_, fun A' E' i v s₂ m₂ hA hD hU hPv hp hn hm hk => ?_⟩
      · simp only [List.forIn_nil]
        exact wpAny_pure ⟨rfl, GxR.keeps_refl _⟩
      · obtain ⟨hlt0, tk0, rfl⟩ := hPv
        have hil : i < xs.length := by omega
        have hxi : xs[i]? = some (V.int (i : Int)) := by
          rw [← hxs, List.getElem?_map, List.getElem?_range (by omega)]
          rfl
        have ru : RelV (V.int (i : Int)) (.int (0 + (i : Int) * 1) tk0) := ⟨tk0, by rw [Int.zero_add, Int.mul_one]⟩
        have kold : ∀ b o, b ≠ P → s1.heap.get? b = some o → s₂.heap.get? b = some o := fun b o' hb e => by
          refine hk b (List.mem_range.mpr (Nat.lt_of_lt_of_le (Heap.lt_size e) (Nat.le_trans (by omega) hsz))) (fun z => ?_) o' (hhref b o' (keep3 b o' hb e))
          rcases List.mem_cons.mp z with z | z
          · exact Nat.lt_irrefl _ (z ▸ Heap.lt_size e)
          · cases z
        refine wpAny_mono (hel pins σ H1 s1 I1 xs pb hC _ A' E' (V.int (i : Int)) _ s₂ m₂ rfl I1.ok.glob rfl hA hD hU (List.mem_of_getElem? hxi) ru hn hm kold fun b o' e => kold b o' (fun z => ?_) (I1.bk b o' e)) (fun y s3 r => ⟨⟨_, hxi, r.1⟩, r.2⟩) fun _ _ e => e
        have nb := (I1.bs b o' e).2
        rw [z, hP] at nb
        cases nb
    · intro g h5 tk5 gs hgb hag hsz5 hk5 W5 hat
      have hlen : hi_.toNat = xs.length := hxl.symm
      simp only [GxR.passing_true, List.length_range] at W5
      rw [hlen] at W5 hat
      refine hQ xs pb H1 g _ q1 ⟨_, _, _, _, _, W5.in4_1, hat, ?_, fun s' hm => ?_⟩
      · intro j y sj Qj Ej hy hQj
        obtain ⟨i, hij, v, hv, rfl⟩ := hy
        obtain ⟨hj, ej⟩ := List.getElem?_eq_some_iff.mp hij
        rw [List.getElem_range] at ej
        subst ej
        have hQ2 : Qj (ansAt pb xs j) sj := hQj
        rw [ansAt_some hv] at hQ2
        exact wpAny_truthy_bool hQ2
      · obtain ⟨more, em⟩ := hmore
        have nwr : ∀ b u, s1.heap.get? b = some u → b ∉ h3.objs.size :: [s1.heap.objs.size] := fun b u e hb => by
          have hl := Heap.lt_size e
          rcases List.mem_cons.mp hb with z | z
          · rw [z] at hl
            have lt : h3.objs.size < s1.heap.objs.size := hl
            omega
          · rcases List.mem_cons.mp z with z | z
            · exact Nat.lt_irrefl _ (z ▸ hl)
            · cases z
        have J := inv_tab (more := more) (h' := s'.heap) (g' := s'.gens) (d' := s'.drawn) (t' := s'.toks) I1 hP (fun b u hb e => hm.heap b u (nwr b u e) (hk5 b u (keep3 b u hb e)))
          (by rw [← em]; exact hm.heap P _ (nwr P _ hPs) (hk5 P _ hP3)) (AllBare.movedS (I1.bare.push hgb) hm)
        rw [sh_eta s1 s' hm.os] at J
        exact ⟨upd H1 P (.tbl (ps ++ more)), ⟨⟨ps ++ more, upd_same, em ▸ ht3⟩, fun b hb => upd_ne hb⟩, J⟩
  refine ⟨lim2, ?_⟩
  cases hf : codeAmong gpos ps.toList with
  | none =>
    refine wpAny_genexprCodeX hcode (cd.code hP2 ht) (cd.tab hP2) hf fun c' h' tk hx hge hlt hco' _ htab' _ => ?_
    obtain ⟨o1, vs, f1, tf, fl, tg, inF, tx, tt, op, _, _, _, _, _, _, _, _, _, htr, _⟩ := hco'
    exact cont _ h' tk _ hx (Nat.le_trans hge (Nat.le_of_lt hlt)) htab'.2 ⟨_, rfl⟩ htr
  | some cv =>
    refine wpAny_genexprCode_hit hcode (cd.code hP2 ht) hf ?_
    exact cont cv (s1.heap.push o) s1.toks ps (Heap.ExtBut.refl _ _) (Nat.le_refl _) hP2 ⟨#[], by simp⟩ ht
def tAllR (K : PySem.W.Frag) (P : Addr) (C : L2.St → Hp → List V → (V → Bool) → Prop) (tr : L2.St → Hp → (Int → Int → Hp → Prop) → Prop) : TE := fun σ H Q => tr σ H fun lo hi H1 => lo = 0 ∧ 0 ≤ hi ∧ hi < 2 ^ 62 ∧ ∃ (pb : V → Bool), C σ H1 ((List.range hi.toNat).map fun (i : Nat) => V.int (i : Int)) pb ∧ TabG H1 P ∧ ∀ H2, Tabbed P H1 H2 → Q (.bl (((List.range hi.toNat).map fun (i : Nat) => V.int (i : Int)).all pb)) H2
theorem pe_allR {c P : Addr} {elt iter : Expr} {x : Str} {px p pos gpos : Pos} {scope : Scope} {tr : L2.St → Hp → (Int → Int → Hp → Prop) → Prop} {k : Nat} {C : L2.St → Hp → List V → (V → Bool) → Prop}
    (hr : Room k X.A) (hm : X.mg "all" = none) (TB : TabB X.base X.mg c P) (hcode : X.env.code = .ref c) (S : GenS X.env scope x) (hi : PRg X iter tr) (hel : EltOk X scope x elt P C) (hg : Gl X "all" := by rfl) (hb : bootBuiltins "all" = some (.builtin "all") := by decide +kernel)
    (hs : ∀ v, genFold iter X.env v = pure v := by intro _; rfl)
    (he : starEach [.GeneratorExp elt [⟨.Name x px, iter, [], 0⟩] scope gpos] X.env = (false, eval (.GeneratorExp elt [⟨.Name x px, iter, [], 0⟩] scope gpos) X.env) :: starEach [] X.env := by rfl) :
    PE X (.Call (.Name "all" p) [.GeneratorExp elt [⟨.Name x px, iter, [], 0⟩] scope gpos] [] pos) (tAllR X.K P C tr) := by
  refine ⟨fun pins s σ H Q I h => wpAny_Call_Name_kw (ld_blt I hg hm hb (PyProof.Rows.callWith_builtin1 ?_ he (by rfl)))⟩
  rw [he]
  refine Calls.spliced_cons (gen_range (R := fun xs pb H1 => ∀ H2, Tabbed P H1 H2 → Q (.bl (xs.all pb)) H2) hr TB hcode S hi hel hs I h fun xs pb H1 g s5 hR ⟨fp, wr, G, F, Sg, W, hst, htr, hI⟩ => Calls.spliced_nil ?_)
  refine call_all_walkS (W.self 0 _ _ _ hst ⟨g, fp, wr, G, _, F, Sg, _, rfl, W, hst, htr, fun s' hmv => ?_⟩)
  obtain ⟨H2, hT, J⟩ := hI s' hmv
  refine ⟨.bl _, H2, J, rfl, ?_⟩
  rw [all_ansAt]
  exact hR H2 hT
end
section
variable {P : Program} {w : World} {base : Heap} {env : Env} {m : Str → Option Value} {D : Nat}
theorem qe_free {x : Str} {c : Addr} {pos : Pos} {v : V} {u : Value} (hk : env.scope.kind = .function) (hx : env.kindOf x = some .free) (hc : env.cells.lookup x = some c) (hcell : base.IsCell c (some u)) (r : RelV v u) (hd : (x == ("__debug__" : Str)) = false := by decide) (h2 : (x == ("__classdict__" : Str)) = false := by decide) : Qe P w base env m D (.Name x pos) v :=
  fun A E s _ _ hb _ => by
    obtain ⟨o, ho, hd2⟩ := hcell
    exact wpAny_Name (wpAny_loadName_free hk hx hc ⟨o, hb _ _ ho, hd2⟩ ⟨r, Keeps.rfl' s⟩ h2) hd
theorem qe_add {a b : Expr} {i j : Int} {pos : Pos} (ha : Qe P w base env m D a (.int i)) (hb : Qe P w base env m D b (.int j)) : Qe P w base env m D (.BinOp a .Add b pos) (.int (i + j)) := fun A E s hA hD hk hn =>
  wpAny_BinOp (thn (ha A E s hA hD hk hn) fun u s1 ⟨ru, k1⟩ => thn (hb A E s1 hA hD (fun x o e => k1.keep x o (hk x o e)) (hn.keeps k1.keep)) fun v s2 ⟨rv, k2⟩ => by
    obtain ⟨t1, rfl⟩ := ru
    obtain ⟨t2, rfl⟩ := rv
    exact add_int ⟨⟨_, rfl⟩, (k1.trans' k2).trans' (Keeps.tok s2 _)⟩)
theorem qe_ixT {a b : Expr} {p : Addr} {its : List Value} {xs : List V} {i : Int} {v : V} {pos : Pos} (ht : PyProof.Rows.IsTup base p its.toArray) (rv : Vals xs its) (hl : its.length ≤ 1000) (he : atI xs i = some v) (ha : Qe P w base env m D a (.ref p)) (hb : Qe P w base env m D b (.int i)) (hp : PlainIx b := by exact fun _ _ => rfl) :
    Qe P w base env m D (.Subscript a b pos) v := fun A E s hA hD hk hn =>
  Subscript_ (thn (ha A E s hA hD hk hn) fun u s1 ⟨ru, k1⟩ => thn (hb A E s1 hA hD (fun x o e => k1.keep x o (hk x o e)) (hn.keeps k1.keep)) fun z s2 ⟨rz, k2⟩ => by
    cases (show u = Value.ref p from ru)
    obtain ⟨t2, rfl⟩ := rz
    have k12 := k1.trans' k2
    obtain ⟨j, h1, h2, h3, h4, h5⟩ := atI_get he
    obtain ⟨w', ew, rw'⟩ := rv.get h2
    have hlen := rv.length
    have pT : PyProof.Rows.IsTup s2.heap p its.toArray := ht.keeps fun b o e => k12.keep b o (hk b o e)
    exact subscriptTail_builtinR (x := w') pT.typeIs slot_tuple_getitem.lookup
      (getItem_tuple (j := j) (Q := fun r s' => r = w' ∧ (RelV v r ∧ Keeps s s')) pT (by omega) (by omega) (by rw [List.size_toArray, ← hlen]; exact h1) (by simpa using ew) ⟨rfl, rw', k12⟩) (hp _ _))
theorem qe_le {a b : Expr} {i j : Int} {pos : Pos} (ha : Qe P w base env m D a (.int i)) (hb : Qe P w base env m D b (.int j)) (hm : behindInMarks .LtE b = false := by first | exact nobehind _ (by decide) (by decide) | rfl) :
    Qe P w base env m D (.Compare a [.LtE] [b] pos) (.bl (decide (i ≤ j))) := fun A E s hA hD hk hn =>
  wpAny_Compare1 (thn (ha A E s hA hD hk hn) fun u s1 ⟨ru, k1⟩ => thn (hb A E s1 hA hD (fun x o e => k1.keep x o (hk x o e)) (hn.keeps k1.keep)) fun v s2 ⟨rv, k2⟩ => by
    obtain ⟨t1, rfl⟩ := ru
    obtain ⟨t2, rfl⟩ := rv
    exact le_int ⟨rfl, k1.trans' k2⟩) hm
end
theorem hide_get {h : Heap} {b P : Addr} {o : Obj} (e : (PySem.W.hideAll h [P]).get? b = some o) : h.get? b = some o ∧ b ≠ P := by
  refine ⟨PySem.W.of_hideAll [P] e, fun c => ?_⟩
  subst c
  rw [PySem.W.hideAll_none [b] (List.mem_singleton.mpr rfl)] at e
  cases e
/-- value[age + 1] <= value[age], value a name of the def -/
def falls (ns : List Int) (j : Int) : Bool := decide (ns.getD (j.toNat + 1) 0 ≤ ns.getD j.toNat 0)
def Cfall (i : Nat) (K : PySem.W.Frag) (P : Addr) : L2.St → Hp → List V → (V → Bool) → Prop := fun σ H xs p => ∃ (a : Addr) (ns : List Int), σ[i]? = some (some (.ref a)) ∧ SqT K H a (ns.map V.int) ∧ TabG H P ∧ ns.length ≤ 1000 ∧ xs = ((List.range (ns.length - 1)).map fun (i : Nat) => V.int (i : Int)) ∧ p = fun v => match v with | .int j => falls ns j | _ => false
theorem elt_fall {X : Cx} {scope : Scope} {x y : Str} {P : Addr} {i jj : Nat} {p1 p2 p3 p4 p5 p6 p7 p8 p9 : Pos} (hN : X.N[i]? = some y) (hv : Vis X.env.scope y) (hcl : X.env.kindOf y = some .cell) (hfree : ∀ z ∈ scope.names, z.2 = .free → ∃ c, X.env.cells.lookup z.1 = some c) (hmem : (y, NameKind.free) ∈ scope.names)
    (hk : scope.kind = .function) (hx : scope.names.lookup x = some .local) (hy : scope.names.lookup y = some .free) (hd : (x == ("__debug__" : Str)) = false := by decide) (hd2 : (y == ("__debug__" : Str)) = false := by decide) (hd3 : (y == ("__classdict__" : Str)) = false := by decide) :
    EltOk X scope x (.Compare (.Subscript (.Name y p1) (.BinOp (.Name x p2) .Add (.Constant (.int 1) jj p3) p4) p5) [.LtE] [.Subscript (.Name y p6) (.Name x p7) p8] p9) P (Cfall i X.K P) := by
  intro pins σ H1 s1 I xs pb hC cenv A' E' v u s2 m2 hsc hgl hcells hA hD hU hv' ru hn hm hkeep kb
  obtain ⟨a, ns, hσ, hT, ⟨ps, hP, _⟩, hl, rfl, rfl⟩ := hC
  obtain ⟨j0, hj0, rfl⟩ := List.mem_map.mp hv'
  have hj : j0 < ns.length - 1 := List.mem_range.mp hj0
  obtain ⟨m0, hn0, hloc⟩ := I.loc
  obtain ⟨uu, ruu, lk⟩ := hloc i y (.ref a) hN hσ hv
  cases (show uu = Value.ref a from ruu)
  have hcell : ∃ c, X.env.cells.lookup y = some c ∧ s1.heap.IsCell c (some (.ref a)) := by
    rcases lk with ⟨h1, _⟩ | ⟨_, h⟩
    · rw [hcl] at h1; cases h1
    · exact h
  obtain ⟨c, hc, o, ho, hdc⟩ := hcell
  obtain ⟨its, rvs, pT, hz⟩ := I.tuple hT
  have hPs : s1.heap.get? P = some { cls := .none, data := .fields ps } := I.hok P _ hP
  have ncP : c ≠ P := fun z => by rw [z, hPs] at ho; cases ho; cases hdc
  have naP : a ≠ P := fun z => by
    obtain ⟨o2, ho2, hc2, _⟩ := pT
    rw [z, hPs] at ho2
    cases ho2
    exact absurd (show Value.none = Value.type "tuple" from hc2) (by decide)
  have hlen := rvs.length
  rw [List.length_map] at hlen
  have cl : cenv.cells.lookup y = some c := by rw [hcells]; exact _root_.NdefX.clo_has hfree hmem hc
  have kf : cenv.scope.kind = .function := by rw [hsc]; exact hk
  have qf : Qf cenv := ⟨kf, hgl⟩
  have qv : ∀ p, Qe X.prog X.w (PySem.W.hideAll s1.heap [P]) cenv m2 (X.A.depth + 1) (.Name y p) (.ref a) := fun p => qe_free kf (by show cenv.scope.names.lookup y = _; rw [hsc]; exact hy) cl ⟨o, PySem.W.hideAll_get [P] ho (by simp [ncP]), hdc⟩ rfl hd2 hd3
  have qx : ∀ p, Qe X.prog X.w (PySem.W.hideAll s1.heap [P]) cenv m2 (X.A.depth + 1) (.Name x p) (.int (j0 : Int)) := fun p => qe_loc qf (by show cenv.scope.names.lookup x = _; rw [hsc]; exact hx) hm ru hd
  have tT : PyProof.Rows.IsTup (PySem.W.hideAll s1.heap [P]) a its.toArray := by
    obtain ⟨o2, ho2, r2⟩ := pT
    exact ⟨o2, PySem.W.hideAll_get [P] ho2 (by simp [naP]), r2⟩
  have e1 : atI (ns.map V.int) ((j0 : Int) + 1) = some (.int (ns.getD (j0 + 1) 0)) := by
    have : (ns.map V.int)[j0 + 1]? = some (.int (ns.getD (j0 + 1) 0)) := by
      rw [List.getElem?_map, List.getElem?_eq_getElem (by omega)]
      simp [List.getD, List.getElem?_eq_getElem (show j0 + 1 < ns.length by omega)]
    have := atI_nat this
    rwa [Int.natCast_add] at this
  have e2 : atI (ns.map V.int) (j0 : Int) = some (.int (ns.getD j0 0)) := by
    have : (ns.map V.int)[j0]? = some (.int (ns.getD j0 0)) := by
      rw [List.getElem?_map, List.getElem?_eq_getElem (by omega)]
      simp [List.getD, List.getElem?_eq_getElem (show j0 < ns.length by omega)]
    exact atI_nat this
  have q := qe_le (pos := p9) (qe_ixT (pos := p5) tT rvs (by omega) e1 (qv p1) (qe_add (pos := p4) (qx p2) (qe_int (i := 1) (j := jj) (pos := p3)))) (qe_ixT (pos := p8) tT rvs (by omega) e2 (qv p6) (qx p7)) (by rfl)
  refine wpAny_mono (q A' E' s2 hA hD (fun b o' e => ?_) hn) (fun y s3 r => ⟨r.1, r.2⟩) fun _ _ e => e
  obtain ⟨h1, h2⟩ := hide_get e
  exact hkeep b o' h2 h1
section
variable {X : Cx} {z : Zx} {m ma mb mc : Mo} {e ea eb ec : Expr} {f fa fb fc : DE} {pos : Pos}
/-- the life table falls -/
def eAllFall (i : Nat) (fa : DE) : DE := fun ρ Q E => fa ρ (fun d => match d, ρ[i]? with
  | .int j, some (.va (.tup ds)) => ∃ ns : List Int, ds = ns.map D.int ∧ 1 ≤ ns.length ∧ ns.length ≤ 1000 ∧ j = (ns.length : Int) - 1 ∧ Q (.bl ((List.range (ns.length - 1)).all fun (k : Nat) => falls ns (k : Int)))
  | _, _ => False) E
theorem d_allFall {c P : Addr} {elt : Expr} {x : Str} {px p gpos p2 p3 : Pos} {scope : Scope} {k i : Nat} (hr : Room k X.A) (hm : X.mg "all" = none) (hm2 : X.mg "range" = none) (TB : TabB X.base X.mg c P) (hT : P ∈ z.T) (hgt : GT.q P = none) (hcode : X.env.code = .ref c) (S : GenS X.env scope x) (ha : PD X z ma ea fa) (hel : EltOk X scope x elt P (Cfall i X.K P))
    (hg : Gl X "all" := by rfl) (hg2 : Gl X "range" := by rfl) (hse : starEach [ea] X.env = (false, eval ea X.env) :: starEach [] X.env := by rfl) (hs : ∀ v, genFold (.Call (.Name "range" p2) [ea] [] p3) X.env v = pure v := by intro _; rfl)
    (he : starEach [.GeneratorExp elt [⟨.Name x px, .Call (.Name "range" p2) [ea] [] p3, [], 0⟩] scope gpos] X.env = (false, eval (.GeneratorExp elt [⟨.Name x px, .Call (.Name "range" p2) [ea] [] p3, [], 0⟩] scope gpos) X.env) :: starEach [] X.env := by rfl) :
    PD X z .d (.Call (.Name "all" p) [.GeneratorExp elt [⟨.Name x px, .Call (.Name "range" p2) [ea] [] p3, [], 0⟩] scope gpos] [] pos) (eAllFall i fa) := fun W tk =>
  peW (pe_allR hr hm TB hcode S (prg_1 hg2 hm2 (ha W tk) hse) hel hg (by decide +kernel) hs he) fun σ H R ⟨F0, H0, ρ, F, Q, E, rs, hf, hq, hx⟩ => ⟨F0, H0, ρ, F, _, E, rs, hf, (fun d v F1 H1 q1 e1 r1 => by
    cases d <;> try exact False.elim q1
    rename_i j
    have rs1 := rs.step e1
    cases er : ρ[i]? with
    | none => rw [er] at q1; cases q1
    | some sl =>
      rw [er] at q1
      cases sl <;> try exact False.elim q1
      rename_i dd
      cases dd <;> try exact False.elim q1
      obtain ⟨ns, rfl, h1, h2, rfl, hQ⟩ := q1
      obtain ⟨o, q, v', rfl, rv⟩ := rs1.slot i _ er
      obtain ⟨a, xs, rfl, t, r⟩ := Rep.tup_iff.mp rv
      refine ⟨_, rb_int r1.b, rfl, by omega, by omega, _, ⟨a, ns, q, by rw [← reps_intsV r]; exact (t.sub e1.fh).sq, (rs1.tabs _ hT).g hgt, h2, by rw [show ((ns.length : Int) - 1).toNat = ns.length - 1 by omega], rfl⟩, (rs1.tabs _ hT).g hgt, fun H2 hTb => ?_⟩
      have l := le_tabbed hgt ((rs1.tabs _ hT).g hgt) hTb
      have e : (((List.range ((ns.length : Int) - 1).toNat).map fun (i : Nat) => V.int (i : Int)).all fun v => match v with | .int j => falls ns j | _ => false) = (List.range (ns.length - 1)).all fun (k : Nat) => falls ns (k : Int) := by
        rw [show ((ns.length : Int) - 1).toNat = ns.length - 1 by omega, List.all_map]
        rfl
      rw [e]
      exact hq _ _ F1 H2 hQ (e1.trans (le_ext rs1.nt rs1.sub l)) (resD rep_bl)), hx⟩
end
/-- a generator's scope that captures the name y alone -/
def gsB2 (sc : Scope) (x y : Str) : Bool := decide (sc.kind = .function) && (!sc.isCoroutine && ((sc.names.all fun n => decide (n.2 ≠ .cell) && (decide (n.2 ≠ .free) || decide (n.1 = y))) && (decide (sc.names.lookup (".0" : Str) = some NameKind.local) && decide (sc.names.lookup x = some .local))))
theorem gens_of2 {env : Env} {sc : Scope} {x y : Str} (h : gsB2 sc x y = true) (hc : ∃ c, env.cells.lookup y = some c) : GxR.GenS env sc x := by
  obtain ⟨h1, h2⟩ := He.ba h
  obtain ⟨h3, h4⟩ := He.ba h2
  obtain ⟨h5, h6⟩ := He.ba h4
  obtain ⟨h7, h8⟩ := He.ba h6
  have hn := List.all_eq_true.mp h5
  refine ⟨of_decide_eq_true h1, by simpa using h3, fun y hy => of_decide_eq_true (He.ba (hn y hy)).1, of_decide_eq_true h7, of_decide_eq_true h8, fun n hm e => ?_⟩
  have := (He.ba (hn n hm)).2
  rw [Bool.or_eq_true] at this
  rcases this with q | q
  · exact absurd e (of_decide_eq_true q)
  · rw [of_decide_eq_true q]; exact hc
end Act
namespace Act
variable [GT]
open PySem PySem.Spec PyProof.Rows L2
open scoped Rat
/-! ## loops, by an invariant -/
theorem for_nat {g : DG} {b : DS} {pe : PEnds} {ds : List D} {ρ : Rho} (Inv : Nat → Rho → Prop) (h0 : Inv 0 ρ)
    (hs : ∀ (i : Nat) (d : D) (ρ : Rho) (F : Rho → Prop), ds[i]? = some d → Inv i ρ → (∀ ρ', Inv (i + 1) ρ' → F ρ') → g d ρ fun ρ1 => b { pe with nx := F, ct := F, bk := pe.nx } ρ1) (hn : ∀ ρ, Inv ds.length ρ → pe.nx ρ) : forF g b pe ds ρ := by
  have go : ∀ (n i : Nat) (ρ : Rho), n = ds.length - i → i ≤ ds.length → Inv i ρ → forF g b pe (ds.drop i) ρ := by
    intro n
    induction n with
    | zero =>
      intro i ρ hn' hi h
      have e : i = ds.length := by omega
      subst e
      rw [List.drop_length]
      exact hn ρ h
    | succ n ih =>
      intro i ρ hn' hi h
      have c : i < ds.length := by omega
      rw [List.drop_eq_getElem_cons c]
      exact hs i _ ρ _ (List.getElem?_eq_getElem c) h fun ρ' h' => ih (i + 1) ρ' (by omega) c h'
  exact go _ 0 ρ rfl (Nat.zero_le _) h0
theorem lc_nat {g : DG} {t : DT} {fe : DE} {ρ : Rho} {Q : D → Prop} {ds : List D} (Inv : Nat → List D → Prop) (h0 : Inv 0 [])
    (hs : ∀ (i : Nat) (d : D) (acc : List D) (F : List D → Prop), ds[i]? = some d → Inv i acc → (∀ acc', Inv (i + 1) acc' → F acc') → g d ρ fun ρ2 => t ρ2 (fun b => if b = true then fe ρ2 (fun y => acc.length ≤ cap ∧ F (acc ++ [y])) (fun _ => False) else F acc) (fun _ => False)) (hn : ∀ acc, Inv ds.length acc → Q (.lst acc)) : lcF g t fe ρ Q ds [] := by
  have go : ∀ (n i : Nat) (acc : List D), n = ds.length - i → i ≤ ds.length → Inv i acc → lcF g t fe ρ Q (ds.drop i) acc := by
    intro n
    induction n with
    | zero =>
      intro i acc hn' hi h
      have e : i = ds.length := by omega
      subst e
      rw [List.drop_length]
      exact hn acc h
    | succ n ih =>
      intro i acc hn' hi h
      have c : i < ds.length := by omega
      rw [List.drop_eq_getElem_cons c]
      exact hs i _ acc _ (List.getElem?_eq_getElem c) h fun acc' h' => ih (i + 1) acc' (by omega) c h'
  exact go _ 0 [] rfl (Nat.zero_le _) h0
/-- a comprehension without a test, item by item -/
theorem lc_map {g : DG} {fe : DE} {ρ : Rho} {Q : D → Prop} {ds : List D} (f : Nat → D) (hl : ds.length ≤ cap) (hs : ∀ (i : Nat) (d : D) (F : D → Prop), ds[i]? = some d → F (f i) → g d ρ fun ρ2 => fe ρ2 F (fun _ => False)) (hn : Q (.lst ((List.range ds.length).map f))) : lcF g tTrue fe ρ Q ds [] := by
  refine lc_nat (fun i acc => i ≤ ds.length ∧ acc = (List.range i).map f) ⟨Nat.zero_le _, rfl⟩ ?_ ?_
  · rintro i d acc F hd ⟨hi, rfl⟩ hF
    have c : i < ds.length := (List.getElem?_eq_some_iff.mp hd).1
    have := hs i d (fun y => ((List.range i).map f).length ≤ cap ∧ F ((List.range i).map f ++ [y])) hd ⟨by rw [List.length_map, List.length_range]; omega, hF _ ⟨c, by rw [List.range_succ, List.map_append]; rfl⟩⟩
    exact this
  · rintro acc ⟨_, rfl⟩
    exact hn
/-- the same where each item is any one that is allowed -/
theorem lc_any {g : DG} {fe : DE} {ρ : Rho} {Q : D → Prop} {ds : List D} (Ok : Nat → D → Prop) (hl : ds.length ≤ cap) (hs : ∀ (i : Nat) (d : D) (F : D → Prop), ds[i]? = some d → (∀ y, Ok i y → F y) → g d ρ fun ρ2 => fe ρ2 F (fun _ => False))
    (hn : ∀ xs : List D, xs.length = ds.length → (∀ i y, xs[i]? = some y → Ok i y) → Q (.lst xs)) : lcF g tTrue fe ρ Q ds [] := by
  refine lc_nat (fun i acc => i ≤ ds.length ∧ acc.length = i ∧ ∀ j y, acc[j]? = some y → Ok j y) ⟨Nat.zero_le _, rfl, fun j y h => by simp at h⟩ ?_ ?_
  · rintro i d acc F hd ⟨hi, hal, hok⟩ hF
    have c : i < ds.length := (List.getElem?_eq_some_iff.mp hd).1
    have := hs i d (fun y => acc.length ≤ cap ∧ F (acc ++ [y])) hd fun y hy => ⟨by omega, hF _ ⟨c, by rw [List.length_append, hal]; rfl, fun j x hj => ?_⟩⟩
    · exact this
    · by_cases cj : j < acc.length
      · rw [List.getElem?_append_left cj] at hj
        exact hok j x hj
      · rw [List.getElem?_append_right (by omega)] at hj
        have : j - acc.length = 0 := by
          cases e : j - acc.length with
          | zero => rfl
          | succ n => rw [e] at hj; simp at hj
        rw [this] at hj
        cases hj
        have : j = i := by omega
        subst this
        exact hy
  · rintro acc ⟨_, hl2, hok⟩
    exact hn acc hl2 hok
theorem range_at {lo : Int} {n i : Nat} {d : D} (h : (rangeD lo n)[i]? = some d) : i < n ∧ d = .int (lo + (i : Nat)) := by
  have hi : i < n := by
    have := (List.getElem?_eq_some_iff.mp h).1
    rwa [rangeD_len] at this
  simp [rangeD, hi] at h
  exact ⟨hi, h.symm⟩
theorem revD_len (lo : Int) (n : Nat) : (revD lo n).length = n := by simp [revD]
theorem rev_at {lo : Int} {n i : Nat} {d : D} (h : (revD lo n)[i]? = some d) : i < n ∧ d = .int (lo - (i : Nat)) := by
  have hi : i < n := by
    have := (List.getElem?_eq_some_iff.mp h).1
    rwa [revD_len] at this
  simp [revD, hi] at h
  exact ⟨hi, by rw [← h]; congr 1⟩
theorem atI_nat {α : Type} {xs : List α} {i : Nat} {x : α} (h : xs[i]? = some x) : atI xs ((i : Nat) : Int) = some x := by
  have hi : i < xs.length := (List.getElem?_eq_some_iff.mp h).1
  unfold L2.atI L2.ixN
  rw [if_pos (by omega), if_pos (by omega)]
  simpa using h
theorem atI_last {α : Type} {xs : List α} {x : α} (h : xs[xs.length - 1]? = some x) (hl : 0 < xs.length) : atI xs (-1) = some x := by
  unfold L2.atI L2.ixN
  rw [if_neg (by omega), if_pos (by omega)]
  have e : (-1 + (xs.length : Int)).toNat = xs.length - 1 := by omega
  rw [e]
  simpa using h
/-! ## equality -/
theorem deq_int {i j : Int} : deq (.int i) (.int j) = decide (i = j) := by
  show (i == j) = _
  rfl
theorem deq_nonl : ∀ {d : D}, deq .non d = d.isNon := by intro d; cases d <;> rfl
theorem eqvAll_int : ∀ (is js : List Int), PyData.eqvAll (toPys (is.map D.int)) (toPys (js.map D.int)) = decide (is = js)
  | [], [] => rfl
  | [], _ :: _ => rfl
  | _ :: _, [] => rfl
  | i :: is, j :: js => by
    show ((i == j) && _) = _
    rw [eqvAll_int is js]
    by_cases h : i = j
    · subst h; simp
    · simp [h]
def dR (r : Rat) : D := .tup [.int r.num, .int r.den]
theorem deq_R {a b : Rat} : deq (dR a) (dR b) = decide (a = b) := by
  show PyData.eqvAll (toPys ([a.num, (a.den : Int)].map D.int)) (toPys ([b.num, (b.den : Int)].map D.int)) = _
  rw [eqvAll_int]
  by_cases h : a = b
  · subst h; simp
  · have : ¬ ([a.num, (a.den : Int)] = [b.num, (b.den : Int)]) := fun e => h (Rat.ext (by injection e) (by injection e with _ e; injection e with e; omega))
    simp only [decide_eq_false this, decide_eq_false h]
theorem shp_R {a : Rat} : shp (dR a) = true := rfl
theorem shp_int {i : Int} : shp (.int i) = true := rfl
theorem dR_inj {a b : Rat} (h : dR a = dR b) : a = b := by
  injection h with h
  injection h with h1 h2
  injection h2 with h2
  injection h1 with h1
  injection h2 with h2
  exact Rat.ext h1 (by omega)
theorem dR_int (i : Int) : dR (i : Rat) = .tup [.int i, .int 1] := by
  show D.tup [.int (i : Rat).num, .int (((i : Rat).den : Nat) : Int)] = _
  rw [Rat.num_intCast, Rat.den_intCast]
  rfl
theorem dR_zero : D.tup [.int 0, .int 1] = dR 0 := rfl
theorem dR_one : D.tup [.int 1, .int 1] = dR 1 := rfl
mutual
/-- no deeper than n, no string that is not flat -/
def D.okD : Nat → D → Bool
  | 0, _ => false
  | n + 1, .tup ds => decide (ds.length ≤ 100000) && D.okDs n ds
  | n + 1, .lst ds => decide (ds.length ≤ 100000) && D.okDs n ds
  | _ + 1, .str s => shp (.str s)
  | _ + 1, _ => true
def D.okDs : Nat → List D → Bool
  | _, [] => true
  | n, d :: ds => D.okD n d && D.okDs n ds
end
theorem is_non_int  : D.is (D.non) "int" = false := by show isKT "NoneType" "int" = false; decide
theorem is_non_bool  : D.is (D.non) "bool" = false := by show isKT "NoneType" "bool" = false; decide
theorem is_non_tuple  : D.is (D.non) "tuple" = false := by show isKT "NoneType" "tuple" = false; decide
theorem is_non_list  : D.is (D.non) "list" = false := by show isKT "NoneType" "list" = false; decide
theorem is_non_str  : D.is (D.non) "str" = false := by show isKT "NoneType" "str" = false; decide
theorem is_bl_int {b : Bool} : D.is (D.bl b) "int" = true := by show isKT "bool" "int" = true; decide
theorem is_bl_bool {b : Bool} : D.is (D.bl b) "bool" = true := by show isKT "bool" "bool" = true; decide
theorem is_bl_tuple {b : Bool} : D.is (D.bl b) "tuple" = false := by show isKT "bool" "tuple" = false; decide
theorem is_bl_list {b : Bool} : D.is (D.bl b) "list" = false := by show isKT "bool" "list" = false; decide
theorem is_bl_str {b : Bool} : D.is (D.bl b) "str" = false := by show isKT "bool" "str" = false; decide
theorem is_int_int {i : Int} : D.is (D.int i) "int" = true := by show isKT "int" "int" = true; decide
theorem is_int_bool {i : Int} : D.is (D.int i) "bool" = false := by show isKT "int" "bool" = false; decide
theorem is_int_tuple {i : Int} : D.is (D.int i) "tuple" = false := by show isKT "int" "tuple" = false; decide
theorem is_int_list {i : Int} : D.is (D.int i) "list" = false := by show isKT "int" "list" = false; decide
theorem is_int_str {i : Int} : D.is (D.int i) "str" = false := by show isKT "int" "str" = false; decide
theorem is_str_int {s : Str} : D.is (D.str s) "int" = false := by show isKT "str" "int" = false; decide
theorem is_str_bool {s : Str} : D.is (D.str s) "bool" = false := by show isKT "str" "bool" = false; decide
theorem is_str_tuple {s : Str} : D.is (D.str s) "tuple" = false := by show isKT "str" "tuple" = false; decide
theorem is_str_list {s : Str} : D.is (D.str s) "list" = false := by show isKT "str" "list" = false; decide
theorem is_str_str {s : Str} : D.is (D.str s) "str" = true := by show isKT "str" "str" = true; decide
theorem is_tup_int {xs : List D} : D.is (D.tup xs) "int" = false := by show isKT "tuple" "int" = false; decide
theorem is_tup_bool {xs : List D} : D.is (D.tup xs) "bool" = false := by show isKT "tuple" "bool" = false; decide
theorem is_tup_tuple {xs : List D} : D.is (D.tup xs) "tuple" = true := by show isKT "tuple" "tuple" = true; decide
theorem is_tup_list {xs : List D} : D.is (D.tup xs) "list" = false := by show isKT "tuple" "list" = false; decide
theorem is_tup_str {xs : List D} : D.is (D.tup xs) "str" = false := by show isKT "tuple" "str" = false; decide
theorem is_lst_int {xs : List D} : D.is (D.lst xs) "int" = false := by show isKT "list" "int" = false; decide
theorem is_lst_bool {xs : List D} : D.is (D.lst xs) "bool" = false := by show isKT "list" "bool" = false; decide
theorem is_lst_tuple {xs : List D} : D.is (D.lst xs) "tuple" = false := by show isKT "list" "tuple" = false; decide
theorem is_lst_list {xs : List D} : D.is (D.lst xs) "list" = true := by show isKT "list" "list" = true; decide
theorem is_lst_str {xs : List D} : D.is (D.lst xs) "str" = false := by show isKT "list" "str" = false; decide
theorem cap0 : (0 ≤ cap) = True := by simp
theorem cap1 : (1 ≤ cap) = True := by simp [cap]
theorem cap2 : (2 ≤ cap) = True := by simp [cap]
theorem cap3 : (3 ≤ cap) = True := by simp [cap]
theorem cap4 : (4 ≤ cap) = True := by simp [cap]
theorem cap5 : (5 ≤ cap) = True := by simp [cap]
theorem cap6 : (6 ≤ cap) = True := by simp [cap]
theorem cap7 : (7 ≤ cap) = True := by simp [cap]
theorem cap8 : (8 ≤ cap) = True := by simp [cap]
theorem cap10 : (10 ≤ cap) = True := by simp [cap]
theorem atI_0 {α : Type} {x : α} {xs : List α} : atI (x :: xs) 0 = some x := atI_nat (i := 0) rfl
theorem atI_1 {α : Type} {x y : α} {xs : List α} : atI (x :: y :: xs) 1 = some y := atI_nat (i := 1) rfl
theorem atI_2 {α : Type} {x y w : α} {xs : List α} : atI (x :: y :: w :: xs) 2 = some w := atI_nat (i := 2) rfl
theorem atI_3 {α : Type} {x y w u : α} {xs : List α} : atI (x :: y :: w :: u :: xs) 3 = some u := atI_nat (i := 3) rfl
theorem atI_4 {α : Type} {a b c d x : α} {xs : List α} : atI (a :: b :: c :: d :: x :: xs) 4 = some x := atI_nat (i := 4) rfl
theorem atI_5 {α : Type} {a b c d f x : α} {xs : List α} : atI (a :: b :: c :: d :: f :: x :: xs) 5 = some x := atI_nat (i := 5) rfl
theorem atI_6 {α : Type} {a b c d f g x : α} {xs : List α} : atI (a :: b :: c :: d :: f :: g :: x :: xs) 6 = some x := atI_nat (i := 6) rfl
theorem ex_some {α : Type} {x : α} {Q : α → Prop} : (∃ d, some x = some d ∧ Q d) = Q x := by simp
end Act
namespace Act
variable [GT]
open PySem PySem.Spec PyProof.Rows L2
open scoped Rat
/-! ### equality of data -/
mutual
theorem eqv_refl : ∀ d : D, PyData.eqv (toPy d) (toPy d) = true
  | .non => rfl
  | .bl b => by rw [toPy, PyData.eqv]; exact beq_self_eq_true b
  | .int i => by rw [toPy, PyData.eqv]; exact beq_self_eq_true i
  | .str x => by rw [toPy, PyData.eqv]; exact beq_self_eq_true x
  | .tup ds => by rw [toPy, PyData.eqv]; exact eqvAll_refl ds
  | .lst ds => by rw [toPy, PyData.eqv]; exact eqvAll_refl ds
theorem eqvAll_refl : ∀ ds : List D, PyData.eqvAll (toPys ds) (toPys ds) = true
  | [] => by rw [toPys, PyData.eqvAll]
  | d :: ds => by rw [toPys, PyData.eqvAll, eqv_refl d, eqvAll_refl ds]; rfl
end
theorem deq_refl (d : D) : deq d d = true := eqv_refl d
mutual
theorem shp_okD : ∀ (n : Nat) (d : D), D.okD n d = true → (toPy d).canLay0 = true ∧ (toPy d).depth ≤ n
  | 0, d, h => by simp [D.okD] at h
  | n + 1, .non, _ => ⟨rfl, Nat.zero_le _⟩
  | n + 1, .bl b, _ => ⟨rfl, Nat.zero_le _⟩
  | n + 1, .int b, _ => ⟨rfl, Nat.zero_le _⟩
  | n + 1, .str x, h => by
    have h : shp (.str x) = true := h
    unfold shp SeqAt.shaped at h
    simp only [Bool.and_eq_true] at h
    exact ⟨h.1, Nat.zero_le _⟩
  | n + 1, .tup ds, h => by
    simp only [D.okD, Bool.and_eq_true] at h
    have := shp_okDs n ds h.2
    rw [toPy, PyData.canLay0, PyData.depth]
    exact ⟨this.1, by omega⟩
  | n + 1, .lst ds, h => by
    simp only [D.okD, Bool.and_eq_true] at h
    have := shp_okDs n ds h.2
    rw [toPy, PyData.canLay0, PyData.depth]
    exact ⟨this.1, by omega⟩
theorem shp_okDs : ∀ (n : Nat) (ds : List D), D.okDs n ds = true → PyData.canLayAll0 (toPys ds) = true ∧ PyData.depthAll (toPys ds) ≤ n
  | n, [], _ => by rw [toPys, PyData.canLayAll0, PyData.depthAll]; exact ⟨rfl, Nat.zero_le _⟩
  | n, d :: ds, h => by
    simp only [D.okDs, Bool.and_eq_true] at h
    have h1 := shp_okD n d h.1
    have h2 := shp_okDs n ds h.2
    rw [toPys, PyData.canLayAll0, PyData.depthAll, h1.1, h2.1]
    exact ⟨rfl, by omega⟩
end
theorem shp_ok {n : Nat} {d : D} (h : D.okD n d = true) (hn : n ≤ 64) : shp d = true := by
  have := shp_okD n d h
  unfold shp SeqAt.shaped
  rw [this.1, decide_eq_true (by omega)]
  rfl
mutual
/-- integers, None and rows of such: equal for the program just where they are the same -/
def D.noB : D → Bool
  | .non => true
  | .int _ => true
  | .tup ds => D.noBs ds
  | .lst ds => D.noBs ds
  | _ => false
def D.noBs : List D → Bool
  | [] => true
  | d :: ds => D.noB d && D.noBs ds
end
mutual
theorem eqv_same : ∀ d e : D, D.noB d = true → D.noB e = true → PyData.eqv (toPy d) (toPy e) = true → d = e
  | .non, .non, _, _, _ => rfl
  | .non, .int _, _, _, h => by simp [toPy, PyData.eqv] at h
  | .non, .tup _, _, _, h => by simp [toPy, PyData.eqv] at h
  | .non, .lst _, _, _, h => by simp [toPy, PyData.eqv] at h
  | .int _, .non, _, _, h => by simp [toPy, PyData.eqv] at h
  | .int i, .int j, _, _, h => by simp [toPy, PyData.eqv] at h; rw [h]
  | .int _, .tup _, _, _, h => by simp [toPy, PyData.eqv] at h
  | .int _, .lst _, _, _, h => by simp [toPy, PyData.eqv] at h
  | .tup _, .non, _, _, h => by simp [toPy, PyData.eqv] at h
  | .tup _, .int _, _, _, h => by simp [toPy, PyData.eqv] at h
  | .tup xs, .tup ys, h1, h2, h => by rw [eqv_sames xs ys (by simpa [D.noB] using h1) (by simpa [D.noB] using h2) (by simpa [toPy, PyData.eqv] using h)]
  | .tup _, .lst _, _, _, h => by simp [toPy, PyData.eqv] at h
  | .lst _, .non, _, _, h => by simp [toPy, PyData.eqv] at h
  | .lst _, .int _, _, _, h => by simp [toPy, PyData.eqv] at h
  | .lst _, .tup _, _, _, h => by simp [toPy, PyData.eqv] at h
  | .lst xs, .lst ys, h1, h2, h => by rw [eqv_sames xs ys (by simpa [D.noB] using h1) (by simpa [D.noB] using h2) (by simpa [toPy, PyData.eqv] using h)]
  | .bl _, _, h, _, _ => by simp [D.noB] at h
  | .str _, _, h, _, _ => by simp [D.noB] at h
  | .non, .bl _, _, h, _ => by simp [D.noB] at h
  | .int _, .bl _, _, h, _ => by simp [D.noB] at h
  | .tup _, .bl _, _, h, _ => by simp [D.noB] at h
  | .lst _, .bl _, _, h, _ => by simp [D.noB] at h
  | .non, .str _, _, h, _ => by simp [D.noB] at h
  | .int _, .str _, _, h, _ => by simp [D.noB] at h
  | .tup _, .str _, _, h, _ => by simp [D.noB] at h
  | .lst _, .str _, _, h, _ => by simp [D.noB] at h
theorem eqv_sames : ∀ ds es : List D, D.noBs ds = true → D.noBs es = true → PyData.eqvAll (toPys ds) (toPys es) = true → ds = es
  | [], [], _, _, _ => rfl
  | [], _ :: _, _, _, h => by simp [toPys, PyData.eqvAll] at h
  | _ :: _, [], _, _, h => by simp [toPys, PyData.eqvAll] at h
  | d :: ds, e :: es, h1, h2, h => by
    simp only [D.noBs, Bool.and_eq_true] at h1 h2
    simp only [toPys, PyData.eqvAll, Bool.and_eq_true] at h
    rw [eqv_same d e h1.1 h2.1 h.1, eqv_sames ds es h1.2 h2.2 h.2]
end
theorem deq_same {d e : D} (h1 : D.noB d = true) (h2 : D.noB e = true) (h : deq d e = true) : d = e := eqv_same d e h1 h2 h
theorem deq_diff {d e : D} (h1 : D.noB d = true) (h2 : D.noB e = true) (h : d ≠ e) : deq d e = false := by
  cases c : deq d e with
  | false => rfl
  | true => exact absurd (deq_same h1 h2 c) h
theorem noB_R (r : Rat) : D.noB (dR r) = true := rfl
theorem noBs_Rs : ∀ rs : List Rat, D.noBs (rs.map dR) = true
  | [] => rfl
  | r :: rs => by rw [List.map_cons, D.noBs, noBs_Rs rs]; rfl
theorem noBs_ints : ∀ ns : List Int, D.noBs (ns.map D.int) = true
  | [] => rfl
  | r :: rs => by rw [List.map_cons, D.noBs, noBs_ints rs]; rfl
end Act
namespace Act
variable [GT]
open PySem PySem.Spec PyProof.Rows L2
/-! ## a, b, .. = e, e', ..: a tuple is made and taken apart; new lists in it are one's own -/
def taM (K : PySem.W.Frag) (mg : Str → Option Value) (z : Zx) (W : WX) : List (Mo × DE) → TA
  | [] => tNil
  | (m, f) :: r => tCons (teG K mg z W m f) (taM K mg z W r)
def PAM (X : Cx) (z : Zx) (es : List Expr) (fs : List (Mo × DE)) : Prop := ∀ W, Takes X W → PA X es (taM X.K X.mg z W fs)
def tupGo (ρ : Rho) (E : Exc → Prop) : List Nat → List (Mo × DE) → Rho → (Rho → Prop) → Prop
  | i :: is, (m, f) :: r, ρ', Q => f ρ (fun d => slOf m d fun s => tupGo ρ E is r (ρ'.set i s) Q) E
  | [], [], ρ', Q => Q ρ'
  | _, _, _, _ => False
def setAll : L2.St → List Nat → List V → L2.St
  | σ, i :: is, v :: vs => setAll (σ.set i (some v)) is vs
  | σ, _, _ => σ
def gNames : List Nat → TGs
  | [] => gNil
  | i :: is => gCons (gName i) (gNames is)
section
variable {X : Cx} {z : Zx} {m ma mb mc : Mo} {e ea eb ec : Expr} {f fa fb fc : DE} {pos : Pos} {es : List Expr}
theorem am_nil : PAM X z [] [] := fun W tk => pa_nil
theorem am_cons {fs : List (Mo × DE)} (ha : PD X z m ea fa) (hs : PAM X z es fs) (he : starEach (ea :: es) X.env = (false, eval ea X.env) :: starEach es X.env := by rfl) : PAM X z (ea :: es) ((m, fa) :: fs) := fun W tk => pa_cons (ha W tk) (hs W tk) he
theorem taM_of {K : PySem.W.Frag} {mg : Str → Option Value} {W : WX} {σ : L2.St} {ρ : Rho} {E : Exc → Prop} {F0 H0 : Hp} {Q : Rho → Prop} : ∀ (is : List Nat) (fs : List (Mo × DE)) (ρ' : Rho) (σ' : L2.St) (F H : Hp) (R : List V → Hp → Prop),
    RS K z F0 H0 ρ F σ H → RS K z F0 H0 ρ' F σ' H → tupGo ρ E is fs ρ' Q → XW K mg z W σ F H E →
    (∀ vs F1 H1 ρ2, Ext K z F H F1 H1 → RS K z F0 H0 ρ2 F1 (setAll σ' is vs) H1 → vs.length = is.length → Q ρ2 → R vs H1) → taM K mg z W fs σ H R
  | [], [], ρ', σ', F, H, R, rs, rs', hf, hx, k => by
    exact k [] F H ρ' (Ext.refl rs.sub) rs' rfl hf
  | i :: is, (m, f) :: r, ρ', σ', F, H, R, rs, rs', hf, hx, k => by
    refine ⟨F0, H0, ρ, F, _, E, rs, hf, (fun d v F1 H1 q1 e1 r1 => ?_), hx⟩
    obtain ⟨s, q2, rs2⟩ := setM rs' e1 r1 q1 i
    refine taM_of is r _ _ F1 H1 _ (rs.step e1) rs2 q2 (hx.step e1) fun vs F2 H2 ρ2 e2 rs3 hl q3 => ?_
    exact k (v :: vs) F2 H2 ρ2 (e1.trans e2) rs3 (congrArg Nat.succ hl) q3
  | [], _ :: _, _, _, _, _, _, _, _, hf, _, _ => by cases hf
  | _ :: _, [], _, _, _, _, _, _, _, hf, _, _ => by cases hf
theorem gNames_of {H : Hp} {R : L2.St → Hp → Prop} : ∀ (is : List Nat) (vs : List V) (σ : L2.St), vs.length = is.length → R (setAll σ is vs) H → gNames is vs σ H R
  | [], [], σ, _, h => ⟨rfl, h⟩
  | i :: is, v :: vs, σ, hl, h => ⟨v, vs, rfl, gNames_of is vs _ (Nat.succ.inj hl) h⟩
  | [], _ :: _, _, hl, _ => by cases hl
  | _ :: _, [], _, hl, _ => by cases hl
def sTupA (is : List Nat) (fs : List (Mo × DE)) : DS := fun pe ρ => tupGo ρ (fun x => pe.ex x ρ) is fs ρ pe.nx
def PGN (X : Cx) (tgs : List Expr) (is : List Nat) : Prop := PGs X tgs (gNames is)
theorem gn_nil : PGN X [] [] := pgs_nil
theorem gn_cons (i : Nat) {x : Str} {p : Pos} {is : List Nat} (nd : X.N.Nodup) (hs : PGN X es is) (hi : X.N[i]? = some x := by rfl) (hl : Loc X.env.scope x := by first | exact Or.inl rfl | exact Or.inr rfl) (hfn : X.fn x = true ∨ X.env.scope.names.lookup x = some .local := by first | exact Or.inl rfl | exact Or.inr rfl)
    (he : (assignEach (.Name x p :: es) X.env).map (·.2) = assign (.Name x p) X.env :: (assignEach es X.env).map (·.2) := by rfl) : PGN X (.Name x p :: es) (i :: is) := pgs_cons (pg_name nd hi hl hfn) hs he
theorem s_tupA {tgs : List Expr} {is : List Nat} {fs : List (Mo × DE)} {k n n2 : Nat} {p1 p2 : Pos} (hc : X.calm = true) (ha : PAM X z es fs) (hg : PGN X tgs is) (hlen : is.length = n2 := by rfl) (hcap : is.length ≤ 100 := by decide) (hn : (assignEach tgs X.env).length = n2 := by rfl) (h0 : (assignEach tgs X.env).findIdx? (·.1) = none := by rfl)
    (h1 : swapsWithSole [.Tuple tgs k p1] (.Tuple es n p2) pos.line X.env = pure false := by rfl) (h2 : swappedStores [.Tuple tgs k p1] (.Tuple es n p2) X.env = pure none := by rfl)
    (h3 : (assignEach [.Tuple tgs k p1] X.env).map (·.2) = [assign (.Tuple tgs k p1) X.env] := by rfl) : PSD X z (.Assign [.Tuple tgs k p1] (.Tuple es n p2) pos) (sTupA is fs) := fun W tk =>
  psW (ps_asg (pe_tup (ha W tk)) (pg_tup hc hg hn h0) h1 h2 h3) fun Dn σ H ⟨F0, H0, ρ, F, pe, rs, hf, lk⟩ => by
    refine taM_of is fs ρ σ F H _ rs rs hf (lk.xw rs) fun vs F1 H1 ρ2 e1 rs2 hl q => ⟨Nat.le_trans (by omega : vs.length ≤ 100) (by decide), fun p np => ?_⟩
    have n := newRow rs2.rf np
    have e2 := Ext.own0 (K := X.K) (z := z) rs2.sub (o := .tup vs) np n
    refine ⟨p, vs, rfl, ST.sq (.inl upd_same), by rw [hl, hlen], gNames_of is vs σ hl ?_⟩
    exact lk.nx ρ2 F1 _ _ q (rs2.step e2) e1.ff
end
end Act
namespace Act
variable [GT]
open PySem PySem.Spec PyProof.Rows L2
/-! ## defs that return a new list: it is the caller's own -/
def spOfN (K : PySem.W.Frag) (mg : Str → Option Value) (T : List Addr) (sp : SpD) : Sp := fun vs H R E =>
  ∃ ds F Q ex, Sub F H ∧ NoTbl F ∧ Tabs T H ∧ Reps K F ds vs ∧ sp ds Q ex ∧ (∀ d v F' H', Q d → Ext K (z0 T) F H F' H' → RN K (z0 T) H F' H' d v → R v H') ∧ (∀ x c dd F' H', ex x → Ext K (z0 T) F H F' H' → XRep K mg F' H' x c dd → E c dd H')
structure HasN (P : Program) (w : World) (K : PySem.W.Frag) (mg : Str → Option Value) (base : Heap) (T : List Addr) (k : Nat) (x : Str) (ps : List Str) (sp : SpD) : Prop where
  ex : ∃ f fd, FnOk P w K mg base (L2.CX P w) k f fd ps (spOfN K mg T sp) ∧ mg x = some (.ref f) ∧ PySem.W.keepIn K (.ref f) = true ∧ Binds K fd ps []
theorem HasN.mono {P : Program} {w : World} {K : PySem.W.Frag} {mg : Str → Option Value} {base : Heap} {T : List Addr} {j k : Nat} {x : Str} {ps : List Str} {sp : SpD} (h : HasN P w K mg base T j x ps sp) (l : j ≤ k) : HasN P w K mg base T k x ps sp :=
  let ⟨f, fd, F, r⟩ := h.ex
  ⟨f, fd, F.mono l, r⟩
theorem HasD.weak {P : Program} {w : World} {K : PySem.W.Frag} {mg : Str → Option Value} {base : Heap} {T : List Addr} {k : Nat} {x : Str} {ps : List Str} {sp sp' : SpD} (h : HasD P w K mg base T k x ps sp) (i : ∀ ds Q E, sp' ds Q E → sp ds Q E) : HasD P w K mg base T k x ps sp' :=
  let ⟨f, fd, F, r⟩ := h.ex
  ⟨f, fd, F.imp fun vs H R E ⟨ds, F, Q, ex, a, b, c, d, e, g⟩ => ⟨ds, F, Q, ex, a, b, c, d, i _ _ _ e, g⟩, r⟩
structure LkN (K : PySem.W.Frag) (mg : Str → Option Value) (z : Zx) (W : WX) (F0 H0 F : Hp) (rt : D → Prop) (ex : Exc → Rho → Prop) (Dn : Ends) : Prop where
  rt : ∀ d v F' H', rt d → Ext K z F0 H0 F' H' → RN K z H0 F' H' d v → Dn.rt v H'
  ex : ∀ x ρ c dd F' σ H', ex x ρ → RS K z F0 H0 ρ F' σ H' → Sub F F' → XRep K mg F' H' x c dd → W c dd σ H'
abbrev DSN := (D → Prop) → (Exc → Rho → Prop) → Rho → Prop
def tsN (K : PySem.W.Frag) (mg : Str → Option Value) (z : Zx) (W : WX) (f : DSN) : TS := fun Dn σ H => ∃ F0 H0 ρ F rt ex, RS K z F0 H0 ρ F σ H ∧ f rt ex ρ ∧ LkN K mg z W F0 H0 F rt ex Dn
def PSsN (X : Cx) (z : Zx) (st : List Stmt) (f : DSN) : Prop := ∀ W, Takes X W → PSs X st (tsN X.K X.mg z W f)
def sSeqN (g : DS) (g' : DSN) : DSN := fun rt ex ρ => g ⟨g' rt ex, fun _ => False, fun _ => False, fun _ => False, ex⟩ ρ
def sRetO (i : Nat) : DSN := fun rt _ ρ => match ρ[i]? with
  | some (.ow ds) => rt (.lst ds)
  | _ => False
section
variable {X : Cx} {z : Zx} {m ma mb mc : Mo} {e ea eb ec : Expr} {f fa fb fc : DE} {pos : Pos} {es : List Expr} {fs : DA} {st : Stmt} {sts sts' : List Stmt} {g g' : DS}
theorem bn_cons {gn : DSN} (h : PSD X z st g) (h' : PSsN X z sts gn) : PSsN X z (st :: sts) (sSeqN g gn) := fun W tk => pssW (pss_cons (h W tk) (h' W tk)) fun Dn σ H ⟨F0, H0, ρ, F, rt, ex, rs, hf, lk⟩ =>
  ⟨F0, H0, ρ, F, _, rs, hf, ⟨fun ρ' F' σ' H' p r s => ⟨F0, H0, ρ', F', rt, ex, r, p, ⟨lk.rt, fun x ρ'' c dd F'' σ'' H'' p r t => lk.ex x ρ'' c dd F'' σ'' H'' p r fun a o e => t a o (s a o e)⟩⟩, fun _ _ _ _ p => False.elim p, fun _ _ _ _ p => False.elim p, fun _ _ _ _ p => False.elim p, lk.ex⟩⟩
theorem bn_ret (i : Nat) {x : Str} {p1 : Pos} (hN : X.N[i]? = some x := by rfl) (hv : Vis X.env.scope x := by first | exact Or.inl rfl | exact Or.inr (Or.inl rfl) | exact Or.inr (Or.inr rfl)) (h1 : (x == ("__debug__" : Str)) = false := by decide) (h2 : (x == ("__classdict__" : Str)) = false := by decide) : PSsN X z [.Return (some (.Name x p1)) pos] (sRetO i) := fun W tk =>
  pssW (pss_one (ps_ret (pv i hN hv h1 h2))) fun Dn σ H ⟨F0, H0, ρ, F, rt, ex, rs, hf, lk⟩ => by
    unfold sRetO at hf
    cases e : ρ[i]? with
    | none => rw [e] at hf; cases hf
    | some s =>
      rw [e] at hf
      cases s <;> try exact False.elim hf
      obtain ⟨o, q, a, xs, rfl, n, ff, h0, l, r⟩ := rs.slot i _ e
      exact ⟨_, q, lk.rt _ _ F H hf rs.ext ⟨a, xs, _, rfl, rfl, n, h0, ff, l, r⟩⟩
theorem d_callN {x : Str} {k : Nat} {ps : List Str} {sp : SpD} {p : Pos} (h : HasN X.prog X.w X.K X.mg X.base z.T k x ps sp) (hr : Room k X.A) (ha : PAD X z (ea :: es) fs) (hg : Gl X x := by rfl)
    (hdb : (x == ("__debug__" : Str)) = false := by decide) (he : starEach (ea :: es) X.env = (false, eval ea X.env) :: starEach es X.env := by rfl) (hpl : (backTo pos (starEach es X.env)).any (·.1) = false := by rfl) :
    PD X z .n (.Call (.Name x p) (ea :: es) [] pos) (eCall sp fs) := fun W tk => by
  obtain ⟨f, fd, F, m, kp, b⟩ := h.ex
  refine peW (pe_callS F hr hg m kp b (passAt tk) (ha W tk) hdb he hpl) fun σ H R ⟨F0, H0, ρ, F, Q, E, rs, hf, hq, hx⟩ => ⟨F0, H0, ρ, F, _, E, rs, hf, (fun ds vs F1 H1 q1 e1 r1 => ?_), hx⟩
  have rs1 := rs.step e1
  refine ⟨ds, F1, Q, E, rs1.sub, rs1.nt, rs1.tabs, r1, q1, fun d v F' H' q2 e2 r2 => ?_, fun x c dd F' H' q2 e2 r2 => hx x c dd F' H' q2 (e1.trans (Ext.weak e2)) r2⟩
  obtain ⟨a, xs, ds', rfl, rfl, n, h0, ff, l, r⟩ := r2
  have nz : some a ≠ z.r := fun c => by
    obtain ⟨w1, w2, w3⟩ := rs1.row a c.symm
    obtain ⟨ys, q⟩ := w1.lst
    rw [h0] at q; cases q
  exact hq _ _ F' H' q2 (e1.trans (Ext.weak e2)) ⟨a, xs, ds', rfl, rfl, nz, e1.free h0, ff, l, r⟩
end
section
variable {P : Program} {w : World} {K : PySem.W.Frag} {mg : Str → Option Value} {base : Heap} {T : List Addr}
theorem Df.hasN {x : Str} {st : Stmt} {ps N : List Str} {k : Nat} {sp : SpD} {fb : DSN} (d : Df K mg x st ps) (S : FnScope N ps (defScope st)) (len : ∀ ds Q E, sp ds Q E → ds.length = ps.length)
    (hb : ∀ (f : Addr) (cdv : Value) (A : Around) (outer : List Env) (s : Shared) (H : Hp) (E : XK), Room k (A.deeper (envOfC x (defScope st) s.heap.objs.size f cdv)) →
      PassesOwn (model P w) (A.deeper (envOfC x (defScope st) s.heap.objs.size f cdv)) (envOfC x (defScope st) s.heap.objs.size f cdv) (cxOf (L2.CX P w) P w K mg base N x (defScope st) f cdv A outer s H E).xe →
      PSsN (cxOf (L2.CX P w) P w K mg base N x (defScope st) f cdv A outer s H E) (z0 T) (defBody st) fb)
    (hp : ∀ ds Q E, sp ds Q E → ∃ ρ0, startR N ds = ρ0 ∧ fb Q (fun x _ => E x) ρ0) : HasN P w K mg base T (k + 1) x ps sp := by
  obtain ⟨f, fd, F, m, b⟩ := d.ex
  refine ⟨f, fd, F.ok S (fun vs H Q E ⟨ds, F, Q', ex, _, _, _, r, h, _⟩ => r.len.symm.trans (len ds Q' ex h)) fun cdv A outer s H vs Q E hr h => ?_, m, F.kp, b⟩
  obtain ⟨ds, F, Q', ex, sb, nt, t, r, h, hq, hx⟩ := h
  refine ⟨_, hb f cdv A outer s H E hr (passes_of (X := cxOf (L2.CX P w) P w K mg base N x (defScope st) f cdv A outer s H E) (K := fun e s'' => L2.CX P w outer H s E e s'') rfl) _ (takes_of rfl rfl rfl rfl), ?_⟩
  refine ⟨F, H, startR N ds, F, _, _, rs_start sb nt t r, (let ⟨_, e, g⟩ := hp ds Q' ex h; e ▸ g), ?_⟩
  exact ⟨fun d v F' H' p e r => hq d v F' H' p e r, fun x ρ c dd F' σ H' p rs _ xr => hx x c dd F' H' p rs.ext xr⟩
end
end Act
namespace Act
variable [GT]
open PySem PySem.Spec PyProof.Rows L2
/-! ## max, min of a tuple of integers -/
def rMaxT (K : PySem.W.Frag) : List V → Hp → VK → Prop := fun vs H Q => ∃ (a : Addr) (ns : List Int), vs = [V.ref a] ∧ SqT K H a (ns.map V.int) ∧ 0 < ns.length ∧ ∀ m, m ∈ ns → (∀ y, y ∈ ns → y ≤ m) → Q (.int m) H
theorem foldl_max_le : ∀ (ns : List Int) (n : Int), n ≤ ns.foldl max n ∧ (∀ y ∈ ns, y ≤ ns.foldl max n) ∧ (ns.foldl max n = n ∨ ns.foldl max n ∈ ns)
  | [], n => ⟨Int.le_refl _, (fun y h => by cases h), .inl rfl⟩
  | k :: ns, n => by
    obtain ⟨h1, h2, h3⟩ := foldl_max_le ns (max n k)
    rw [List.foldl_cons]
    refine ⟨by omega, fun y hy => ?_, ?_⟩
    · rcases List.mem_cons.mp hy with e | e
      · rw [e]; omega
      · exact h2 y e
    · rcases h3 with e | e
      · rw [e]
        by_cases c : k ≤ n
        · left; omega
        · right; rw [show max n k = k by omega]; exact List.mem_cons_self
      · exact .inr (List.mem_cons_of_mem _ e)
theorem reads_intsV {h : Heap} : ∀ {ns : List Int} {its : List Value}, Vals (ns.map V.int) its → ReadsAll h its (ns.map PyData.int) []
  | [], its, r => by cases r; exact .nil
  | n :: ns, its, r => by
    cases r with
    | cons a b =>
      obtain ⟨t, rfl⟩ := a
      exact ReadsAll.cons (as := []) (bs := []) (.int n t) (reads_intsV b)
theorem alike_ints (ns : List Int) : PySem.W.AlikeAll (ns.map PyData.int) := by
  refine ⟨fun x hx y hy => ?_, fun x hx => ?_⟩
  · obtain ⟨i, _, rfl⟩ := List.mem_map.mp hx
    obtain ⟨j, _, rfl⟩ := List.mem_map.mp hy
    rfl
  · obtain ⟨i, _, rfl⟩ := List.mem_map.mp hx
    exact fun e => by cases e
theorem depth_ints : ∀ ns : List Int, PyData.depthAll (ns.map PyData.int) = 0
  | [] => by rw [List.map_nil, PyData.depthAll]
  | n :: ns => by rw [List.map_cons, PyData.depthAll, depth_ints ns, PyData.depth]; rfl
section
variable {X : Cx} {z : Zx} {m ma mb mc : Mo} {e ea eb ec : Expr} {f fa fb fc : DE} {pos : Pos}
theorem cr_maxT (hc : X.calm = true) (hu : X.A.units + 64 < cLine) : CallR X (.builtin "max") (rMaxT X.K) := by
  intro pins s σ H vs us Q I r h
  obtain ⟨a, ns, rfl, hs, hne, q⟩ := h
  obtain ⟨its, rv, hl, _⟩ := I.tuple hs
  rw [Vals.ref1 r]
  have ht : s.heap.IsTuple a its.toArray := hl
  cases ns with
  | nil => exact absurd hne (by simp)
  | cons n ns =>
    have hr : ReadsAll s.heap its.toArray.toList (PyData.int n :: ns.map PyData.int) [] := reads_intsV (ns := n :: ns) rv
    have hd := depth_ints (n :: ns)
    refine PySem.W.max_tuple_data (I.ok.hd hc) ht hr (alike_ints (n :: ns)) (by rw [show PyData.depthAll (PyData.int n :: ns.map PyData.int) = 0 from hd]; omega) fun i v h' tk bs _ rd hk => ?_
    rw [PySem.W.maxD_ints] at rd
    cases rd
    obtain ⟨h1, h2, h3⟩ := foldl_max_le ns n
    refine ⟨.int _, H, I.kept hk, ⟨_, rfl⟩, q _ ?_ fun y hy => ?_⟩
    · rcases h3 with e | e
      · rw [e]; exact List.mem_cons_self
      · exact List.mem_cons_of_mem _ e
    · rcases List.mem_cons.mp hy with e | e
      · rw [e]; exact h1
      · exact h2 y e
def eMaxT (fa : DE) : DE := fun ρ Q E => fa ρ (fun d => match d with | .tup ds => ∃ ns : List Int, ds = ns.map D.int ∧ 0 < ns.length ∧ ∀ m, m ∈ ns → (∀ y, y ∈ ns → y ≤ m) → Q (.int m) | _ => False) E
theorem d_maxT {k : Nat} (hz : X.mg "max" = none) (hr : Room k X.A) {p : Pos} (ha : PD X z ma ea fa) (hc : X.calm = true := by rfl) (hg : Gl X "max" := by rfl) (hse : starEach [ea] X.env = (false, eval ea X.env) :: starEach [] X.env := by rfl) : PD X z .d (.Call (.Name "max" p) [ea] [] pos) (eMaxT fa) := fun W tk =>
  peW (pe_callB (cr_maxT hc (hu64 hr)) hg hz (by decide +kernel) (pa_cons (ha W tk) pa_nil hse) (by decide) (by decide) hse (by rfl)) fun σ H R ⟨F0, H0, ρ, F, Q, E, rs, hf, hq, hx⟩ => ⟨F0, H0, ρ, F, _, E, rs, hf, (fun d v F1 H1 q1 e1 r1 => by
    cases d <;> try exact False.elim q1
    obtain ⟨ns, rfl, hl, hQ⟩ := q1
    obtain ⟨a, xs, rfl, t, r⟩ := rb_tup r1.b
    exact ⟨a, ns, rfl, by rw [← reps_intsV r]; exact (t.sub e1.fh).sq, hl, fun m h1 h2 => hq _ _ _ _ (hQ m h1 h2) e1 (resD rep_int)⟩), hx⟩
end
/-! ### an integer times a truth -/
theorem op_mulIB {X : Cx} : OpR X (binaryOp .Mult) (fun x y H Q => ∃ i b, x = V.int i ∧ y = V.bl b ∧ Q (V.int (i * if b = true then (1 : Int) else 0)) H) := by
  intro pins s σ H x y v u Q I rx ry h
  obtain ⟨i, b, rfl, rfl, q⟩ := h
  obtain ⟨t, rfl⟩ := rx
  cases ry
  exact PySem.IntBool.mul_int_bool ⟨.int _, H, I.tok _, ⟨_, rfl⟩, q⟩
def pMulB : D → D → (D → Prop) → Prop := fun x y Q => match x, y with
  | .int i, .bl b => Q (.int (i * if b = true then (1 : Int) else 0))
  | _, _ => False
theorem opd_mulIB {K : PySem.W.Frag} {z : Zx} : OpD K z .d (fun x y H Q => ∃ i b, x = V.int i ∧ y = V.bl b ∧ Q (V.int (i * if b = true then (1 : Int) else 0)) H) pMulB := fun F H x y v u Q R s rf hx hy q k => by
  cases x <;> cases y <;> try exact False.elim q
  exact ⟨_, _, rb_int hx, rb_bl hy, k _ _ F H q (Ext.refl s) (resD rep_int)⟩
end Act
namespace Act
variable [GT]
open PySem PySem.Spec PyProof.Rows L2
open scoped Rat
def D.isInt (d : D) : Bool := d.is "int" && !d.is "bool"
def D.bet (d : D) (a b : Int) : Bool := match d with
  | .int i => decide (a ≤ i ∧ i ≤ b)
  | _ => false
def spIsIntD : SpD := fun ds Q _ => ∃ d, ds = [d] ∧ Q (.bl d.isInt)
def spBetD : SpD := fun ds Q _ => ∃ d a b, ds = [d, .int a, .int b] ∧ Q (.bl (d.bet a b))
def spIsRatioD : SpD := fun ds Q _ => ∃ r, ds = [dR r] ∧ Q (.bl true)
def spCheckRateD : SpD := fun ds Q _ => ∃ r, ds = [dR r] ∧ RateOk r ∧ Q .non
def spSmallPartsD : SpD := fun ds Q _ => ∃ (r : Rat) (most : Int), ds = [dR r, .int most] ∧ Q (.bl (decide (r.num.natAbs ≤ most ∧ (r.den : Int) ≤ most)))
def spIsRateD : SpD := fun ds Q _ => ∃ r, ds = [dR r] ∧ RateOk r ∧ Q (.bl true)
def spCheckTimeD : SpD := fun ds Q _ => ∃ i a b, ds = [.int i, .int a, .int b] ∧ a ≤ i ∧ i ≤ b ∧ Q .non
def spMakeD : SpD := fun ds Q _ => ∃ t b n, ds = [.int t, .int b] ∧ b ≠ 0 ∧ b.natAbs < 2 ^ n ∧ n ≤ 8999 ∧ Q (dR (t /. b))
def spR2D (ok : Rat → Rat → Prop) (f : Rat → Rat → Rat) : SpD := fun ds Q _ => ∃ a b n m, ds = [dR a, dR b] ∧ Bd n a ∧ Bd m b ∧ n + m ≤ 8900 ∧ ok a b ∧ Q (dR (f a b))
abbrev spPlusD := spR2D (fun _ _ => True) (fun a b => a + b)
abbrev spMinusD := spR2D (fun _ _ => True) (fun a b => a - b)
abbrev spMulD := spR2D (fun _ _ => True) (fun a b => a * b)
abbrev spDivD := spR2D (fun _ b => b ≠ 0) (fun a b => a / b)
def spR1D (ok : Rat → Prop) (f : Rat → Rat) : SpD := fun ds Q _ => ∃ r, ds = [dR r] ∧ ok r ∧ Q (dR (f r))
def spPowerD : SpD := fun ds Q _ => ∃ r n m, ds = [dR r, .int ((n : Nat) : Int)] ∧ n ≤ 100 ∧ Bd m r ∧ m * n + m ≤ 100000 ∧ Q (dR (r ^ n))
def dRs (rs : List Rat) : List D := rs.map dR
def rsum (rs : List Rat) : Rat := rs.sum
/-- sums of the first ones are of a size -/
def SumBd (n : Nat) (rs : List Rat) : Prop := (∀ r ∈ rs, Bd n r) ∧ ∀ i, i ≤ rs.length → Bd n (rs.take i).sum
def spTotalD : SpD := fun ds Q _ => ∃ rs n c, ds = [c] ∧ (c = .lst (dRs rs) ∨ c = .tup (dRs rs)) ∧ SumBd n rs ∧ n ≤ 4400 ∧ Q (dR rs.sum)
def spPickD : SpD := fun ds Q _ => ∃ xs, ds = [.lst xs] ∧ xs ≠ [] ∧ xs.length ≤ 1000 ∧ ∀ x ∈ xs, Q x
def spAlikeD (n : Nat) : SpD := fun ds Q _ => ∃ d, ds = [d, d] ∧ D.okD n d = true ∧ Q (.bl true)
theorem isInt_int {i : Int} : D.isInt (.int i) = true := by simp only [D.isInt, is_int_int, is_int_bool]; rfl
theorem spIsIntD_eq {d : D} {Q : D → Prop} {E : Exc → Prop} : spIsIntD [d] Q E = Q (.bl d.isInt) := by simp [spIsIntD]
theorem spBetD_eq {d : D} {a b : Int} {Q : D → Prop} {E : Exc → Prop} : spBetD [d, .int a, .int b] Q E = Q (.bl (d.bet a b)) := propext ⟨fun ⟨d', a', b', e, h⟩ => by injection e with e1 e; injection e with e2 e; injection e with e3 _; injection e2 with e2; injection e3 with e3; subst e1 e2 e3; exact h, fun h => ⟨_, _, _, rfl, h⟩⟩
theorem bet_int {i a b : Int} : D.bet (.int i) a b = decide (a ≤ i ∧ i ≤ b) := rfl
theorem spIsRatioD_R {r : Rat} {Q : D → Prop} {E : Exc → Prop} (h : Q (.bl true)) : spIsRatioD [.tup [.int r.num, .int (r.den : Nat)]] Q E := ⟨r, rfl, h⟩
def spLRatioD : SpD := fun ds Q _ => ∃ t b n, ds = [.int t, .int b] ∧ b ≠ 0 ∧ t.natAbs < 2 ^ n ∧ b.natAbs < 2 ^ n ∧ n ≤ 8999 ∧ Q (dR (t /. b))
def spValuesD : SpD := fun ds Q _ => ∃ ns r, ds = [.tup (ns.map D.int), dR r] ∧ ns.length ≤ 60 ∧ PayOk ns ∧ RateOk r ∧ Q (.lst (dRs (vals (1 + r)⁻¹ 1 ns)))
def spRateD : SpD := fun ds Q _ => ds = [] ∧ ∀ r, RateOk r → Q (dR r)
theorem okDs_at {n : Nat} : ∀ {xs : List D} {i : Nat} {x : D}, D.okDs n xs = true → xs[i]? = some x → D.okD n x = true
  | [], i, x, _, h => by simp at h
  | y :: ys, 0, x, h, e => by
    simp only [D.okDs, Bool.and_eq_true] at h
    cases e
    exact h.1
  | y :: ys, i + 1, x, h, e => by
    simp only [D.okDs, Bool.and_eq_true] at h
    exact okDs_at (i := i) h.2 e
theorem take_succ_sum {rs : List Rat} {i : Nat} {r : Rat} (h : rs[i]? = some r) : (rs.take (i + 1)).sum = (rs.take i).sum + r := by
  have hi : i < rs.length := (List.getElem?_eq_some_iff.mp h).1
  have e : rs[i] = r := (List.getElem?_eq_some_iff.mp h).2
  rw [List.take_succ_eq_append_getElem hi, e, List.sum_append]
  simp [Rat.add_zero]
theorem dRs_at {rs : List Rat} {i : Nat} {d : D} (h : (dRs rs)[i]? = some d) : ∃ r, rs[i]? = some r ∧ d = dR r := by
  unfold dRs at h
  rw [List.getElem?_map] at h
  cases e : rs[i]? with
  | none => rw [e] at h; cases h
  | some r => rw [e] at h; exact ⟨r, rfl, (Option.some.inj h).symm⟩
end Act
namespace Act
variable [GT]
open PySem PySem.Spec PyProof.Rows L2
open scoped Rat
/-! ### sums of values, and of times times values -/
theorem vals_sum (d : Rat) : ∀ (h : Rat) (ns : List Int), (vals d h ns).sum = h * pval d ns
  | h, [] => by simp only [vals, pval, List.sum_nil]; grind
  | h, n :: ns => by
    simp only [vals, pval, List.sum_cons]
    rw [vals_sum d (h * d) ns]
    grind
theorem vals_take (d : Rat) : ∀ (h : Rat) (ns : List Int) (i : Nat), (vals d h ns).take i = vals d h (ns.take i)
  | h, [], i => by simp [vals]
  | h, n :: ns, 0 => by simp [vals]
  | h, n :: ns, i + 1 => by simp only [vals, List.take_succ_cons, vals_take d (h * d) ns i]
theorem vals_bd {d : Rat} (hd : Bd 11 d) {ns : List Int} (hok : PayOk ns) (hl : ns.length ≤ 60) : ∀ r ∈ vals d 1 ns, Bd 700 r := by
  intro r hr
  obtain ⟨i, hi⟩ := List.getElem?_of_mem hr
  have hlt : i < ns.length := by
    have := (List.getElem?_eq_some_iff.mp hi).1
    rwa [vals_len] at this
  rw [vals_at d 1 ns i ns[i] (List.getElem?_eq_getElem hlt)] at hi
  cases hi
  rw [Rat.one_mul]
  exact ((Bd.int (hok _ (List.getElem_mem hlt)) (by decide)).mul (hd.pow i)).mono (by omega)
theorem pval_bd {d : Rat} (hd : Bd 11 d) {ns : List Int} (hok : PayOk ns) (hl : ns.length ≤ 60) : Bd 2000 (pval d ns) := (Bd.pval hd hok).mono (by omega)
theorem vals_sumBd {d : Rat} (hd : Bd 11 d) {ns : List Int} (hok : PayOk ns) (hl : ns.length ≤ 60) : SumBd 2000 (vals d 1 ns) := by
  refine ⟨fun r hr => (vals_bd hd hok hl r hr).mono (by omega), fun i _ => ?_⟩
  rw [vals_take, vals_sum, Rat.one_mul]
  exact pval_bd hd (hok.take i) (by rw [List.length_take]; omega)
/-- the integers times their places, from k on -/
def wts : Nat → List Int → List Int
  | _, [] => []
  | k, n :: ns => (k : Int) * n :: wts (k + 1) ns
theorem wts_len : ∀ (k : Nat) (ns : List Int), (wts k ns).length = ns.length
  | _, [] => rfl
  | k, _ :: ns => congrArg Nat.succ (wts_len (k + 1) ns)
theorem wts_at : ∀ (k : Nat) (ns : List Int) (i : Nat), (wts k ns)[i]? = ns[i]?.map fun n => ((k + i : Nat) : Int) * n
  | _, [], i => by simp [wts]
  | k, n :: ns, 0 => by simp [wts]
  | k, n :: ns, i + 1 => by
    simp only [wts, List.getElem?_cons_succ]
    rw [wts_at (k + 1) ns i, show k + 1 + i = k + (i + 1) by omega]
theorem wts_ok {ns : List Int} (h : ∀ n ∈ ns, n.natAbs ≤ 10000) (hl : ns.length ≤ 60) : PayOk (wts 0 ns) := by
  intro m hm
  obtain ⟨i, hi⟩ := List.getElem?_of_mem hm
  rw [wts_at] at hi
  cases e : ns[i]? with
  | none => rw [e] at hi; cases hi
  | some n =>
    rw [e] at hi
    cases hi
    have hlt := (List.getElem?_eq_some_iff.mp e).1
    have h1 := h n (List.mem_of_getElem? e)
    rw [Int.natAbs_mul]
    have h2 : (((0 + i : Nat) : Nat) : Int).natAbs ≤ 60 := by omega
    have h3 := Nat.mul_le_mul h2 h1
    show _ < 1048576
    omega
/-- adding years to all places -/
theorem pval_wts (d : Rat) : ∀ (k y : Nat) (ns : List Int), pval d (wts (k + y) ns) = pval d (wts k ns) + (y : Rat) * pval d ns
  | k, y, [] => by simp only [wts, pval]; grind
  | k, y, n :: ns => by
    simp only [wts, pval]
    have e : k + y + 1 = k + 1 + y := by omega
    rw [e, pval_wts d (k + 1) y ns]
    have e2 : ((((k + y : Nat) : Int) * n : Int) : Rat) = ((((k : Int) * n : Int)) : Rat) + (y : Rat) * (n : Rat) := by
      rw [show (((k + y : Nat) : Int) * n : Int) = (k : Int) * n + (y : Int) * n by rw [Int.natCast_add, Int.add_mul], Rat.intCast_add, Rat.intCast_mul (y : Int) n]
      rfl
    rw [e2]
    grind
theorem wts_zeros : ∀ (y k : Nat) (ns : List Int), wts k (List.replicate y 0 ++ ns) = List.replicate y 0 ++ wts (k + y) ns
  | 0, k, ns => by simp
  | y + 1, k, ns => by
    simp only [List.replicate_succ, List.cons_append, wts, wts_zeros y (k + 1) ns, Int.mul_zero]
    rw [show k + 1 + y = k + (y + 1) by omega]
theorem pval_zeros (d : Rat) : ∀ (y : Nat) (ns : List Int), pval d (List.replicate y 0 ++ ns) = d ^ y * pval d ns
  | 0, ns => by simp only [List.replicate_zero, List.nil_append, Rat.pow_zero]; grind
  | y + 1, ns => by
    simp only [List.replicate_succ, List.cons_append, pval, pval_zeros d y ns, Rat.pow_succ]
    have e : ((0 : Int) : Rat) = 0 := rfl
    rw [e]
    grind
theorem pval_tail0 (d : Rat) : ∀ (ns : List Int) (y : Nat), pval d (ns ++ List.replicate y 0) = pval d ns
  | [], y => by
    have := pval_zeros d y []
    rw [List.append_nil] at this
    rw [List.nil_append, this]
    simp only [pval]
    grind
  | n :: ns, y => by simp only [List.cons_append, pval, pval_tail0 d ns y]
/-- of the values, those behind the edge, times how far behind it -/
def aboveF (e : Int) : Nat → List Rat → List Rat
  | _, [] => []
  | k, r :: rs => if (k : Int) > e then (((k : Int) - e : Int) : Rat) * r :: aboveF e (k + 1) rs else aboveF e (k + 1) rs
theorem aboveF_app (e : Int) : ∀ (k : Nat) (rs : List Rat) (r : Rat), aboveF e k (rs ++ [r]) = aboveF e k rs ++ (if ((k + rs.length : Nat) : Int) > e then [((((k + rs.length : Nat) : Int) - e : Int) : Rat) * r] else [])
  | k, [], r => by
    simp only [List.nil_append, aboveF, List.length_nil, Nat.add_zero]
  | k, s :: rs, r => by
    simp only [List.cons_append, aboveF]
    rw [aboveF_app e (k + 1) rs r]
    have e2 : k + 1 + rs.length = k + (rs.length + 1) := by omega
    rw [e2, List.length_cons]
    by_cases c : (k : Int) > e
    · rw [if_pos c, if_pos c]; rfl
    · rw [if_neg c, if_neg c]
/-- at the edge 0: times times values -/
theorem above0_vals (d : Rat) : ∀ (k : Nat) (h : Rat) (ns : List Int), 0 < k → aboveF 0 k (vals d h ns) = vals d h (wts k ns)
  | k, h, [], _ => rfl
  | k, h, n :: ns, hk => by
    simp only [vals, aboveF, wts]
    rw [if_pos (by omega), above0_vals d (k + 1) (h * d) ns (by omega), Int.sub_zero, Rat.intCast_mul]
    congr 1
    grind
theorem above0_sum (d : Rat) (ns : List Int) : (aboveF 0 0 (vals d 1 ns)).sum = pval d (wts 0 ns) := by
  cases ns with
  | nil => rfl
  | cons n ns =>
    simp only [vals, aboveF, wts, pval]
    rw [if_neg (by omega), above0_vals d 1 _ ns (by omega), vals_sum]
    have e : (((((0 : Nat) : Int) * n : Int)) : Rat) = 0 := by simp
    rw [e]
    grind
theorem above0_sumBd {d : Rat} (hd : Bd 11 d) {ns : List Int} (h : ∀ n ∈ ns, n.natAbs ≤ 10000) (hl : ns.length ≤ 60) : SumBd 2000 (aboveF 0 0 (vals d 1 ns)) := by
  have e : ∃ k, aboveF 0 0 (vals d 1 ns) = (vals d 1 (wts 0 ns)).drop k := by
    cases ns with
    | nil => exact ⟨0, rfl⟩
    | cons n ns =>
      refine ⟨1, ?_⟩
      simp only [vals, aboveF, wts, List.drop_succ_cons, List.drop_zero]
      rw [if_neg (by omega), above0_vals d 1 _ ns (by omega)]
  have wl : (wts 0 ns).length ≤ 60 := by rw [wts_len]; exact hl
  obtain ⟨hb, hs⟩ := vals_sumBd hd (wts_ok h hl) wl
  cases ns with
  | nil => exact ⟨fun r hr => by simp [vals, aboveF] at hr, fun i _ => by simp [vals, aboveF]; exact Bd.zero (by omega)⟩
  | cons n ns =>
    have e1 : aboveF 0 0 (vals d 1 (n :: ns)) = vals d (1 * d) (wts 1 ns) := by
      simp only [vals, aboveF]
      rw [if_neg (by omega), above0_vals d 1 _ ns (by omega)]
    have e2 : vals d 1 (wts 0 (n :: ns)) = (((0 : Nat) : Int) * n : Int) * (1 : Rat) :: vals d (1 * d) (wts 1 ns) := rfl
    rw [e1]
    refine ⟨fun r hr => hb r (by rw [e2]; exact List.mem_cons_of_mem _ hr), fun i hi => ?_⟩
    have := hs (i + 1) (by rw [e2, List.length_cons]; omega)
    rw [e2, List.take_succ_cons, List.sum_cons] at this
    have z : ((((0 : Nat) : Int) * n : Int) : Rat) * (1 : Rat) = 0 := by simp
    rw [z, Rat.zero_add] at this
    exact this
theorem pval_pos {d : Rat} (hd : 0 < d) : ∀ {ns : List Int}, (∀ n ∈ ns, 0 ≤ n) → (∃ n ∈ ns, 0 < n) → 0 < pval d ns
  | [], _, ⟨n, hn, _⟩ => by simp at hn
  | n :: ns, h, ⟨m, hm, pm⟩ => by
    have h0 : 0 ≤ pval d ns := pval_nonneg hd fun m hm => h m (List.mem_cons_of_mem _ hm)
    have hn : 0 ≤ n := h n List.mem_cons_self
    simp only [pval]
    rcases List.mem_cons.mp hm with e | e
    · subst e
      have : (0 : Rat) < (m : Rat) := Rat.intCast_pos.mpr pm
      have := Rat.mul_nonneg (Rat.le_of_lt hd) h0
      grind
    · have p := pval_pos hd (fun m hm => h m (List.mem_cons_of_mem _ hm)) ⟨m, e, pm⟩
      have := Rat.mul_pos hd p
      have : (0 : Rat) ≤ (n : Rat) := Rat.intCast_nonneg.mpr hn
      grind
/-! ### promises -/
def spCheckPayD : SpD := fun ds Q _ => ∃ ns : List Int, ds = [.tup (ns.map D.int)] ∧ ns.length ≤ 40 ∧ (∀ n ∈ ns, n.natAbs ≤ 1000000) ∧ Q .non
/-- payments that are plain -/
structure PlainOk (ns : List Int) : Prop where
  len : ns.length ≤ 40
  big : ∀ n ∈ ns, n ≤ 1000000
  neg : ∀ n ∈ ns, 0 ≤ n
  pos : ∃ n ∈ ns, 0 < n
def spCheckPlainD : SpD := fun ds Q _ => ∃ ns : List Int, ds = [.tup (ns.map D.int)] ∧ PlainOk ns ∧ Q .non
def pad40 (ns : List Int) : List Int := ns ++ List.replicate (40 - ns.length) 0
def spValuesOfD : SpD := fun ds Q _ => ∃ ns r, ds = [.tup (ns.map D.int), dR r] ∧ ns.length ≤ 40 ∧ PayOk ns ∧ RateOk r ∧ Q (.lst (dRs (vals (1 + r)⁻¹ 1 (pad40 ns))))
def spSumAboveD : SpD := fun ds Q _ => ∃ (rs : List Rat) (e : Int) (n m : Nat), ds = [.lst (dRs rs), .int e] ∧ rs.length ≤ 1000 ∧ e.natAbs ≤ 1000 ∧ (∀ r ∈ rs, Bd n r) ∧ n + 20 ≤ 8900 ∧ SumBd m (aboveF e 0 rs) ∧ m ≤ 4400 ∧ Q (dR (aboveF e 0 rs).sum)
def spMeanTimeD : SpD := fun ds Q _ => ∃ ns r, ds = [.tup (ns.map D.int), dR r] ∧ PlainOk ns ∧ (∀ n ∈ ns, n ≤ 10000) ∧ RateOk r ∧ Q (dR (pval (1 + r)⁻¹ (wts 0 ns) / pval (1 + r)⁻¹ ns))
def spPlainDrawD : SpD := fun ds Q _ => ∃ most : Int, ds = [.int most] ∧ 1 ≤ most ∧ most ≤ 20 ∧ ∀ ns : List Int, (ns.length : Int) ≤ most → PlainOk ns → (∀ n ∈ ns, n ≤ 10000) → Q (.tup (ns.map D.int))
theorem ints_of {P : Int → Prop} : ∀ {xs : List D}, (∀ (i : Nat) (y : D), xs[i]? = some y → ∃ n : Int, y = D.int n ∧ P n) → ∃ ns : List Int, xs = ns.map D.int ∧ ∀ n ∈ ns, P n
  | [], _ => ⟨[], rfl, fun n h => by simp at h⟩
  | x :: xs, h => by
    obtain ⟨n, rfl, pn⟩ := h 0 x rfl
    obtain ⟨ns, rfl, hp⟩ := ints_of (xs := xs) fun i y e => h (i + 1) y e
    exact ⟨n :: ns, rfl, fun m hm => by
      rcases List.mem_cons.mp hm with e | e
      · rw [e]; exact pn
      · exact hp m e⟩
theorem pad40_len {ns : List Int} (h : ns.length ≤ 40) : (pad40 ns).length = 40 := by simp [pad40]; omega
theorem mem_pad40 {ns : List Int} {n : Int} (h : n ∈ pad40 ns) : n ∈ ns ∨ n = 0 := by
  rcases List.mem_append.mp h with h | h
  · exact .inl h
  · exact .inr (List.mem_replicate.mp h).2
theorem wts_pad (ns : List Int) : wts 0 (pad40 ns) = wts 0 ns ++ List.replicate (40 - ns.length) 0 := by
  have go : ∀ (k : Nat) (ns : List Int) (y : Nat), wts k (ns ++ List.replicate y 0) = wts k ns ++ List.replicate y 0 := by
    intro k ns
    induction ns generalizing k with
    | nil =>
      intro y
      have := wts_zeros y k []
      rw [List.append_nil] at this
      rw [List.nil_append, this]
      simp [wts]
    | cons n ns ih => intro y; simp only [List.cons_append, wts, ih (k + 1) y]
  exact go 0 ns _
end Act
namespace Act
variable [GT]
open PySem PySem.Spec PyProof.Rows L2
open scoped Rat
/-! ### tables of lives -/
/-- how many live at x; nobody behind the table -/
abbrev lat (ls : List Int) (x : Nat) : Int := ls.getD x 0
structure LivesOk (ls : List Int) : Prop where
  len2 : 2 ≤ ls.length
  len40 : ls.length ≤ 40
  nat : ∀ n ∈ ls, 0 ≤ n ∧ n ≤ 1000000
  fall : ∀ i, i + 1 < ls.length → lat ls (i + 1) ≤ lat ls i
  last : lat ls (ls.length - 1) = 0
  pos : 0 < lat ls (ls.length - 2)
structure AgeOk (ls : List Int) (a : Nat) : Prop where
  lt : a + 2 ≤ ls.length
theorem getD_lt {ls : List Int} {i : Nat} (h : i < ls.length) : ls[i]? = some (ls.getD i 0) := by
  rw [List.getElem?_eq_getElem h]
  simp [List.getD, List.getElem?_eq_getElem h]
theorem getD_ge {ls : List Int} {i : Nat} (h : ls.length ≤ i) : ls.getD i 0 = 0 := by
  simp [List.getD, List.getElem?_eq_none h]
theorem lat_bd {ls : List Int} (h : LivesOk ls) (i : Nat) : 0 ≤ lat ls i ∧ lat ls i ≤ 1000000 := by
  by_cases c : i < ls.length
  · have e := getD_lt c
    exact h.nat _ (List.mem_of_getElem? e)
  · have e := getD_ge (ls := ls) (i := i) (by omega)
    show 0 ≤ ls.getD i 0 ∧ ls.getD i 0 ≤ 1000000
    rw [e]; decide
theorem lat_fall {ls : List Int} (h : LivesOk ls) (i : Nat) : lat ls (i + 1) ≤ lat ls i := by
  by_cases c : i + 1 < ls.length
  · exact h.fall i c
  · have e : lat ls (i + 1) = 0 := getD_ge (by omega)
    rw [e]
    exact (lat_bd h i).1
theorem lat_mono {ls : List Int} (h : LivesOk ls) {i j : Nat} (l : i ≤ j) : lat ls j ≤ lat ls i := by
  induction l with
  | refl => exact Int.le_refl _
  | step _ ih => exact Int.le_trans (lat_fall h _) ih
theorem lat_pos {ls : List Int} (h : LivesOk ls) {a : Nat} (ha : AgeOk ls a) : 0 < lat ls a := by
  have h1 := lat_mono h (i := a) (j := ls.length - 2) (by have := ha.lt; omega)
  have h2 := h.pos
  omega
theorem lat_zero {ls : List Int} (h : LivesOk ls) {i : Nat} (hi : ls.length ≤ i + 1) : lat ls i = 0 := by
  have h1 := lat_mono h (i := ls.length - 1) (j := i) (by omega)
  have h2 := h.last
  have h3 := (lat_bd h i).1
  omega
theorem falls_all {ls : List Int} (h : LivesOk ls) : ((List.range (ls.length - 1)).all fun (k : Nat) => falls ls (k : Int)) = true := by
  rw [List.all_eq_true]
  intro k hk
  have := List.mem_range.mp hk
  unfold falls
  rw [Int.toNat_natCast]
  exact decide_eq_true (h.fall k (by omega))
/-- a part of those at an age -/
theorem part_bd {t b : Int} (hb : 0 < b) (hb2 : b ≤ 1000000) (ht : t.natAbs ≤ 1000000) : Bd 20 (t /. b) := Bd.divInt (by omega) (by show _ < 1048576; omega) (by show _ < 1048576; omega)
def lpart (ls : List Int) (a y : Nat) : Rat := lat ls (a + y) /. lat ls a
def dpart (ls : List Int) (a y : Nat) : Rat := (lat ls (a + y) - lat ls (a + y + 1)) /. lat ls a
theorem lpart_bd {ls : List Int} (h : LivesOk ls) {a : Nat} (ha : AgeOk ls a) (y : Nat) : Bd 20 (lpart ls a y) := part_bd (lat_pos h ha) (lat_bd h a).2 (by have := lat_bd h (a + y); omega)
theorem dpart_bd {ls : List Int} (h : LivesOk ls) {a : Nat} (ha : AgeOk ls a) (y : Nat) : Bd 20 (dpart ls a y) := part_bd (lat_pos h ha) (lat_bd h a).2 (by have := lat_bd h (a + y); have := lat_bd h (a + y + 1); have := lat_fall h (a + y); omega)
theorem divInt_div (t b : Int) : t /. b = (t : Rat) / (b : Rat) := Rat.divInt_eq_div t b
/-! ### promises -/
def spLivesOkD : SpD := fun ds Q _ => ∃ ls : List Int, ds = [.tup (ls.map D.int)] ∧ LivesOk ls ∧ Q (.bl true)
def spCheckLivesD : SpD := fun ds Q _ => ∃ ls : List Int, ds = [.tup (ls.map D.int)] ∧ LivesOk ls ∧ Q .non
def spIsAgeD : SpD := fun ds Q _ => ∃ (ls : List Int) (a : Nat), ds = [.tup (ls.map D.int), .int (a : Int)] ∧ LivesOk ls ∧ AgeOk ls a ∧ Q (.bl true)
def spCheckAgeD : SpD := fun ds Q _ => ∃ (ls : List Int) (a : Nat), ds = [.tup (ls.map D.int), .int (a : Int)] ∧ LivesOk ls ∧ AgeOk ls a ∧ Q .non
def spLivingAtD : SpD := fun ds Q _ => ∃ (ls : List Int) (x : Nat), ds = [.tup (ls.map D.int), .int (x : Int)] ∧ Q (.int (lat ls x))
def spPartD (f : List Int → Nat → Nat → Rat) : SpD := fun ds Q _ => ∃ (ls : List Int) (a y : Nat), ds = [.tup (ls.map D.int), .int (a : Int), .int (y : Int)] ∧ LivesOk ls ∧ AgeOk ls a ∧ y ≤ 1000 ∧ Q (dR (f ls a y))
def spPart60D (f : List Int → Nat → Nat → Rat) : SpD := fun ds Q _ => ∃ (ls : List Int) (a y : Nat), ds = [.tup (ls.map D.int), .int (a : Int), .int (y : Int)] ∧ LivesOk ls ∧ AgeOk ls a ∧ y ≤ 60 ∧ Q (dR (f ls a y))
def spAgesLeftD : SpD := fun ds Q _ => ∃ (ls : List Int) (a : Nat), ds = [.tup (ls.map D.int), .int (a : Int)] ∧ LivesOk ls ∧ AgeOk ls a ∧ Q (dR ((ls.drop (a + 1)).sum /. lat ls a))
def spLivesDrawD : SpD := fun ds Q _ => ∃ most : Int, ds = [D.int most] ∧ 1 ≤ most ∧ most ≤ 20 ∧ ∀ ls : List Int, (ls.length : Int) ≤ most + 1 → LivesOk ls → Q (.tup (ls.map D.int))
theorem ints_at {ls : List Int} {i : Nat} (h : i < ls.length) : atI (ls.map D.int) (i : Int) = some (.int (lat ls i)) := by
  refine atI_nat ?_
  rw [List.getElem?_map, getD_lt h]
  rfl
theorem ints_neg {ls : List Int} {i : Nat} (h1 : 1 ≤ i) (h : i ≤ ls.length) : atI (ls.map D.int) (-(i : Int)) = some (.int (lat ls (ls.length - i))) := by
  unfold L2.atI L2.ixN
  rw [if_neg (by omega), List.length_map, if_pos (by omega)]
  have e : (-(i : Int) + (ls.length : Int)).toNat = ls.length - i := by omega
  rw [e]
  simp only [Option.bind_some]
  rw [List.getElem?_map, getD_lt (by omega)]
  rfl
theorem cut_from {ls : List Int} {a : Nat} (h : a ≤ ls.length) : cutD (ls.map D.int) (some (a : Int)) none = (ls.drop a).map D.int := by
  unfold cutD
  rw [HT.sIx_nat, HT.sIx_none, List.length_map, Nat.min_eq_left h, List.map_drop, List.take_of_length_le (by rw [List.length_drop, List.length_map] <;> exact Nat.le_refl _)]
theorem sum_bd {ls : List Int} (h : ∀ n ∈ ls, 0 ≤ n ∧ n ≤ 1000000) : 0 ≤ ls.sum ∧ ls.sum ≤ 1000000 * ls.length := by
  induction ls with
  | nil => simp
  | cons n ls ih =>
    have h1 := h n List.mem_cons_self
    have h2 := ih fun m hm => h m (List.mem_cons_of_mem _ hm)
    rw [List.sum_cons, List.length_cons]
    omega
/-- adding up from an age on -/
theorem drop_sum_succ {ls : List Int} {a : Nat} (h : a < ls.length) : (ls.drop a).sum = lat ls a + (ls.drop (a + 1)).sum := by
  rw [List.drop_eq_getElem_cons h, List.sum_cons]
  have : ls[a] = lat ls a := by
    have := getD_lt h
    rw [List.getElem?_eq_getElem h] at this
    exact Option.some.inj this
  rw [this]
/-- the table as it is drawn: level numbers, then 0 -/
structure DrawOk (xs : List Int) (here : Int) : Prop where
  bd : ∀ n ∈ xs, 1 ≤ n ∧ n ≤ 1000000
  h1 : 1 ≤ here ∧ here ≤ 1000000
  le : ∀ n ∈ xs, here ≤ n
  fall : ∀ i, i + 1 < xs.length → lat xs (i + 1) ≤ lat xs i
theorem DrawOk.app {xs : List Int} {here next : Int} (h : DrawOk xs here) (hn : 1 ≤ next ∧ next ≤ here) : DrawOk (xs ++ [here]) next := by
  refine ⟨fun n hm => ?_, ⟨hn.1, by have := h.h1; omega⟩, fun n hm => ?_, fun i hi => ?_⟩
  · rcases List.mem_append.mp hm with e | e
    · exact h.bd n e
    · rw [List.mem_singleton.mp e]; exact h.h1
  · rcases List.mem_append.mp hm with e | e
    · have := h.le n e; omega
    · rw [List.mem_singleton.mp e]; exact hn.2
  · rw [List.length_append, List.length_singleton] at hi
    by_cases c : i + 1 < xs.length
    · have h1 := h.fall i c
      have e1 : lat (xs ++ [here]) (i + 1) = lat xs (i + 1) := by simp [List.getD, List.getElem?_append_left c]
      have e2 : lat (xs ++ [here]) i = lat xs i := by simp [List.getD, List.getElem?_append_left (show i < xs.length by omega)]
      rw [e1, e2]; exact h1
    · have e0 : i + 1 = xs.length := by omega
      have e1 : lat (xs ++ [here]) (i + 1) = here := by rw [e0]; simp [List.getD]
      have e2 : lat (xs ++ [here]) i = lat xs i := by simp [List.getD, List.getElem?_append_left (show i < xs.length by omega)]
      rw [e1, e2]
      exact h.le _ (List.mem_of_getElem? (getD_lt (show i < xs.length by omega)))
theorem DrawOk.lives {xs : List Int} {here : Int} (h : DrawOk xs here) (hl : 1 ≤ xs.length) (hl2 : xs.length ≤ 39) : LivesOk (xs ++ [0]) := by
  have lft : ∀ i, i < xs.length → lat (xs ++ [0]) i = lat xs i := fun i hi => by simp [List.getD, List.getElem?_append_left hi]
  have rgt : lat (xs ++ [0]) xs.length = 0 := by simp [List.getD]
  have pos : ∀ i, i < xs.length → 1 ≤ lat xs i := fun i hi => (h.bd _ (List.mem_of_getElem? (getD_lt hi))).1
  have el : (xs ++ [0]).length = xs.length + 1 := by simp
  refine ⟨by omega, by omega, fun n hm => ?_, fun i hi => ?_, by rw [el]; exact rgt, ?_⟩
  · rcases List.mem_append.mp hm with e | e
    · have := h.bd n e; omega
    · rw [List.mem_singleton.mp e]; decide
  · rw [el] at hi
    rw [lft i (by omega)]
    by_cases c : i + 1 < xs.length
    · rw [lft _ c]; exact h.fall i c
    · have e0 : i + 1 = xs.length := by omega
      rw [e0, rgt]
      have := pos i (by omega)
      omega
  · rw [el, show xs.length + 1 - 2 = xs.length - 1 by omega, lft _ (by omega)]
    have := pos (xs.length - 1) (by omega)
    omega
theorem lat_if {ls : List Int} {x : Nat} {z z' : Int} {Q : D → Prop} (hz : z = (x : Int)) (hz' : z' = (x : Int)) (h : Q (.int (lat ls x))) : if decide (z < ((ls.map D.int).length : Int)) = true then ∃ d, atI (ls.map D.int) z' = some d ∧ Q d else Q (.int 0) := by
  subst hz hz'
  rw [List.length_map]
  by_cases c : x < ls.length
  · rw [decide_eq_true (by omega), if_pos rfl]
    exact ⟨_, ints_at c, h⟩
  · rw [decide_eq_false (by omega), if_neg (by decide)]
    have e : lat ls x = 0 := getD_ge (by omega)
    rw [e] at h
    exact h
/-- how many live at the ages behind a, the first j of them together -/
def psum (ls : List Int) (a : Nat) : Nat → Int
  | 0 => 0
  | j + 1 => psum ls a j + lat ls (a + (j + 1))
theorem psum_bd {ls : List Int} (h : LivesOk ls) (a : Nat) : ∀ j, 0 ≤ psum ls a j ∧ psum ls a j ≤ 1000000 * j
  | 0 => ⟨Int.le_refl _, by simp [psum]⟩
  | j + 1 => by
    have := psum_bd h a j
    have := lat_bd h (a + (j + 1))
    simp only [psum]
    omega
theorem psum_drop {ls : List Int} (a : Nat) : ∀ j, psum ls a j + (ls.drop (a + 1 + j)).sum = (ls.drop (a + 1)).sum
  | 0 => by simp [psum]
  | j + 1 => by
    have ih := psum_drop (ls := ls) a j
    simp only [psum]
    by_cases c : a + 1 + j < ls.length
    · rw [drop_sum_succ c] at ih
      rw [show a + (j + 1) = a + 1 + j by omega, show a + 1 + (j + 1) = a + 1 + j + 1 by omega]
      omega
    · have e : lat ls (a + (j + 1)) = 0 := getD_ge (by omega)
      rw [List.drop_eq_nil_of_le (by omega)] at ih
      rw [e, List.drop_eq_nil_of_le (show ls.length ≤ a + 1 + (j + 1) by omega)]
      simpa using ih
theorem psum_all {ls : List Int} (a : Nat) : psum ls a (ls.length - 1) = (ls.drop (a + 1)).sum := by
  have := psum_drop (ls := ls) a (ls.length - 1)
  rw [List.drop_eq_nil_of_le (by omega)] at this
  simpa using this
theorem divInt_add {t u b : Int} (hb : b ≠ 0) : t /. b + u /. b = (t + u) /. b := by
  rw [divInt_div, divInt_div, divInt_div, Rat.intCast_add]
  grind
/-- the parts that die, the first n of them together -/
theorem dpart_sum {ls : List Int} (h : LivesOk ls) {a : Nat} (ha : AgeOk ls a) : ∀ n, (((List.range n).map (dpart ls a))).sum = (lat ls a - lat ls (a + n)) /. lat ls a
  | 0 => by simp
  | n + 1 => by
    have hp := lat_pos h ha
    rw [List.range_succ, List.map_append, List.sum_append, dpart_sum h ha n]
    simp only [List.map_cons, List.map_nil, List.sum_cons, List.sum_nil, Rat.add_zero, dpart]
    rw [divInt_add (by omega)]
    congr 1
    rw [show a + (n + 1) = a + n + 1 by omega]
    omega
theorem dpart_sumBd {ls : List Int} (h : LivesOk ls) {a : Nat} (ha : AgeOk ls a) (n : Nat) : SumBd 20 ((List.range n).map (dpart ls a)) := by
  refine ⟨fun r hr => ?_, fun i hi => ?_⟩
  · obtain ⟨y, _, rfl⟩ := List.mem_map.mp hr
    exact dpart_bd h ha y
  · rw [← List.map_take, List.take_range, dpart_sum h ha]
    have h1 := lat_bd h a
    have h2 := lat_bd h (a + min i n)
    have h3 := lat_mono h (i := a) (j := a + min i n) (by omega)
    exact part_bd (lat_pos h ha) h1.2 (by omega)
theorem dpart_all {ls : List Int} (h : LivesOk ls) {a : Nat} (ha : AgeOk ls a) : (((List.range ls.length).map (dpart ls a))).sum = 1 := by
  have hp := lat_pos h ha
  rw [dpart_sum h ha, lat_zero h (i := a + ls.length) (by omega), Int.sub_zero]
  rw [divInt_div]
  rw [Rat.div_def]
  exact Rat.mul_inv_cancel _ fun e => by have := Rat.intCast_eq_zero_iff.mp e; omega
end Act
namespace Act
variable [GT]
open PySem PySem.Spec PyProof.Rows L2
open scoped Rat
/-! ### policies -/
structure Pol where
  ls : List Int
  a : Nat
  r : Rat
  al : List Int
  de : List Int
  p : Rat
  y : Nat
structure PremOk (p : Rat) : Prop where
  bot : p.den ≤ 1000000
  lo : -1000000 * (p.den : Int) ≤ p.num
  hi : p.num ≤ 1000000 * (p.den : Int)
structure PolOk (P : Pol) : Prop where
  lives : LivesOk P.ls
  age : AgeOk P.ls P.a
  rate : RateOk P.r
  al : PayIn P.al
  de : PayIn P.de
  prem : PremOk P.p
  y : P.y ≤ 40
namespace Pol
variable (P : Pol)
abbrev dat : D := .tup [.tup (P.ls.map D.int), .int (P.a : Int), dR P.r, .tup (P.al.map D.int), .tup (P.de.map D.int), dR P.p, .int (P.y : Int)]
def span : Nat := P.ls.length - 1 - P.a
def back : Rat := (1 + P.r)⁻¹
def net (t : Nat) : Rat := if t < P.y then (lat P.al t : Rat) - P.p else (lat P.al t : Rat)
def q (t : Nat) : Rat := dpart P.ls (P.a + t) 0
def e (t : Nat) : Rat := (lat P.de t : Rat)
def ye (t : Nat) (later : Rat) : Rat := P.q t * P.e t + (1 - P.q t) * later
/-- the reserve k years before the end of the span -/
def rv : Nat → Rat
  | 0 => 0
  | k + 1 => P.net (P.span - (k + 1)) + P.back * P.ye (P.span - (k + 1)) (rv k)
def V (t : Nat) : Rat := P.rv (P.span - t)
end Pol
theorem PremOk.bd {p : Rat} (h : PremOk p) : Bd 40 p := by
  have h1 := h.bot
  have h2 := h.lo
  have h3 := h.hi
  exact ⟨by show _ < 1099511627776; omega, by show _ < 1099511627776; omega⟩
theorem pay_bd {xs : List Int} (h : PayIn xs) (t : Nat) : Bd 20 (lat xs t : Rat) := by
  refine Bd.int ?_ (by decide)
  by_cases c : t < xs.length
  · have h1 : (lat xs t).natAbs ≤ 1000000 := h.2 _ (List.mem_of_getElem? (getD_lt c))
    exact Nat.lt_of_le_of_lt h1 (by decide)
  · have e : lat xs t = 0 := getD_ge (by omega)
    rw [e]; decide
section
variable {P : Pol}
theorem net_bd (h : PolOk P) (t : Nat) : Bd 61 (P.net t) := by
  unfold Pol.net
  split
  · exact (pay_bd h.al t).sub h.prem.bd
  · exact (pay_bd h.al t).mono (by decide)
theorem ageOk_at (h : PolOk P) {t : Nat} (ht : t < P.span) : AgeOk P.ls (P.a + t) := ⟨by have := h.age.lt; unfold Pol.span at ht; omega⟩
theorem q_bd (h : PolOk P) {t : Nat} (ht : t < P.span) : Bd 20 (P.q t) := dpart_bd h.lives (ageOk_at h ht) 0
theorem e_bd (h : PolOk P) (t : Nat) : Bd 20 (P.e t) := pay_bd h.de t
theorem back_bd (h : PolOk P) : Bd 11 P.back := h.rate.disc
theorem one_bd : Bd 1 (1 : Rat) := Bd.one (by decide)
theorem rv_bd (h : PolOk P) : ∀ k, k ≤ P.span → Bd (140 * k + 1) (P.rv k)
  | 0, _ => Bd.zero (by omega)
  | k + 1, hk => by
    have ih := rv_bd h k (by omega)
    have ht : P.span - (k + 1) < P.span := by omega
    have b1 := (q_bd h ht).mul (e_bd h (P.span - (k + 1)))
    have b2 := (one_bd.sub (q_bd h ht)).mul ih
    exact ((net_bd h (P.span - (k + 1))).add ((back_bd h).mul (b1.add b2))).mono (by omega)
theorem span_pos (h : PolOk P) : 1 ≤ P.span := by have := h.age.lt; unfold Pol.span; omega
theorem V_end : P.V P.span = 0 := by unfold Pol.V; rw [Nat.sub_self]; rfl
theorem V_step {t : Nat} (ht : t < P.span) : P.V t = P.net t + P.back * P.ye t (P.V (t + 1)) := by
  unfold Pol.V
  obtain ⟨k, hk⟩ : ∃ k, P.span - t = k + 1 := ⟨P.span - t - 1, by omega⟩
  rw [hk]
  show P.net (P.span - (k + 1)) + P.back * P.ye (P.span - (k + 1)) (P.rv k) = _
  rw [show P.span - (k + 1) = t by omega, show P.span - (t + 1) = k by omega]
theorem V_bd (h : PolOk P) (t : Nat) : Bd (140 * P.span + 1) (P.V t) := (rv_bd h (P.span - t) (by omega)).mono (by omega)
end
/-! ### promises -/
def spSmallD : SpD := fun ds Q _ => ∃ (r : Rat) (lo hi most : Int), ds = [dR r, .int lo, .int hi, .int most] ∧ (r.den : Int) ≤ most ∧ lo * (r.den : Int) ≤ r.num ∧ r.num ≤ hi * (r.den : Int) ∧ lo.natAbs < 2 ^ 40 ∧ hi.natAbs < 2 ^ 40 ∧ r.den < 2 ^ 40 ∧ Q (.bl true)
def spCheckPremD : SpD := fun ds Q _ => ∃ p, ds = [dR p] ∧ PremOk p ∧ Q .non
def spPolD (f : Pol → D) : SpD := fun ds Q _ => ∃ P : Pol, ds = [P.dat] ∧ PolOk P ∧ Q (f P)
def spPolTD (f : Pol → Nat → D) : SpD := fun ds Q _ => ∃ (P : Pol) (t : Nat), ds = [P.dat, .int (t : Int)] ∧ PolOk P ∧ t < P.span ∧ Q (f P t)
def spEntryD : SpD := fun ds Q _ => ∃ (xs : List Int) (t : Nat), ds = [.tup (xs.map D.int), .int (t : Int)] ∧ Q (dR (lat xs t : Rat))
def spNetD : SpD := fun ds Q _ => ∃ (P : Pol) (t : Nat), ds = [P.dat, .int (t : Int)] ∧ PolOk P ∧ Q (dR (P.net t))
def spYearEndD : SpD := fun ds Q _ => ∃ (P : Pol) (t n : Nat) (l : Rat), ds = [P.dat, .int (t : Int), dR l] ∧ PolOk P ∧ t < P.span ∧ Bd n l ∧ n ≤ 8000 ∧ Q (dR (P.ye t l))
def spSpanD : SpD := fun ds Q _ => ∃ (ls : List Int) (a : Nat), ds = [.tup (ls.map D.int), .int (a : Int)] ∧ LivesOk ls ∧ AgeOk ls a ∧ Q (.int ((ls.length - 1 - a : Nat) : Int))
def rvList (P : Pol) : List Rat := (List.range (P.span + 1)).map P.V
def resList (P : Pol) : List Rat := (List.range P.span).map P.V
def spPolDrawD : SpD := fun ds Q _ => ds = [] ∧ ∀ P : Pol, PolOk P → P.span ≤ 6 → Q P.dat
theorem rv_rev (P : Pol) : ((List.range (P.span + 1)).map P.rv).reverse = rvList P := by
  refine List.ext_getElem? fun i => ?_
  unfold rvList
  by_cases hi : i < P.span + 1
  · rw [List.getElem?_reverse (by simpa using hi)]
    simp only [List.length_map, List.length_range, List.getElem?_map]
    rw [List.getElem?_range (by omega), List.getElem?_range hi]
    simp only [Option.map_some, Pol.V]
    congr 2
  · rw [List.getElem?_eq_none (by simp; omega), List.getElem?_eq_none (by simp; omega)]
theorem rvList_at {P : Pol} {t : Nat} (ht : t ≤ P.span) : (dRs (rvList P))[t]? = some (dR (P.V t)) := by
  unfold dRs rvList
  rw [List.getElem?_map, List.getElem?_map, List.getElem?_range (by omega)]
  rfl
theorem resList_at {P : Pol} {t : Nat} (ht : t < P.span) : (dRs (resList P))[t]? = some (dR (P.V t)) := by
  unfold dRs resList
  rw [List.getElem?_map, List.getElem?_map, List.getElem?_range ht]
  rfl
theorem rvList_cut (P : Pol) : cutD (dRs (rvList P)) none (some (-1)) = dRs (resList P) := by
  have el : (dRs (rvList P)).length = P.span + 1 := by simp [dRs, rvList]
  have e1 : HT.sIx (P.span + 1) (P.span + 1) (some (-1)) = P.span := by
    show (if (-1 : Int) < 0 then ((-1 : Int) + ((P.span + 1 : Nat) : Int)).toNat else min (-1 : Int).toNat (P.span + 1)) = P.span
    rw [if_pos (by decide)]
    omega
  unfold cutD
  rw [el, HT.sIx_none, e1, List.drop_zero, Nat.sub_zero]
  refine List.ext_getElem? fun i => ?_
  rw [List.getElem?_take]
  by_cases hi : i < P.span
  · rw [if_pos hi, rvList_at (by omega), resList_at hi]
  · rw [if_neg hi, List.getElem?_eq_none (by simp [dRs, resList]; omega)]
/-! ### the fund -/
namespace Pol
variable (P : Pol)
def liv (t : Nat) : Int := lat P.ls (P.a + t)
def hd : Nat → Rat
  | 0 => 0
  | t + 1 => (1 + P.r) * (hd t - (P.liv t : Rat) * P.net t) - ((P.liv t - P.liv (t + 1) : Int) : Rat) * P.e t
end Pol
section
variable {P : Pol}
theorem liv_pos (h : PolOk P) {t : Nat} (ht : t < P.span) : 0 < P.liv t := lat_pos h.lives (ageOk_at h ht)
theorem liv_le (h : PolOk P) (t : Nat) : 0 ≤ P.liv t ∧ P.liv t ≤ 1000000 := lat_bd h.lives _
theorem liv_fall (h : PolOk P) (t : Nat) : P.liv (t + 1) ≤ P.liv t := lat_fall h.lives _
theorem liv_bd (h : PolOk P) (t : Nat) : Bd 20 (P.liv t : Rat) := Bd.int (by have := liv_le h t; show _ < 1048576; omega) (by decide)
theorem die_bd (h : PolOk P) (t : Nat) : Bd 20 ((P.liv t - P.liv (t + 1) : Int) : Rat) := Bd.int (by have := liv_le h t; have := liv_le h (t + 1); have := liv_fall h t; show _ < 1048576; omega) (by decide)
theorem hd_bd (h : PolOk P) : ∀ t, Bd (140 * t + 1) (P.hd t)
  | 0 => Bd.zero (by omega)
  | t + 1 => ((h.rate.grow.mul ((hd_bd h t).sub ((liv_bd h t).mul (net_bd h t)))).sub ((die_bd h t).mul (e_bd h t))).mono (by omega)
theorem liv_ne (h : PolOk P) {t : Nat} (ht : t < P.span) : (P.liv t : Rat) ≠ 0 := fun e => by have := Rat.intCast_eq_zero_iff.mp e; have := liv_pos h ht; omega
theorem liv_q (h : PolOk P) {t : Nat} (ht : t < P.span) : (P.liv t : Rat) * P.q t = ((P.liv t - P.liv (t + 1) : Int) : Rat) := by
  show (P.liv t : Rat) * ((P.liv t - P.liv (t + 1)) /. (P.liv t)) = _
  rw [divInt_div, Rat.div_def]
  have := Rat.mul_inv_cancel _ (liv_ne h ht)
  grind
theorem hd_eq (h : PolOk P) : ∀ t, t ≤ P.span → P.hd t + (P.liv 0 : Rat) * P.V 0 * (1 + P.r) ^ t = (P.liv t : Rat) * P.V t
  | 0, _ => by
    rw [Rat.pow_zero]
    show 0 + _ = _
    grind
  | t + 1, ht => by
    have ih := hd_eq h t (by omega)
    have e1 : (1 + P.r) * P.back = 1 := h.rate.mul_disc
    have e2 := liv_q h (show t < P.span by omega)
    have e3 := V_step (P := P) (show t < P.span by omega)
    unfold Pol.ye at e3
    show (1 + P.r) * (P.hd t - (P.liv t : Rat) * P.net t) - ((P.liv t - P.liv (t + 1) : Int) : Rat) * P.e t + _ = _
    rw [Rat.pow_succ]
    rw [Rat.intCast_sub] at e2 ⊢
    generalize (1 + P.r) ^ t = g at ih ⊢
    generalize P.hd t = x at ih ⊢
    generalize P.V 0 = v0 at ih ⊢
    generalize P.V t = vt at ih e3 ⊢
    generalize P.V (t + 1) = vs at ih e3 ⊢
    generalize P.q t = q at e2 e3 ⊢
    generalize P.e t = e at e3 ⊢
    generalize P.net t = n at e3 ⊢
    generalize P.back = b at e1 e3 ⊢
    generalize (P.liv t : Rat) = l at ih e2 ⊢
    generalize (P.liv (t + 1) : Rat) = l' at e2 ⊢
    generalize (P.liv 0 : Rat) = l0 at ih ⊢
    generalize (1 + P.r) = w at e1 ⊢
    subst e3
    have s1 : w * (l * (n + b * (q * e + (1 - q) * vs))) = w * l * n + (w * b) * (l * q * e + (l - l * q) * vs) := by grind
    rw [e1, e2] at s1
    have s2 : w * (x + l0 * v0 * g) = w * (l * (n + b * (q * e + (1 - q) * vs))) := by rw [ih]
    rw [s1] at s2
    grind
end
section
variable {P : Pol}
theorem V0_bd (h : PolOk P) (hs : P.span ≤ 6) : Bd 841 (P.V 0) := (V_bd h 0).mono (by omega)
theorem back_pow (h : PolOk P) : ∀ t : Nat, P.back ^ t * (1 + P.r) ^ t = 1
  | 0 => by rw [Rat.pow_zero, Rat.pow_zero]; exact Rat.mul_one 1
  | t + 1 => by
    have ih := back_pow h t
    have e1 : (1 + P.r) * P.back = 1 := h.rate.mul_disc
    rw [Rat.pow_succ, Rat.pow_succ]
    have : P.back ^ t * P.back * ((1 + P.r) ^ t * (1 + P.r)) = (P.back ^ t * (1 + P.r) ^ t) * ((1 + P.r) * P.back) := by grind
    rw [this, ih, e1]
    exact Rat.mul_one 1
theorem back_ne (h : PolOk P) (t : Nat) : P.back ^ t ≠ 0 := fun e => by
  have := back_pow h t
  rw [e, Rat.zero_mul] at this
  exact absurd this (by decide)
theorem fund_law (h : PolOk P) {t : Nat} (ht : t < P.span) : P.hd t / (P.liv t : Rat) + P.V 0 * (P.liv 0 /. P.liv t) / P.back ^ t = P.V t := by
  have e := hd_eq h t (by omega)
  have b := back_pow h t
  have c := Rat.inv_mul_cancel _ (back_ne h t)
  have l := Rat.inv_mul_cancel _ (liv_ne h ht)
  have k : (P.back ^ t)⁻¹ = (1 + P.r) ^ t := by
    have : (P.back ^ t)⁻¹ * (P.back ^ t * (1 + P.r) ^ t) = ((P.back ^ t)⁻¹ * P.back ^ t) * (1 + P.r) ^ t := by rw [Rat.mul_assoc]
    rw [b, c, Rat.mul_one, Rat.one_mul] at this
    exact this
  rw [divInt_div, Rat.div_def, Rat.div_def, Rat.div_def, k]
  generalize (P.liv t : Rat)⁻¹ = li at l ⊢
  have s : li * (P.hd t + (P.liv 0 : Rat) * P.V 0 * (1 + P.r) ^ t) = (li * (P.liv t : Rat)) * P.V t := by rw [e, Rat.mul_assoc]
  rw [l, Rat.one_mul] at s
  rw [← s]
  generalize (1 + P.r) ^ t = g
  generalize P.hd t = x
  generalize P.V 0 = v
  generalize (P.liv 0 : Rat) = l0
  grind
theorem hd_succ (t : Nat) : (P.hd t + -(P.net t * (P.liv t : Rat))) * (1 + P.r) + ((0 - lat P.de t * (P.liv t - P.liv (t + 1)) : Int) : Rat) = P.hd (t + 1) := by
  show _ = (1 + P.r) * (P.hd t - (P.liv t : Rat) * P.net t) - ((P.liv t - P.liv (t + 1) : Int) : Rat) * (lat P.de t : Rat)
  rw [Rat.intCast_sub, Rat.intCast_mul]
  generalize ((P.liv t - P.liv (t + 1) : Int) : Rat) = d
  show _ + (0 - _) = _
  generalize 1 + P.r = w
  grind
end
def fundList (P : Pol) : List Rat := (List.range P.span).map fun t => P.hd t / (P.liv t : Rat)
theorem fundList_at {P : Pol} {t : Nat} (ht : t < P.span) : (dRs (fundList P))[t]? = some (dR (P.hd t / (P.liv t : Rat))) := by
  unfold dRs fundList
  rw [List.getElem?_map, List.getElem?_map, List.getElem?_range ht]
  rfl
theorem okDs_R : ∀ rs : List Rat, D.okDs 4 (dRs rs) = true
  | [] => rfl
  | r :: rs => by
    show (D.okD 4 (dR r) && D.okDs 4 (dRs rs)) = true
    rw [okDs_R rs]
    rfl
theorem okD_Rs {rs : List Rat} (h : rs.length ≤ 100000) : D.okD 5 (.tup (dRs rs)) = true := by
  show (decide ((dRs rs).length ≤ 100000) && D.okDs 4 (dRs rs)) = true
  rw [okDs_R, decide_eq_true (by unfold dRs; rw [List.length_map]; exact h)]
  rfl
theorem dR_neg (r : Rat) : D.tup [.int (0 - r.num), .int (r.den : Int)] = dR (-r) := by
  simp only [dR, Rat.neg_num, Rat.neg_den, Int.zero_sub]
theorem div_int (a : Rat) (n : Int) : a.num /. ((a.den : Int) * n) = a / (n : Rat) := by
  have := div_eq_divInt a (n : Rat)
  rw [Rat.num_intCast, Rat.den_intCast] at this
  rw [← this]
  simp
def spEntryID : SpD := fun ds Q _ => ∃ (xs : List Int) (t : Nat), ds = [.tup (xs.map D.int), .int (t : Int)] ∧ Q (.int (lat xs t))
def spStepD : SpD := fun ds Q _ => ∃ (r : Rat) (n : Nat), ds = [dR r, .int (n : Int)] ∧ RateOk r ∧ n ≤ 60 ∧ Q (dR ((1 + r)⁻¹ ^ n))
end Act
namespace Act
variable [GT]
open PySem PySem.Spec PyProof.Rows L2
open scoped Rat
/-! ### premiums, split -/
namespace Pol
variable (P : Pol)
def sv (t : Nat) : Rat := P.back * P.V (t + 1) - P.V t
def rk (t : Nat) : Rat := P.back * (P.q t * (P.e t - P.V (t + 1)))
/-- what is paid from a time on, the first j years of it -/
def fr (t : Nat) : Nat → Rat
  | 0 => 0
  | j + 1 => fr t j + (P.liv (t + j) /. P.liv t) * P.back ^ j * P.net (t + j) + ((P.liv (t + j) - P.liv (t + j + 1)) /. P.liv t) * (P.e (t + j) * P.back ^ (j + 1))
end Pol
def prD (P : Pol) (t : Nat) : D := .tup [dR (P.sv t), dR (P.rk t)]
def pairsD (P : Pol) : List D := (List.range P.span).map (prD P)
section
variable {P : Pol}
theorem V6_bd (h : PolOk P) (hs : P.span ≤ 6) (t : Nat) : Bd 841 (P.V t) := (V_bd h t).mono (by omega)
theorem liv_part (h : PolOk P) {t : Nat} (ht : t < P.span) (k : Nat) : Bd 20 (P.liv (t + k) /. P.liv t) := part_bd (liv_pos h ht) (liv_le h t).2 (by have := liv_le h (t + k); omega)
theorem die_part (h : PolOk P) {t : Nat} (ht : t < P.span) (k : Nat) : Bd 20 ((P.liv (t + k) - P.liv (t + k + 1)) /. P.liv t) := part_bd (liv_pos h ht) (liv_le h t).2 (by have := liv_le h (t + k); have := liv_le h (t + k + 1); have := liv_fall h (t + k); omega)
theorem back_pow_bd (h : PolOk P) (j : Nat) (hj : j ≤ 7) : Bd 80 (P.back ^ j) := ((back_bd h).pow j).mono (by omega)
theorem fr_bd (h : PolOk P) {t : Nat} (ht : t < P.span) : ∀ j, j ≤ 6 → Bd (300 * j + 1) (P.fr t j)
  | 0, _ => Bd.zero (by omega)
  | j + 1, hj => (((fr_bd h ht j (by omega)).add (((liv_part h ht j).mul (back_pow_bd h j (by omega))).mul (net_bd h (t + j)))).add ((die_part h ht j).mul ((e_bd h (t + j)).mul (back_pow_bd h (j + 1) (by omega))))).mono (by omega)
theorem fr_eq (h : PolOk P) {t : Nat} (ht : t < P.span) : ∀ j, t + j ≤ P.span → P.fr t j + (P.liv (t + j) /. P.liv t) * P.back ^ j * P.V (t + j) = P.V t
  | 0, _ => by
    rw [Rat.pow_zero]
    show 0 + (P.liv t /. P.liv t) * 1 * P.V t = _
    have l := Rat.mul_inv_cancel _ (liv_ne h ht)
    rw [divInt_div, Rat.div_def, l]
    grind
  | j + 1, hj => by
    have ih := fr_eq h ht j (by omega)
    have e2 := liv_q h (show t + j < P.span by omega)
    have e3 := V_step (P := P) (show t + j < P.span by omega)
    unfold Pol.ye at e3
    have l := Rat.mul_inv_cancel _ (liv_ne h ht)
    rw [← ih]
    show P.fr t j + (P.liv (t + j) /. P.liv t) * P.back ^ j * P.net (t + j) + ((P.liv (t + j) - P.liv (t + j + 1)) /. P.liv t) * (P.e (t + j) * P.back ^ (j + 1)) + (P.liv (t + j + 1) /. P.liv t) * P.back ^ (j + 1) * P.V (t + j + 1) = _
    rw [Rat.pow_succ, divInt_div, divInt_div, divInt_div, Rat.div_def, Rat.div_def, Rat.div_def, ← e2]
    have e4 : (P.liv (t + j + 1) : Rat) = (P.liv (t + j) : Rat) - (P.liv (t + j) : Rat) * P.q (t + j) := by
      rw [e2, Rat.intCast_sub]
      grind
    rw [e4, e3]
    generalize (P.liv t : Rat)⁻¹ = li
    generalize (P.liv (t + j) : Rat) = l
    generalize P.q (t + j) = q
    generalize P.e (t + j) = e
    generalize P.net (t + j) = n
    generalize P.back ^ j = g
    generalize P.back = b
    generalize P.V (t + j + 1) = v
    generalize P.fr t j = f
    grind
theorem fr_all (h : PolOk P) {t : Nat} (ht : t < P.span) : P.fr t (P.span - t) = P.V t := by
  have e := fr_eq h ht (P.span - t) (by omega)
  rw [show t + (P.span - t) = P.span by omega, V_end] at e
  rw [← e]
  grind
theorem split_zero (h : PolOk P) {t : Nat} (ht : t < P.span) : P.sv t + P.rk t + P.net t = 0 := by
  have e3 := V_step (P := P) ht
  unfold Pol.ye at e3
  unfold Pol.sv Pol.rk
  grind
theorem sv_bd (h : PolOk P) (hs : P.span ≤ 6) (t : Nat) : Bd 1700 (P.sv t) := (((back_bd h).mul (V6_bd h hs (t + 1))).sub (V6_bd h hs t)).mono (by omega)
theorem rk_bd (h : PolOk P) (hs : P.span ≤ 6) {t : Nat} (ht : t < P.span) : Bd 900 (P.rk t) := ((back_bd h).mul ((q_bd h ht).mul ((e_bd h t).sub (V6_bd h hs (t + 1))))).mono (by omega)
end
theorem okDs_pairs (P : Pol) : ∀ ts : List Nat, D.okDs 4 (ts.map (prD P)) = true
  | [] => rfl
  | t :: ts => by
    show (D.okD 4 (prD P t) && D.okDs 4 (ts.map (prD P))) = true
    rw [okDs_pairs P ts]
    rfl
theorem okD_pairs {P : Pol} (h : P.span ≤ 100000) : D.okD 5 (.tup (pairsD P)) = true := by
  show (decide ((pairsD P).length ≤ 100000) && D.okDs 4 (pairsD P)) = true
  unfold pairsD
  rw [okDs_pairs, decide_eq_true (by rw [List.length_map, List.length_range]; exact h)]
  rfl
def spPol6D (f : Pol → D) : SpD := fun ds Q _ => ∃ P : Pol, ds = [P.dat] ∧ PolOk P ∧ P.span ≤ 6 ∧ Q (f P)
def spFromD : SpD := fun ds Q _ => ∃ (P : Pol) (t : Nat), ds = [P.dat, .int (t : Int)] ∧ PolOk P ∧ P.span ≤ 6 ∧ t < P.span ∧ Q (dR (P.V t))
theorem rvList_app (P : Pol) : (List.range P.span).map (fun t => dR (P.V t)) ++ [dR 0] = dRs (rvList P) := by
  unfold rvList dRs
  rw [List.range_succ, List.map_append, List.map_append, List.map_map]
  congr 1
  show [dR 0] = [dR (P.V P.span)]
  rw [V_end]
end Act
namespace Act
variable [GT]
open PySem PySem.Spec PyProof.Rows L2
open scoped Rat
/-! ### values at a time, loans -/
theorem mulpow_one {d g : Rat} (h : g * d = 1) : ∀ k : Nat, d ^ k * g ^ k = 1
  | 0 => by rw [Rat.pow_zero, Rat.pow_zero, Rat.mul_one]
  | k + 1 => by
    have ih := mulpow_one h k
    rw [Rat.pow_succ, Rat.pow_succ]
    have : d ^ k * d * (g ^ k * g) = d ^ k * g ^ k * (g * d) := by grind
    rw [this, ih, h, Rat.mul_one]
theorem pw_add (g : Rat) (a : Nat) : ∀ b : Nat, g ^ (a + b) = g ^ a * g ^ b
  | 0 => by rw [Nat.add_zero, Rat.pow_zero, Rat.mul_one]
  | b + 1 => by
    rw [← Nat.add_assoc, Rat.pow_succ, Rat.pow_succ, pw_add g a b, Rat.mul_assoc]
theorem pw_mix {r : Rat} (h : RateOk r) (t k : Nat) : (if k < t then (1 + r) ^ (t - k) else (1 + r)⁻¹ ^ (k - t)) = (1 + r)⁻¹ ^ k * (1 + r) ^ t := by
  have e := h.mul_disc
  by_cases c : k < t
  · rw [if_pos c]
    obtain ⟨m, rfl⟩ : ∃ m, t = k + m := ⟨t - k, by omega⟩
    rw [pw_add, ← Rat.mul_assoc, mulpow_one e, Rat.one_mul, show k + m - k = m by omega]
  · rw [if_neg c]
    obtain ⟨m, rfl⟩ : ∃ m, k = t + m := ⟨k - t, by omega⟩
    have e2 := mulpow_one e t
    rw [pw_add, show t + m - t = m by omega]
    generalize (1 + r)⁻¹ ^ t = x at e2
    generalize (1 + r)⁻¹ ^ m = y
    generalize (1 + r) ^ t = z at e2
    have : x * y * z = y * (x * z) := by grind
    rw [this, e2, Rat.mul_one]
theorem grow_D (r : Rat) : D.tup [.int (r.num + (r.den : Int)), .int (r.den : Int)] = dR (1 + r) := by
  have e := grow_parts r
  simp only [dR]
  rw [e.1, e.2]
theorem disc_D {r : Rat} (h : RateOk r) : D.tup [.int (r.den : Int), .int (r.num + (r.den : Int))] = dR (1 + r)⁻¹ := by
  have e := disc_parts h.pos
  simp only [dR]
  rw [e.1, e.2]
def spPVD : SpD := fun ds Q _ => ∃ (ns : List Int) (r : Rat), ds = [.tup (ns.map D.int), dR r] ∧ ns.length ≤ 60 ∧ PayOk ns ∧ RateOk r ∧ Q (dR (pval (1 + r)⁻¹ ns))
def spValueAtD : SpD := fun ds Q _ => ∃ (ns : List Int) (r : Rat) (n : Nat), ds = [.tup (ns.map D.int), dR r, .int (n : Int)] ∧ PayIn ns ∧ n ≤ 60 ∧ RateOk r ∧ Q (dR (pval (1 + r)⁻¹ ns * (1 + r) ^ n))
def spShiftedD : SpD := fun ds Q _ => ∃ (ns : List Int) (n : Nat), ds = [.tup (ns.map D.int), .int (n : Int)] ∧ PayIn ns ∧ n + ns.length ≤ 40 ∧ Q (.tup ((List.replicate n 0 ++ ns).map D.int))
def spLevelD : SpD := fun ds Q _ => ∃ (n : Nat), ds = [.int (n : Int)] ∧ n ≤ 40 ∧ Q (.tup ((List.replicate n 1).map D.int))
def spOnesD : SpD := fun ds Q _ => ∃ (r : Rat) (n : Nat), ds = [dR r, .int (n : Int)] ∧ n ≤ 40 ∧ RateOk r ∧ Q (dR (pval (1 + r)⁻¹ (ones n)))
def LoanOk (A : Int) (r : Rat) (n : Nat) : Prop := 1 ≤ A ∧ A ≤ 1000000 ∧ 1 ≤ n ∧ n ≤ 40 ∧ RateOk r
def spLoanD (f : Int → Rat → Nat → D) : SpD := fun ds Q _ => ∃ (A : Int) (r : Rat) (n : Nat), ds = [.int A, dR r, .int (n : Int)] ∧ LoanOk A r n ∧ Q (f A r n)
def loanRow (A : Int) (r : Rat) (n k : Nat) : D := .tup [dR (paidY A r n), dR (r * lfY A r n k), dR (paidY A r n - r * lfY A r n k), dR (lfY A r n (k + 1))]
def loanRows (A : Int) (r : Rat) (n : Nat) : List D := (List.range n).map (loanRow A r n)
def spLeftD : SpD := fun ds Q _ => ∃ (A : Int) (r : Rat) (n t : Nat), ds = [.int A, dR r, .int (n : Int), .int (t : Int)] ∧ LoanOk A r n ∧ t ≤ n ∧ Q (dR (lfY A r n t))
theorem rep_ints (m : Int) (n : Nat) : (List.replicate ((n : Nat) : Int).toNat [D.int m]).flatten = (List.replicate n m).map D.int := by
  rw [show ((n : Nat) : Int).toNat = n by omega]
  simp
theorem rep_ints_len (m : Int) (n : Nat) : (List.replicate ((n : Nat) : Int).toNat [D.int m]).flatten.length = n := by
  rw [rep_ints]; simp
theorem ones_D (n : Nat) : D.int 0 :: (List.replicate ((n : Nat) : Int).toNat [D.int 1]).flatten = (ones n).map D.int := by
  rw [rep_ints]; rfl
theorem okDs_int (n : Nat) : ∀ ms : List Int, D.okDs (n + 1) (ms.map D.int) = true
  | [] => rfl
  | m :: ms => by
    simp only [List.map_cons, D.okDs, D.okD, Bool.true_and]
    exact okDs_int n ms
theorem okD_ints {ms : List Int} (h : ms.length ≤ 100000) : D.okD 5 (.tup (ms.map D.int)) = true := by
  show (decide _ && D.okDs 4 (ms.map D.int)) = true
  rw [okDs_int, List.length_map, decide_eq_true h]
  rfl
/-- two ways that meet: what goes on behind them is said once -/
theorem eif_cont {t : DT} {fa fb : DE} {ρ : Rho} {Q : D → Prop} {E : Exc → Prop} (R : D → Prop) (h : ∀ Q' : D → Prop, (∀ d, R d → Q' d) → eIf t fa fb ρ Q' E) (k : ∀ d, R d → Q d) : eIf t fa fb ρ Q E := h Q k
end Act
namespace Act
variable [GT]
open PySem PySem.Spec PyProof.Rows L2
open scoped Rat
/-! ### worths of simple policies (k80) -/
section
variable {P : Pol}
theorem lat_last (h : PolOk P) : P.liv P.span = 0 := by
  have := h.age.lt
  unfold Pol.liv Pol.span
  rw [show P.a + (P.ls.length - 1 - P.a) = P.ls.length - 1 by omega]
  exact h.lives.last
theorem q_last (h : PolOk P) {t : Nat} (ht : t + 1 = P.span) : P.q t = 1 := by
  have e := liv_q h (show t < P.span by omega)
  have n := liv_ne h (show t < P.span by omega)
  rw [ht, lat_last h, Int.sub_zero] at e
  have e2 : (P.liv t : Rat) * P.q t = (P.liv t : Rat) * 1 := by rw [e, Rat.mul_one]
  have i := Rat.mul_inv_cancel _ n
  generalize (P.liv t : Rat) = l at *
  generalize l⁻¹ = li at *
  grind
end
theorem prem0 : PremOk 0 := ⟨by decide, by decide, by decide⟩
theorem payin_rep (n : Nat) (h : n ≤ 40) : PayIn (List.replicate n 1) := ⟨by simpa using h, fun m hm => by rw [List.eq_of_mem_replicate hm]; decide⟩
theorem payin_nil : PayIn [] := ⟨by decide, fun m hm => by cases hm⟩
theorem lat_rep {n t : Nat} (h : t < n) (c : Int) : lat (List.replicate n c) t = c := by
  unfold lat
  simp [List.getD, h]
theorem lat_nil (t : Nat) : lat [] t = 0 := rfl
/-- 1 on death, 1 while alive -/
def polD (ls : List Int) (a : Nat) (r : Rat) : Pol := ⟨ls, a, r, [], List.replicate (ls.length - 1 - a) 1, 0, 0⟩
def polA (ls : List Int) (a : Nat) (r : Rat) : Pol := ⟨ls, a, r, List.replicate (ls.length - 1 - a) 1, [], 0, 0⟩
def polY (ls : List Int) (a : Nat) : Pol := ⟨ls, a, 0, 0 :: List.replicate (ls.length - 1 - a) 1, [], 0, 0⟩
theorem netA {ls : List Int} {a : Nat} {r : Rat} {t : Nat} (ht : t < ls.length - 1 - a) : (polA ls a r).net t = 1 := by
  show (if t < 0 then _ else ((lat (List.replicate (ls.length - 1 - a) 1) t : Int) : Rat)) = 1
  rw [if_neg (by omega), lat_rep ht]; rfl
theorem eD {ls : List Int} {a : Nat} {r : Rat} {t : Nat} (ht : t < ls.length - 1 - a) : (polD ls a r).e t = 1 := by
  show ((lat (List.replicate (ls.length - 1 - a) 1) t : Int) : Rat) = 1
  rw [lat_rep ht]; rfl
theorem netD0 {ls : List Int} {a : Nat} {r : Rat} {t : Nat} : (polD ls a r).net t = 0 := by
  show (if t < 0 then _ else ((0 : Int) : Rat)) = 0
  rw [if_neg (by omega)]; rfl
theorem netY {ls : List Int} {a : Nat} {t : Nat} (ht : t < ls.length - 1 - a) : (polY ls a).net (t + 1) = 1 := by
  show (if t + 1 < 0 then _ else ((lat (List.replicate (ls.length - 1 - a) 1) t : Int) : Rat)) = 1
  rw [if_neg (by omega), lat_rep ht]; rfl
theorem rate0 : RateOk 0 := ⟨by decide, by decide, by decide⟩
section
variable {ls : List Int} {a : Nat} {r : Rat}
theorem polD_ok (h : LivesOk ls) (ha : AgeOk ls a) (ok : RateOk r) : PolOk (polD ls a r) := ⟨h, ha, ok, payin_nil, payin_rep _ (by have := h.len40; omega), prem0, by show 0 ≤ 40; decide⟩
theorem polA_ok (h : LivesOk ls) (ha : AgeOk ls a) (ok : RateOk r) : PolOk (polA ls a r) := ⟨h, ha, ok, payin_rep _ (by have := h.len40; omega), payin_nil, prem0, by show 0 ≤ 40; decide⟩
theorem polY_ok (h : LivesOk ls) (ha : AgeOk ls a) : PolOk (polY ls a) := ⟨h, ha, rate0, ⟨by have := h.len40; have := ha.lt; simp [polY]; omega, fun m hm => by
  rcases List.mem_cons.mp hm with e | e
  · rw [e]; decide
  · rw [List.eq_of_mem_replicate e]; decide⟩, payin_nil, prem0, by show 0 ≤ 40; decide⟩
theorem ann_ins (h : LivesOk ls) (ha : AgeOk ls a) (ok : RateOk r) : ∀ k, k < ls.length - 1 - a → (polD ls a r).V (ls.length - 1 - a - 1 - k) + (1 - (1 + r)⁻¹) * (polA ls a r).V (ls.length - 1 - a - 1 - k) = 1 := by
  have hD := polD_ok h ha ok
  have hA := polA_ok h ha ok
  intro k
  induction k with
  | zero =>
    intro hk
    generalize hs : ls.length - 1 - a = s at *
    have sD : (polD ls a r).span = s := hs
    have sA : (polA ls a r).span = s := hs
    have ht : s - 1 - 0 < s := by omega
    have v1 := V_step (P := polD ls a r) (t := s - 1 - 0) (by rw [sD]; exact ht)
    have v2 := V_step (P := polA ls a r) (t := s - 1 - 0) (by rw [sA]; exact ht)
    have e1 := V_end (P := polD ls a r)
    have e2 := V_end (P := polA ls a r)
    rw [sD] at e1
    rw [sA] at e2
    rw [show s - 1 - 0 + 1 = s by omega] at v1 v2
    have q1 := q_last hD (t := s - 1 - 0) (by rw [sD]; omega)
    have q2 := q_last hA (t := s - 1 - 0) (by rw [sA]; omega)
    unfold Pol.ye at v1 v2
    rw [q1, e1] at v1
    rw [q2, e2] at v2
    have n1 : (polD ls a r).net (s - 1 - 0) = 0 := netD0
    have n2 : (polA ls a r).net (s - 1 - 0) = 1 := netA (by rw [hs]; exact ht)
    have d1 : (polD ls a r).e (s - 1 - 0) = 1 := eD (by rw [hs]; exact ht)
    have d2 : (polA ls a r).e (s - 1 - 0) = 0 := rfl
    rw [n1, d1] at v1
    rw [n2, d2] at v2
    rw [v1, v2]
    show 0 + (1 + r)⁻¹ * _ + _ * (1 + (1 + r)⁻¹ * _) = _
    generalize (1 + r)⁻¹ = b
    grind
  | succ k ih =>
    intro hk
    have ih := ih (by omega)
    generalize hs : ls.length - 1 - a = s at *
    have sD : (polD ls a r).span = s := hs
    have sA : (polA ls a r).span = s := hs
    have ht : s - 1 - (k + 1) < s := by omega
    have v1 := V_step (P := polD ls a r) (t := s - 1 - (k + 1)) (by rw [sD]; exact ht)
    have v2 := V_step (P := polA ls a r) (t := s - 1 - (k + 1)) (by rw [sA]; exact ht)
    rw [show s - 1 - (k + 1) + 1 = s - 1 - k by omega] at v1 v2
    have n1 : (polD ls a r).net (s - 1 - (k + 1)) = 0 := netD0
    have n2 : (polA ls a r).net (s - 1 - (k + 1)) = 1 := netA (by rw [hs]; exact ht)
    have d1 : (polD ls a r).e (s - 1 - (k + 1)) = 1 := eD (by rw [hs]; exact ht)
    have d2 : (polA ls a r).e (s - 1 - (k + 1)) = 0 := rfl
    have eq_ : (polD ls a r).q (s - 1 - (k + 1)) = (polA ls a r).q (s - 1 - (k + 1)) := rfl
    unfold Pol.ye at v1 v2
    rw [n1, d1, eq_] at v1
    rw [n2, d2] at v2
    rw [v1, v2]
    show 0 + (1 + r)⁻¹ * _ + _ * (1 + (1 + r)⁻¹ * _) = _
    generalize (1 + r)⁻¹ = b at *
    generalize (polA ls a r).q (s - 1 - (k + 1)) = q
    generalize (polD ls a r).V (s - 1 - k) = x at *
    generalize (polA ls a r).V (s - 1 - k) = y at *
    grind
theorem ann_ins0 (h : LivesOk ls) (ha : AgeOk ls a) (ok : RateOk r) : (polD ls a r).V 0 + (1 - (1 + r)⁻¹) * (polA ls a r).V 0 = 1 := by
  have := ha.lt
  have e := ann_ins h ha ok (ls.length - 1 - a - 1) (by omega)
  rwa [Nat.sub_self] at e
theorem drop_sum {ls : List Int} {i : Nat} (h : i < ls.length) : (ls.drop i).sum = lat ls i + (ls.drop (i + 1)).sum := by
  rw [List.drop_eq_getElem_cons h, List.sum_cons]
  congr 1
  unfold lat
  simp [List.getD, List.getElem?_eq_getElem h]
theorem years_eq (h : LivesOk ls) (ha : AgeOk ls a) : ∀ k, k ≤ ls.length - 1 - a - 1 → ((polY ls a).liv (ls.length - 1 - a - k) : Rat) * (polY ls a).V (ls.length - 1 - a - k) = ((ls.drop (a + (ls.length - 1 - a - k))).sum : Int) := by
  have hY := polY_ok h ha
  have hlt := ha.lt
  intro k
  induction k with
  | zero =>
    intro hk
    have sY : (polY ls a).span = ls.length - 1 - a := rfl
    have e := V_end (P := polY ls a)
    rw [Nat.sub_zero, ← sY, e, sY, show a + (ls.length - 1 - a) = ls.length - 1 by omega, drop_sum (by omega), show ls.length - 1 + 1 = ls.length by omega, List.drop_length, h.last]
    simp
  | succ k ih =>
    intro hk
    have ih := ih (by omega)
    generalize hs : ls.length - 1 - a = s at *
    have sY : (polY ls a).span = s := hs
    have ht : s - (k + 1) < s := by omega
    have v := V_step (P := polY ls a) (t := s - (k + 1)) (by rw [sY]; exact ht)
    have lq := liv_q hY (t := s - (k + 1)) (by rw [sY]; exact ht)
    rw [show s - (k + 1) + 1 = s - k by omega] at v lq
    have n : (polY ls a).net (s - (k + 1)) = 1 := by
      obtain ⟨m, hm⟩ : ∃ m, s - (k + 1) = m + 1 := ⟨s - (k + 1) - 1, by omega⟩
      rw [hm]
      exact netY (by omega)
    have d : (polY ls a).e (s - (k + 1)) = 0 := rfl
    unfold Pol.ye at v
    rw [n, d] at v
    have b : (polY ls a).back = 1 := by show ((1 : Rat) + 0)⁻¹ = 1; decide +kernel
    rw [b] at v
    rw [drop_sum (by omega), show a + (s - (k + 1)) + 1 = a + (s - k) by omega, Rat.intCast_add, ← ih, v]
    have l1 : (polY ls a).liv (s - (k + 1)) = lat ls (a + (s - (k + 1))) := rfl
    rw [← l1]
    rw [Rat.intCast_sub] at lq
    generalize ((polY ls a).liv (s - (k + 1)) : Rat) = x at *
    generalize ((polY ls a).liv (s - k) : Rat) = y at *
    generalize (polY ls a).q (s - (k + 1)) = q at *
    generalize (polY ls a).V (s - k) = w at *
    grind
theorem years_V0 (h : LivesOk ls) (ha : AgeOk ls a) : (polY ls a).V 0 = (ls.drop (a + 1)).sum /. lat ls a := by
  have hY := polY_ok h ha
  have hlt := ha.lt
  have e := years_eq h ha (ls.length - 1 - a - 1) (by omega)
  generalize hs : ls.length - 1 - a = s at *
  rw [show s - (s - 1) = 1 by omega] at e
  have sY : (polY ls a).span = s := hs
  have v := V_step (P := polY ls a) (t := 0) (by rw [sY]; omega)
  have lq := liv_q hY (t := 0) (by rw [sY]; omega)
  have ne := liv_ne hY (t := 0) (by rw [sY]; omega)
  have n : (polY ls a).net 0 = 0 := by
    unfold Pol.net polY
    show (if 0 < 0 then _ else _) = _
    rw [if_neg (by omega)]
    rfl
  have d : (polY ls a).e 0 = 0 := rfl
  have b : (polY ls a).back = 1 := by show ((1 : Rat) + 0)⁻¹ = 1; decide +kernel
  unfold Pol.ye at v
  rw [n, d, b] at v
  rw [Rat.divInt_eq_div, ← e, v, Rat.div_def]
  have l0 : lat ls a = (polY ls a).liv 0 := rfl
  rw [l0]
  rw [Rat.intCast_sub] at lq
  have i := Rat.mul_inv_cancel _ ne
  generalize ((polY ls a).liv 0 : Rat) = x at *
  generalize ((polY ls a).liv (0 + 1) : Rat) = y at *
  generalize (polY ls a).q 0 = q at *
  generalize (polY ls a).V (0 + 1) = w at *
  generalize x⁻¹ = xi at *
  grind
end
/-- a table on which nobody dies before the end -/
def sureT (s : Nat) : List Int := List.replicate (s + 1) 5 ++ [0]
theorem sureT_len (s : Nat) : (sureT s).length = s + 2 := by simp [sureT]
theorem sureT_lt {s i : Nat} (h : i ≤ s) : lat (sureT s) i = 5 := by
  unfold lat sureT
  rw [List.getD, List.getElem?_append_left (by simp; omega)]
  simp [show i < s + 1 by omega]
theorem sureT_end (s : Nat) : lat (sureT s) (s + 1) = 0 := by
  unfold lat sureT
  rw [List.getD, List.getElem?_append_right (by simp)]
  simp
theorem sure_ok {s : Nat} (h : s ≤ 30) : LivesOk (sureT s) := by
  refine ⟨by rw [sureT_len]; omega, by rw [sureT_len]; omega, fun n hn => ?_, fun i hi => ?_, by rw [sureT_len]; exact sureT_end s, by rw [sureT_len, show s + 2 - 2 = s by omega, sureT_lt (Nat.le_refl s)]; decide⟩
  · unfold sureT at hn
    rcases List.mem_append.mp hn with e | e
    · rw [List.eq_of_mem_replicate e]; decide
    · rw [List.mem_singleton.mp e]; decide
  · rw [sureT_len] at hi
    by_cases c : i + 1 ≤ s
    · rw [sureT_lt c, sureT_lt (by omega)]; decide
    · rw [show i = s by omega, sureT_end, sureT_lt (Nat.le_refl s)]; decide
def polS (s : Nat) (r : Rat) (paid : List Int) : Pol := ⟨sureT s, 0, r, paid, [], 0, 0⟩
theorem polS_ok {s : Nat} {r : Rat} {paid : List Int} (h : s ≤ 30) (ok : RateOk r) (hp : PayIn paid) : PolOk (polS s r paid) := ⟨sure_ok h, ⟨by show 0 + 2 ≤ (sureT s).length; rw [sureT_len]; omega⟩, ok, hp, payin_nil, prem0, by show 0 ≤ 40; decide⟩
theorem sure_V {s : Nat} {r : Rat} {paid : List Int} (h : s ≤ 30) (ok : RateOk r) (hp : PayIn paid) (hl : paid.length = s + 1) : ∀ k, k ≤ s + 1 → (polS s r paid).V (s + 1 - k) = pval (1 + r)⁻¹ (paid.drop (s + 1 - k)) := by
  have hS := polS_ok h ok hp
  have sp : (polS s r paid).span = s + 1 := by show (sureT s).length - 1 - 0 = _; rw [sureT_len]; omega
  intro k
  induction k with
  | zero =>
    intro _
    have e := V_end (P := polS s r paid)
    rw [sp] at e
    rw [Nat.sub_zero, e, ← hl, List.drop_length]
    rfl
  | succ k ih =>
    intro hk
    have ih := ih (by omega)
    have v := V_step (P := polS s r paid) (t := s + 1 - (k + 1)) (by rw [sp]; omega)
    rw [show s + 1 - (k + 1) + 1 = s + 1 - k by omega] at v
    unfold Pol.ye at v
    have n : (polS s r paid).net (s + 1 - (k + 1)) = (lat paid (s + 1 - (k + 1)) : Rat) := by
      unfold Pol.net polS
      show (if _ < 0 then _ else _) = _
      rw [if_neg (by omega)]
    have d : (polS s r paid).e (s + 1 - (k + 1)) = 0 := rfl
    have b : (polS s r paid).back = (1 + r)⁻¹ := rfl
    rw [n, d, b, ih] at v
    have ed : paid.drop (s + 1 - (k + 1)) = lat paid (s + 1 - (k + 1)) :: paid.drop (s + 1 - k) := by
      rw [List.drop_eq_getElem_cons (show s + 1 - (k + 1) < paid.length by omega), show s + 1 - (k + 1) + 1 = s + 1 - k by omega]
      have gd : lat paid (s + 1 - (k + 1)) = paid[s + 1 - (k + 1)]'(by omega) := by
        unfold lat
        rw [List.getD, List.getElem?_eq_getElem (show s + 1 - (k + 1) < paid.length by omega)]
        rfl
      rw [gd]
    rw [v, ed]
    show _ = _ + (1 + r)⁻¹ * pval (1 + r)⁻¹ (paid.drop (s + 1 - k))
    by_cases c : k = 0
    · subst c
      rw [Nat.sub_zero, ← hl, List.drop_length]
      show _ + _ * (_ + _ * 0) = _ + _ * 0
      grind
    · have lq := liv_q hS (t := s + 1 - (k + 1)) (by rw [sp]; omega)
      have l1 : (polS s r paid).liv (s + 1 - (k + 1)) = 5 := by
        show lat (sureT s) (0 + _) = 5
        exact sureT_lt (by omega)
      have l2 : (polS s r paid).liv (s + 1 - (k + 1) + 1) = 5 := by
        show lat (sureT s) (0 + _) = 5
        exact sureT_lt (by omega)
      rw [l1, l2] at lq
      have q0 : (polS s r paid).q (s + 1 - (k + 1)) = 0 := by
        generalize (polS s r paid).q (s + 1 - (k + 1)) = q at lq
        have : ((5 - 5 : Int) : Rat) = 0 := by decide
        rw [this] at lq
        have : ((5 : Int) : Rat) = 5 := by decide
        rw [this] at lq
        grind
      rw [q0]
      generalize pval (1 + r)⁻¹ (paid.drop (s + 1 - k)) = w
      generalize (1 + r)⁻¹ = b
      grind
theorem sure_V0 {s : Nat} {r : Rat} {paid : List Int} (h : s ≤ 30) (ok : RateOk r) (hp : PayIn paid) (hl : paid.length = s + 1) : (polS s r paid).V 0 = pval (1 + r)⁻¹ paid := by
  have := sure_V h ok hp hl (s + 1) (Nat.le_refl _)
  rwa [Nat.sub_self, List.drop_zero] at this
/-- without the premium; without payments -/
def polOne (P : Pol) : Pol := ⟨P.ls, P.a, P.r, P.al, P.de, 0, 0⟩
def polOther (P : Pol) : Pol := ⟨P.ls, P.a, P.r, [], [], P.p, P.y⟩
theorem polOne_ok {P : Pol} (h : PolOk P) : PolOk (polOne P) := ⟨h.lives, h.age, h.rate, h.al, h.de, prem0, by show 0 ≤ 40; decide⟩
theorem polOther_ok {P : Pol} (h : PolOk P) : PolOk (polOther P) := ⟨h.lives, h.age, h.rate, payin_nil, payin_nil, h.prem, h.y⟩
theorem rv_add (P : Pol) : ∀ k, (polOne P).rv k + (polOther P).rv k = P.rv k
  | 0 => by show (0 : Rat) + 0 = 0; rw [Rat.add_zero]
  | k + 1 => by
    have ih := rv_add P k
    have s1 : (polOne P).span = P.span := rfl
    have s2 : (polOther P).span = P.span := rfl
    show ((polOne P).net ((polOne P).span - (k + 1)) + P.back * (P.q (P.span - (k + 1)) * P.e (P.span - (k + 1)) + (1 - P.q (P.span - (k + 1))) * (polOne P).rv k)) + ((polOther P).net ((polOther P).span - (k + 1)) + P.back * (P.q (P.span - (k + 1)) * ((0 : Int) : Rat) + (1 - P.q (P.span - (k + 1))) * (polOther P).rv k)) = P.net (P.span - (k + 1)) + P.back * (P.q (P.span - (k + 1)) * P.e (P.span - (k + 1)) + (1 - P.q (P.span - (k + 1))) * P.rv k)
    rw [s1, s2]
    have n : (polOne P).net (P.span - (k + 1)) + (polOther P).net (P.span - (k + 1)) = P.net (P.span - (k + 1)) := by
      unfold Pol.net polOne polOther
      show (if _ < 0 then _ else (lat P.al _ : Rat)) + (if _ < P.y then ((0 : Int) : Rat) - P.p else ((0 : Int) : Rat)) = _
      rw [if_neg (by omega)]
      have z : ((0 : Int) : Rat) = 0 := rfl
      split <;> rw [z] <;> grind
    rw [← ih, ← n]
    have z : ((0 : Int) : Rat) = 0 := rfl
    rw [z]
    grind
theorem V_add (P : Pol) (t : Nat) : (polOne P).V t + (polOther P).V t = P.V t := rv_add P (P.span - t)
end Act
namespace Act
variable [GT]
open PySem PySem.Spec PyProof.Rows L2
open scoped Rat
/-! ### fair premiums -/
theorem one_qF {B : Pol} (h : PolOk B) {t : Nat} (ht : t < B.span) : B.liv (t + 1) /. B.liv t = 1 - B.q t := by
  have e := liv_q h ht
  have i := Rat.mul_inv_cancel _ (liv_ne h ht)
  rw [divInt_div, Rat.div_def]
  rw [Rat.intCast_sub] at e
  generalize (B.liv t : Rat) = x at *
  generalize (B.liv (t + 1) : Rat) = y at *
  generalize B.q t = q at *
  generalize x⁻¹ = xi at *
  grind
def polNo (P : Pol) : Pol := ⟨P.ls, P.a, P.r, P.al, P.de, P.p, 0⟩
def polOnes (P : Pol) : Pol := ⟨P.ls, P.a, P.r, List.replicate P.y 1, [], 0, 0⟩
def fairP (P : Pol) : Rat := (polNo P).V 0 / (polOnes P).V 0
theorem polNo_ok {P : Pol} (h : PolOk P) : PolOk (polNo P) := ⟨h.lives, h.age, h.rate, h.al, h.de, h.prem, by show 0 ≤ 40; decide⟩
theorem polOnes_ok {P : Pol} (h : PolOk P) : PolOk (polOnes P) := ⟨h.lives, h.age, h.rate, payin_rep _ h.y, payin_nil, prem0, by show 0 ≤ 40; decide⟩
def withP (P : Pol) (p : Rat) (y : Nat) : Pol := ⟨P.ls, P.a, P.r, P.al, P.de, p, y⟩
theorem lat_ones (n t : Nat) : (lat (List.replicate n 1) t : Rat) = if t < n then 1 else 0 := by
  by_cases c : t < n
  · rw [if_pos c, lat_rep c]; rfl
  · rw [if_neg c]
    have : lat (List.replicate n 1) t = 0 := getD_ge (by rw [List.length_replicate]; omega)
    rw [this]; rfl
theorem net_no (P : Pol) (t : Nat) : (polNo P).net t = (lat P.al t : Rat) := if_neg (Nat.not_lt_zero t)
theorem net_ones (P : Pol) (t : Nat) : (polOnes P).net t = if t < P.y then 1 else 0 := (if_neg (Nat.not_lt_zero t)).trans (lat_ones P.y t)
theorem rv_lin (P : Pol) : ∀ k, (polNo P).rv k - P.p * (polOnes P).rv k = P.rv k
  | 0 => by show (0 : Rat) - P.p * 0 = 0; grind
  | k + 1 => by
    have ih := rv_lin P k
    have s1 : (polNo P).span = P.span := rfl
    have s2 : (polOnes P).span = P.span := rfl
    show ((polNo P).net ((polNo P).span - (k + 1)) + P.back * (P.q (P.span - (k + 1)) * P.e (P.span - (k + 1)) + (1 - P.q (P.span - (k + 1))) * (polNo P).rv k)) - P.p * ((polOnes P).net ((polOnes P).span - (k + 1)) + P.back * (P.q (P.span - (k + 1)) * ((0 : Int) : Rat) + (1 - P.q (P.span - (k + 1))) * (polOnes P).rv k)) = P.net (P.span - (k + 1)) + P.back * (P.q (P.span - (k + 1)) * P.e (P.span - (k + 1)) + (1 - P.q (P.span - (k + 1))) * P.rv k)
    rw [s1, s2]
    have n : (polNo P).net (P.span - (k + 1)) - P.p * (polOnes P).net (P.span - (k + 1)) = P.net (P.span - (k + 1)) := by
      rw [net_no, net_ones]
      unfold Pol.net
      split <;> grind
    rw [← ih, ← n]
    have z : ((0 : Int) : Rat) = 0 := rfl
    rw [z]
    grind
theorem V_lin (P : Pol) (t : Nat) : (polNo P).V t - P.p * (polOnes P).V t = P.V t := rv_lin P (P.span - t)
theorem q_le {P : Pol} (h : PolOk P) {t : Nat} (ht : t < P.span) : 0 ≤ 1 - P.q t := by
  have o := one_qF h ht
  rw [← o]
  have l := liv_pos h ht
  have l2 := (liv_le h (t + 1)).1
  rw [divInt_div, Rat.div_def]
  exact Rat.mul_nonneg (Rat.intCast_nonneg.mpr l2) (Rat.le_of_lt (Rat.inv_pos.mpr (Rat.intCast_pos.mpr l)))
theorem q_lt {P : Pol} (h : PolOk P) {t : Nat} (ht : t + 1 < P.span) : 0 < 1 - P.q t := by
  have o := one_qF h (show t < P.span by omega)
  rw [← o]
  have l := liv_pos h (show t < P.span by omega)
  have l2 := liv_pos h ht
  rw [divInt_div, Rat.div_def]
  exact Rat.mul_pos (Rat.intCast_pos.mpr l2) (Rat.inv_pos.mpr (Rat.intCast_pos.mpr l))
theorem ones_rv {P : Pol} (h : PolOk P) : ∀ k, k ≤ P.span → 0 ≤ (polOnes P).rv k
  | 0, _ => Rat.le_refl
  | k + 1, hk => by
    have ih := ones_rv h k (by omega)
    have hO := polOnes_ok h
    have sO : (polOnes P).span = P.span := rfl
    show 0 ≤ (polOnes P).net ((polOnes P).span - (k + 1)) + (polOnes P).back * ((polOnes P).q ((polOnes P).span - (k + 1)) * ((0 : Int) : Rat) + (1 - (polOnes P).q ((polOnes P).span - (k + 1))) * (polOnes P).rv k)
    have n : 0 ≤ (polOnes P).net ((polOnes P).span - (k + 1)) := by
      rw [net_ones]
      split <;> decide
    have b : 0 < (polOnes P).back := disc_pos h.rate.pos
    have m := Rat.mul_nonneg (Rat.le_of_lt b) (Rat.mul_nonneg (q_le hO (t := (polOnes P).span - (k + 1)) (by rw [sO]; omega)) ih)
    have z : ((0 : Int) : Rat) = 0 := rfl
    rw [z, Rat.mul_zero, Rat.zero_add]
    grind
theorem ones_V0 {P : Pol} (h : PolOk P) (hy : 0 < P.y) : 0 < (polOnes P).V 0 := by
  have hO := polOnes_ok h
  have sO : (polOnes P).span = P.span := rfl
  have sp := span_pos h
  have v := V_step (P := polOnes P) (t := 0) (by rw [sO]; omega)
  have n : (polOnes P).net 0 = 1 := by
    rw [net_ones, if_pos hy]
  have b : 0 < (polOnes P).back := disc_pos h.rate.pos
  have e : (polOnes P).e 0 = 0 := rfl
  have r1 : 0 ≤ (polOnes P).V (0 + 1) := ones_rv h ((polOnes P).span - (0 + 1)) (by rw [sO]; omega)
  have m := Rat.mul_nonneg (Rat.le_of_lt b) (Rat.mul_nonneg (q_le hO (t := 0) (by rw [sO]; omega)) r1)
  rw [v, n]
  unfold Pol.ye
  rw [e, Rat.mul_zero, Rat.zero_add]
  grind
theorem fair_zero {P : Pol} (h : PolOk P) (hy : 0 < P.y) : (withP P (fairP P) P.y).V 0 = 0 := by
  have e := V_lin (withP P (fairP P) P.y) 0
  have e1 : (polNo (withP P (fairP P) P.y)).V 0 = (polNo P).V 0 := by
    have : ∀ k, (polNo (withP P (fairP P) P.y)).rv k = (polNo P).rv k := fun k => by
      induction k with
      | zero => rfl
      | succ k ih =>
        show (polNo (withP P (fairP P) P.y)).net (P.span - (k + 1)) + P.back * (P.q (P.span - (k + 1)) * P.e (P.span - (k + 1)) + (1 - P.q (P.span - (k + 1))) * (polNo (withP P (fairP P) P.y)).rv k) = (polNo P).net (P.span - (k + 1)) + P.back * (P.q (P.span - (k + 1)) * P.e (P.span - (k + 1)) + (1 - P.q (P.span - (k + 1))) * (polNo P).rv k)
        rw [net_no, net_no, ih]
        rfl
    exact this _
  have e2 : (polOnes (withP P (fairP P) P.y)).V 0 = (polOnes P).V 0 := rfl
  have e3 : (withP P (fairP P) P.y).p = fairP P := rfl
  rw [e1, e2, e3] at e
  rw [← e]
  unfold fairP
  have c := Rat.div_mul_cancel (a := (polNo P).V 0) (Rat.ne_of_gt (ones_V0 h hy))
  grind
def spFairD : SpD := fun ds Q _ => ∃ P : Pol, ds = [P.dat] ∧ PolOk P ∧ 0 < P.y ∧ P.span ≤ 6 ∧ Q (dR (fairP P))
def spPolVarD (f : Pol → Pol) : SpD := fun ds Q _ => ∃ P : Pol, ds = [P.dat] ∧ PolOk P ∧ Q (f P).dat
theorem fair_bd {P : Pol} (h : PolOk P) (hy : 0 < P.y) (hs : P.span ≤ 6) : Bd 1700 (fairP P) := by
  have b1 := V_bd (polNo_ok h) 0
  have b2 := V_bd (polOnes_ok h) 0
  have s1 : (polNo P).span = P.span := rfl
  have s2 : (polOnes P).span = P.span := rfl
  rw [s1] at b1
  rw [s2] at b2
  exact (Bd.div (Rat.ne_of_gt (ones_V0 h hy)) b1 b2).mono (by omega)
end Act
namespace Act
variable [GT]
open PySem PySem.Spec PyProof.Rows L2
/-! ## a lambda without parameters, handed to a def -/
def LamStep (P : Addr) (q : Str) (H H1 : Hp) : Prop := H1 = H ∨ ∃ ps more c, H P = some (.tbl ps) ∧ H c = none ∧ H1 = upd (upd H P (.tbl (ps ++ more))) c (LamX.CodeO c q) ∧ TriplesOk (ps ++ more).toList ∧ ∀ pos cv, codeAmong pos (ps ++ more).toList = some cv → codeAmong pos ps.toList = some cv ∨ cv = .ref c
section
variable {X : Cx} {pins : List (Addr × Obj)} {σ : L2.St} {H : Hp} {s : Shared}
theorem lam_make3 {c P : Addr} {params : Arguments} {body : Expr} {scope : Scope} {pos : Pos} {E Q : Value → Shared → Prop} (I : L2.Inv X pins σ H s) (TB : LamX.TabB X.base X.mg c P) (hcode : X.env.code = .ref c) (tab : LamX.TabS H P (X.env.qual ++ Str.ofString "<lambda>")) (hdef : defaultsOf params X.env = ([], []))
    (hcl : ∀ y ∈ scope.names, y.2 = NameKind.free → ∃ c, X.env.cells.lookup y.1 = some c)
    (hQ : ∀ f c' pm ctv H1 s', L2.Inv X pins σ H1 s' → LamStep P (X.env.qual ++ Str.ofString "<lambda>") H H1 → s'.heap.get? f = some (PySem.W.kla_obj (Str.ofString "<lambda>") (X.env.qual ++ Str.ofString "<lambda>") params body scope (cloFrom X.env.cells scope.names []) pm c' ctv) → H1 f = none → ¬ f ∈ frs X.stack → H1 c' = some (LamX.CodeO c' (X.env.qual ++ Str.ofString "<lambda>")) → Q (.ref f) s') :
    wpAny (model X.prog X.w) X.A (eval (.Lambda params body scope pos) X.env) Q E s := by
  refine PySem.W.kla_eval hdef ?_
  obtain ⟨ps, hP, ht, hc⟩ := tab
  have hPs : s.heap.get? P = some (PySem.W.tabObj ps) := I.hok P _ hP
  have bm := TB.bm.keeps I.bk
  have cd := TB.code.keeps I.bk
  have ng := I.mod.glob.keeps I.bk
  have nf : ∀ f, s.heap.objs.size ≤ f → ¬ f ∈ frs X.stack := fun f hf z => by
    rcases List.mem_cons.mp (I.stkSub f z) with e | e
    · have := I.lt
      rw [e] at hf
      exact Nat.lt_irrefl _ (Nat.lt_of_lt_of_le this hf)
    · exact I.nofs hf e
  cases hf : codeAmong pos ps.toList with
  | none =>
    refine PySem.W.kla_makeFunction (closure_ok hcl) I.ok.glob ng hcode cd hPs ht hf TB.gP bm fun c' ctv h' tk hx hge hlt hco htab => ?_
    obtain ⟨c2, oc, vs, t, e, ho, hd, hv⟩ := hco
    cases e
    have J := LamX.inv_table (q := X.env.qual ++ Str.ofString "<lambda>") (more := #[rawInt pos.line, rawInt pos.col, .ref c']) (t' := tk) I hP (fun b o nb e => hx b o nb e) htab hge ⟨oc, vs, t, ho, hd, hv⟩
    have nc : H c' = none := I.hok.fresh hge
    have nP : P ≠ c' := fun e => by rw [← e, hP] at nc; cases nc
    have np : h'.objs.size ≠ P := fun e => by
      have := Heap.lt_size htab
      rw [← e] at this
      exact Nat.lt_irrefl _ this
    have npc : h'.objs.size ≠ c' := fun e => Nat.lt_irrefl _ (by rw [← e] at hlt; exact hlt)
    refine hQ h'.objs.size c' _ ctv _ _ (J.kept (t' := tk) (fun b u e => Heap.get?_push_of_some _ e)) (.inr ⟨ps, _, c', hP, nc, rfl, ?_, fun p cv h1 => ?_⟩) (Heap.get?_push_size _ rfl) ?_ (nf _ (Nat.le_trans hge (Nat.le_of_lt hlt))) upd_same
    · rw [Array.toList_append]
      exact TriplesOk_snoc _ _ _ _ ht
    · rw [Array.toList_append] at h1
      exact LamX.among_app _ ht h1
    · rw [upd_ne npc, upd_ne np]
      exact I.hok.fresh (Nat.le_trans hge (Nat.le_of_lt hlt))
  | some cv =>
    obtain ⟨c', rfl, hcc⟩ := hc pos cv hf
    refine PySem.W.kla_makeFunctionHit (closure_ok hcl) I.ok.glob ng hcode cd hPs ht hf bm fun ctv h' tk hk hge => ?_
    exact hQ h'.objs.size c' _ ctv H _ (I.kept (t' := tk) (fun b u e => Heap.get?_push_of_some _ (hk b u e))) (.inl rfl) (Heap.get?_push_size _ rfl) (I.hok.fresh hge) (nf _ hge) hcc
def tLam3 (P : Addr) (q : Str) (TT : (XK → Hp → VK → Prop) → Hp → VK → Prop) (t : XK → TE) : TE := fun σ H Q => LamX.TabS H P q ∧ ∀ H1, LamStep P q H H1 → TT (fun E H' Q' => t E σ H' Q') H1 Q
theorem pe_lam3 {TT : (XK → Hp → VK → Prop) → Hp → VK → Prop} {x a : Str} {g c P : Addr} {k : Nat} {pg : Arguments} {bg : List Stmt} {sg : Scope} {dV kV doc pm cdv ct oc : Value} {an od : Option Addr} {osl : Array (Option Value)} {Ng : List Str} {params : Arguments} {body : Expr} {scope : Scope} {t : XK → TE} {p lpos pos : Pos}
    (hm : X.mg x = some (.ref g)) (hk : PySem.W.keepIn X.K (.ref g) = true) (lk : List.lookup g X.K = some ⟨oc, od, .func (PySem.W.fnOf x x pg bg sg dV kV doc pm an cdv ct), osl⟩) (hcg : PySem.W.codeIn X.K cdv x = true) (hb : L2.Binds X.K (PySem.W.fnOf x x pg bg sg dV kV doc pm an cdv ct) [a] []) (Sg : FnScope Ng [a] sg) (hNg : Ng[0]? = some a) (hva : Vis sg a)
    (hG : LamX.GivesTo X Ng x sg g cdv bg a (X.env.qual ++ Str.ofString "<lambda>") TT) (TB : LamX.TabB X.base X.mg c P) (hcode : X.env.code = .ref c) (hr : Room (k + 2) X.A) (L : LamX.LamS X.env.scope scope) (hdef : defaultsOf params X.env = ([], []))
    (hbind : ∀ (q : Str) (cl : List (Str × Addr)) (pm cv ctv : Value), bindArgs (PySem.W.kla_fn (Str.ofString "<lambda>") q params body scope cl pm cv ctv) { } = pure [])
    (hbody : ∀ (A : Around) (outer : List Env) (s : Shared) (H : Hp) (E : XK) (f c' : Addr), Room k (A.deeper (LamX.lamEnv X scope s.heap.objs.size f c')) → PE (LamX.lamCx X A outer s H E scope f c') body (t E))
    (hg : Gl X x := by rfl) (hdb : (x == ("__debug__" : Str)) = false := by decide) (h1 : (a == ("__debug__" : Str)) = false := by decide) (h2 : (a == ("__classdict__" : Str)) = false := by decide) :
    PE X (.Call (.Name x p) [.Lambda params body scope lpos] [] pos) (tLam3 P (X.env.qual ++ Str.ofString "<lambda>") TT t) := by
  refine ⟨fun pins s σ H Q I h => wpAny_Call_Name_kw (ld_glob I hg hm ?_ hdb)⟩
  obtain ⟨tab, h⟩ := h
  refine PySem.W.callWith_K I.ok.mod.kin hk ?_ rfl rfl
  refine Calls.spliced_cons (lam_make3 I TB hcode tab hdef (L.has I.ok) fun f c' pm2 ctv H1 s' J st hf hfn hfr hc' => Calls.spliced_nil ⟨J.kIn, ?_⟩)
  refine wpAny_call (codeAny_mono (LamX.run_ofS (CX := C8.CX0) (E := C8.E0) (Q := Q) (vs := [.ref f]) (us := [.ref f]) (ps := [a]) lk hcg Sg hr J.env0 (hb _ [.ref f] J.kIn rfl) (.cons rfl .nil) rfl fun hr2 => ?_) fun r s2 q => ?_)
  · obtain ⟨tt, ht, hh⟩ := hG f c' s' H1 Q (fun E H' Q' => t E σ H' Q') (fun W pn xe E p1 p2 tk hW => LamX.pe_act J L hf hfn hfr (hbind _ _ _ _ _) tk hW hr2 (fun A outer s H hr3 => hbody A outer s H E f c' hr3) hNg hva h1 h2) hc' (h H1 st)
    exact ⟨tt, ht.nox, hh⟩
  · cases r with
    | error e => exact False.elim q
    | ok fl =>
      cases fl <;> first | exact False.elim q | exact J.after q
end
end Act
namespace Act
variable [GT]
open PySem PySem.Spec PyProof.Rows L2
/-! ## try: return work() / except E0 as e: return s1 if isinstance(e, E1) else s2 -/
def TTis (K : PySem.W.Frag) (C0 C1 : Addr) (v1 v2 : V) : (XK → Hp → VK → Prop) → Hp → VK → Prop := fun tl H Q =>
  ∀ E : XK, (∀ C H' b, ExcC K C → PySem.W.exmOne K (.ref C) (.ref C0) = some true → PySem.W.kitOne K (.ref C) (.ref C1) = some b → Q (if b then v1 else v2) H' → E (.ref C) none H') → tl E H Q
theorem told_is {X : Cx} {Ng : List Str} {x a e0 e1 n s1 s2 q : Str} {sg : Scope} {g C0 C1 : Addr} {cdg : Value} {j1 j2 : Nat} {p1 p2 p3 p4 p5 p6 p7 p8 p9 p10 p11 p12 p13 p14 : Pos}
    (g0 : List.lookup e0 sg.names = some .globalImplicit) (m0 : X.mg e0 = some (.ref C0)) (g1 : List.lookup e1 sg.names = some .globalImplicit) (m1 : X.mg e1 = some (.ref C1))
    (gi : List.lookup ("isinstance" : Str) sg.names = some .globalImplicit) (mi : X.mg "isinstance" = none) (hn : List.lookup n sg.names = some .local) (hN : Ng = [a, n]) (ne : a ≠ n)
    (d0 : (e0 == ("__debug__" : Str)) = false := by decide) (d1 : (e1 == ("__debug__" : Str)) = false := by decide) (d2 : (n == ("__debug__" : Str)) = false := by decide) (d3 : (n == ("__classdict__" : Str)) = false := by decide) :
    LamX.GivesTo X Ng x sg g cdg [.Try [.Return (some (.Call (.Name a p1) [] [] p2)) p3] [.ExceptHandler (some (.Name e0 p4)) (some n) [.Return (some (.IfExp (.Call (.Name "isinstance" p5) [.Name n p6, .Name e1 p7] [] p8) (.Constant (.str s1) j1 p9) (.Constant (.str s2) j2 p10) p11)) p12] p13] [] [] p14] a q (TTis X.K C0 C1 (.str s1) (.str s2)) := by
  subst hN
  intro f c' s H Q tl pe hc hT
  let XX := cxOf C8.CX0 X.prog X.w X.K X.mg X.base [a, n] x sg g cdg X.A X.stack s H C8.E0
  have nd : ([a, n] : List Str).Nodup := by simp [ne]
  have body : ∀ (W : WX) (pn : List (Addr × Obj)) (xe : Value → Shared → Prop), Takes (XX.nox.tr pn xe) W → PassesOwn (model X.prog X.w) XX.A XX.env xe → PSs (XX.nox.tr pn xe) [.Return (some (.Call (.Name a p1) [] [] p2)) p3]
      (tSeq (tRet fun σZ HZ Q => σZ[0]? = some (some (.ref f)) ∧ HZ c' = some (LamX.CodeO c' q) ∧ tl (fun cls d H' => ∀ σ', W cls d σ' H') HZ Q) tNext) := fun W pn xe tk _ =>
    pss_cons (ps_ret (pe W pn xe (fun cls d H' => ∀ σ', W cls d σ' H') p1 p2 tk fun _ _ σ' _ h => h σ')) pss_nil
  have suite : ∀ (b : Addr) (oe : Obj) (cls : Value) (d : Option Addr) (pn : List (Addr × Obj)), Zc cls d oe → (∃ vs, oe.data = .fields vs) → PSs (XX.nox.suite b ((b, oe) :: pn)) [.Return (some (.IfExp (.Call (.Name "isinstance" p5) [.Name n p6, .Name e1 p7] [] p8) (.Constant (.str s1) j1 p9) (.Constant (.str s2) j2 p10) p11)) p12]
      (fun D σ H => ∃ C k, cls = .ref C ∧ d = none ∧ ExcC X.K C ∧ PySem.W.kitOne X.K (.ref C) (.ref C1) = some k ∧ (∃ σ' : L2.St, σ = σ'.set 1 (some (.ref b))) ∧ D.rt (if k then .str s1 else .str s2) H) := fun b oe cls d pn hz hv => ⟨fun pins s2' σ2 H2 D I gg => by
    obtain ⟨C, k, rfl, rfl, hC, hk, ⟨σ', rfl⟩, hq⟩ := gg
    have hlen : (σ'.set 1 (some (V.ref b))).length = 2 := I.len
    have h1 : (σ'.set 1 (some (V.ref b)))[1]? = some (some (.ref b)) := by
      rw [List.getElem?_set_self (by rw [List.length_set] at hlen; omega)]
    refine (pss_cons (ps_ret (pe_ifExp (pt_val (pe_callB (call_isE (X := XX.nox) (a := b) (pn := pn) hC hz hv) gi mi (by decide +kernel) (pa_cons (pv (X := XX.nox.suite b ((b, oe) :: pn)) 1 rfl (Or.inl hn) d2 d3) (pa_cons (pe_glob (X := XX.nox.suite b ((b, oe) :: pn)) (v := .ref C1) g1 m1 rfl d1) pa_nil rfl) rfl) (by decide) (by decide) rfl rfl)) pe_str pe_str)) pss_nil).run pins s2' _ H2 D I ?_
    refine ⟨.ref b, h1, ⟨.ref C1, .ref C1, k, rfl, fun u hu => hu, hk, k, rfl, ?_⟩⟩
    cases k
    · exact hq
    · exact hq⟩
  refine ⟨_, pss_cons (ps_try_as (X := XX.nox) (i := 1) (c := .ref C0) (Wout := fun _ _ _ _ => False) rfl rfl nd rfl hn ⟨g0, d0, .inl m0⟩ LamX.takes0 body suite) pss_nil, ?_⟩
  refine ⟨rfl, hc, hT _ fun C H' k hC hm hk hq σ' => ⟨true, hm, fun _ b hb => ⟨C, k, rfl, rfl, hC, hk, ⟨σ', rfl⟩, hq⟩, fun h => nomatch h⟩⟩
theorem row_lam {K : PySem.W.Frag} {N : Scr} {a P c : Addr} {H : Hp} {ps ps' : Array Value} {o : HO} (h : Row K N a H) (hP : H P = some (.tbl ps)) (hc : H c = none) : Row K N a (upd (upd H P (.tbl ps')) c o) := by
  have na : P ≠ a := fun z => by
    obtain ⟨ys, e⟩ := h.lst
    rw [← z, hP] at e; cases e
  have nc : c ≠ P := fun z => by rw [z, hP] at hc; cases hc
  have off : Off K N P := by
    obtain ⟨_, _, _, _, s, _⟩ := h
    rcases s with (s | ⟨u, s⟩) | s
    · exact .inl fun z => by rw [← z, hP] at s; cases s
    · exact .inl fun z => by rw [← z, hP] at s; cases s
    · exact .inr fun H => .inr s
  have h1 : Row K N a (upd H P (.tbl ps')) := h.put off na
  exact h1.put (h1.off (by rw [upd_ne nc]; exact hc)) (h.free hc)
theorem lam_ext {K : PySem.W.Frag} {z : Zx} {F H H1 : Hp} {P : Addr} {q : Str} (sb : Sub F H) (nt : NoTbl F) (hq : GT.q P = some q) (hz : z.r ≠ none) (hr : ∀ a, z.r = some a → Row K z.N a H) (h : LamStep P q H H1) : Ext K z F H F H1 := by
  rcases h with rfl | ⟨ps, more, c, hP, hc, rfl, ht, hm⟩
  · exact Ext.refl sb
  have nPc : P ≠ c := fun z => by rw [z, hc] at hP; cases hP
  have rP : ∀ a, z.r = some a → a ≠ P := fun a e n => by
    obtain ⟨ys, e2⟩ := (hr a e).lst
    rw [n, hP] at e2; cases e2
  have rc : some c ≠ z.r := fun e => by
    obtain ⟨ys, e2⟩ := (hr c e.symm).lst
    rw [hc] at e2; cases e2
  refine ⟨fun n => n, fun _ _ e => e, fun a o e => ?_, fun b o n e => ?_, fun _ _ e => .inl e, fun a e r => row_lam r hP hc, fun a e n => ?_⟩
  · have n1 : a ≠ c := fun z => by have := sb _ _ e; rw [z, hc] at this; cases this
    have n2 : a ≠ P := fun z => by
      have := sb _ _ e
      rw [z, hP] at this
      cases this
      exact nt _ _ e
    rw [upd_ne n1, upd_ne n2]
    exact sb _ _ e
  · have n1 : b ≠ c := fun z => by rw [z, hc] at e; cases e
    by_cases cb : b = P
    · subst cb
      rw [hP] at e
      cases e
      refine .inr ⟨ps, ps ++ more, rfl, by rw [upd_ne n1, upd_same], fun _ => ht, fun w ew => ⟨hz, fun pos cv h1 => ?_⟩⟩
      rw [hq] at ew
      cases ew
      rcases hm pos cv h1 with h2 | h2
      · exact .inl h2
      · exact .inr ⟨c, h2, rc, upd_same⟩
    · exact .inl (by rw [upd_ne n1, upd_ne cb]; exact e)
  · have n1 : a ≠ c := fun z => n (by rw [z]; exact hc)
    rw [upd_ne n1, upd_ne (rP a e)]
    exact n
/-- the answer of a told call: of the work, or of the error that it raises -/
def eTold (okx : Exc → Prop) (ans : Exc → Str) (fb : DE) : DE := fun ρ Q E => fb ρ Q (fun x => okx x ∧ Q (.str (ans x)))
theorem d_told {X : Cx} {z : Zx} {x a s1 s2 : Str} {st : Stmt} {Ng : List Str} {c P C0 C1 : Addr} {k : Nat} {params : Arguments} {body : Expr} {scope : Scope} {okx : Exc → Prop} {ans : Exc → Str} {fb : DE} {p lpos pos : Pos}
    (d : Df X.K X.mg x st [a]) (Sg : FnScope Ng [a] (defScope st)) (hNg : Ng[0]? = some a) (hva : Vis (defScope st) a)
    (hG : ∀ g cdv q, LamX.GivesTo X Ng x (defScope st) g cdv (defBody st) a q (TTis X.K C0 C1 (.str s1) (.str s2)))
    (hx : ∀ e, okx e → e.arg = none ∧ ∀ v, X.mg e.cls = some v → ∃ C b, v = .ref C ∧ ExcC X.K C ∧ PySem.W.exmOne X.K (.ref C) (.ref C0) = some true ∧ PySem.W.kitOne X.K (.ref C) (.ref C1) = some b ∧ ans e = if b then s1 else s2)
    (TB : GxR.TabB X.base X.mg c P) (hcode : X.env.code = .ref c) (hT : P ∈ z.T) (hq : GT.q P = some (X.env.qual ++ Str.ofString "<lambda>")) (hz : z.r ≠ none)
    (hr : Room (k + 2) X.A) (L : LamX.LamS X.env.scope scope) (hdef : defaultsOf params X.env = ([], []))
    (hbind : ∀ (q : Str) (cl : List (Str × Addr)) (pm cv ctv : Value), bindArgs (PySem.W.kla_fn (Str.ofString "<lambda>") q params body scope cl pm cv ctv) { } = pure [])
    (hb : ∀ (A : Around) (outer : List Env) (s : Shared) (H : Hp) (E : XK) (f c' : Addr), Room k (A.deeper (LamX.lamEnv X scope s.heap.objs.size f c')) → PD (LamX.lamCx X A outer s H E scope f c') z .d body fb)
    (hg : Gl X x := by rfl) (hdb : (x == ("__debug__" : Str)) = false := by decide) (h1 : (a == ("__debug__" : Str)) = false := by decide) (h2 : (a == ("__classdict__" : Str)) = false := by decide) :
    PD X z .d (.Call (.Name x p) [.Lambda params body scope lpos] [] pos) (eTold okx ans fb) := fun W tk => by
  obtain ⟨g, fd, F, m, b⟩ := d.ex
  obtain ⟨oc, od, dV, kV, doc, pm, an, cdv, ct, osl, e, lk, hcd, _, _⟩ := F.ex
  subst e
  refine peW (pe_lam3 (t := fun E => teG X.K X.mg z (fun cls d _ H => E cls d H) .d fb) m F.kp lk hcd b Sg hNg hva (hG g cdv _) ⟨TB.code, TB.bm, TB.gP⟩ hcode hr L hdef hbind (fun A outer s H E f c' h => hb A outer s H E f c' h _ (takes_of rfl rfl rfl rfl)) hg hdb h1 h2) fun σ H R ⟨F0, H0, ρ, F, Q, E, rs, hf, hQ, hE⟩ => ?_
  refine ⟨(rs.tabs _ hT).s hq, fun H1 st E2 hE2 => ?_⟩
  have e1 : Ext X.K z F H F H1 := lam_ext rs.sub rs.nt hq hz (fun a e => (rs.row a e).1) st
  refine ⟨F0, H0, ρ, F, Q, _, rs.step e1, hf, fun d v F' H' q e r => hQ d v F' H' q (e1.trans e) r, fun x c dd F' H' ox e xr => ?_⟩
  obtain ⟨ox, qx⟩ := ox
  obtain ⟨xm, xa⟩ := xr
  obtain ⟨ea, hx⟩ := hx x ox
  obtain ⟨C, b, rfl, hC, e2, e3, e4⟩ := hx c xm
  rw [ea] at xa
  subst xa
  exact hE2 C H' b hC e2 e3 (hQ _ _ F' H' qx (e1.trans e) (by
    show Rep _ _ _ _
    rw [Rep.str_iff, e4]
    cases b <;> rfl))
end Act
namespace Act
variable [GT]
open PySem PySem.Spec PyProof.Rows L2
/-! ## range(a, b, -1) -/
def iRan3 (fa fb fc : DE) : DI := fun ρ Q E => fa ρ (fun d => fb ρ (fun d' => fc ρ (fun d'' => match d, d', d'' with | .int i, .int j, .int c => c = -1 ∧ ∃ n, RgC i j (-1) n ∧ Q (revD i n) | _, _, _ => False) E) E) E
section
variable {X : Cx} {z : Zx} {ma mb mc : Mo} {ea eb ec : Expr} {fa fb fc : DE} {pos : Pos}
theorem i_range3 {tg : Expr} {p : Pos} (hm : X.mg "range" = none) (ha : PD X z ma ea fa) (hb : PD X z mb eb fb) (hc : PD X z mc ec fc) (hg : Gl X "range" := by rfl) (hse : starEach [ea, eb, ec] X.env = (false, eval ea X.env) :: starEach [eb, ec] X.env := by rfl) (hse2 : starEach [eb, ec] X.env = (false, eval eb X.env) :: starEach [ec] X.env := by rfl) (hse3 : starEach [ec] X.env = (false, eval ec X.env) :: starEach [] X.env := by rfl) : PID X z tg (.Call (.Name "range" p) [ea, eb, ec] [] pos) (iRan3 fa fb fc) := fun W tk =>
  piW (pi_range3 hg hm (pa_cons (ha W tk) (pa_cons (hb W tk) (pa_cons (hc W tk) pa_nil hse3) hse2) hse) hse (by rw [hse2, hse3]; rfl)) fun σ H R ⟨F0, H0, ρ, F, Q, E, rs, hf, hq, hx⟩ => ⟨F0, H0, ρ, F, _, E, rs, hf, (fun d v F1 H1 q1 e1 r1 => ⟨F0, H0, ρ, F1, _, E, rs.step e1, q1, (fun d' v' F2 H2 q2 e2 r2 => ⟨F0, H0, ρ, F2, _, E, (rs.step e1).step e2, q2, (fun d'' v'' F3 H3 q3 e3 r3 => by
    cases d <;> cases d' <;> cases d'' <;> try exact False.elim q3
    obtain ⟨rfl, n, hr, hQ⟩ := q3
    exact ⟨_, _, _, n, by rw [rb_int r1.b, rb_int r2.b, rb_int r3.b], hr, hq _ _ F3 H3 hQ ((e1.trans e2).trans e3) itok_rev⟩), (hx.step e1).step e2⟩), hx.step e1⟩), hx⟩
end
theorem rgs_down (i : Nat) : Builtin.Range.rangeSize (i : Int) (-1) (-1) = ((i + 1 : Nat) : Int) := by
  unfold Builtin.Range.rangeSize
  rw [if_neg (by decide), if_pos (by omega), show (-(-1 : Int)) = 1 from rfl, Int.ediv_one]
  omega
theorem rgc_down {i n : Nat} (h : i ≤ 1000000) (hn : n = i + 1) : RgC (i : Int) (-1) (-1) n := by
  subst hn
  refine ⟨by decide, by decide, ?_, rgs_down i⟩
  unfold Builtin.Range.small
  rw [rgs_down]
  simp [Builtin.Range.rangeFitsLong]
  omega
end Act
namespace Act
variable [GT]
open PySem PySem.Spec PyProof.Rows L2
/-! ## error classes of the package, raised with a text -/
structure ErrC (K : PySem.W.Frag) (mg : Str → Option Value) (x : Str) : Prop where
  ex : ∃ C, mg x = some (.ref C) ∧ PySem.W.excIn K C He.veBase "ValueError.__new__" = true ∧ PySem.W.keepIn K (.ref C) = true ∧ PySem.W.subIn K (.ref C) (.type "BaseException") = some true ∧ PySem.W.typeIn K (.ref C) = some (.type "type")
/-- an error class x, under x0, which is (or is not) the class x1 -/
structure ErrT (K : PySem.W.Frag) (mg : Str → Option Value) (x x0 x1 : Str) (b : Bool) : Prop where
  ex : ∃ C C0 C1, mg x = some (.ref C) ∧ mg x0 = some (.ref C0) ∧ mg x1 = some (.ref C1) ∧ ExcC K C ∧ PySem.W.exmOne K (.ref C) (.ref C0) = some true ∧ PySem.W.kitOne K (.ref C) (.ref C1) = some b
def sRaise (x : Str) : DS := fun pe ρ => pe.ex ⟨x, none⟩ ρ
theorem s_raise {X : Cx} {z : Zx} {x m : Str} {j : Nat} {p p2 pos pos' : Pos} (e : ErrC X.K X.mg x) (hc : X.calm = true := by rfl) (hg : Gl X x := by rfl) (hdb : (x == ("__debug__" : Str)) = false := by decide) :
    PSD X z (.Raise (some (.Call (.Name x p) [.Constant (.str m) j p2] [] pos)) none pos') (sRaise x) := fun W tk => by
  obtain ⟨C, mC, q, kC, hs, ht⟩ := e.ex
  exact psW (ps_raise hc tk (pmk_own PySem.F.excBase_ValueError q mC kC (raises_own hs ht) hg hdb)) fun Dn σ H ⟨F0, H0, ρ, F, pe, rs, hf, lk⟩ =>
    lk.ex ⟨x, none⟩ ρ _ none F σ H hf rs (fun _ _ h => h) ⟨mC, rfl⟩
/-! ### what the head says of them -/
def excB (K : PySem.W.Frag) (D : Addr) : Bool :=
  He.eqO (PySem.W.findIn K (.ref D) (Str.ofString "__getattribute__")) (some (some (.builtin "BaseException.__getattribute__"))) &&
  (He.eqO (PySem.W.findIn K (.ref D) (Str.ofString "__getattr__")) (some none) &&
  (decide (PySem.W.subIn K (.ref D) (.type "BaseException") = some true) &&
  (PySem.W.hasDictIn K D &&
  (He.eqO (PySem.W.findIn K (.ref D) (Str.ofString "__class__")) (some (some (.builtin "object.__class__"))) &&
  (He.eqO (PySem.W.specialIn K (.builtin "object.__class__") (Str.ofString "__get__")) (some (some (.builtin "getset_descriptor.__get__"))) &&
  (decide (PySem.W.takesIn K (.builtin "object.__class__") = some true) &&
  decide (PySem.W.mroIn K D (.type "object") = some true)))))))
theorem excB_ok {K : PySem.W.Frag} {D : Addr} (h : excB K D = true) : ExcC K D := by
  obtain ⟨h1, h⟩ := He.ba h
  obtain ⟨h2, h⟩ := He.ba h
  obtain ⟨h3, h⟩ := He.ba h
  obtain ⟨h4, h⟩ := He.ba h
  obtain ⟨h5, h⟩ := He.ba h
  obtain ⟨h6, h⟩ := He.ba h
  obtain ⟨h7, h8⟩ := He.ba h
  exact ⟨He.eqO_ok h1, He.eqO_ok h2, of_decide_eq_true h3, h4, He.eqO_ok h5, He.eqO_ok h6, of_decide_eq_true h7, of_decide_eq_true h8⟩
def gloB (K : PySem.W.Frag) (x : Str) : Bool := He.eqO (PySem.W.nsIn K mainGlobals x) (some (some (.ref (He.ga K x))))
def errB (K : PySem.W.Frag) (x : Str) : Bool := gloB K x && He.Fa.ok K (.exc x)
def errtB (K : PySem.W.Frag) (x x0 x1 : Str) (b : Bool) : Bool := gloB K x && (gloB K x0 && (gloB K x1 && (excB K (He.ga K x) && (He.Fa.ok K (.exm x x0 true) && decide (PySem.W.kitOne K (.ref (He.ga K x)) (.ref (He.ga K x1)) = some b)))))
theorem errB_ok {K : PySem.W.Frag} {h : Heap} {mg : Str → Option Value} (X : K.In h) (G : h.Ns mainGlobals mg) {x : Str} (c : errB K x = true) : ErrC K mg x := by
  obtain ⟨h1, h2⟩ := He.ba c
  obtain ⟨a1, a2, a3, a4⟩ := He.exc_ok h2
  exact ⟨_, PySem.W.mg_of X G (He.eqO_ok h1), a1, a2, a3, a4⟩
theorem errtB_ok {K : PySem.W.Frag} {h : Heap} {mg : Str → Option Value} (X : K.In h) (G : h.Ns mainGlobals mg) {x x0 x1 : Str} {b : Bool} (c : errtB K x x0 x1 b = true) : ErrT K mg x x0 x1 b := by
  obtain ⟨h1, c⟩ := He.ba c
  obtain ⟨h2, c⟩ := He.ba c
  obtain ⟨h3, c⟩ := He.ba c
  obtain ⟨h4, c⟩ := He.ba c
  obtain ⟨h5, h6⟩ := He.ba c
  exact ⟨_, _, _, PySem.W.mg_of X G (He.eqO_ok h1), PySem.W.mg_of X G (He.eqO_ok h2), PySem.W.mg_of X G (He.eqO_ok h3), excB_ok h4, He.exm_ok h5, of_decide_eq_true h6⟩
section
variable {P : Program} {w : World} {K : PySem.W.Frag} {mg : Str → Option Value} {base : Heap} {T : List Addr}
theorem law_okG {st : Stmt} {N : List Str} {k : Nat} {fb : DS} {f cc : Addr} {fd : FuncData} {c : Int} (F : Fn K "law" st f fd) (hcc : fd.code = .ref cc) (S : FnScope N ["script"] (defScope st)) {s1 : Stmt} {rest : List Stmt} (hst : defBody st = s1 :: rest) (hc : 0 ≤ c ∧ c < 2147483647) (hN : 2 ≤ N.length)
    (h1 : ∀ (A : Around) (outer : List Env) (s : Shared) (H : Hp) (E : XK), PS (cxOf CX0 P w K mg base N "law" (defScope st) f (.ref cc) A outer s H E).nox s1 (tFirst c 1))
    (hb : ∀ (Sc : Scr) (a : Addr) (A : Around) (outer : List Env) (s : Shared) (H : Hp) (E : XK), Room k (A.deeper (envOfC "law" (defScope st) s.heap.objs.size f (.ref cc))) →
      PassesOwn (model P w) (A.deeper (envOfC "law" (defScope st) s.heap.objs.size f (.ref cc))) (envOfC "law" (defScope st) s.heap.objs.size f (.ref cc)) (fun _ _ => False) →
      PSsD (cxOf CX0 P w K mg base N "law" (defScope st) f (.ref cc) A outer s H E).nox ⟨T, Sc, some a⟩ rest fb)
    (hp : ∃ ρ0, Sl.un :: .ro :: List.replicate (N.length - 2) .un = ρ0 ∧ fb ⟨fun _ => False, fun d => d = .bl true, fun _ => False, fun _ => False, fun _ _ => False⟩ ρ0) : FnOk P w K mg base CX0 (k + 1) f fd ["script"] (spLawT K T) := by
  refine fn_okG F hcc S (fun vs H Q E h => ?_) fun A outer s H vs Q E hr h => ?_
  · obtain ⟨a, ns, rfl, _⟩ := h
    rfl
  obtain ⟨a, ns, rfl, hS, hl, hT, q⟩ := h
  refine ⟨tSeq (tFirst c 1) (fun Dn σ H => ∃ z : Zx, z.T = T ∧ (∃ Sc p, z = ⟨T, Sc, some p⟩) ∧ tsG K mg z W0 fb Dn σ H), ?_, ?_⟩
  · rw [hst]
    refine pss_cons (h1 A outer s H E) ⟨fun pins s' σ H' D I g => ?_⟩
    obtain ⟨z, _, ⟨Sc, p, rfl⟩, g⟩ := g
    exact (hb Sc p A outer s H E hr PassesOwn.never W0 takes0).run pins s' σ H' D I g
  · refine ⟨.ref a, rfl, (by show 4 ≤ sizeLine; decide), fun p np => ?_⟩
    have row : Row K (a, ns) p (upd H p (.lst [.ref a, .int 0, .int c, .int 0])) := Row.new hS np hc.1 hc.2
    refine ⟨⟨T, (a, ns), some p⟩, rfl, ⟨_, _, rfl⟩, fun _ => none, upd H p (.lst [.ref a, .int 0, .int c, .int 0]), _, fun _ => none, _, ?_, (let ⟨_, e, g⟩ := hp; e ▸ g), ?_⟩
    · have eN : N.length - 1 = (N.length - 2) + 1 := by omega
      have es : (L2.start N [.ref a]).set 1 (some (.ref p)) = some (.ref a) :: some (.ref p) :: List.replicate (N.length - 2) none := by
        show (some (V.ref a) :: List.replicate (N.length - 1) none).set 1 _ = _
        rw [eN, List.replicate_succ]
        rfl
      rw [es]
      refine ⟨Ext.refl (fun a o h => nomatch h), fun b q => ?_, hT.up (Le.new np), fun a ps => (fun h => nomatch h), by simp, fun i sl q => ?_, fun i j sl t a n q1 q2 w1 w2 => ?_⟩
      · cases q
        exact ⟨row, rfl, row⟩
      · cases i with
        | zero =>
          cases q
          exact ⟨_, rfl, trivial⟩
        | succ i =>
          cases i with
          | zero =>
            cases q
            exact ⟨_, rfl, p, rfl, rfl⟩
          | succ i =>
            have q' : (List.replicate (N.length - 2) Sl.un)[i]? = some sl := q
            rw [List.getElem?_replicate] at q'
            split at q'
            · rename_i c2
              cases q'
              refine ⟨none, ?_, trivial⟩
              show (List.replicate (N.length - 2) (none : Option V))[i]? = some none
              rw [List.getElem?_replicate, if_pos c2]
            · cases q'
      · have m : sl ∈ Sl.un :: Sl.ro :: List.replicate (N.length - 2) Sl.un := List.mem_of_getElem? q1
        have : sl.owns = false := by
          rcases List.mem_cons.mp m with m | m
          · rw [m]; rfl
          · rcases List.mem_cons.mp m with m | m
            · rw [m]; rfl
            · rw [(List.mem_replicate.mp m).2]; rfl
        rw [this] at w1
        cases w1
    · refine ⟨fun _ _ _ _ p => False.elim p, fun _ _ _ _ p => False.elim p, fun _ _ _ _ p => False.elim p, fun d v F' H' p e r => ?_, fun _ _ _ _ _ _ _ p => False.elim p⟩
      subst p
      rw [Rep.bl_iff.mp r]
      exact q H'
end
structure HasTold (P : Program) (w : World) (K : PySem.W.Frag) (mg : Str → Option Value) (base : Heap) (T : List Addr) (k : Nat) (st : Stmt) : Prop where
  d : Df K mg "_law_told" st ["work"]
theorem HasTold.mono {P : Program} {w : World} {K : PySem.W.Frag} {mg : Str → Option Value} {base : Heap} {T : List Addr} {j k : Nat} {st : Stmt} (h : HasTold P w K mg base T j st) (_ : j ≤ k) : HasTold P w K mg base T k st := ⟨h.d⟩
/-- all that a law's head says, with errors and with tables that must differ from the law's own -/
def exB2 (bl : List (Str × String)) (tp : List (Str × List Int)) (er : List Str) (et : List (Str × Str × Str × Bool)) (gl : List Str) (K : PySem.W.Frag) : Bool :=
  exB bl tp K && ((er.all fun x => errB K x) && ((et.all fun q => errtB K q.1 q.2.1 q.2.2.1 q.2.2.2) && gl.all fun x => decide ((He.cT K (x, none)).2 ≠ (He.cT K ("law", none)).2)))
theorem exB2_ok {bl : List (Str × String)} {tp : List (Str × List Int)} {er : List Str} {et : List (Str × Str × Str × Bool)} {gl : List Str} {K : PySem.W.Frag} (h : exB2 bl tp er et gl K = true) :
    exB bl tp K = true ∧ (∀ x ∈ er, errB K x = true) ∧ (∀ q ∈ et, errtB K q.1 q.2.1 q.2.2.1 q.2.2.2 = true) ∧ ∀ x ∈ gl, (He.cT K (x, none)).2 ≠ (He.cT K ("law", none)).2 := by
  obtain ⟨h1, h⟩ := He.ba h
  obtain ⟨h2, h⟩ := He.ba h
  obtain ⟨h3, h4⟩ := He.ba h
  exact ⟨h1, List.all_eq_true.mp h2, List.all_eq_true.mp h3, fun x hx => of_decide_eq_true (List.all_eq_true.mp h4 x hx)⟩
/-- the tables, the law's own being one of lambdas -/
@[reducible] def gtLaw (K : PySem.W.Frag) : GT := ⟨fun a => if a = (He.cT K ("law", none)).2 then some ("law.<locals>.<lambda>" : Str) else none⟩
theorem fn_code {K : PySem.W.Frag} {x : Str} {st : Stmt} {fd : FuncData} (F : Fn K x st (He.fAd K (x, none)) fd) : fd.code = .ref (He.cT K (x, none)).1 := by
  obtain ⟨oc, od, dV, kV, doc, pm, an, cdv, ct, osl, e, lk, hcd, _, _⟩ := F.ex
  obtain ⟨c0, hc0⟩ := He.codeIn_ref hcd
  have e1 : fd.code = .ref c0 := by rw [e]; exact hc0
  have e2 : He.codeOf K (x, none) = c0 := He.codeOf_eq lk e1
  show fd.code = .ref (He.codeOf K (x, none))
  rw [e2]
  exact e1
end Act
namespace Act
variable [GT]
open PySem PySem.Spec PyProof.Rows L2
open scoped Rat
def okOne (x : Str) (e : Exc) : Prop := e = ⟨x, none⟩
theorem told_one {K : PySem.W.Frag} {mg : Str → Option Value} {x s1 s2 : Str} {C C0 C1 : Addr} {b : Bool} (mC : mg x = some (.ref C)) (hC : ExcC K C) (hm : PySem.W.exmOne K (.ref C) (.ref C0) = some true) (hk : PySem.W.kitOne K (.ref C) (.ref C1) = some b) :
    ∀ e, okOne x e → e.arg = none ∧ ∀ v, mg e.cls = some v → ∃ C' b', v = .ref C' ∧ ExcC K C' ∧ PySem.W.exmOne K (.ref C') (.ref C0) = some true ∧ PySem.W.kitOne K (.ref C') (.ref C1) = some b' ∧ (fun _ : Exc => if b then s1 else s2) e = if b' then s1 else s2 := by
  rintro e rfl
  refine ⟨rfl, fun v hv => ⟨C, b, ?_, hC, hm, hk, rfl⟩⟩
  exact Option.some.inj (hv.symm.trans mC)
def spPaidUpD : SpD := fun ds Q E => ∃ (P : Pol) (t : Nat), ds = [P.dat, .int (t : Int)] ∧ PolOk P ∧ P.span ≤ 6 ∧ t < P.span ∧ ((polNo P).V t = 0 → E ⟨"NoPremium", none⟩) ∧ ((polNo P).V t ≠ 0 → Q (dR (P.V t / (polNo P).V t)))
theorem V_no (P : Pol) (p : Rat) (t : Nat) : (polNo (withP P p P.y)).V t = (polNo P).V t := by
  have : ∀ k, (polNo (withP P p P.y)).rv k = (polNo P).rv k := fun k => by
    induction k with
    | zero => rfl
    | succ k ih =>
      show (polNo (withP P p P.y)).net (P.span - (k + 1)) + P.back * (P.q (P.span - (k + 1)) * P.e (P.span - (k + 1)) + (1 - P.q (P.span - (k + 1))) * (polNo (withP P p P.y)).rv k) = (polNo P).net (P.span - (k + 1)) + P.back * (P.q (P.span - (k + 1)) * P.e (P.span - (k + 1)) + (1 - P.q (P.span - (k + 1))) * (polNo P).rv k)
      rw [net_no, net_no, ih]
      rfl
  exact this _
theorem V_with0 (P : Pol) (t : Nat) : (withP P 0 P.y).V t = (polNo P).V t := by
  rw [← V_lin (withP P 0 P.y) t, V_no]
  show (polNo P).V t - 0 * _ = _
  grind
theorem with_ok {P : Pol} (h : PolOk P) {p : Rat} (hp : PremOk p) : PolOk (withP P p P.y) := ⟨h.lives, h.age, h.rate, h.al, h.de, hp, h.y⟩
/-- with a worth of 0 the fund is the reserves -/
theorem fund_res {P : Pol} (h : PolOk P) (h0 : P.V 0 = 0) : fundList P = resList P := by
  unfold fundList resList
  refine List.map_congr_left fun t ht => ?_
  have ht := List.mem_range.mp ht
  have e := hd_eq h t (Nat.le_of_lt ht)
  rw [h0] at e
  have hl : (P.liv t : Rat) ≠ 0 := liv_ne h ht
  have e2 : P.hd t = (P.liv t : Rat) * P.V t := by grind
  rw [e2]
  grind
/-! ## x in [..] with tuples and texts in the list -/
theorem hu65 {k : Nat} {A : Around} (hr : Room k A) : A.units + 65 < cLine := by
  have := hr.un
  omega
def pInD : D → D → (D → Prop) → Prop := fun x y Q => match y with
  | .lst ds => (shp x = true ∧ shp (.lst ds) = true) ∧ Q (.bl (ds.any fun z => deq z x))
  | _ => False
theorem any_toPys (x : D) : ∀ ds : List D, (toPys ds).any (fun z => z.eqv (toPy x)) = ds.any fun z => deq z x
  | [] => by rw [toPys]; rfl
  | d :: ds => by rw [toPys, List.any_cons, List.any_cons, any_toPys x ds]; rfl
theorem opd_inD {z : Zx} {K : PySem.W.Frag} : OpD K z .d (rInD K) pInD := fun F H x y v u Q R s rf hx hy q k => by
  cases y <;> try exact False.elim q
  rename_i ds
  refine ⟨toPy x, toPys ds, rb_dp s hx, rb_dp s hy, q.1.1, q.1.2, ?_⟩
  rw [any_toPys]
  exact k _ _ F H q.2 (Ext.refl s) (resD rep_bl)
end Act
namespace Act
variable [GT]
open PySem PySem.Spec PyProof.Rows L2
/-! ## the truth of a tuple, a list, an integer -/
def tT (fa : DE) : DT := fun ρ Q E => fa ρ (fun d => match d with | .bl b => Q b | .int i => Q (i != 0) | .tup ds => Q (!ds.isEmpty) | .lst ds => Q (!ds.isEmpty) | _ => False) E
section
variable {X : Cx} {z : Zx} {ea : Expr} {fa : DE}
theorem reps_empty {K : PySem.W.Frag} {F : Hp} {ds : List D} {xs : List V} (h : Reps K F ds xs) : xs.isEmpty = ds.isEmpty := by
  have := h.len
  cases ds <;> cases xs <;> first | rfl | (simp at this)
theorem t_truth (ha : PD X z .d ea fa) (ht : ∀ (whole : Sem Value), PySem.isTrue ea X.env whole = (do let v ← whole; standAt ea.pos; holding [v] (truthy v)) := by intro _; rfl) : PTD X z ea (tT fa) := fun W tk =>
  ptW (pt_truth (ha W tk) ht) fun σ H R ⟨F0, H0, ρ, F, Q, E, rs, hf, hq, hx⟩ => ⟨F0, H0, ρ, F, _, E, rs, hf, (fun d v F1 H1 q1 e1 r1 => by
    have r2 : Rep X.K F1 d v := r1
    clear r1
    cases d with
    | bl b =>
      rw [Rep.bl_iff] at r2
      subst r2
      exact ⟨b, rfl, hq _ _ _ q1 e1⟩
    | int i =>
      rw [Rep.int_iff] at r2
      subst r2
      exact ⟨i != 0, rfl, hq _ _ _ q1 e1⟩
    | tup ds =>
      obtain ⟨a, xs, rfl, t, r⟩ := Rep.tup_iff.mp r2
      exact ⟨!ds.isEmpty, .inr (.inl ⟨xs, (t.sub e1.fh).sq, by rw [reps_empty r]⟩), hq _ _ _ q1 e1⟩
    | lst ds =>
      obtain ⟨a, xs, rfl, t, r⟩ := Rep.lst_iff.mp r2
      exact ⟨!ds.isEmpty, .inl ⟨xs, SqL.of (e1.fh _ _ t), by rw [reps_empty r]⟩, hq _ _ _ q1 e1⟩
    | _ => exact False.elim q1), hx⟩
end
def spFilledD : SpD := fun ds Q _ => ∃ (xs : List D) (lo hi : Int), ds = [.tup xs, .int lo, .int hi] ∧ lo ≤ (xs.length : Int) ∧ (xs.length : Int) ≤ hi ∧ Q (.bl true)
end Act
namespace Act
open PySem
/-! ## no run takes a generator away -/
theorem size_set (s : Shared) (g : Nat) (x : GenState) : (s.setGen g x).gens.size = s.gens.size := by simp [Shared.setGen]
theorem runs_size {M : Model} {Γ : Ctx} {p : Pos} {t : Sem Fin} {fs : List Frame} {s : Shared} {e : End} {s' : Shared} (h : Runs M Γ p t fs s e s') : s.gens.size ≤ s'.gens.size := by
  induction h with
  | newGen _ ih => rw [Array.size_push] at ih; omega
  | call _ _ ih1 ih2 => omega
  | resumeFresh _ _ _ _ ih1 ih2 => rw [size_set] at ih1 ih2; omega
  | resumeSuspended _ _ _ _ ih1 ih2 => rw [size_set] at ih1 ih2; omega
  | resumeThrowFresh _ _ ih => rw [size_set] at ih; omega
  | segRet _ _ ih1 ih2 => omega
  | segGen _ _ ih1 ih2 => rw [size_set] at ih2; omega
  | segSuspGen _ _ _ _ ih1 ih2 => rw [size_set] at ih2; omega
  | _ => first | exact Nat.le_refl _ | assumption
theorem wp_size {α : Type} {M : Model} {Γ : Ctx} (n : Nat) (t : Sem α) : ∀ {Q : α → Pos → Shared → Prop} {E : Value → Pos → Shared → Prop} {p : Pos} {s : Shared}, n ≤ s.gens.size → Sem.wp M Γ t Q E p s → Sem.wp M Γ t (fun a p' s' => Q a p' s' ∧ n ≤ s'.gens.size) (fun e p' s' => E e p' s' ∧ n ≤ s'.gens.size) p s := by
  induction t with
  | pure a => exact fun hn h => ⟨h, hn⟩
  | raise e => exact fun hn h => ⟨h, hn⟩
  | call c h g l k ih =>
    rintro Q E p s hn ⟨r, s', hr, hw⟩
    exact ⟨r, s', hr, ih r (Nat.le_trans hn (runs_size hr)) hw⟩
  | newGen c k ih =>
    intro Q E p s hn h
    exact ih _ (by rw [Array.size_push]; omega) h
  | resume g r l k ih =>
    rintro Q E p s hn ⟨res, s', hw, h⟩
    refine ⟨res, s', hw, ih res (Nat.le_trans hn ?_) h⟩
    unfold Wakes at hw
    split at hw
    · exact hw.elim
    · split at hw
      · obtain ⟨e₁, s₁, hr, _, _, rfl⟩ := hw
        have := runs_size hr
        rw [size_set] at this ⊢
        exact this
      · rw [hw.2]; exact Nat.le_refl _
      · rw [hw.2, size_set]; exact Nat.le_refl _
    · obtain ⟨e₁, s₁, hr, _, _, rfl⟩ := hw
      have := runs_size hr
      rw [size_set] at this ⊢
      exact this
    · rw [hw.2]; exact Nat.le_refl _
    · rw [hw.2]; exact Nat.le_refl _
  | load a part k ih => rintro Q E p s hn ⟨o, ho, h⟩; exact ⟨o, ho, ih _ hn h⟩
  | update a part f k ih => rintro Q E p s hn ⟨ho, h⟩; exact ⟨ho, ih _ hn h⟩
  | choose src m k ih => rintro Q E p s hn ⟨h0, h⟩; exact ⟨h0, ih _ hn h⟩
  | genState g k ih => rintro Q E p s hn ⟨st, hg, h⟩; exact ⟨st, hg, ih _ hn h⟩
  | unsupported w => exact fun _ h => h.elim
  | finish w => exact fun _ h => h.elim
  | register a b => exact fun _ h => h.elim
  | «yield» v g l k => exact fun _ h => h.elim
  | fork => exact fun _ h => h.elim
  | await => exact fun _ h => h.elim
  | rule tag k ih => exact fun hn h => ih _ hn h
  | «at» p' k ih => exact fun hn h => ih _ hn h
  | loadIfAlive a k ih => exact fun hn h => ih _ hn h
  | point l k ih => exact fun hn h => ih _ hn h
  | alloc o k ih => exact fun hn h => ih _ (by exact hn) h
  | fresh k ih => exact fun hn h => ih _ (by exact hn) h
  | ask k ih => exact fun hn h => ih _ hn h
  | os q l k ih => exact fun hn h => ih _ (by exact hn) h
  | handled own k ih => exact fun hn h => ih _ hn h
  | stack k ih => exact fun hn h => ih _ hn h
  | thread k ih => exact fun hn h => ih _ hn h
theorem wpAny_size {α : Type} {M : Model} {A : Around} {t : Sem α} {Q : α → Shared → Prop} {E : Value → Shared → Prop} {s : Shared} (h : wpAny M A t Q E s) : wpAny M A t (fun a s' => Q a s' ∧ s.gens.size ≤ s'.gens.size) (fun e s' => E e s' ∧ s.gens.size ≤ s'.gens.size) s := fun Γ p hΓ => wp_size s.gens.size t (Nat.le_refl _) (h Γ p hΓ)
end Act
namespace Act
open PySem PySem.Spec PyProof.Rows L2
/-! # generator expressions whose tests and items may call whatever there is -/
theorem thnS {α : Type} {t : Sem α} {Q Q' : α → Shared → Prop} {M : Model} {A : Around} {E : Value → Shared → Prop} {s : Shared} {n : Nat} (h : wpAny M A t Q (fun _ _ => False) s) (hn : n ≤ s.gens.size) (hQ : ∀ a s', Q a s' → n ≤ s'.gens.size → Q' a s') : wpAny M A t Q' E s :=
  wpAny_mono (wpAny_size h) (fun a s1 q => hQ a s1 q.1 (Nat.le_trans hn q.2)) fun _ _ z => z.1.elim
/-- the generator's own context -/
abbrev genCx (X : Cx) (A' : Around) (s : Shared) (H : Hp) (cenv : Env) (fp : List Addr) : Cx :=
  { X with A := A', s_0 := s, H_0 := H, env := cenv, outer := X.stack, stack := cenv :: X.stack, ex := fp, fn := fun _ => false, pn := [], xe := fun _ _ => False }
section
variable {Y : Cx} {ps : List Addr} {tg elt iter : Expr} {ifs : List Expr} {scope : Scope} {gpos : Pos} {it : Addr} {fp : List Addr} {tn : Nat → Heap → Prop} {J : It} {gT : TG} {tt : TT} {te : TE} {vs : List Nat} {σ0 : L2.St} {Fin : Heap → Hp → Prop} {Yc : Heap → V → Hp → (Heap → Hp → Prop) → Prop} {W : Heap → Nat → Nat → Hp → Prop} {A1 : Around} {n0 : Nat}
/-- what every turn owes; σ0 has no own names -/
def Turns (J : It) (gT : TG) (tt : TT) (te : TE) (vs : List Nat) (σ0 : L2.St) (Fin : Heap → Hp → Prop) (Yc : Heap → V → Hp → (Heap → Hp → Prop) → Prop) (W : Heap → Nat → Nat → Hp → Prop) : Prop :=
  ∀ h i m H, W h i m H → (J.stop i H ∧ Fin h H) ∨ (J.go i H ∧ 0 < m ∧ ∃ Nx : Heap → Hp → Prop, (∀ h' H', Nx h' H' → ∃ m', m' < m ∧ W h' (i + 1) m' H') ∧ ∀ x H', J.yld i H x H' → gT x σ0 H' fun σ2 H2 => wipe σ2 vs = σ0 ∧ tt σ2 H2 fun b H3 =>
    if b = true then te σ2 H3 (fun y H4 => Yc h y H4 Nx) else Nx h H3)
/-- between two turns -/
def GCore (Y : Cx) (ps : List Addr) (fp : List Addr) (tn : Nat → Heap → Prop) (σ0 : L2.St) (W : Heap → Nat → Nat → Hp → Prop) (m : Nat) (s₀ s : Shared) : Prop :=
  ∃ i H, Inv Y (pinsAt ps s₀.heap) σ0 H s ∧ tn i s.heap ∧ (∀ b ∈ fp, H b = none) ∧ W s₀.heap i m H
def GFin (Y : Cx) (ps : List Addr) (σ0 : L2.St) (Fin : Heap → Hp → Prop) (s₀ s : Shared) : Prop := ∃ H, Inv Y (pinsAt ps s₀.heap) σ0 H s ∧ Fin s₀.heap H
/-- an item is out -/
def GOut (Y : Cx) (ps : List Addr) (fp : List Addr) (tn : Nat → Heap → Prop) (σ0 : L2.St) (Yc : Heap → V → Hp → (Heap → Hp → Prop) → Prop) (W : Heap → Nat → Nat → Hp → Prop) (m : Nat) (s₀ : Shared) (v : Value) (s : Shared) : Prop :=
  ∃ y H i Nx, RelV y v ∧ Inv Y (pinsAt ps s₀.heap) σ0 H s ∧ tn i s.heap ∧ (∀ b ∈ fp, H b = none) ∧ (∀ h' H', Nx h' H' → ∃ m', m' ≤ m ∧ W h' i m' H') ∧ Yc s₀.heap y H Nx
def GEndX (Y : Cx) (ps : List Addr) (σ0 : L2.St) (Fin : Heap → Hp → Prop) (n0 : Nat) : GenEnd := fun _ s₀ r s => r = .ok .next ∧ (GFin Y ps σ0 Fin s₀ s ∧ n0 ≤ s.gens.size)
def GProt (Y : Cx) (ps : List Addr) (fp : List Addr) (tn : Nat → Heap → Prop) (σ0 : L2.St) (Yc : Heap → V → Hp → (Heap → Hp → Prop) → Prop) (W : Heap → Nat → Nat → Hp → Prop) (n0 : Nat) : Protocol := fun m s₀ v s kap =>
  n0 ≤ s.gens.size ∧ GOut Y ps fp tn σ0 Yc W m s₀ v s ∧ ∀ s'', n0 ≤ s''.gens.size → (∃ m', m' ≤ m ∧ GCore Y ps fp tn σ0 W m' s'' s'') → kap (.send .none) s''
abbrev GE (elt tg iter : Expr) (ifs : List Expr) (scope : Scope) (gpos : Pos) : Expr := .GeneratorExp elt [⟨tg, iter, ifs, 0⟩] scope gpos
theorem gen_seg (T : Turn Y.prog Y.w Y.K tg J fp it tn) (pg : PG Y tg gT) (pt : PTs Y ifs tt) (pe : PE Y elt te) (tu : Turns J gT tt te vs σ0 Fin Yc W) (hc : Y.calm = true) (hpn : Y.pn = []) (hex : Y.ex = fp) (hA : Y.A = A1.over (.compLoop (GE elt tg iter ifs scope gpos) 0 (.ref it) .none Y.env) []) (hco : Y.env.scope.isCoroutine = false) (hap : ∀ b ∈ fp, b ∉ ps) (hxe : Y.xe = fun _ _ => False) (hσ : wipe σ0 vs = σ0) :
    ∀ n m, m ≤ n → ∀ s₀ s, GCore Y ps fp tn σ0 W m s₀ s → n0 ≤ s.gens.size →
      Seg (model Y.prog Y.w) A1 (GEndX Y ps σ0 Fin n0) (GProt Y ps fp tn σ0 Yc W n0) n s₀ (.compLoop (GE elt tg iter ifs scope gpos) 0 (.ref it) .none Y.env) ((model Y.prog Y.w).den (.compLoop (GE elt tg iter ifs scope gpos) 0 (.ref it) .none Y.env)) [] s := by
  have stat : ∀ {σ' : L2.St} {H' : Hp} {s₀ s' : Shared}, Inv Y (pinsAt ps s₀.heap) σ' H' s' → (∀ b ∈ fp, H' b = none) → ∀ b ∈ fp, FpOk Y (pinsAt ps s₀.heap) H' b := fun {σ' H' s₀ s'} I' hn b hb =>
    ⟨hn b hb, (I'.ok.exf b (by rw [hex]; exact hb)).1, I'.ok.exfs b (by rw [hex]; exact hb), .inl (by rw [hex]; exact hb), fun x c e => (I'.ok.exf b (by rw [hex]; exact hb)).2 x c e, fun p hp => by
      rw [hpn, List.nil_append] at hp
      exact fun e => hap b hb (e ▸ (of_pinsAt hp).1)⟩
  intro n
  induction n with
  | zero =>
    intro m hm s₀ s ⟨i, H, I, st, nf, w⟩ hsz
    rcases tu s₀.heap i m H w with ⟨stop, fin⟩ | ⟨_, pos, _⟩
    · show Seg _ A1 _ _ _ s₀ _ ((compTurn (GE elt tg iter ifs scope gpos) 0 (.ref it) .none Y.env).onRaise (leaving Y.env)) [] s
      rw [compTurn_gen, Sem.onRaise_eq_wrap]
      refine seg_bind_wrap (wpAny_standAt ?_)
      have td := T.done Y rfl rfl rfl hc i (pinsAt ps s₀.heap) s σ0 H (fun _ _ => False) I (stat I nf) st stop
      rw [hA] at td
      refine seg_bind_wrap (thnS td hsz fun r s6 ⟨hr, I6⟩ z6 => ?_)
      subst hr
      exact seg_end (.ok .next) ⟨rfl, ⟨H, I6, fin⟩, z6⟩
    · omega
  | succ n ihn =>
    intro m
    induction m using Nat.strongRecOn with
    | ind m ihm =>
      intro hm s₀ s ⟨i, H, I, st, nf, w⟩ hsz
      show Seg _ A1 _ _ _ s₀ _ ((compTurn (GE elt tg iter ifs scope gpos) 0 (.ref it) .none Y.env).onRaise (leaving Y.env)) [] s
      rw [compTurn_gen, Sem.onRaise_eq_wrap]
      refine seg_bind_wrap (wpAny_standAt ?_)
      rcases tu s₀.heap i m H w with ⟨stop, fin⟩ | ⟨go, pos, Nx, hNx, step⟩
      · have td := T.done Y rfl rfl rfl hc i (pinsAt ps s₀.heap) s σ0 H (fun _ _ => False) I (stat I nf) st stop
        rw [hA] at td
        refine seg_bind_wrap (thnS td hsz fun r s6 ⟨hr, I6⟩ z6 => ?_)
        subst hr
        exact seg_end (.ok .next) ⟨rfl, ⟨H, I6, fin⟩, z6⟩
      · have ti := T.item Y rfl rfl rfl hc i (pinsAt ps s₀.heap) s σ0 H (fun _ _ => False) I (stat I nf) st go
        rw [hA] at ti
        refine seg_bind_wrap (thnS ti hsz fun r s6 ⟨u, hr, h6⟩ z6 => ?_)
        subst hr
        refine seg_bind_wrap (thnS h6 z6 fun _ s7 ⟨x, H7, I7, r7, y7, st7, n7⟩ z7 => ?_)
        have I7' := I7.pinned (stat I7 n7) (T.obj _ _ st7)
        have pg7 := pg.run _ s7 _ H7 x u _ I7' r7 (step x H7 y7)
        rw [hA, hxe] at pg7
        refine seg_bind_wrap (thnS pg7 z7 fun _ s8 ⟨σ8, H8, I8, hw8, q8⟩ z8 => ?_)
        have pt8 := pt.run _ s8 σ8 H8 _ I8 q8
        rw [hA, hxe] at pt8
        refine seg_bind_wrap (thnS pt8 z8 fun b s9 ⟨H9, I9, q9⟩ z9 => ?_)
        -- the turn's end
        have fin : ∀ {s' : Shared} {H' : Hp}, Inv Y (pinsAt ps s₀.heap ++ pinsAt fp s7.heap) σ8 H' s' → Inv Y (pinsAt ps s₀.heap) σ0 H' s' ∧ tn (i + 1) s'.heap ∧ ∀ b ∈ fp, H' b = none := fun {s' H'} I' => by
          have pin' : ∀ b ∈ fp, ∀ o, s7.heap.get? b = some o → s'.heap.get? b = some o ∧ H' b = none := fun b hb o e =>
            let z := I'.pin (b, o) (List.mem_append_right _ (List.mem_append_right _ (mem_pinsAt hb e)))
            ⟨z.1, z.2.1⟩
          have hl : σ0.length = σ8.length := by rw [← hw8, wipe_length]
          refine ⟨(I'.unpinned (pins := pinsAt ps s₀.heap)).weak hl fun j v e => ?_, T.keep _ _ _ st7 fun b hb o e => (pin' b hb o e).1, fun b hb => ?_⟩
          · rw [← hw8] at e
            exact (wipe_some e).1
          · obtain ⟨o, e, _⟩ := T.obj _ _ st7 b hb
            exact (pin' b hb o e).2
        cases b with
        | false =>
          simp only [Bool.false_eq_true, if_false] at q9 ⊢
          obtain ⟨a1, a2, a3⟩ := fin I9
          obtain ⟨m', hm', w'⟩ := hNx _ _ q9
          exact seg_again rfl (ihm m' hm' (by omega) s₀ s9 ⟨i + 1, H9, a1, a2, a3, w'⟩ z9)
        | true =>
          simp only [if_true] at q9 ⊢
          have hy : ∀ v, yieldOut Y.env v = yieldValue v := fun v => by simp only [yieldOut, hco, Bool.false_eq_true, if_false]
          simp only [hy]
          rw [Sem.bind_eq_wrap', Sem.bind_eq_wrap', Sem.wrap_wrap, Sem.wrap_wrap]
          have pe9 := pe.run _ s9 σ8 H9 _ I9 q9
          rw [hA, hxe] at pe9
          refine seg_wrap (thnS pe9 z9 fun z s10 ⟨yv, H10, I10, r10, yc⟩ z10 => ?_)
          obtain ⟨a1, a2, a3⟩ := fin I10
          refine seg_at (seg_yield rfl rfl rfl ⟨z10, ⟨yv, H10, i + 1, Nx, r10, a1, a2, a3, fun h' H' nx => ?_, yc⟩, fun s'' z'' ⟨m', hm', core⟩ => ?_⟩)
          · obtain ⟨m', hm', w'⟩ := hNx h' H' nx
            exact ⟨m', by omega, w'⟩
          · exact seg_again rfl (ihn m' (by omega) s'' s'' core z'')
end
end Act
namespace Act
open PySem PySem.Spec PyProof.Rows L2
open GxR (TabB TabG Tabbed inv_tab sh_eta)
theorem wipe_in {σ : L2.St} {i : Nat} : ∀ {vs : List Nat}, i ∈ vs → (wipe σ vs)[i]? = if i < σ.length then some none else none
  | v :: vs, h => by
    show ((wipe σ vs).set v none)[i]? = _
    rw [List.getElem?_set, wipe_length]
    by_cases e : v = i
    · subst e; simp
    · rw [if_neg e]
      exact wipe_in ((List.mem_cons.mp h).resolve_left fun z => e z.symm)
theorem wipe_idem (σ : L2.St) (vs : List Nat) : wipe (wipe σ vs) vs = wipe σ vs := by
  refine List.ext_getElem? fun i => ?_
  by_cases h : i ∈ vs
  · rw [wipe_in h, wipe_in h, wipe_length]
  · rw [wipe_out h]
theorem invSetG {X : Cx} {pins : List (Addr × Obj)} {σ : L2.St} {H : Hp} {s : Shared} {g : Nat} {x : GenState} (I : Inv X pins σ H s) (hx : x.bare = true) : Inv X pins σ H (s.setGen g x) :=
  ⟨I.ok, I.os, allBare_setGen I.bare hx, I.base, I.loc, I.cell, I.free, I.freeC, I.pin, I.hok, I.len⟩
section
variable {X : Cx} {pins : List (Addr × Obj)} {σ : L2.St} {H : Hp} {s : Shared}
/-- the generator's context at its start; no names of its own are cells -/
theorem gen_start {scope : Scope} {own : List (Str × Nat)} {fp : List Addr} {cenv : Env} {A' : Around} {s' : Shared} {m : Str → Option Value} (I : Inv X pins σ H s) (ok : BlkOk X.N X.env.scope scope own) (hN : X.N.Nodup) (hcell : ∀ y ∈ scope.names, y.2 ≠ .cell) (hfp : ∀ b ∈ fp, FpOk X pins H b ∧ b < s.heap.objs.size)
    (cs : cenv.scope = scope) (cg : cenv.globals = mainGlobals) (cb : cenv.builtins = builtinsNs) (hL : cenv.locals = s.heap.objs.size) (cf : cenv.frame = some cenv.locals) (hcl : cenv.cells = cloFrom X.env.cells scope.names [])
    (hA : A'.handled = none) (hAf : A'.frames = some (cenv :: X.stack)) (kp : ∀ b o, s.heap.get? b = some o → s'.heap.get? b = some o) (hn : s'.heap.Ns s.heap.objs.size m) (hos : s'.os = s.os) (hb : AllBare s'.gens) :
    Inv (genCx X A' s H cenv fp) [] (wipe σ (own.map (·.2))) H s' := by
  have hfree : ∀ y ∈ scope.names, y.2 = .free → ∃ c, X.env.cells.lookup y.1 = some c := fun y hy e => by
    rcases ok.free y hy e with k | k
    · exact I.ok.has _ (.inl k)
    · exact I.ok.has _ (.inr k)
  have mem : ∀ {y c}, cenv.cells.lookup y = some c → X.env.cells.lookup y = some c ∧ c < s.heap.objs.size := fun {y c} e => by
    rw [hcl] at e
    rcases cloFrom_mem (PySem.mem_of_lookup e) with hm | ⟨h1, rfl⟩
    · cases hm
    · obtain ⟨c, hc⟩ := hfree _ h1 rfl
      rw [hc]
      obtain ⟨w, z⟩ := I.cell _ _ hc
      exact ⟨rfl, z.lt⟩
  have look : ∀ {y}, scope.names.lookup y = some .free → ∃ c, cenv.cells.lookup y = some c ∧ X.env.cells.lookup y = some c := fun {y} hl => by
    have hy : (y, NameKind.free) ∈ scope.names := PySem.mem_of_lookup hl
    obtain ⟨c', e'⟩ := mem_lookup (cloFrom_has (cells := X.env.cells) (acc := []) hy)
    rw [← hcl] at e'
    exact ⟨c', e', (mem e').1⟩
  have okB : (genCx X A' s H cenv fp).Ok := by
    refine ⟨I.ok.mod, by show cenv.scope.kind = _; rw [cs]; exact ok.kind, cg, cb, by show s.heap.objs.size ≤ cenv.locals; rw [hL]; exact Nat.le_refl _,
      fun y z c e1 e2 => I.ok.inj y z c (mem e1).1 (mem e2).1, fun y hy => ?_, fun y c z e => (by cases z), fun _ => hA, hAf, .inr ⟨rfl, cf⟩, fun b hb => ⟨?_, fun y c e z => ?_⟩, I.bs, Nat.le_trans I.ok.bsz I.sz, fun b o e hb => ?_, fun b hb z => ?_, I.stack, I.stkFree⟩
    · show ∃ c, cenv.cells.lookup y = some c
      rcases hy with hy | hy
      · have hy : cenv.scope.names.lookup y = some .cell := hy
        rw [cs] at hy
        exact absurd rfl (hcell _ (PySem.mem_of_lookup hy))
      · have hy : cenv.scope.names.lookup y = some .free := hy
        rw [cs] at hy
        obtain ⟨c, h1, _⟩ := look hy
        exact ⟨c, h1⟩
    · show b ≠ cenv.locals
      rw [hL]; exact Nat.ne_of_lt (hfp b hb).2
    · exact (hfp b hb).1.2.2.2.2.1 y c (mem e).1 z
    · rcases (hfp b hb).1.2.2.2.1 with z | z
      · exact I.ok.noex b o e z
      · exact absurd (Nat.lt_of_lt_of_le (Heap.lt_size e) (Nat.le_trans I.ok.bsz z)) (Nat.lt_irrefl _)
    · rcases List.mem_cons.mp (I.stkSub b z) with z | z
      · exact (hfp b hb).1.2.1 z
      · exact (hfp b hb).1.2.2.1 z
  refine ⟨okB, hos, hb, Un.kept kp, ⟨m, by show Heap.Ns _ cenv.locals _; rw [hL]; exact hn, fun i y av e1 e2 e3 => ?_⟩, fun y c e => ?_, ?_, fun y c e => ?_, fun p hp => absurd (show p ∈ ([] : List (Addr × Obj)) ++ [] from hp) (by simp), I.hok.kept kp, by rw [wipe_length]; exact I.len⟩
  · obtain ⟨e2, hne⟩ := wipe_some e2
    have hfr : scope.names.lookup y = some .free := by
      have e3 : Vis cenv.scope y := e3
      unfold Vis at e3
      rw [cs] at e3
      have no : ∀ k', scope.names.lookup y = some k' → ¬ (k' = .local ∨ k' = .cell) := fun k' e hh => by
        rcases ok.own _ (PySem.mem_of_lookup e) hh with e' | e'
        · obtain ⟨p, hp, hpy⟩ := List.mem_map.mp e'
          have e3 := ok.ix p hp
          have : p.1 = y := hpy
          rw [this] at e3
          exact hne (List.mem_map.mpr ⟨p, hp, nodup_ix hN e3 e1⟩)
        · exact e' (List.mem_of_getElem? e1)
      rcases e3 with e3 | e3 | e3
      · exact absurd (.inl rfl) (no _ e3)
      · exact absurd (.inr rfl) (no _ e3)
      · exact e3
    obtain ⟨m', hn', hl⟩ := I.loc
    have hvis : Vis X.env.scope y := (ok.free _ (PySem.mem_of_lookup hfr) rfl).elim (fun k => .inr (.inl k)) (fun k => .inr (.inr k))
    obtain ⟨w, r, q⟩ := hl i y av e1 e2 hvis
    refine ⟨w, r, .inr ⟨.inr (by show cenv.scope.names.lookup y = _; rw [cs]; exact hfr), ?_⟩⟩
    obtain ⟨c, h1, h2⟩ := look hfr
    rcases q with ⟨k, _⟩ | ⟨_, c', e', z⟩
    · have k : X.env.scope.names.lookup y = some .local := k
      rcases ok.free _ (PySem.mem_of_lookup hfr) rfl with k' | k' <;> rw [show X.env.scope.names.lookup y = _ from k'] at k <;> cases k
    · rw [h2] at e'; cases e'
      exact ⟨c, h1, z.keeps kp⟩
  · obtain ⟨w, z⟩ := I.cell y c (mem e).1
    exact ⟨w, z.keeps kp⟩
  · show H cenv.locals = none
    rw [hL]; exact I.hok.fresh (Nat.le_refl _)
  · exact I.freeC y c (mem e).1
end
section
variable {Y : Cx} {ps : List Addr} {tg elt iter : Expr} {ifs : List Expr} {scope : Scope} {gpos : Pos} {it : Addr} {fp : List Addr} {tn : Nat → Heap → Prop} {J : It} {gT : TG} {tt : TT} {te : TE} {vs : List Nat} {σ0 : L2.St} {Fin : Heap → Hp → Prop} {Yc : Heap → V → Hp → (Heap → Hp → Prop) → Prop} {W : Heap → Nat → Nat → Hp → Prop} {A1 : Around} {n0 : Nat}
/-- a generator that has not begun -/
theorem gen_fresh (T : Turn Y.prog Y.w Y.K tg J fp it tn) (pg : PG Y tg gT) (pt : PTs Y ifs tt) (pe : PE Y elt te) (tu : Turns J gT tt te vs σ0 Fin Yc W) (hc : Y.calm = true) (hpn : Y.pn = []) (hex : Y.ex = fp) (hA : Y.A = A1.over (.compLoop (GE elt tg iter ifs scope gpos) 0 (.ref it) .none Y.env) []) (hco : Y.env.scope.isCoroutine = false) (hap : ∀ b ∈ fp, b ∉ ps) (hxe : Y.xe = fun _ _ => False) (hσ : wipe σ0 vs = σ0)
    (n m : Nat) (hm : m ≤ n) (s : Shared) (core : GCore Y ps fp tn σ0 W m s s) (hsz : n0 ≤ s.gens.size) :
    (GenState.fresh (.compStart (GE elt tg iter ifs scope gpos) 0 (.ref it) .none Y.env)).Goes (model Y.prog Y.w) A1 (GEndX Y ps σ0 Fin n0) (GProt Y ps fp tn σ0 Yc W n0) n (.send .none) s := by
  have loop := gen_seg T pg pt pe tu hc hpn hex hA hco hap hxe hσ n m hm s s core hsz
  obtain ⟨i, H, I, st, nf, w⟩ := core
  refine ⟨rfl, ?_⟩
  show Seg _ A1 _ _ _ s _ ((compStart (GE elt tg iter ifs scope gpos) 0 (.ref it) .none Y.env).onRaise (leaving Y.env)) [] s
  unfold compStart
  rw [Sem.onRaise_eq_wrap]
  show Seg _ A1 _ _ _ s _ ((ask >>= _).wrap _ _ _ _) [] s
  refine seg_bind_wrap (wpAny_askSetting ?_)
  split
  · exact seg_again rfl loop
  · first
      | exact seg_bind_wrap (wpAny_rule (seg_bind_wrap (wpAny_standAt (seg_bind_wrap (T.self _ i s _ _ st (seg_again rfl loop))))))
      | (refine seg_bind_wrap (wpAny_rule ?_); show Seg _ A1 _ _ _ s _ ((standAt iter.pos >>= _).wrap _ _ _ _) [] s; exact seg_bind_wrap (wpAny_standAt (seg_bind_wrap (T.self _ i s _ _ st (seg_again rfl loop)))))
/-- it stands idle: n turns at most -/
def GIdle (Y : Cx) (ps : List Addr) (fp : List Addr) (tn : Nat → Heap → Prop) (σ0 : L2.St) (Fin : Heap → Hp → Prop) (Yc : Heap → V → Hp → (Heap → Hp → Prop) → Prop) (W : Heap → Nat → Nat → Hp → Prop) (A1 : Around) (g n : Nat) (s : Shared) : Prop :=
  ∃ gs, s.gens[g]? = some gs ∧ ∀ s'', g + 1 ≤ s''.gens.size → (∃ m', m' ≤ n ∧ GCore Y ps fp tn σ0 W m' s'' s'') → gs.Goes (model Y.prog Y.w) A1 (GEndX Y ps σ0 Fin (g + 1)) (GProt Y ps fp tn σ0 Yc W (g + 1)) n (.send .none) s''
theorem gen_pull {A : Around} {a : Addr} {g n : Nat} {s : Shared} {Q : Option Value → Shared → Prop} {E : Value → Shared → Prop} (hh : A.handled = none) (hroom : A.depth < recursionLimit) (gty : s.heap.IsGen a g) (idle : GIdle Y ps fp tn σ0 Fin Yc W A.in1 g n s) (core : ∃ m', m' ≤ n ∧ GCore Y ps fp tn σ0 W m' s s)
    (hY : ∀ v s' y H i Nx, RelV y v → Inv Y (pinsAt ps s.heap) σ0 H s' → tn i s'.heap → (∀ b ∈ fp, H b = none) → (∀ h' H', Nx h' H' → ∃ m', m' ≤ n - 1 ∧ W h' i m' H') → Yc s.heap y H Nx →
      (∀ s2, s2.gens = s'.gens → (∃ m', m' ≤ n - 1 ∧ GCore Y ps fp tn σ0 W m' s2 s2) → ∃ n', n = n' + 1 ∧ GIdle Y ps fp tn σ0 Fin Yc W A.in1 g n' s2) → Q (some v) s')
    (hP : ∀ s' H, Inv Y (pinsAt ps s.heap) σ0 H s' → Fin s.heap H → Q none s') : wpAny (model Y.prog Y.w) A (pyNext (.ref a)) Q E s := by
  obtain ⟨gs, hgs, hgo⟩ := idle
  obtain ⟨m0, hm0, i0, H0, I0, st0, nf0, w0⟩ := core
  have hgl : g + 1 ≤ s.gens.size := (Array.getElem?_eq_some_iff.mp hgs).1
  refine wpAny_pyNext_genexpQ (P := fun _ s₀ s₁ => GFin Y ps σ0 Fin s₀ s₁ ∧ g + 1 ≤ s₁.gens.size) hh I0.nolimit hroom gty hgs (hgo (s.setGen g .running) (by rw [GenW.setGen_size]; exact hgl) ⟨m0, hm0, i0, H0, invSetG I0 rfl, st0, nf0, w0⟩) (fun v s₁ gs' hb hv => ?_) (fun s₁ hp h' hk => ?_)
  · obtain ⟨sz, ⟨y, H, i, Nx, rv, I, st, nf, hnx, yc⟩, hk⟩ := hv
    refine hY v (s₁.setGen g gs') y H i Nx rv (invSetG I hb) st nf hnx yc fun s2 e2 core2 => ?_
    have hsz2 : g + 1 ≤ s2.gens.size := by rw [e2, GenW.setGen_size]; exact sz
    cases n with
    | zero => exact False.elim (hk s2 hsz2 core2)
    | succ n' =>
      refine ⟨n', rfl, gs', ?_, fun s'' z'' core'' => hk s'' z'' core''⟩
      rw [e2]
      exact setGen_at sz
  · obtain ⟨⟨H, I, fin⟩, _⟩ := hp
    refine hP _ H ?_ fin
    have I2 : Inv Y (pinsAt ps s.heap) σ0 H { s₁.setGen g .finished with heap := h' } := (invSetG I rfl).kept (t' := s₁.toks) hk
    exact I2
/-- all(..) over it -/
def ycAll (Qb : Bool → Hp → Prop) : V → Hp → (Hp → Prop) → Prop := fun y H Nx => ∃ b, y = .bl b ∧ if b = true then Nx H else Qb false H
def ycAny (Qb : Bool → Hp → Prop) : V → Hp → (Hp → Prop) → Prop := fun y H Nx => ∃ b, y = .bl b ∧ if b = true then Qb true H else Nx H
theorem gen_pinned {a : Addr} {g : Nat} {s s' : Shared} {H : Hp} (gty : s.heap.IsGen a g) (I : Inv Y (pinsAt [a] s.heap) σ0 H s') : s'.heap.IsGen a g ∧ pinsAt [a] s'.heap = pinsAt [a] s.heap := by
  obtain ⟨o, nm, qn, ho, r⟩ := id gty
  have z := (I.pin (a, o) (List.mem_append_right _ (mem_pinsAt (by simp) ho))).1
  have z : s'.heap.get? a = some o := z
  refine ⟨⟨o, nm, qn, z, r⟩, ?_⟩
  unfold pinsAt
  simp [z, ho]
theorem all_loopG {A : Around} {a : Addr} {g : Nat} {Qb : Bool → Hp → Prop} {R : Result → Shared → Prop} (hh : A.handled = none) (hroom : A.depth < recursionLimit)
    (hR : ∀ b H s' pn, Inv Y pn σ0 H s' → Qb b H → R (.ok (.ret (.bool b))) s') : ∀ n s, s.heap.IsGen a g → GIdle Y [a] fp tn σ0 (fun _ => Qb true) (fun _ y H Nx => ycAll Qb y H fun H' => ∀ h, Nx h H') W A.in1.in1 g n s → (∃ m', m' ≤ n ∧ GCore Y [a] fp tn σ0 W m' s s) →
      codeAny (model Y.prog Y.w) A (.builtin "all.loop" ⟨[.ref a], []⟩) R s := by
  intro n
  induction n with
  | zero =>
    intro s gty idle core
    refine codeAny_builtin F.entry_all_loop ?_
    rw [Around.under_plainId F.plain_all_loop _]
    show wpAny _ A.in1 (pyNext (.ref a) >>= _) _ _ s
    refine wpAny_bind (gen_pull (A := A.in1) hh hroom gty idle core (fun v s' y H i Nx rv I st nf hnx ⟨b, e, yc⟩ nx => ?_) fun s' H I fin => wpAny_bind (wpAny_rule (wpAny_pure (hR _ H s' _ I fin))))
    subst e
    obtain rfl : v = .bool b := rv
    refine wpAny_bind (wpAny_holding (wpAny_truthy_bool ?_))
    refine wpAny_bind (wpAny_letGo ?_)
    cases b with
    | true =>
      simp only [if_true] at yc ⊢
      obtain ⟨m', hm', w'⟩ := hnx s'.heap H (yc s'.heap)
      obtain ⟨n', e, _⟩ := nx s' rfl ⟨m', hm', i, H, by rw [(gen_pinned gty I).2]; exact I, st, nf, w'⟩
      exact absurd e (by simp)
    | false =>
      simp only [Bool.false_eq_true, if_false] at yc ⊢
      exact wpAny_bind (wpAny_rule (wpAny_pure (hR _ H s' _ I yc)))
  | succ n ih =>
    intro s gty idle core
    refine codeAny_builtin F.entry_all_loop ?_
    rw [Around.under_plainId F.plain_all_loop _]
    show wpAny _ A.in1 (pyNext (.ref a) >>= _) _ _ s
    refine wpAny_bind (gen_pull (A := A.in1) hh hroom gty idle core (fun v s' y H i Nx rv I st nf hnx ⟨b, e, yc⟩ nx => ?_) fun s' H I fin => wpAny_bind (wpAny_rule (wpAny_pure (hR _ H s' _ I fin))))
    subst e
    obtain rfl : v = .bool b := rv
    refine wpAny_bind (wpAny_holding (wpAny_truthy_bool ?_))
    refine wpAny_bind (wpAny_letGo ?_)
    cases b with
    | true =>
      simp only [if_true] at yc ⊢
      obtain ⟨m', hm', w'⟩ := hnx s'.heap H (yc s'.heap)
      have core' : GCore Y [a] fp tn σ0 W m' s' s' := ⟨i, H, by rw [(gen_pinned gty I).2]; exact I, st, nf, w'⟩
      obtain ⟨n', e, idle'⟩ := nx s' rfl ⟨m', hm', core'⟩
      cases e
      exact wpAny_pure ⟨plainId_quiet F.plain_all_loop _, ih s' (gen_pinned gty I).1 idle' ⟨m', hm', core'⟩⟩
    | false =>
      simp only [Bool.false_eq_true, if_false] at yc ⊢
      exact wpAny_bind (wpAny_rule (wpAny_pure (hR _ H s' _ I yc)))
end
end Act
namespace Act
open PySem PySem.Spec PyProof.Rows L2
open GxR (TabB TabG Tabbed inv_tab sh_eta)
section
variable {X : Cx} {pins : List (Addr × Obj)} {σ : L2.St} {H : Hp} {s : Shared} {elt tg iter : Expr} {ifs : List Expr} {scope : Scope} {gpos : Pos} {own : List (Str × Nat)} {wi : TI} {c P : Addr}
/-- a generator expression is made -/
theorem gen_make {k : Nat} {Q' : Value → Shared → Prop} {R : It → Hp → Prop} (hr : Room k X.A) (hN : X.N.Nodup) (TB : TabB X.base X.mg c P) (hcode : X.env.code = .ref c) (hi : PI X tg iter wi) (ok : BlkOk X.N X.env.scope scope own) (hcell : ∀ y ∈ scope.names, y.2 ≠ .cell) (hco : scope.isCoroutine = false) (h0 : scope.names.lookup (".0" : Str) = some NameKind.local) (hs : ∀ v, genFold iter X.env v = pure v) (I : Inv X pins σ H s)
    (h : wi σ H fun J H1 => TabG H1 P ∧ R J H1)
    (hQ : ∀ (J : It) (H1 H2 : Hp) (it : Addr) (fp : List Addr) (tn : Nat → Heap → Prop) (s4 : Shared) (cl : List (Str × Addr)) (C : Addr) (code : Value) (a : Addr) (g : Nat) (s5 : Shared), R J H1 → Tabbed P H1 H2 → Turn X.prog X.w X.K tg J fp it tn → tn 0 s5.heap → (∀ b ∈ fp, H2 b = none) → a ∉ fp →
      (∀ A' : Around, A'.handled = none → A'.frames = some (genEnv scope cl C code builtinsNs X.env :: X.stack) → Inv (genCx X A' s4 H2 (genEnv scope cl C code builtinsNs X.env) fp) (pinsAt [a] s5.heap) (wipe σ (own.map (·.2))) H2 s5) →
      (∀ (A' : Around) (pn : List (Addr × Obj)) (σ' : L2.St) (H' : Hp) (s' : Shared), Inv (genCx X A' s4 H2 (genEnv scope cl C code builtinsNs X.env) fp) pn σ' H' s' → Inv X pins σ H' s') →
      s5.heap.IsGen a g → s5.gens[g]? = some (.fresh (.compStart (GE elt tg iter ifs scope gpos) 0 (.ref it) .none (genEnv scope cl C code builtinsNs X.env))) → Q' (.ref a) s5) :
    wpAny (model X.prog X.w) X.A (eval (GE elt tg iter ifs scope gpos) X.env) Q' X.xe s := by
  have hfree : ∀ y ∈ scope.names, y.2 = .free → ∃ c, X.env.cells.lookup y.1 = some c := fun y hy e => by
    rcases ok.free y hy e with k | k
    · exact I.ok.has _ (.inl k)
    · exact I.ok.has _ (.inr k)
  refine wpAny_GeneratorExp_make hco (closure_ok hfree) hcell h0 ok.kind (by have := hr.dp; omega) ?_ hs
  refine thn (hi.run pins s σ H _ I h) fun xv s1 hx => thn hx fun itv s2 h2 => ?_
  obtain ⟨it, fp, tn, J, H1, e, I1, T, st, f1, ⟨ps, hP, ht⟩, q1⟩ := h2
  subst e
  have hPs : s2.heap.get? P = some { cls := .none, data := .fields ps } := I1.hok P _ hP
  have cd : PySem.W.CodeHd s2.heap c P := TB.code.keeps I1.bk
  have hsP : cStatics ≠ P := fun e => by
    obtain ⟨_, ⟨o', es, ep, ho', hd, _⟩, _⟩ := I1.nolimit
    rw [e, hPs] at ho'
    cases ho'
    cases hd
  have cont : ∀ (code : Value) (h3 : Heap) (tk : Nat) (ps' : Array Value), Heap.ExtBut P s2.heap h3 → s2.heap.objs.size ≤ h3.objs.size → h3.get? P = some { cls := .none, data := .fields ps' } → (∃ more, ps' = ps ++ more) → TriplesOk ps'.toList →
      wpAny (model X.prog X.w) X.A (builtinsFor X.env.globals X.env.builtins) (fun bi s₄ =>
        ∀ h', h'.Ns s₄.heap.objs.size (fun y => if y = ".0" then some (.ref it) else none) → Heap.SameBut s₄.heap.objs.size (s₄.heap.push { cls := .type "frame", data := .dict #[] }) h' →
          Q' (.ref h'.objs.size) { s₄ with
            gens := s₄.gens.push (.fresh (.compStart (.GeneratorExp elt [⟨tg, iter, ifs, 0⟩] scope gpos) 0 (.ref it) .none (genEnv scope (cloFrom X.env.cells scope.names []) s₄.heap.objs.size code bi X.env))),
            toks := s₄.toks + 1 + 1 + 1,
            heap := h'.push { cls := .type "generator", data := .fields #[.int s₄.gens.size 0, .str "<genexpr>" (s₄.toks + 1), .str (X.env.qual ++ "<genexpr>") (s₄.toks + 1 + 1)] } }) X.xe { s2 with heap := h3, toks := tk } := by
    intro code h3 tk ps' hx hsz hP3 hmore ht3
    obtain ⟨bm, ob, e1, e2, e3, e4, e5, e6, e7, e8⟩ := TB.bm
    have keep3 : ∀ b u, b ≠ P → s2.heap.get? b = some u → h3.get? b = some u := fun b u hb e => hx b u hb e
    refine wpAny_builtinsFor (m := X.mg) (by rw [I1.ok.glob]; exact (I1.mod.glob.keeps I1.bk).extBut hx TB.gP) e1 e2 (keep3 _ _ e4 (I1.bk _ _ e5)) e6 e7 e8 ?_
    intro h' hn' hs'
    obtain ⟨more, em⟩ := hmore
    have I4 : Inv X pins σ (upd H1 P (.tbl (ps ++ more))) { s2 with heap := h3, toks := tk } :=
      inv_tab (more := more) (h' := h3) (g' := s2.gens) (d' := s2.drawn) (t' := tk) I1 hP keep3 (by rw [← em]; exact hP3) I1.bare
    have tab : Tabbed P H1 (upd H1 P (.tbl (ps ++ more))) := ⟨⟨ps ++ more, upd_same, em ▸ ht3⟩, fun b hb => upd_ne hb⟩
    generalize hH2 : upd H1 P (.tbl (ps ++ more)) = H2 at I4 tab
    generalize hs4 : ({ s2 with heap := h3, toks := tk } : Shared) = s4 at I4 hn' hs' ⊢
    have h4 : s4.heap = h3 := by rw [← hs4]
    have hsz5 : h'.objs.size = s4.heap.objs.size + 1 := by rw [hs'.1, Heap.size_push]
    have keep' : ∀ b o, s4.heap.get? b = some o → h'.get? b = some o := fun b o e => hs'.extBut b o (Nat.ne_of_lt (Heap.lt_size e)) (Heap.get?_push_of_some _ e)
    generalize ho : ({ cls := .type "generator", data := .fields #[.int s4.gens.size 0, .str "<genexpr>" (s4.toks + 1), .str (X.env.qual ++ "<genexpr>") (s4.toks + 1 + 1)] } : Obj) = gob
    have keep5 : ∀ b o, s4.heap.get? b = some o → (h'.push gob).get? b = some o := fun b o e => Heap.get?_push_of_some _ (keep' b o e)
    have nP : ∀ b ∈ fp, b ≠ P := fun b hb z => by
      have := (f1 b hb).1
      rw [z, hP] at this; cases this
    have lt2 : ∀ b ∈ fp, b < s2.heap.objs.size := fun b hb => by
      obtain ⟨o, e, _⟩ := T.obj _ _ st b hb
      exact Heap.lt_size e
    have f4 : ∀ b ∈ fp, FpOk X pins H2 b ∧ b < s4.heap.objs.size := fun b hb => by
      refine ⟨⟨?_, (f1 b hb).2⟩, by rw [h4]; exact Nat.lt_of_lt_of_le (lt2 b hb) hsz⟩
      rw [← hH2, upd_ne (nP b hb)]
      exact (f1 b hb).1
    have st4 : tn 0 s4.heap := T.keep _ _ _ st fun b hb o e => by rw [h4]; exact keep3 b o (nP b hb) e
    have st5 : tn 0 (h'.push gob) := T.keep _ _ _ st4 fun b hb o e => keep5 b o e
    have hafp : h'.objs.size ∉ fp := fun hb => by
      have q : (h'.objs.size : Nat) < s4.heap.objs.size := (f4 _ hb).2
      omega
    have hga : (h'.push gob).get? h'.objs.size = some gob := Heap.get?_push_size _ (by rw [← ho]; rfl)
    refine hQ J H1 H2 it fp tn s4 (cloFrom X.env.cells scope.names []) s4.heap.objs.size code h'.objs.size s4.gens.size _ q1 tab T st5 (fun b hb => (f4 b hb).1.1) hafp (fun A' hA hAf => ?_) (fun A' pn σ' H' s' I6 => ?_) ⟨gob, _, _, hga, by rw [← ho]; exact ⟨rfl, rfl, rfl⟩⟩ (Array.getElem?_push_size ..)
    · have I5 := gen_start (s' := { s4 with gens := s4.gens.push (.fresh (.compStart (.GeneratorExp elt [⟨tg, iter, ifs, 0⟩] scope gpos) 0 (.ref it) .none (genEnv scope (cloFrom X.env.cells scope.names []) s4.heap.objs.size code builtinsNs X.env))), toks := s4.toks + 1 + 1 + 1, heap := h'.push gob }) (A' := A') (cenv := genEnv scope (cloFrom X.env.cells scope.names []) s4.heap.objs.size code builtinsNs X.env) I4 ok hN hcell f4 rfl I4.ok.glob rfl rfl rfl rfl hA hAf keep5 (hn'.push _) rfl (I4.bare.push rfl)
      refine I5.pins_of fun p hp => ?_
      obtain ⟨hb, e⟩ := of_pinsAt hp
      have hp1 : p.1 = h'.objs.size := by simpa using hb
      have e : (h'.push gob).get? p.1 = some p.2 := e
      rw [hp1] at e ⊢
      have hge : s4.heap.objs.size ≤ h'.objs.size := by omega
      refine ⟨e, I4.hok.fresh hge, by show h'.objs.size ≠ s4.heap.objs.size; omega, fun z => ?_, fun v => ?_⟩
      · rcases List.mem_cons.mp (I4.stkSub _ z) with z | z
        · have q : X.env.locals < s4.heap.objs.size := I4.lt
          rw [← z] at q
          exact absurd (Nat.lt_of_lt_of_le q hge) (Nat.lt_irrefl _)
        · exact I4.nofs hge z
      · rw [hga] at e
        cases e
        rw [← ho]
        simp
    · exact I4.call' (ch := fp) I6.os I6.base I6.hok I6.bare fun b hb => ⟨(f4 b hb).1.2.2.2.1, (f4 b hb).1.2.1, (f4 b hb).1.2.2.2.2.1, (f4 b hb).1.2.2.2.2.2⟩
  refine ⟨I1.nolimit, ?_⟩
  cases hf : codeAmong gpos ps.toList with
  | none =>
    refine wpAny_genexprCodeX hcode (cd.code hPs ht) (cd.tab hPs) hf fun c' h' tk hx hge hlt hco' _ htab' _ => ?_
    obtain ⟨o1, vs, f1, tf, fl, tg, inF, tx, tt, op, _, _, _, _, _, _, _, _, _, htr, _⟩ := hco'
    exact cont _ h' tk _ hx (Nat.le_trans hge (Nat.le_of_lt hlt)) htab'.2 ⟨_, rfl⟩ htr
  | some cv =>
    refine wpAny_genexprCode_hit hcode (cd.code hPs ht) hf ?_
    exact cont cv s2.heap s2.toks ps (Heap.ExtBut.refl _ _) (Nat.le_refl _) hPs ⟨#[], by simp⟩ ht
/-- all(elt for target in iter if ..) -/
def tAllG (P : Addr) (wi : TI) (g : TG) (tt : TT) (te : TE) (vs : List Nat) : TE := fun σ H Q => wi σ H fun J H1 => TabG H1 P ∧ ∀ H2, Tabbed P H1 H2 → ∃ W : Nat → Nat → Hp → Prop, (∃ m, W 0 m H2) ∧
  Turns J g tt te vs (wipe σ vs) (fun _ => Q (.bl true)) (fun _ y H Nx => ycAll (fun b H => Q (.bl b) H) y H fun H' => ∀ h, Nx h H') fun _ => W
theorem pe_allG {p pos : Pos} {g : TG} {tt : TT} {te : TE} {k : Nat} (hr : Room (k + 1) X.A) (hc : X.calm = true) (hN : X.N.Nodup) (hm : X.mg "all" = none) (TB : TabB X.base X.mg c P) (hcode : X.env.code = .ref c) (hi : PI X tg iter wi) (ok : BlkOk X.N X.env.scope scope own) (hcell : ∀ y ∈ scope.names, y.2 ≠ .cell) (hco : scope.isCoroutine = false) (h0 : scope.names.lookup (".0" : Str) = some NameKind.local)
    (hgn : ∀ (A' : Around) (s : Shared) (H : Hp) (cl : List (Str × Addr)) (C : Addr) (code : Value) (fp : List Addr), Room k A' → PG (genCx X A' s H (genEnv scope cl C code builtinsNs X.env) fp) tg g)
    (ht : ∀ (A' : Around) (s : Shared) (H : Hp) (cl : List (Str × Addr)) (C : Addr) (code : Value) (fp : List Addr), Room k A' → PTs (genCx X A' s H (genEnv scope cl C code builtinsNs X.env) fp) ifs tt)
    (hel : ∀ (A' : Around) (s : Shared) (H : Hp) (cl : List (Str × Addr)) (C : Addr) (code : Value) (fp : List Addr), Room k A' → PE (genCx X A' s H (genEnv scope cl C code builtinsNs X.env) fp) elt te)
    (hg : Gl X "all" := by rfl) (hb : bootBuiltins "all" = some (.builtin "all") := by decide +kernel)
    (hs : ∀ v, genFold iter X.env v = pure v := by intro _; rfl)
    (he : starEach [GE elt tg iter ifs scope gpos] X.env = (false, eval (GE elt tg iter ifs scope gpos) X.env) :: starEach [] X.env := by rfl) :
    PE X (.Call (.Name "all" p) [GE elt tg iter ifs scope gpos] [] pos) (tAllG P wi g tt te (own.map (·.2))) := by
  refine ⟨fun pins s σ H Q I h => wpAny_Call_Name_kw (ld_blt I hg hm hb (PyProof.Rows.callWith_builtin1 ?_ he (by rfl)))⟩
  rw [he]
  refine Calls.spliced_cons (gen_make hr hN TB hcode hi ok hcell hco h0 hs I h fun J H1 H2 it fp tn s4 cl C code a g s5 hR tab T st nf hafp start back gty hgs => Calls.spliced_nil ?_)
  obtain ⟨W, ⟨m0, w0⟩, tu⟩ := hR H2 tab
  refine call_function_tree F.kind_all F.plain_all F.entry_all (F.args_all1 _) ?_
  unfold Builtin.«all»
  refine wpAny_bind (m := oneArg "all" _) (wpAny_pure ?_)
  refine wpAny_bind (wpAny_pyIter_gen gty ?_)
  generalize hce : genEnv scope cl C code builtinsNs X.env = ce at *
  have hsc : ce.scope = scope := by subst hce; rfl
  have hrA : Room k (X.A.in1.in1.over (.compLoop (GE elt tg iter ifs scope gpos) 0 (.ref it) .none ce) []) := by
    refine ⟨hr.hd, ?_, ?_⟩
    · have := hr.dp
      show X.A.depth + 1 + 3 * k + 5 < _
      omega
    · have := hr.un
      have hu : (X.A.in1.in1.over (.compLoop (GE elt tg iter ifs scope gpos) 0 (.ref it) .none ce) []).units ≤ X.A.in1.in1.units + 3 := Nat.le_of_eq rfl
      have hu2 : X.A.in1.in1.units ≤ X.A.units + 2 := Nat.le_of_eq rfl
      omega
  have Y0 := start (X.A.in1.in1.over (.compLoop (GE elt tg iter ifs scope gpos) 0 (.ref it) .none ce) []) hr.hd (by
    show pushEnvs (Code.envs (.compLoop (GE elt tg iter ifs scope gpos) 0 (.ref it) .none ce)) (pushEnvs (envsOf ([] : List (Code × Pos))) X.A.frames) = _
    rw [I.ok.frames]
    rfl)
  have pg := hgn (X.A.in1.in1.over (.compLoop (GE elt tg iter ifs scope gpos) 0 (.ref it) .none ce) []) s4 H2 cl C code fp hrA
  have pt := ht (X.A.in1.in1.over (.compLoop (GE elt tg iter ifs scope gpos) 0 (.ref it) .none ce) []) s4 H2 cl C code fp hrA
  have pe := hel (X.A.in1.in1.over (.compLoop (GE elt tg iter ifs scope gpos) 0 (.ref it) .none ce) []) s4 H2 cl C code fp hrA
  rw [hce] at pg pt pe
  have core : GCore (genCx X (X.A.in1.in1.over (.compLoop (GE elt tg iter ifs scope gpos) 0 (.ref it) .none ce) []) s4 H2 ce fp) [a] fp tn (wipe σ (own.map (·.2))) (fun _ => W) m0 s5 s5 := ⟨0, H2, Y0, st, nf, w0⟩
  refine wpAny_pure ⟨plainId_quiet F.plain_all_loop _, all_loopG (Y := genCx X (X.A.in1.in1.over (.compLoop (GE elt tg iter ifs scope gpos) 0 (.ref it) .none ce) []) s4 H2 ce fp) (W := fun _ => W) (Qb := fun b H => Q (.bl b) H) hr.hd (by have := hr.dp; omega) (fun b H' s' pn I6 q => ⟨.bl b, H', back _ _ _ _ _ I6, rfl, q⟩) m0 s5 gty ⟨_, hgs, fun s'' z'' ⟨m', hm', core''⟩ => ?_⟩ ⟨m0, Nat.le_refl _, core⟩⟩
  exact gen_fresh (Y := genCx X (X.A.in1.in1.over (.compLoop (GE elt tg iter ifs scope gpos) 0 (.ref it) .none ce) []) s4 H2 ce fp) (ps := [a]) T pg pt pe tu hc rfl rfl rfl (by show ce.scope.isCoroutine = _; rw [hsc]; exact hco) (fun b hb hba => hafp (by simpa using (by simpa using hba : b = a) ▸ hb)) rfl (wipe_idem _ _) m0 m' hm' s'' core'' z''
end
end Act
namespace Act
open PySem PySem.Spec PyProof.Rows L2
open GxR (TabB TabG Tabbed inv_tab sh_eta)
section
variable {Y : Cx} {ps : List Addr} {tg elt iter : Expr} {ifs : List Expr} {scope : Scope} {gpos : Pos} {it : Addr} {fp : List Addr} {tn : Nat → Heap → Prop} {J : It} {gT : TG} {tt : TT} {te : TE} {vs : List Nat} {σ0 : L2.St} {Fin : Heap → Hp → Prop} {Yc : Heap → V → Hp → (Heap → Hp → Prop) → Prop} {W : Heap → Nat → Nat → Hp → Prop} {A1 : Around} {n0 : Nat}
theorem any_loopG {A : Around} {a : Addr} {g : Nat} {Qb : Bool → Hp → Prop} {R : Result → Shared → Prop} (hh : A.handled = none) (hroom : A.depth < recursionLimit)
    (hR : ∀ b H s' pn, Inv Y pn σ0 H s' → Qb b H → R (.ok (.ret (.bool b))) s') : ∀ n s, s.heap.IsGen a g → GIdle Y [a] fp tn σ0 (fun _ => Qb false) (fun _ y H Nx => ycAny Qb y H fun H' => ∀ h, Nx h H') W A.in1.in1 g n s → (∃ m', m' ≤ n ∧ GCore Y [a] fp tn σ0 W m' s s) →
      codeAny (model Y.prog Y.w) A (.builtin "any.loop" ⟨[.ref a], []⟩) R s := by
  intro n
  induction n with
  | zero =>
    intro s gty idle core
    refine codeAny_builtin F.entry_any_loop ?_
    rw [Around.under_plainId F.plain_any_loop _]
    show wpAny _ A.in1 (pyNext (.ref a) >>= _) _ _ s
    refine wpAny_bind (gen_pull (A := A.in1) hh hroom gty idle core (fun v s' y H i Nx rv I st nf hnx ⟨b, e, yc⟩ nx => ?_) fun s' H I fin => wpAny_bind (wpAny_rule (wpAny_pure (hR _ H s' _ I fin))))
    subst e
    obtain rfl : v = .bool b := rv
    refine wpAny_bind (wpAny_holding (wpAny_truthy_bool ?_))
    refine wpAny_bind (wpAny_letGo ?_)
    cases b with
    | false =>
      simp only [Bool.false_eq_true, if_false] at yc ⊢
      obtain ⟨m', hm', w'⟩ := hnx s'.heap H (yc s'.heap)
      obtain ⟨n', e, _⟩ := nx s' rfl ⟨m', hm', i, H, by rw [(gen_pinned gty I).2]; exact I, st, nf, w'⟩
      exact absurd e (by simp)
    | true =>
      simp only [if_true] at yc ⊢
      exact wpAny_bind (wpAny_rule (wpAny_pure (hR _ H s' _ I yc)))
  | succ n ih =>
    intro s gty idle core
    refine codeAny_builtin F.entry_any_loop ?_
    rw [Around.under_plainId F.plain_any_loop _]
    show wpAny _ A.in1 (pyNext (.ref a) >>= _) _ _ s
    refine wpAny_bind (gen_pull (A := A.in1) hh hroom gty idle core (fun v s' y H i Nx rv I st nf hnx ⟨b, e, yc⟩ nx => ?_) fun s' H I fin => wpAny_bind (wpAny_rule (wpAny_pure (hR _ H s' _ I fin))))
    subst e
    obtain rfl : v = .bool b := rv
    refine wpAny_bind (wpAny_holding (wpAny_truthy_bool ?_))
    refine wpAny_bind (wpAny_letGo ?_)
    cases b with
    | false =>
      simp only [Bool.false_eq_true, if_false] at yc ⊢
      obtain ⟨m', hm', w'⟩ := hnx s'.heap H (yc s'.heap)
      have core' : GCore Y [a] fp tn σ0 W m' s' s' := ⟨i, H, by rw [(gen_pinned gty I).2]; exact I, st, nf, w'⟩
      obtain ⟨n', e, idle'⟩ := nx s' rfl ⟨m', hm', core'⟩
      cases e
      exact wpAny_pure ⟨plainId_quiet F.plain_any_loop _, ih s' (gen_pinned gty I).1 idle' ⟨m', hm', core'⟩⟩
    | true =>
      simp only [if_true] at yc ⊢
      exact wpAny_bind (wpAny_rule (wpAny_pure (hR _ H s' _ I yc)))
end
section
variable {X : Cx} {pins : List (Addr × Obj)} {σ : L2.St} {H : Hp} {s : Shared} {elt tg iter : Expr} {ifs : List Expr} {scope : Scope} {gpos : Pos} {own : List (Str × Nat)} {wi : TI} {c P : Addr}
/-- any(elt for target in iter if ..) -/
def tAnyG (P : Addr) (wi : TI) (g : TG) (tt : TT) (te : TE) (vs : List Nat) : TE := fun σ H Q => wi σ H fun J H1 => TabG H1 P ∧ ∀ H2, Tabbed P H1 H2 → ∃ W : Nat → Nat → Hp → Prop, (∃ m, W 0 m H2) ∧
  Turns J g tt te vs (wipe σ vs) (fun _ => Q (.bl false)) (fun _ y H Nx => ycAny (fun b H => Q (.bl b) H) y H fun H' => ∀ h, Nx h H') fun _ => W
theorem pe_anyG {p pos : Pos} {g : TG} {tt : TT} {te : TE} {k : Nat} (hr : Room (k + 1) X.A) (hc : X.calm = true) (hN : X.N.Nodup) (hm : X.mg "any" = none) (TB : TabB X.base X.mg c P) (hcode : X.env.code = .ref c) (hi : PI X tg iter wi) (ok : BlkOk X.N X.env.scope scope own) (hcell : ∀ y ∈ scope.names, y.2 ≠ .cell) (hco : scope.isCoroutine = false) (h0 : scope.names.lookup (".0" : Str) = some NameKind.local)
    (hgn : ∀ (A' : Around) (s : Shared) (H : Hp) (cl : List (Str × Addr)) (C : Addr) (code : Value) (fp : List Addr), Room k A' → PG (genCx X A' s H (genEnv scope cl C code builtinsNs X.env) fp) tg g)
    (ht : ∀ (A' : Around) (s : Shared) (H : Hp) (cl : List (Str × Addr)) (C : Addr) (code : Value) (fp : List Addr), Room k A' → PTs (genCx X A' s H (genEnv scope cl C code builtinsNs X.env) fp) ifs tt)
    (hel : ∀ (A' : Around) (s : Shared) (H : Hp) (cl : List (Str × Addr)) (C : Addr) (code : Value) (fp : List Addr), Room k A' → PE (genCx X A' s H (genEnv scope cl C code builtinsNs X.env) fp) elt te)
    (hg : Gl X "any" := by rfl) (hb : bootBuiltins "any" = some (.builtin "any") := by decide +kernel)
    (hs : ∀ v, genFold iter X.env v = pure v := by intro _; rfl)
    (he : starEach [GE elt tg iter ifs scope gpos] X.env = (false, eval (GE elt tg iter ifs scope gpos) X.env) :: starEach [] X.env := by rfl) :
    PE X (.Call (.Name "any" p) [GE elt tg iter ifs scope gpos] [] pos) (tAnyG P wi g tt te (own.map (·.2))) := by
  refine ⟨fun pins s σ H Q I h => wpAny_Call_Name_kw (ld_blt I hg hm hb (PyProof.Rows.callWith_builtin1 ?_ he (by rfl)))⟩
  rw [he]
  refine Calls.spliced_cons (gen_make hr hN TB hcode hi ok hcell hco h0 hs I h fun J H1 H2 it fp tn s4 cl C code a g s5 hR tab T st nf hafp start back gty hgs => Calls.spliced_nil ?_)
  obtain ⟨W, ⟨m0, w0⟩, tu⟩ := hR H2 tab
  refine call_function_tree F.kind_any F.plain_any F.entry_any (F.args_any1 _) ?_
  unfold Builtin.«any»
  refine wpAny_bind (m := oneArg "any" _) (wpAny_pure ?_)
  refine wpAny_bind (wpAny_pyIter_gen gty ?_)
  generalize hce : genEnv scope cl C code builtinsNs X.env = ce at *
  have hsc : ce.scope = scope := by subst hce; rfl
  have hrA : Room k (X.A.in1.in1.over (.compLoop (GE elt tg iter ifs scope gpos) 0 (.ref it) .none ce) []) := by
    refine ⟨hr.hd, ?_, ?_⟩
    · have := hr.dp
      show X.A.depth + 1 + 3 * k + 5 < _
      omega
    · have := hr.un
      have hu : (X.A.in1.in1.over (.compLoop (GE elt tg iter ifs scope gpos) 0 (.ref it) .none ce) []).units ≤ X.A.in1.in1.units + 3 := Nat.le_of_eq rfl
      have hu2 : X.A.in1.in1.units ≤ X.A.units + 2 := Nat.le_of_eq rfl
      omega
  have Y0 := start (X.A.in1.in1.over (.compLoop (GE elt tg iter ifs scope gpos) 0 (.ref it) .none ce) []) hr.hd (by
    show pushEnvs (Code.envs (.compLoop (GE elt tg iter ifs scope gpos) 0 (.ref it) .none ce)) (pushEnvs (envsOf ([] : List (Code × Pos))) X.A.frames) = _
    rw [I.ok.frames]
    rfl)
  have pg := hgn (X.A.in1.in1.over (.compLoop (GE elt tg iter ifs scope gpos) 0 (.ref it) .none ce) []) s4 H2 cl C code fp hrA
  have pt := ht (X.A.in1.in1.over (.compLoop (GE elt tg iter ifs scope gpos) 0 (.ref it) .none ce) []) s4 H2 cl C code fp hrA
  have pe := hel (X.A.in1.in1.over (.compLoop (GE elt tg iter ifs scope gpos) 0 (.ref it) .none ce) []) s4 H2 cl C code fp hrA
  rw [hce] at pg pt pe
  have core : GCore (genCx X (X.A.in1.in1.over (.compLoop (GE elt tg iter ifs scope gpos) 0 (.ref it) .none ce) []) s4 H2 ce fp) [a] fp tn (wipe σ (own.map (·.2))) (fun _ => W) m0 s5 s5 := ⟨0, H2, Y0, st, nf, w0⟩
  refine wpAny_pure ⟨plainId_quiet F.plain_any_loop _, any_loopG (Y := genCx X (X.A.in1.in1.over (.compLoop (GE elt tg iter ifs scope gpos) 0 (.ref it) .none ce) []) s4 H2 ce fp) (W := fun _ => W) (Qb := fun b H => Q (.bl b) H) hr.hd (by have := hr.dp; omega) (fun b H' s' pn I6 q => ⟨.bl b, H', back _ _ _ _ _ I6, rfl, q⟩) m0 s5 gty ⟨_, hgs, fun s'' z'' ⟨m', hm', core''⟩ => ?_⟩ ⟨m0, Nat.le_refl _, core⟩⟩
  exact gen_fresh (Y := genCx X (X.A.in1.in1.over (.compLoop (GE elt tg iter ifs scope gpos) 0 (.ref it) .none ce) []) s4 H2 ce fp) (ps := [a]) T pg pt pe tu hc rfl rfl rfl (by show ce.scope.isCoroutine = _; rw [hsc]; exact hco) (fun b hb hba => hafp (by simpa using (by simpa using hba : b = a) ▸ hb)) rfl (wipe_idem _ _) m0 m' hm' s'' core'' z''
end
end Act
namespace Act
open PySem PySem.Spec PyProof.Rows L2
open GxR (TabB TabG Tabbed inv_tab sh_eta)
/-! ## sum(integer for target in iter if ..): the list with the total stands beside the generator -/
def accOf (S : Addr) (h : Heap) : Int := match h.get? S with
  | some o => match o.data with
    | Data.seq a _ => match (a[0]? : Option Value) with
      | some (Value.int n _) => n
      | _ => 0
    | _ => 0
  | none => 0
abbrev sumObj (n : Int) (t : Tok) (c : Nat) : Obj := { cls := .type "list", dict := none, data := .seq #[.int n t] c, slots := #[] }
theorem accOf_at {S : Addr} {h : Heap} {n : Int} {t : Tok} {c : Nat} (e : h.get? S = some (sumObj n t c)) : accOf S h = n := by
  unfold accOf
  rw [e]
  rfl
def In63 (n : Int) : Prop := -(2 ^ 63) ≤ n ∧ n < 2 ^ 63
def ycSum (S : Addr) : Heap → V → Hp → (Heap → Hp → Prop) → Prop := fun h y H Nx => ∃ n : Int, y = .int n ∧ In63 n ∧ In63 (accOf S h + n) ∧ ∀ h', accOf S h' = accOf S h + n → Nx h' H
section
variable {Y : Cx} {ps : List Addr} {fp : List Addr} {tn : Nat → Heap → Prop} {σ0 : L2.St} {W : Heap → Nat → Nat → Hp → Prop} {n0 : Nat}
/-- pinned anew -/
theorem repin {a S : Addr} {H : Hp} {s1 s2 : Shared} {ob o1 : Obj} (hpn : Y.pn = []) (I : Inv Y (pinsAt [a, S] s1.heap) σ0 H s2) (e1 : s1.heap.get? a = some ob) (e2 : s1.heap.get? S = some o1) {h' : Heap} {tk : Nat} {o2 : Obj} (haS : a ≠ S) (k : ∀ b o, b ≠ S → s2.heap.get? b = some o → h'.get? b = some o) (hS : h'.get? S = some o2) (hd : ∀ v, o2.data ≠ .cell v) (h1 : S ∈ Y.ex ∨ Y.s_0.heap.objs.size ≤ S) (h2 : ∀ x c, Y.env.cells.lookup x = some c → c ≠ S) :
    Inv Y (pinsAt [a, S] h') σ0 H { s2 with heap := h', toks := tk } := by
  have pa := I.pin (a, ob) (List.mem_append_right _ (mem_pinsAt (by simp) e1))
  have pS := I.pin (S, o1) (List.mem_append_right _ (mem_pinsAt (by simp) e2))
  have I1 : Inv Y [] σ0 H s2 := I.pins_of fun p hp => absurd hp (by simp)
  have I2 : Inv Y [] σ0 H { s2 with heap := h', toks := tk } := I1.turned (it := S) k pS.2.1 pS.2.2.1 h1 h2 fun p hp => absurd (by rw [hpn] at hp; exact hp) (by simp)
  refine I2.pins_of fun p hp => ?_
  obtain ⟨hb, e⟩ := of_pinsAt hp
  have e : h'.get? p.1 = some p.2 := e
  rcases (by simpa using hb : p.1 = a ∨ p.1 = S) with z | z
  · rw [z] at e ⊢
    have e3 := k a ob haS pa.1
    rw [e3] at e
    cases e
    exact ⟨e3, pa.2.1, pa.2.2.1, pa.2.2.2.1, pa.2.2.2.2⟩
  · rw [z] at e ⊢
    rw [hS] at e
    cases e
    exact ⟨hS, pS.2.1, pS.2.2.1, pS.2.2.2.1, hd⟩
theorem pins2 {a S : Addr} {s1 s2 : Shared} {H : Hp} {ob o1 : Obj} (I : Inv Y (pinsAt [a, S] s1.heap) σ0 H s2) (e1 : s1.heap.get? a = some ob) (e2 : s1.heap.get? S = some o1) : s2.heap.get? a = some ob ∧ s2.heap.get? S = some o1 ∧ pinsAt [a, S] s2.heap = pinsAt [a, S] s1.heap := by
  have pa := (I.pin (a, ob) (List.mem_append_right _ (mem_pinsAt (by simp) e1))).1
  have pS := (I.pin (S, o1) (List.mem_append_right _ (mem_pinsAt (by simp) e2))).1
  have pa : s2.heap.get? a = some ob := pa
  have pS : s2.heap.get? S = some o1 := pS
  refine ⟨pa, pS, ?_⟩
  unfold pinsAt
  simp [pa, pS, e1, e2]
theorem sum_loopG {A : Around} {a S : Addr} {g : Nat} {Qs : Int → Hp → Prop} {R : Result → Shared → Prop} (hh : A.handled = none) (hroom : A.depth < recursionLimit) (hpn : Y.pn = []) (haS : a ≠ S) (hSf : S ∉ fp) (h1 : S ∈ Y.ex ∨ Y.s_0.heap.objs.size ≤ S) (h2 : ∀ x c, Y.env.cells.lookup x = some c → c ≠ S)
    (keep : ∀ i h h', tn i h → (∀ b ∈ fp, ∀ o, h.get? b = some o → h'.get? b = some o) → tn i h')
    (hR : ∀ n t H s' pn, Inv Y pn σ0 H s' → Qs n H → R (.ok (.ret (.int n t))) s') : ∀ n s acc t c, s.heap.IsGen a g → s.heap.get? S = some (sumObj acc t c) → GIdle Y [a, S] fp tn σ0 (fun h H => Qs (accOf S h) H) (ycSum S) W A.in1.in1 g n s → (∃ m', m' ≤ n ∧ GCore Y [a, S] fp tn σ0 W m' s s) →
      codeAny (model Y.prog Y.w) A (.builtin "sum.loop" ⟨[.ref a, .ref S, rawInt 0, rawInt 0], []⟩) R s := by
  intro n
  induction n with
  | zero =>
    intro s acc t c gty hS idle core
    obtain ⟨ob, nm, qn, hob, rob⟩ := id gty
    refine codeAny_builtin F.entry_sum_loop ?_
    rw [Around.under_plainId F.plain_sum_loop _]
    show wpAny _ A.in1 (seqItems? (.ref S) >>= _) _ _ s
    refine wpAny_bind (wpAny_seqItems hS rfl ?_)
    show wpAny _ A.in1 (tryCatch (pyNext (.ref a)) _ >>= _) _ _ s
    refine wpAny_bind (wpAny_tryCatch (gen_pull (A := A.in1) hh hroom gty idle core (fun v s' y H i Nx rv I st nf hnx ⟨m, e, f1, f2, yc⟩ nx => ?_) fun s' H I fin => wpAny_pure (hR _ _ H s' _ I (by rw [accOf_at hS] at fin; exact fin))))
    subst e
    obtain ⟨t2, rfl⟩ : ∃ t, v = .int m t := rv
    obtain ⟨pa, pS, ep⟩ := pins2 I hob hS
    have hc : ((decide (-(2 ^ 63) ≤ m) && decide (m < 2 ^ 63)) && (decide (-(2 ^ 63) ≤ acc + m) && decide (acc + m < 2 ^ 63))) = true := by
      rw [accOf_at hS] at f2
      simp only [Bool.and_eq_true, decide_eq_true_eq]
      exact ⟨⟨f1.1, f1.2⟩, f2.1, f2.2⟩
    show wpAny _ A.in1 (if (_ : Bool) = true then (mkInt (acc + m) >>= _) else _) _ _ _
    split
    · refine wpAny_bind (wpAny_mkInt ?_)
      show wpAny _ A.in1 (updateSeq S (fun _ => #[.int (acc + m) s'.toks]) >>= _) _ _ _
      refine wpAny_bind (wpAny_updateSeq pS rfl ?_)
      have hS2 := Heap.get?_update_self (Obj.mapSeq (fun _ => #[.int (acc + m) s'.toks])) pS rfl
      have kp : ∀ b o, b ≠ S → s'.heap.get? b = some o → (s'.heap.update S (Obj.mapSeq (fun _ => #[.int (acc + m) s'.toks]))).get? b = some o := fun b o hb e => (Heap.get?_update_other _ _ (Ne.symm hb)).trans e
      have I2 := repin (tk := s'.toks + 1) hpn I hob hS haS kp hS2 (fun v => by simp [Obj.mapSeq]) h1 h2
      have hacc : accOf S (s'.heap.update S (Obj.mapSeq (fun _ => #[.int (acc + m) s'.toks]))) = accOf S s.heap + m := by
        rw [accOf_at hS]
        exact accOf_at hS2
      obtain ⟨m', hm', w'⟩ := hnx _ H (yc _ hacc)
      obtain ⟨n', e, _⟩ := nx { s' with heap := s'.heap.update S (Obj.mapSeq (fun _ => #[.int (acc + m) s'.toks])), toks := s'.toks + 1 } rfl ⟨m', hm', i, H, I2, keep _ _ _ st fun b hb o e => kp b o (fun z => hSf (z ▸ hb)) e, nf, w'⟩
      exact absurd e (by simp)
    · rename_i hneg
      exact absurd hc hneg
  | succ n ih =>
    intro s acc t c gty hS idle core
    obtain ⟨ob, nm, qn, hob, rob⟩ := id gty
    refine codeAny_builtin F.entry_sum_loop ?_
    rw [Around.under_plainId F.plain_sum_loop _]
    show wpAny _ A.in1 (seqItems? (.ref S) >>= _) _ _ s
    refine wpAny_bind (wpAny_seqItems hS rfl ?_)
    show wpAny _ A.in1 (tryCatch (pyNext (.ref a)) _ >>= _) _ _ s
    refine wpAny_bind (wpAny_tryCatch (gen_pull (A := A.in1) hh hroom gty idle core (fun v s' y H i Nx rv I st nf hnx ⟨m, e, f1, f2, yc⟩ nx => ?_) fun s' H I fin => wpAny_pure (hR _ _ H s' _ I (by rw [accOf_at hS] at fin; exact fin))))
    subst e
    obtain ⟨t2, rfl⟩ : ∃ t, v = .int m t := rv
    obtain ⟨pa, pS, ep⟩ := pins2 I hob hS
    have hc : ((decide (-(2 ^ 63) ≤ m) && decide (m < 2 ^ 63)) && (decide (-(2 ^ 63) ≤ acc + m) && decide (acc + m < 2 ^ 63))) = true := by
      rw [accOf_at hS] at f2
      simp only [Bool.and_eq_true, decide_eq_true_eq]
      exact ⟨⟨f1.1, f1.2⟩, f2.1, f2.2⟩
    show wpAny _ A.in1 (if (_ : Bool) = true then (mkInt (acc + m) >>= _) else _) _ _ _
    split
    · refine wpAny_bind (wpAny_mkInt ?_)
      show wpAny _ A.in1 (updateSeq S (fun _ => #[.int (acc + m) s'.toks]) >>= _) _ _ _
      refine wpAny_bind (wpAny_updateSeq pS rfl ?_)
      have hS2 := Heap.get?_update_self (Obj.mapSeq (fun _ => #[.int (acc + m) s'.toks])) pS rfl
      have kp : ∀ b o, b ≠ S → s'.heap.get? b = some o → (s'.heap.update S (Obj.mapSeq (fun _ => #[.int (acc + m) s'.toks]))).get? b = some o := fun b o hb e => (Heap.get?_update_other _ _ (Ne.symm hb)).trans e
      have I2 := repin (tk := s'.toks + 1) hpn I hob hS haS kp hS2 (fun v => by simp [Obj.mapSeq]) h1 h2
      have hacc : accOf S (s'.heap.update S (Obj.mapSeq (fun _ => #[.int (acc + m) s'.toks]))) = accOf S s.heap + m := by
        rw [accOf_at hS]
        exact accOf_at hS2
      obtain ⟨m', hm', w'⟩ := hnx _ H (yc _ hacc)
      have core2 : GCore Y [a, S] fp tn σ0 W m' { s' with heap := s'.heap.update S (Obj.mapSeq (fun _ => #[.int (acc + m) s'.toks])), toks := s'.toks + 1 } { s' with heap := s'.heap.update S (Obj.mapSeq (fun _ => #[.int (acc + m) s'.toks])), toks := s'.toks + 1 } := ⟨i, H, I2, keep _ _ _ st fun b hb o e => kp b o (fun z => hSf (z ▸ hb)) e, nf, w'⟩
      obtain ⟨n', e, idle'⟩ := nx { s' with heap := s'.heap.update S (Obj.mapSeq (fun _ => #[.int (acc + m) s'.toks])), toks := s'.toks + 1 } rfl ⟨m', hm', core2⟩
      cases e
      exact wpAny_pure ⟨plainId_quiet F.plain_sum_loop _, ih _ (acc + m) s'.toks _ ⟨ob, nm, qn, kp a ob haS pa, rob⟩ hS2 idle' ⟨m', hm', core2⟩⟩
    · rename_i hneg
      exact absurd hc hneg
end
section
variable {X : Cx} {pins : List (Addr × Obj)} {σ : L2.St} {H : Hp} {s : Shared} {elt tg iter : Expr} {ifs : List Expr} {scope : Scope} {gpos : Pos} {own : List (Str × Nat)} {wi : TI} {c P : Addr}
def tSumG (P : Addr) (wi : TI) (g : TG) (tt : TT) (te : TE) (vs : List Nat) : TE := fun σ H Q => wi σ H fun J H1 => TabG H1 P ∧ ∀ H2, Tabbed P H1 H2 → ∀ S : Addr, ∃ W : Int → Nat → Nat → Hp → Prop, (∃ m, W 0 0 m H2) ∧
  Turns J g tt te vs (wipe σ vs) (fun h H => Q (.int (accOf S h)) H) (ycSum S) fun h => W (accOf S h)
theorem pe_sumG {p pos : Pos} {g : TG} {tt : TT} {te : TE} {k : Nat} (hr : Room (k + 1) X.A) (hc : X.calm = true) (hN : X.N.Nodup) (hm : X.mg "sum" = none) (TB : TabB X.base X.mg c P) (hcode : X.env.code = .ref c) (hi : PI X tg iter wi) (ok : BlkOk X.N X.env.scope scope own) (hcell : ∀ y ∈ scope.names, y.2 ≠ .cell) (hco : scope.isCoroutine = false) (h0 : scope.names.lookup (".0" : Str) = some NameKind.local)
    (hgn : ∀ (A' : Around) (s : Shared) (H : Hp) (cl : List (Str × Addr)) (C : Addr) (code : Value) (fp : List Addr), Room k A' → PG (genCx X A' s H (genEnv scope cl C code builtinsNs X.env) fp) tg g)
    (ht : ∀ (A' : Around) (s : Shared) (H : Hp) (cl : List (Str × Addr)) (C : Addr) (code : Value) (fp : List Addr), Room k A' → PTs (genCx X A' s H (genEnv scope cl C code builtinsNs X.env) fp) ifs tt)
    (hel : ∀ (A' : Around) (s : Shared) (H : Hp) (cl : List (Str × Addr)) (C : Addr) (code : Value) (fp : List Addr), Room k A' → PE (genCx X A' s H (genEnv scope cl C code builtinsNs X.env) fp) elt te)
    (hg : Gl X "sum" := by rfl) (hb : bootBuiltins "sum" = some (.builtin "sum") := by decide +kernel)
    (hs : ∀ v, genFold iter X.env v = pure v := by intro _; rfl)
    (he : starEach [GE elt tg iter ifs scope gpos] X.env = (false, eval (GE elt tg iter ifs scope gpos) X.env) :: starEach [] X.env := by rfl) :
    PE X (.Call (.Name "sum" p) [GE elt tg iter ifs scope gpos] [] pos) (tSumG P wi g tt te (own.map (·.2))) := by
  refine ⟨fun pins s σ H Q I h => wpAny_Call_Name_kw (ld_blt I hg hm hb (PyProof.Rows.callWith_builtin1 ?_ he (by rfl)))⟩
  rw [he]
  refine Calls.spliced_cons (gen_make hr hN TB hcode hi ok hcell hco h0 hs I h fun J H1 H2 it fp tn s4 cl C code a g s5 hR tab T st nf hafp start back gty hgs => Calls.spliced_nil ?_)
  refine call_function_tree F.kind_sum F.plain_sum F.entry_sum (F.args_sum1 _) ?_
  unfold Builtin.«sum»
  simp only [List.length_cons, List.length_nil]
  rw [if_neg (by decide)]
  refine wpAny_bind (wpAny_of_eq (show Builtin.Builtins.bindParams "sum" ["start"] 0 { } = pure [none] from rfl) ?_)
  refine wpAny_bind (wpAny_pyIter_gen gty ?_)
  refine wpAny_bind (wpAny_mkInt ?_)
  refine wpAny_bind (wpAny_pure ?_)
  simp only [List.forIn_cons, List.forIn_nil]
  refine wpAny_bind (wpAny_bind (wpAny_bind (wpAny_isInstance (T := "int") (b := false) (typeIs_int _ _ _) PyProof.Rows.sub_int_str ?_)))
  simp only [Bool.false_eq_true, if_false]
  refine wpAny_pure (wpAny_bind (wpAny_bind (wpAny_isInstance (T := "int") (b := false) (typeIs_int _ _ _) sub_int_bytes ?_)))
  simp only [Bool.false_eq_true, if_false]
  refine wpAny_pure (wpAny_bind (wpAny_bind (wpAny_isInstance (T := "int") (b := false) (typeIs_int _ _ _) sub_int_bytearray ?_)))
  simp only [Bool.false_eq_true, if_false]
  refine wpAny_pure (wpAny_pure ?_)
  refine wpAny_bind (wpAny_newObj_type ?_)
  generalize hce : genEnv scope cl C code builtinsNs X.env = ce at *
  have hsc : ce.scope = scope := by subst hce; rfl
  have hrA : Room k (X.A.in1.in1.over (.compLoop (GE elt tg iter ifs scope gpos) 0 (.ref it) .none ce) []) := by
    refine ⟨hr.hd, ?_, ?_⟩
    · have := hr.dp
      show X.A.depth + 1 + 3 * k + 5 < _
      omega
    · have := hr.un
      have hu : (X.A.in1.in1.over (.compLoop (GE elt tg iter ifs scope gpos) 0 (.ref it) .none ce) []).units ≤ X.A.in1.in1.units + 3 := Nat.le_of_eq rfl
      have hu2 : X.A.in1.in1.units ≤ X.A.units + 2 := Nat.le_of_eq rfl
      omega
  have Y0 := start (X.A.in1.in1.over (.compLoop (GE elt tg iter ifs scope gpos) 0 (.ref it) .none ce) []) hr.hd (by
    show pushEnvs (Code.envs (.compLoop (GE elt tg iter ifs scope gpos) 0 (.ref it) .none ce)) (pushEnvs (envsOf ([] : List (Code × Pos))) X.A.frames) = _
    rw [I.ok.frames]
    rfl)
  have pg := hgn (X.A.in1.in1.over (.compLoop (GE elt tg iter ifs scope gpos) 0 (.ref it) .none ce) []) s4 H2 cl C code fp hrA
  have pt := ht (X.A.in1.in1.over (.compLoop (GE elt tg iter ifs scope gpos) 0 (.ref it) .none ce) []) s4 H2 cl C code fp hrA
  have pe := hel (X.A.in1.in1.over (.compLoop (GE elt tg iter ifs scope gpos) 0 (.ref it) .none ce) []) s4 H2 cl C code fp hrA
  rw [hce] at pg pt pe
  generalize hYc : genCx X (X.A.in1.in1.over (.compLoop (GE elt tg iter ifs scope gpos) 0 (.ref it) .none ce) []) s4 H2 ce fp = Yc at *
  generalize hSS : s5.heap.objs.size = S at *
  have fo := Y0.fpOk (b := S) (H' := H2) (by rw [← hSS]; exact Nat.le_refl _) (Y0.hok.fresh (by rw [← hSS]; exact Nat.le_refl _))
  obtain ⟨W, ⟨m0, w0⟩, tu⟩ := hR H2 tab S
  obtain ⟨ob, nm, qn, hob, rob⟩ := id gty
  have hlta : a < S := by rw [← hSS]; exact Heap.lt_size hob
  have hSf : S ∉ fp := fun hb => by
    obtain ⟨o, e, _⟩ := T.obj _ _ st S hb
    have := Heap.lt_size e
    rw [hSS] at this
    exact Nat.lt_irrefl _ this
  have hSg : (s5.heap.push { cls := .type "list", data := .seq #[Value.int 0 s5.toks] }).get? S = some (sumObj 0 s5.toks 0) := by rw [← hSS]; exact Heap.get?_push_size _ rfl
  have kp : ∀ b o, s5.heap.get? b = some o → (s5.heap.push { cls := .type "list", data := .seq #[Value.int 0 s5.toks] }).get? b = some o := fun b o e => Heap.get?_push_of_some _ e
  have pa := Y0.pin (a, ob) (List.mem_append_right _ (mem_pinsAt (by simp) hob))
  have Y1 : Inv Yc [] (wipe σ (own.map (·.2))) H2 { s5 with heap := s5.heap.push { cls := .type "list", data := .seq #[Value.int 0 s5.toks] }, toks := s5.toks + 1 } := (Y0.pins_of fun p hp => absurd hp (by simp)).kept kp
  have hexY : Yc.ex = fp := by rw [← hYc]
  have hpnY : Yc.pn = [] := by rw [← hYc]
  have Y2 : Inv Yc (pinsAt [a, S] (s5.heap.push { cls := .type "list", data := .seq #[Value.int 0 s5.toks] })) (wipe σ (own.map (·.2))) H2 { s5 with heap := s5.heap.push { cls := .type "list", data := .seq #[Value.int 0 s5.toks] }, toks := s5.toks + 1 } := by
    refine Y1.pins_of fun p hp => ?_
    obtain ⟨hb, e⟩ := of_pinsAt hp
    rcases (by simpa using hb : p.1 = a ∨ p.1 = S) with z | z
    · rw [z] at e ⊢
      have e3 := kp a ob pa.1
      rw [e3] at e
      cases e
      exact ⟨e3, pa.2.1, pa.2.2.1, pa.2.2.2.1, pa.2.2.2.2⟩
    · rw [z] at e ⊢
      rw [hSg] at e
      have e4 := Option.some.inj e
      rw [← e4]
      exact ⟨hSg, fo.1, fo.2.1, fo.2.2.1, fun v => by simp⟩
  have core : GCore Yc [a, S] fp tn (wipe σ (own.map (·.2))) (fun h => W (accOf S h)) m0 { s5 with heap := s5.heap.push { cls := .type "list", data := .seq #[Value.int 0 s5.toks] }, toks := s5.toks + 1 } { s5 with heap := s5.heap.push { cls := .type "list", data := .seq #[Value.int 0 s5.toks] }, toks := s5.toks + 1 } :=
    ⟨0, H2, Y2, T.keep _ _ _ st fun b _ o e => kp b o e, nf, by show W (accOf S (s5.heap.push _)) 0 m0 H2; rw [accOf_at hSg]; exact w0⟩
  have bk : ∀ n t H' s' pn, Inv Yc pn (wipe σ (own.map (·.2))) H' s' → Q (.int n) H' → EP X pins σ Q (.int n t) s' := fun n t H' s' pn I6 q => ⟨.int n, H', back (X.A.in1.in1.over (.compLoop (GE elt tg iter ifs scope gpos) 0 (.ref it) .none ce) []) pn _ H' s' (by rw [hYc]; exact I6), ⟨t, rfl⟩, q⟩
  have lp := sum_loopG (Y := Yc) (A := X.A) (a := a) (S := S) (g := g) (W := fun h => W (accOf S h)) (Qs := fun n H => Q (.int n) H) (R := fun r s' => match r with | .ok (.ret v) => EP X pins σ Q v s' | _ => False) hr.hd (by have := hr.dp; omega) hpnY (Nat.ne_of_lt hlta) hSf fo.2.2.2.1 fo.2.2.2.2.1 T.keep bk m0 { s5 with heap := s5.heap.push { cls := .type "list", data := .seq #[Value.int 0 s5.toks] }, toks := s5.toks + 1 } 0 s5.toks 0 ⟨ob, nm, qn, kp a ob hob, rob⟩ hSg ⟨_, hgs, fun s'' z'' ⟨m', hm', core''⟩ => ?_⟩ ⟨m0, Nat.le_refl _, core⟩
  · refine wpAny_pure ⟨plainId_quiet F.plain_sum_loop _, ?_⟩
    have pw : Yc.prog = X.prog ∧ Yc.w = X.w := by rw [← hYc]; exact ⟨rfl, rfl⟩
    rw [pw.1, pw.2] at lp
    refine codeAny_mono lp fun r s' hq => ?_
    cases r with
    | error e => exact hq.elim
    | ok fl =>
      cases fl with
      | ret v => exact hq
      | _ => exact hq.elim
  · subst hYc
    exact gen_fresh (Y := genCx X (X.A.in1.in1.over (.compLoop (GE elt tg iter ifs scope gpos) 0 (.ref it) .none ce) []) s4 H2 ce fp) (ps := [a, S]) T pg pt pe tu hc rfl rfl rfl (by show ce.scope.isCoroutine = _; rw [hsc]; exact hco) (fun b hb hba => by
      rcases (by simpa using hba : b = a ∨ b = S) with z | z
      · exact hafp (z ▸ hb)
      · exact hSf (z ▸ hb)) rfl (wipe_idem _ _) m0 m' hm' s'' core'' z''
end
end Act
namespace Act
open PySem PySem.Spec PyProof.Rows L2
open GxR (TabB TabG Tabbed inv_tab sh_eta)
/-! ## tuple(item for target in iter if ..): the list of the items stands beside the generator -/
def itemsOf (S : Addr) (h : Heap) : List Value := match h.get? S with
  | some o => match o.data with
    | Data.seq a _ => a.toList
    | _ => []
  | none => []
abbrev lsObj (a : Array Value) (c : Nat) : Obj := { cls := .type "list", dict := none, data := .seq a c, slots := #[] }
theorem itemsOf_at {S : Addr} {h : Heap} {a : Array Value} {c : Nat} (e : h.get? S = some (lsObj a c)) : itemsOf S h = a.toList := by
  unfold itemsOf
  rw [e]
def ycTup (S : Addr) : Heap → V → Hp → (Heap → Hp → Prop) → Prop := fun h y H Nx => (itemsOf S h).length < sizeLine ∧ ∀ v h', RelV y v → itemsOf S h' = itemsOf S h ++ [v] → Nx h' H
section
variable {Y : Cx} {fp : List Addr} {tn : Nat → Heap → Prop} {σ0 : L2.St} {W : Heap → Nat → Nat → Hp → Prop}
theorem ext_loopG {A : Around} {a S : Addr} {g : Nat} {FinT : List Value → Hp → Prop} {res : Value} {R : Result → Shared → Prop} (hh : A.handled = none) (hroom : A.depth < recursionLimit) (hpn : Y.pn = []) (haS : a ≠ S) (hSf : S ∉ fp) (h1 : S ∈ Y.ex ∨ Y.s_0.heap.objs.size ≤ S) (h2 : ∀ x c, Y.env.cells.lookup x = some c → c ≠ S)
    (keep : ∀ i h h', tn i h → (∀ b ∈ fp, ∀ o, h.get? b = some o → h'.get? b = some o) → tn i h')
    (hR : ∀ acc c H s' pn, Inv Y pn σ0 H s' → s'.heap.get? S = some (lsObj acc c) → acc.size ≤ sizeLine → FinT acc.toList H → R (.ok (.ret res)) s') : ∀ n s acc c, s.heap.IsGen a g → s.heap.get? S = some (lsObj acc c) → acc.size ≤ sizeLine → GIdle Y [a, S] fp tn σ0 (fun h H => FinT (itemsOf S h) H) (ycTup S) W A.in1.in1 g n s → (∃ m', m' ≤ n ∧ GCore Y [a, S] fp tn σ0 W m' s s) →
      codeAny (model Y.prog Y.w) A (.builtin "list.extend.loop" ⟨[.ref S, .ref a, res], []⟩) R s := by
  intro n
  induction n using Nat.strongRecOn with
  | ind n ih =>
    intro s acc c gty hS hz idle core
    obtain ⟨ob, nm, qn, hob, rob⟩ := id gty
    refine codeAny_builtin F.entry_extend_loop ?_
    rw [Around.under_plainId F.plain_extend_loop _]
    show wpAny _ A.in1 (pyNext (.ref a) >>= _) _ _ s
    refine wpAny_bind (gen_pull (A := A.in1) hh hroom gty idle core (fun v s' y H i Nx rv I st nf hnx ⟨hlen, yc⟩ nx => ?_) fun s' H I fin => wpAny_pure (hR acc c H s' _ I (pins2 I hob hS).2.1 hz (by rw [itemsOf_at hS] at fin; exact fin)))
    obtain ⟨pa, pS, ep⟩ := pins2 I hob hS
    rw [itemsOf_at hS] at hlen
    have hlen' : acc.size < sizeLine := by simpa using hlen
    show wpAny _ A.in1 (updateSeq S (·.push v) >>= _) _ _ _
    refine wpAny_bind ?_
    have hS2 := Heap.get?_update_self (Obj.mapSeq (·.push v)) pS rfl
    have kp : ∀ b o, b ≠ S → s'.heap.get? b = some o → (s'.heap.update S (Obj.mapSeq (·.push v))).get? b = some o := fun b o hb e => (Heap.get?_update_other _ _ (Ne.symm hb)).trans e
    refine wpAny_updateSeq pS rfl (wpAny_pure ?_) (Nat.le_of_lt hlen') (by show (acc.push v).size ≤ sizeLine + 1; rw [Array.size_push]; omega)
    have I2 := repin (tk := s'.toks) hpn I hob hS haS kp hS2 (fun v => by simp [Obj.mapSeq]) h1 h2
    have hit : itemsOf S (s'.heap.update S (Obj.mapSeq (·.push v))) = itemsOf S s.heap ++ [v] := by
      rw [itemsOf_at hS, itemsOf_at hS2]
      simp
    obtain ⟨m', hm', w'⟩ := hnx _ H (yc v _ rv hit)
    have core2 : GCore Y [a, S] fp tn σ0 W m' { s' with heap := s'.heap.update S (Obj.mapSeq (·.push v)), toks := s'.toks } { s' with heap := s'.heap.update S (Obj.mapSeq (·.push v)), toks := s'.toks } := ⟨i, H, I2, keep _ _ _ st fun b hb o e => kp b o (fun z => hSf (z ▸ hb)) e, nf, w'⟩
    obtain ⟨n', e, idle'⟩ := nx { s' with heap := s'.heap.update S (Obj.mapSeq (·.push v)), toks := s'.toks } rfl ⟨m', hm', core2⟩
    subst e
    exact ⟨plainId_quiet F.plain_extend_loop _, ih n' (Nat.lt_succ_self _) _ (acc.push v) _ ⟨ob, nm, qn, kp a ob haS pa, rob⟩ hS2 (by rw [Array.size_push]; omega) idle' ⟨m', hm', core2⟩⟩
/-- collected into a list -/
theorem collectG {A : Around} {a : Addr} {g n : Nat} {s : Shared} {H : Hp} {FinT : List Value → Hp → Prop} {Q : List Value → Shared → Prop} {E : Value → Shared → Prop} (hh : A.handled = none) (hroom : A.depth < recursionLimit) (hpn : Y.pn = []) (gty : s.heap.IsGen a g) (I : Inv Y (pinsAt [a] s.heap) σ0 H s) (st : tn 0 s.heap) (nf : ∀ b ∈ fp, H b = none) (hfp : ∀ b ∈ fp, b < s.heap.objs.size)
    (keep : ∀ i h h', tn i h → (∀ b ∈ fp, ∀ o, h.get? b = some o → h'.get? b = some o) → tn i h')
    (w0 : ∀ h, itemsOf s.heap.objs.size h = [] → W h 0 n H)
    (idle : ∀ s2, s2.gens = s.gens → GIdle Y [a, s.heap.objs.size] fp tn σ0 (fun h H => FinT (itemsOf s.heap.objs.size h) H) (ycTup s.heap.objs.size) W A.in1.in1 g n s2)
    (hQ : ∀ s' (acc : List Value) H' pn, Inv Y pn σ0 H' s' → acc.length ≤ sizeLine → FinT acc H' → Q acc s') : wpAny (model Y.prog Y.w) A (collect (.ref a)) Q E s := by
  obtain ⟨ob, nm, qn, hob, rob⟩ := id gty
  have hlta : a < s.heap.objs.size := Heap.lt_size hob
  have hSI : s.heap.objs.size ≠ a := Nat.ne_of_gt hlta
  have hSf : s.heap.objs.size ∉ fp := fun hm => Nat.lt_irrefl _ (hfp _ hm)
  have fo := I.fpOk (b := s.heap.objs.size) (H' := H) (Nat.le_refl _) (I.hok.fresh (Nat.le_refl _))
  unfold collect
  refine wpAny_bind (wpAny_runValue (codeAny_builtin F.entry_proto_collect ?_))
  rw [Around.under_plainId F.plain_proto_collect _]
  show wpAny _ A.in1 (newList [] >>= fun l => again (.builtin "list.__iadd__" ⟨[l, .ref a], []⟩)) _ _ s
  refine wpAny_bind (wpAny_newObj_type ?_)
  refine wpAny_pure ⟨plainId_quiet F.plain_list_iadd _, codeAny_builtin F.entry_list_iadd ?_⟩
  rw [Around.under_plainId F.plain_list_iadd _]
  have k1 : ∀ b o, s.heap.get? b = some o → (s.heap.push { cls := .type "list", data := .seq ([] : List Value).toArray }).get? b = some o := fun b o e => Heap.get?_push_of_some _ e
  have gt1 : (s.heap.push { cls := .type "list", data := .seq ([] : List Value).toArray }).IsGen a g := ⟨ob, nm, qn, k1 a ob hob, rob⟩
  show wpAny _ A.in1 (Builtin.List.listExtendWith (.ref s.heap.objs.size) (.ref a) (.ref s.heap.objs.size)) _ _ _
  unfold Builtin.List.listExtendWith
  refine wpAny_bind (wpAny_typeOf (Heap.IsGen.typeIs (s := { s with heap := _ }) gt1) ?_)
  have h1 : Builtin.List.listSameRef (.ref s.heap.objs.size) (.ref a) = false := by simp [Builtin.List.listSameRef, hSI]
  have h2 : (Value.type "generator" == Value.type "list") = false := by decide
  have h3 : (Value.type "generator" == Value.type "tuple") = false := by decide
  simp only [h1, h2, h3, Bool.or_false, Bool.false_eq_true, if_false]
  refine wpAny_bind (wpAny_pyIter_gen (s := { s with heap := _ }) gt1 ?_)
  refine wpAny_bind (wpAny_holding ?_)
  unfold Builtin.List.listLengthHint
  refine wpAny_bind (wpAny_specialOf (Heap.IsGen.typeIs (s := { s with heap := _ }) gt1) F.gen_no_len ?_)
  show wpAny _ A.in1 (specialOf (Value.ref a) (Str.ofString "__length_hint__") >>= _) _ _ _
  refine wpAny_bind (wpAny_specialOf (Heap.IsGen.typeIs (s := { s with heap := _ }) gt1) F.gen_no_hint ?_)
  refine wpAny_pure ?_
  show wpAny _ A.in1 (rule "list.extend.makes-room" >>= fun _ => Builtin.List.listTouch (.ref s.heap.objs.size) >>= fun _ =>
    again (.builtin "list.extend.loop" ⟨[.ref s.heap.objs.size, .ref a, .ref s.heap.objs.size], []⟩)) _ _ _
  refine wpAny_bind (wpAny_rule ?_)
  have hS₁ : (s.heap.push { cls := .type "list", data := .seq ([] : List Value).toArray }).get? s.heap.objs.size = some { cls := .type "list", data := .seq ([] : List Value).toArray } := Heap.get?_push_size _ rfl
  refine wpAny_bind ?_
  show wpAny _ A.in1 (updateSeq s.heap.objs.size (·.push .none) >>= fun _ => updateSeq s.heap.objs.size (·.pop)) _ _ _
  refine wpAny_bind (wpAny_updateSeq hS₁ rfl ?_)
  have hS₂ := Heap.get?_update_self (Obj.mapSeq (·.push Value.none)) hS₁ rfl
  refine wpAny_updateSeq hS₂ rfl ?_
  have hS₃ := Heap.get?_update_self (Obj.mapSeq (·.pop)) hS₂ rfl
  have k3 : ∀ b o, s.heap.get? b = some o → (((s.heap.push { cls := .type "list", data := .seq ([] : List Value).toArray }).update s.heap.objs.size (Obj.mapSeq (·.push Value.none))).update s.heap.objs.size (Obj.mapSeq (·.pop))).get? b = some o := fun b o e =>
    (Heap.get?_update_other _ _ (Nat.ne_of_gt (Heap.lt_size e))).trans ((Heap.get?_update_other _ _ (Nat.ne_of_gt (Heap.lt_size e))).trans (k1 b o e))
  generalize hh3 : ((s.heap.push { cls := .type "list", data := .seq ([] : List Value).toArray }).update s.heap.objs.size (Obj.mapSeq (·.push Value.none))).update s.heap.objs.size (Obj.mapSeq (·.pop)) = h3' at *
  obtain ⟨c3, hS4⟩ : ∃ c3, h3'.get? s.heap.objs.size = some (lsObj #[] c3) := ⟨_, hS₃⟩
  have pa := I.pin (a, ob) (List.mem_append_right _ (mem_pinsAt (by simp) hob))
  have Y1 : Inv Y [] σ0 H { s with heap := h3', toks := s.toks } := (I.pins_of fun p hp => absurd hp (by simp)).kept k3
  have Y2 : Inv Y (pinsAt [a, s.heap.objs.size] h3') σ0 H { s with heap := h3', toks := s.toks } := by
    refine Y1.pins_of fun p hp => ?_
    obtain ⟨hb, e⟩ := of_pinsAt hp
    rcases (by simpa using hb : p.1 = a ∨ p.1 = s.heap.objs.size) with z | z
    · rw [z] at e ⊢
      have e3 := k3 a ob hob
      rw [e3] at e
      cases e
      exact ⟨e3, pa.2.1, pa.2.2.1, pa.2.2.2.1, pa.2.2.2.2⟩
    · rw [z] at e ⊢
      rw [hS4] at e
      have e4 := Option.some.inj e
      rw [← e4]
      exact ⟨hS4, fo.1, fo.2.1, fo.2.2.1, fun v => by simp⟩
  refine wpAny_pure ⟨plainId_quiet F.plain_extend_loop _, ext_loopG (Y := Y) (W := W) (FinT := FinT) hh hroom hpn (Nat.ne_of_lt hlta) hSf fo.2.2.2.1 fo.2.2.2.2.1 keep (fun acc c H' s' pn I' hS' hz fin => ?_) n { s with heap := h3', toks := s.toks } #[] c3 ⟨ob, nm, qn, k3 a ob hob, rob⟩ hS4 (Nat.zero_le _) (idle _ rfl) ⟨n, Nat.le_refl _, 0, H, Y2, keep _ _ _ st fun b _ o e => k3 b o e, nf, w0 _ (itemsOf_at hS4)⟩⟩
  show wpAny _ A (load s.heap.objs.size >>= _) _ _ s'
  refine wpAny_bind (wpAny_load hS' ?_)
  exact wpAny_pure (hQ s' acc.toList H' pn I' (by simpa using hz) fin)
end
section
variable {X : Cx} {pins : List (Addr × Obj)} {σ : L2.St} {H : Hp} {s : Shared} {elt tg iter : Expr} {ifs : List Expr} {scope : Scope} {gpos : Pos} {own : List (Str × Nat)} {wi : TI} {c P : Addr}
def tTupG (P : Addr) (wi : TI) (g : TG) (tt : TT) (te : TE) (vs : List Nat) : TE := fun σ H Q => wi σ H fun J H1 => TabG H1 P ∧ ∀ H2, Tabbed P H1 H2 → ∀ S : Addr, ∃ W : List Value → Nat → Nat → Hp → Prop, (∃ m, W [] 0 m H2) ∧
  Turns J g tt te vs (wipe σ vs) (fun h H => ∃ accV, Vals accV (itemsOf S h) ∧ ∀ p, H p = none → Q (.ref p) (upd H p (.tup accV))) (ycTup S) fun h => W (itemsOf S h)
theorem pe_tupG {p pos : Pos} {g : TG} {tt : TT} {te : TE} {k : Nat} (hr : Room (k + 1) X.A) (hc : X.calm = true) (hN : X.N.Nodup) (hm : X.mg "tuple" = none) (TB : TabB X.base X.mg c P) (hcode : X.env.code = .ref c) (hi : PI X tg iter wi) (ok : BlkOk X.N X.env.scope scope own) (hcell : ∀ y ∈ scope.names, y.2 ≠ .cell) (hco : scope.isCoroutine = false) (h0 : scope.names.lookup (".0" : Str) = some NameKind.local)
    (hgn : ∀ (A' : Around) (s : Shared) (H : Hp) (cl : List (Str × Addr)) (C : Addr) (code : Value) (fp : List Addr), Room k A' → PG (genCx X A' s H (genEnv scope cl C code builtinsNs X.env) fp) tg g)
    (ht : ∀ (A' : Around) (s : Shared) (H : Hp) (cl : List (Str × Addr)) (C : Addr) (code : Value) (fp : List Addr), Room k A' → PTs (genCx X A' s H (genEnv scope cl C code builtinsNs X.env) fp) ifs tt)
    (hel : ∀ (A' : Around) (s : Shared) (H : Hp) (cl : List (Str × Addr)) (C : Addr) (code : Value) (fp : List Addr), Room k A' → PE (genCx X A' s H (genEnv scope cl C code builtinsNs X.env) fp) elt te)
    (hg : Gl X "tuple" := by rfl) (hv : bootBuiltins "tuple" = some (.type "tuple") := by decide +kernel)
    (hs : ∀ v, genFold iter X.env v = pure v := by intro _; rfl)
    (he : starEach [GE elt tg iter ifs scope gpos] X.env = (false, eval (GE elt tg iter ifs scope gpos) X.env) :: starEach [] X.env := by rfl) :
    PE X (.Call (.Name "tuple" p) [GE elt tg iter ifs scope gpos] [] pos) (tTupG P wi g tt te (own.map (·.2))) := by
  refine ⟨fun pins s σ H Q I h => ?_⟩
  refine wpAny_Call_Name_kw (ld_blt I hg hm hv ?_ (by decide) (by decide))
  refine PyProof.Rows.callWith_type1 ?_ he rfl
  rw [he]
  show wpAny _ _ (spliced ((false, eval (GE elt tg iter ifs scope gpos) X.env) :: backTo pos (starEach [] X.env))) _ _ s
  refine Calls.spliced_cons (gen_make hr hN TB hcode hi ok hcell hco h0 hs I h fun J H1 H2 it fp tn s4 cl C code a g s5 hR tab T st nf hafp start back gty hgs => Calls.spliced_nil ?_)
  generalize hce : genEnv scope cl C code builtinsNs X.env = ce at *
  have hsc : ce.scope = scope := by subst hce; rfl
  have hrA : Room k (X.A.in1.in1.in1.in1.over (.compLoop (GE elt tg iter ifs scope gpos) 0 (.ref it) .none ce) []) := by
    refine ⟨hr.hd, ?_, ?_⟩
    · have := hr.dp
      show X.A.depth + 1 + 3 * k + 5 < _
      omega
    · have := hr.un
      have hu : (X.A.in1.in1.in1.in1.over (.compLoop (GE elt tg iter ifs scope gpos) 0 (.ref it) .none ce) []).units ≤ X.A.in1.in1.in1.in1.units + 3 := Nat.le_of_eq rfl
      have hu2 : X.A.in1.in1.in1.in1.units ≤ X.A.units + 4 := Nat.le_of_eq rfl
      omega
  have Y0 := start (X.A.in1.in1.in1.in1.over (.compLoop (GE elt tg iter ifs scope gpos) 0 (.ref it) .none ce) []) hr.hd (by
    show pushEnvs (Code.envs (.compLoop (GE elt tg iter ifs scope gpos) 0 (.ref it) .none ce)) (pushEnvs (envsOf ([] : List (Code × Pos))) X.A.frames) = _
    rw [I.ok.frames]
    rfl)
  have pg := hgn (X.A.in1.in1.in1.in1.over (.compLoop (GE elt tg iter ifs scope gpos) 0 (.ref it) .none ce) []) s4 H2 cl C code fp hrA
  have pt := ht (X.A.in1.in1.in1.in1.over (.compLoop (GE elt tg iter ifs scope gpos) 0 (.ref it) .none ce) []) s4 H2 cl C code fp hrA
  have pe := hel (X.A.in1.in1.in1.in1.over (.compLoop (GE elt tg iter ifs scope gpos) 0 (.ref it) .none ce) []) s4 H2 cl C code fp hrA
  rw [hce] at pg pt pe
  obtain ⟨W, ⟨m0, w0⟩, tu⟩ := hR H2 tab s5.heap.objs.size
  have hfp : ∀ b ∈ fp, b < s5.heap.objs.size := fun b hb => by
    obtain ⟨o, e, _⟩ := T.obj _ _ st b hb
    exact Heap.lt_size e
  have col : ∀ {Q2 : List Value → Shared → Prop} {E2 : Value → Shared → Prop}, (∀ s' (acc : List Value) H' pn, Inv (genCx X (X.A.in1.in1.in1.in1.over (.compLoop (GE elt tg iter ifs scope gpos) 0 (.ref it) .none ce) []) s4 H2 ce fp) pn (wipe σ (own.map (·.2))) H' s' → acc.length ≤ sizeLine → (∃ accV, Vals accV acc ∧ ∀ p, H' p = none → Q (.ref p) (upd H' p (.tup accV))) → Q2 acc s') → wpAny (model X.prog X.w) X.A.in1.in1 (collect (.ref a)) Q2 E2 s5 := fun {Q2 E2} hQ =>
    collectG (Y := genCx X (X.A.in1.in1.in1.in1.over (.compLoop (GE elt tg iter ifs scope gpos) 0 (.ref it) .none ce) []) s4 H2 ce fp) (A := X.A.in1.in1) (W := fun h => W (itemsOf s5.heap.objs.size h)) (FinT := fun acc H' => ∃ accV, Vals accV acc ∧ ∀ p, H' p = none → Q (.ref p) (upd H' p (.tup accV))) hr.hd (by have := hr.dp; show X.A.depth < _; omega) rfl gty Y0 st nf hfp T.keep (fun h e => by rw [e]; exact w0) (fun s2 e2 => ⟨_, by rw [e2]; exact hgs, fun s'' z'' ⟨m', hm', core''⟩ =>
      gen_fresh (Y := genCx X (X.A.in1.in1.in1.in1.over (.compLoop (GE elt tg iter ifs scope gpos) 0 (.ref it) .none ce) []) s4 H2 ce fp) (ps := [a, s5.heap.objs.size]) T pg pt pe tu hc rfl rfl rfl (by show ce.scope.isCoroutine = _; rw [hsc]; exact hco) (fun b hb hba => by
        rcases (by simpa using hba : b = a ∨ b = s5.heap.objs.size) with z | z
        · exact hafp (z ▸ hb)
        · exact Nat.lt_irrefl _ (z ▸ hfp b hb)) rfl (wipe_idem _ _) m0 m' hm' s'' core'' z''⟩) hQ
  refine callType_codes (Q₁ := fun obj s₁ => s₁.TypeIs obj "tuple" ∧ EP X pins σ Q obj s₁) F.called_tuple (F.typeCall_tuple_1 _) F.entry_object_init ?_ fun obj s₁ h₁ => ?_
  · refine codeAny_of_tree ?_
    show wpAny _ X.A.in1.in1 (do checkBuiltinCall "tuple.__new__" ⟨[.type "tuple", .ref a], []⟩; again (.builtin "tuple.__new__" ⟨[.type "tuple", .ref a], []⟩)) _ _ s5
    refine wpAny_bind (wpAny_of_eq (F.newCall_tuple_1 _) (wpAny_pure ⟨plainId_quiet F.plain_tuple_new _, codeAny_builtin F.entry_tuple_new ?_⟩))
    rw [Around.under_plainId F.plain_tuple_new _]
    have hsub := sub_tuple_self
    have hinit := init_tuple_lookup
    have hmh := madeHere_tuple
    have hTI : s5.TypeIs (.ref a) "generator" := gty.typeIs
    wp_walk using wpAny_typeOf hTI, col
    intro s' acc H' pn I' hz ⟨accV, hv, hq⟩
    show wpAny _ _ (Builtin.Tuple.tupleExact acc.toArray >>= fun v => ret v) _ _ _
    unfold Builtin.Tuple.tupleExact
    refine wpAny_bind (wpAny_newObj_type ?_ (by show acc.toArray.size ≤ sizeLine; simpa using hz))
    refine wpAny_pure ?_
    have I2 := back _ _ _ _ _ I'
    have fr : H' s'.heap.objs.size = none := I2.hok.fresh (Nat.le_refl _)
    refine ⟨⟨_, Heap.get?_push_size _ rfl, rfl⟩, .ref s'.heap.objs.size, upd H' s'.heap.objs.size (.tup accV), I2.laid (t' := s'.toks) (fun b u e => Heap.get?_push_of_some _ e) (Nat.le_refl _) ?_, rfl, hq _ fr⟩
    exact ⟨by rw [hv.length]; exact hz, acc, hv, ⟨_, Heap.get?_push_size _ rfl, rfl, _, rfl⟩⟩
  · exact ⟨h₁.1, F.args_object_init_2 obj _, object_init_meets F.called_tuple.init.lookup F.called_tuple.made (by decide) X.prog X.w X.A.in1 _ s₁ ⟨h₁.1, rfl, h₁.2⟩⟩
end
end Act
namespace Act
variable [GT]
open PySem PySem.Spec PyProof.Rows L2
open GxR (TabB TabG Tabbed)
/-! ## all(elt for target in what ..): whatever target, tests, item -/
def allF (g : DG) (t : DT) (fe : DE) (ρ : Rho) (Q : D → Prop) : List D → Prop
  | [] => Q (.bl true)
  | d :: ds => g d ρ fun ρ2 => t ρ2 (fun b => if b = true then fe ρ2 (fun y => ∃ c, y = .bl c ∧ if c = true then allF g t fe ρ Q ds else Q (.bl false)) (fun _ => False) else allF g t fe ρ Q ds) (fun _ => False)
def eAllG (fi : DI) (g : DG) (t : DT) (fe : DE) (vs : List Nat) : DE := fun ρ Q E => fi ρ (fun ds => allF g t fe (wipeR ρ vs) Q ds) E
theorem allF_true {g : DG} {t : DT} {fe : DE} {ρ : Rho} {Q : D → Prop} : ∀ {ds : List D}, (∀ d ∈ ds, ∀ F : Prop, F → g d ρ fun ρ2 => t ρ2 (fun b => if b = true then fe ρ2 (fun y => ∃ c, y = .bl c ∧ if c = true then F else Q (.bl false)) (fun _ => False) else F) (fun _ => False)) → Q (.bl true) → allF g t fe ρ Q ds
  | [], _, hq => hq
  | d :: ds, h, hq => h d List.mem_cons_self _ (allF_true (fun e he => h e (List.mem_cons_of_mem _ he)) hq)
section
variable {X : Cx} {z : Zx} {m ma mb mc : Mo} {e ea eb ec : Expr} {f fa fb fc : DE} {pos : Pos} {t : DT} {c P : Addr}
theorem all_of {K : PySem.W.Frag} {mg : Str → Option Value} {W : WX} {fi : DI} {gt : DG} {fe : DE} {ws vs : List Nat} {σ : L2.St} {H : Hp} {R : VK} (hT : P ∈ z.T) (hgt : GT.q P = none) (hws : ∀ i ∈ ws, i ∈ vs) (h : teG K mg z W .d (eAllG fi gt t fe vs) σ H R) :
    tAllG P (tiG K mg z W fi) (tgG K z ws gt) (ttG K mg z W0 t) (teG K mg z W0 .d fe) vs σ H R := by
  obtain ⟨F0, H0, ρ, F, Q, E, rs, hf, hq, hx⟩ := h
  refine ⟨F0, H0, ρ, F, _, E, rs, hf, (fun ds J F1 H1 q1 e1 it => ⟨((rs.step e1).tabs _ hT).g hgt, fun H2 hTb => ?_⟩), hx⟩
  have rs1 := rs.step e1
  have e2 := le_ext (K := K) (z := z) rs1.nt rs1.sub (le_tabbed hgt ((rs1.tabs _ hT).g hgt) hTb)
  have rs2 := rs1.step e2
  refine ⟨fun i m H' => ∃ F', Ext K z F1 H2 F' H' ∧ i ≤ ds.length ∧ m = ds.length - i ∧ allF gt t fe (wipeR ρ vs) Q (ds.drop i), ⟨ds.length, F1, Ext.refl rs2.sub, Nat.zero_le _, rfl, q1⟩, ?_⟩
  rintro _ i m H' ⟨F', e3, hi, rfl, hF⟩
  have rs3 := rs2.step e3
  obtain ⟨i1, i2⟩ := it i F' H' e3.ff e3.fh rs3.rf
  by_cases c : i < ds.length
  · right
    obtain ⟨hgo, hy⟩ := i1 ds[i] (List.getElem?_eq_getElem c)
    rw [List.drop_eq_getElem_cons c] at hF
    refine ⟨hgo, by omega, fun _ H4 => ∃ F', Ext K z F1 H2 F' H4 ∧ allF gt t fe (wipeR ρ vs) Q (ds.drop (i + 1)), fun _ H4 ⟨F4, a1, a2⟩ => ⟨ds.length - (i + 1), by omega, F4, a1, c, rfl, a2⟩, fun x H'' y => ?_⟩
    obtain ⟨F'', e4, r4⟩ := hy x H'' y
    refine ⟨F0, H0, wipeR ρ vs, F'', ds[i], _, (rs3.step e4).wipe, r4, hF, fun ρ5 σ5 q5 rs5 wr => ⟨?_, F0, H0, ρ5, F'', _, _, rs5, q5, (fun b F6 H6 q6 e6 => ?_), xw0⟩⟩
    · rw [wr vs hws]
      exact wipe_idem σ vs
    · have e46 := e4.trans e6
      cases b with
      | false => exact ⟨F6, e3.trans e46, q6⟩
      | true =>
        refine ⟨F0, H0, ρ5, F6, _, _, rs5.step e6, q6, (fun y v F7 H7 q7 e7 r7 => ?_), xw0⟩
        obtain ⟨cb, rfl, q7⟩ := q7
        have r7 : Rep K F7 (.bl cb) v := r7
        have rv : v = .bl cb := Rep.bl_iff.mp r7
        have e37 := e3.trans (e46.trans e7)
        refine ⟨cb, rv, ?_⟩
        cases cb with
        | true => exact fun _ => ⟨F7, e37, q7⟩
        | false => exact hq _ _ F7 H7 q7 (e1.trans (e2.trans e37)) (resD rep_bl)
  · left
    have e : i = ds.length := by omega
    subst e
    rw [List.drop_length] at hF
    exact ⟨i2 (Nat.le_refl _), hq _ _ F' H' hF (e1.trans (e2.trans e3)) (resD rep_bl)⟩
theorem d_allG {elt tg : Expr} {ifs : List Expr} {scope : Scope} {own : List (Str × Nat)} {fi : DI} {gt : DG} {fe : DE} {ws : List Nat} {k : Nat} {p gpos : Pos} (hr : Room (k + 1) X.A) (hc : X.calm = true) (nd : X.N.Nodup) (hm : X.mg "all" = none) (TB : TabB X.base X.mg c P) (hT : P ∈ z.T) (hgt : GT.q P = none) (hcode : X.env.code = .ref c) (hi : PID X z tg ea fi) (hb : BlkOk X.N X.env.scope scope own)
    (ht : ∀ A' s H cl C code fp, Room k A' → PGD (genCx X A' s H (genEnv scope cl C code builtinsNs X.env) fp) z ws tg gt) (hif : ∀ A' s H cl C code fp, Room k A' → PTs (genCx X A' s H (genEnv scope cl C code builtinsNs X.env) fp) ifs (ttG X.K X.mg z W0 t))
    (hel : ∀ A' s H cl C code fp, Room k A' → PD (genCx X A' s H (genEnv scope cl C code builtinsNs X.env) fp) z .d elt fe) (hws : ∀ i ∈ ws, i ∈ own.map (·.2) := by decide) (hcell : ∀ y ∈ scope.names, y.2 ≠ .cell := by decide) (hco : scope.isCoroutine = false := by rfl) (h0 : scope.names.lookup (".0" : Str) = some NameKind.local := by rfl)
    (hg : Gl X "all" := by rfl) (hs : ∀ v, genFold ea X.env v = pure v := by intro _; rfl)
    (he : starEach [GE elt tg ea ifs scope gpos] X.env = (false, eval (GE elt tg ea ifs scope gpos) X.env) :: starEach [] X.env := by rfl) :
    PD X z .d (.Call (.Name "all" p) [.GeneratorExp elt [⟨tg, ea, ifs, 0⟩] scope gpos] [] pos) (eAllG fi gt t fe (own.map (·.2))) := fun W tk =>
  peW (pe_allG (g := tgG X.K z ws gt) hr hc nd hm TB hcode (hi W tk) hb hcell hco h0 (fun A' s H cl C code fp h => ht A' s H cl C code fp h) hif (fun A' s H cl C code fp h => hel A' s H cl C code fp h W0 takes0) hg (by decide +kernel) hs he) fun σ H R h => all_of hT hgt hws h
end
end Act
namespace Act
variable [GT]
open PySem PySem.Spec PyProof.Rows L2
open GxR (TabB TabG Tabbed)
/-! ## any(elt for target in what ..): whatever target, tests, item -/
def anyF (g : DG) (t : DT) (fe : DE) (ρ : Rho) (Q : D → Prop) : List D → Prop
  | [] => Q (.bl false)
  | d :: ds => g d ρ fun ρ2 => t ρ2 (fun b => if b = true then fe ρ2 (fun y => ∃ c, y = .bl c ∧ if c = true then Q (.bl true) else anyF g t fe ρ Q ds) (fun _ => False) else anyF g t fe ρ Q ds) (fun _ => False)
def eAnyG (fi : DI) (g : DG) (t : DT) (fe : DE) (vs : List Nat) : DE := fun ρ Q E => fi ρ (fun ds => anyF g t fe (wipeR ρ vs) Q ds) E
theorem anyF_false {g : DG} {t : DT} {fe : DE} {ρ : Rho} {Q : D → Prop} : ∀ {ds : List D}, (∀ d ∈ ds, ∀ F : Prop, F → g d ρ fun ρ2 => t ρ2 (fun b => if b = true then fe ρ2 (fun y => ∃ c, y = .bl c ∧ if c = true then Q (.bl true) else F) (fun _ => False) else F) (fun _ => False)) → Q (.bl false) → anyF g t fe ρ Q ds
  | [], _, hq => hq
  | d :: ds, h, hq => h d List.mem_cons_self _ (anyF_false (fun e he => h e (List.mem_cons_of_mem _ he)) hq)
section
variable {X : Cx} {z : Zx} {m ma mb mc : Mo} {e ea eb ec : Expr} {f fa fb fc : DE} {pos : Pos} {t : DT} {c P : Addr}
theorem any_of {K : PySem.W.Frag} {mg : Str → Option Value} {W : WX} {fi : DI} {gt : DG} {fe : DE} {ws vs : List Nat} {σ : L2.St} {H : Hp} {R : VK} (hT : P ∈ z.T) (hgt : GT.q P = none) (hws : ∀ i ∈ ws, i ∈ vs) (h : teG K mg z W .d (eAnyG fi gt t fe vs) σ H R) :
    tAnyG P (tiG K mg z W fi) (tgG K z ws gt) (ttG K mg z W0 t) (teG K mg z W0 .d fe) vs σ H R := by
  obtain ⟨F0, H0, ρ, F, Q, E, rs, hf, hq, hx⟩ := h
  refine ⟨F0, H0, ρ, F, _, E, rs, hf, (fun ds J F1 H1 q1 e1 it => ⟨((rs.step e1).tabs _ hT).g hgt, fun H2 hTb => ?_⟩), hx⟩
  have rs1 := rs.step e1
  have e2 := le_ext (K := K) (z := z) rs1.nt rs1.sub (le_tabbed hgt ((rs1.tabs _ hT).g hgt) hTb)
  have rs2 := rs1.step e2
  refine ⟨fun i m H' => ∃ F', Ext K z F1 H2 F' H' ∧ i ≤ ds.length ∧ m = ds.length - i ∧ anyF gt t fe (wipeR ρ vs) Q (ds.drop i), ⟨ds.length, F1, Ext.refl rs2.sub, Nat.zero_le _, rfl, q1⟩, ?_⟩
  rintro _ i m H' ⟨F', e3, hi, rfl, hF⟩
  have rs3 := rs2.step e3
  obtain ⟨i1, i2⟩ := it i F' H' e3.ff e3.fh rs3.rf
  by_cases c : i < ds.length
  · right
    obtain ⟨hgo, hy⟩ := i1 ds[i] (List.getElem?_eq_getElem c)
    rw [List.drop_eq_getElem_cons c] at hF
    refine ⟨hgo, by omega, fun _ H4 => ∃ F', Ext K z F1 H2 F' H4 ∧ anyF gt t fe (wipeR ρ vs) Q (ds.drop (i + 1)), fun _ H4 ⟨F4, a1, a2⟩ => ⟨ds.length - (i + 1), by omega, F4, a1, c, rfl, a2⟩, fun x H'' y => ?_⟩
    obtain ⟨F'', e4, r4⟩ := hy x H'' y
    refine ⟨F0, H0, wipeR ρ vs, F'', ds[i], _, (rs3.step e4).wipe, r4, hF, fun ρ5 σ5 q5 rs5 wr => ⟨?_, F0, H0, ρ5, F'', _, _, rs5, q5, (fun b F6 H6 q6 e6 => ?_), xw0⟩⟩
    · rw [wr vs hws]
      exact wipe_idem σ vs
    · have e46 := e4.trans e6
      cases b with
      | false => exact ⟨F6, e3.trans e46, q6⟩
      | true =>
        refine ⟨F0, H0, ρ5, F6, _, _, rs5.step e6, q6, (fun y v F7 H7 q7 e7 r7 => ?_), xw0⟩
        obtain ⟨cb, rfl, q7⟩ := q7
        have r7 : Rep K F7 (.bl cb) v := r7
        have rv : v = .bl cb := Rep.bl_iff.mp r7
        have e37 := e3.trans (e46.trans e7)
        refine ⟨cb, rv, ?_⟩
        cases cb with
        | false => exact fun _ => ⟨F7, e37, q7⟩
        | true => exact hq _ _ F7 H7 q7 (e1.trans (e2.trans e37)) (resD rep_bl)
  · left
    have e : i = ds.length := by omega
    subst e
    rw [List.drop_length] at hF
    exact ⟨i2 (Nat.le_refl _), hq _ _ F' H' hF (e1.trans (e2.trans e3)) (resD rep_bl)⟩
theorem d_anyG {elt tg : Expr} {ifs : List Expr} {scope : Scope} {own : List (Str × Nat)} {fi : DI} {gt : DG} {fe : DE} {ws : List Nat} {k : Nat} {p gpos : Pos} (hr : Room (k + 1) X.A) (hc : X.calm = true) (nd : X.N.Nodup) (hm : X.mg "any" = none) (TB : TabB X.base X.mg c P) (hT : P ∈ z.T) (hgt : GT.q P = none) (hcode : X.env.code = .ref c) (hi : PID X z tg ea fi) (hb : BlkOk X.N X.env.scope scope own)
    (ht : ∀ A' s H cl C code fp, Room k A' → PGD (genCx X A' s H (genEnv scope cl C code builtinsNs X.env) fp) z ws tg gt) (hif : ∀ A' s H cl C code fp, Room k A' → PTs (genCx X A' s H (genEnv scope cl C code builtinsNs X.env) fp) ifs (ttG X.K X.mg z W0 t))
    (hel : ∀ A' s H cl C code fp, Room k A' → PD (genCx X A' s H (genEnv scope cl C code builtinsNs X.env) fp) z .d elt fe) (hws : ∀ i ∈ ws, i ∈ own.map (·.2) := by decide) (hcell : ∀ y ∈ scope.names, y.2 ≠ .cell := by decide) (hco : scope.isCoroutine = false := by rfl) (h0 : scope.names.lookup (".0" : Str) = some NameKind.local := by rfl)
    (hg : Gl X "any" := by rfl) (hs : ∀ v, genFold ea X.env v = pure v := by intro _; rfl)
    (he : starEach [GE elt tg ea ifs scope gpos] X.env = (false, eval (GE elt tg ea ifs scope gpos) X.env) :: starEach [] X.env := by rfl) :
    PD X z .d (.Call (.Name "any" p) [.GeneratorExp elt [⟨tg, ea, ifs, 0⟩] scope gpos] [] pos) (eAnyG fi gt t fe (own.map (·.2))) := fun W tk =>
  peW (pe_anyG (g := tgG X.K z ws gt) hr hc nd hm TB hcode (hi W tk) hb hcell hco h0 (fun A' s H cl C code fp h => ht A' s H cl C code fp h) hif (fun A' s H cl C code fp h => hel A' s H cl C code fp h W0 takes0) hg (by decide +kernel) hs he) fun σ H R h => any_of hT hgt hws h
end
end Act
namespace Act
variable [GT]
open PySem PySem.Spec PyProof.Rows L2
open GxR (TabB TabG Tabbed)
/-! ## sum(elt for target in what ..): integers -/
def sumF (g : DG) (t : DT) (fe : DE) (ρ : Rho) (Q : D → Prop) : List D → Int → Prop
  | [], acc => Q (.int acc)
  | d :: ds, acc => g d ρ fun ρ2 => t ρ2 (fun b => if b = true then fe ρ2 (fun y => ∃ n, y = .int n ∧ In63 n ∧ In63 (acc + n) ∧ sumF g t fe ρ Q ds (acc + n)) (fun _ => False) else sumF g t fe ρ Q ds acc) (fun _ => False)
def eSumG (fi : DI) (g : DG) (t : DT) (fe : DE) (vs : List Nat) : DE := fun ρ Q E => fi ρ (fun ds => sumF g t fe (wipeR ρ vs) Q ds 0) E
section
variable {X : Cx} {z : Zx} {m ma mb mc : Mo} {e ea eb ec : Expr} {f fa fb fc : DE} {pos : Pos} {t : DT} {c P : Addr}
theorem sum_of {K : PySem.W.Frag} {mg : Str → Option Value} {W : WX} {fi : DI} {gt : DG} {fe : DE} {ws vs : List Nat} {σ : L2.St} {H : Hp} {R : VK} (hT : P ∈ z.T) (hgt : GT.q P = none) (hws : ∀ i ∈ ws, i ∈ vs) (h : teG K mg z W .d (eSumG fi gt t fe vs) σ H R) :
    tSumG P (tiG K mg z W fi) (tgG K z ws gt) (ttG K mg z W0 t) (teG K mg z W0 .d fe) vs σ H R := by
  obtain ⟨F0, H0, ρ, F, Q, E, rs, hf, hq, hx⟩ := h
  refine ⟨F0, H0, ρ, F, _, E, rs, hf, (fun ds J F1 H1 q1 e1 it => ⟨((rs.step e1).tabs _ hT).g hgt, fun H2 hTb S => ?_⟩), hx⟩
  have rs1 := rs.step e1
  have e2 := le_ext (K := K) (z := z) rs1.nt rs1.sub (le_tabbed hgt ((rs1.tabs _ hT).g hgt) hTb)
  have rs2 := rs1.step e2
  refine ⟨fun acc i m H' => ∃ F', Ext K z F1 H2 F' H' ∧ i ≤ ds.length ∧ m = ds.length - i ∧ sumF gt t fe (wipeR ρ vs) Q (ds.drop i) acc, ⟨ds.length, F1, Ext.refl rs2.sub, Nat.zero_le _, rfl, q1⟩, ?_⟩
  rintro h i m H' ⟨F', e3, hi, rfl, hF⟩
  have rs3 := rs2.step e3
  obtain ⟨i1, i2⟩ := it i F' H' e3.ff e3.fh rs3.rf
  by_cases c : i < ds.length
  · right
    obtain ⟨hgo, hy⟩ := i1 ds[i] (List.getElem?_eq_getElem c)
    rw [List.drop_eq_getElem_cons c] at hF
    refine ⟨hgo, by omega, fun h' H4 => ∃ F', Ext K z F1 H2 F' H4 ∧ sumF gt t fe (wipeR ρ vs) Q (ds.drop (i + 1)) (accOf S h'), fun h' H4 ⟨F4, a1, a2⟩ => ⟨ds.length - (i + 1), by omega, F4, a1, c, rfl, a2⟩, fun x H'' y => ?_⟩
    obtain ⟨F'', e4, r4⟩ := hy x H'' y
    refine ⟨F0, H0, wipeR ρ vs, F'', ds[i], _, (rs3.step e4).wipe, r4, hF, fun ρ5 σ5 q5 rs5 wr => ⟨?_, F0, H0, ρ5, F'', _, _, rs5, q5, (fun b F6 H6 q6 e6 => ?_), xw0⟩⟩
    · rw [wr vs hws]
      exact wipe_idem σ vs
    · have e46 := e4.trans e6
      cases b with
      | false => exact ⟨F6, e3.trans e46, q6⟩
      | true =>
        refine ⟨F0, H0, ρ5, F6, _, _, rs5.step e6, q6, (fun y v F7 H7 q7 e7 r7 => ?_), xw0⟩
        obtain ⟨n, rfl, b1, b2, q7⟩ := q7
        have r7 : Rep K F7 (.int n) v := r7
        have rv : v = .int n := Rep.int_iff.mp r7
        have e37 := e3.trans (e46.trans e7)
        exact ⟨n, rv, b1, b2, fun h' eh => ⟨F7, e37, by rw [eh]; exact q7⟩⟩
  · left
    have e : i = ds.length := by omega
    subst e
    rw [List.drop_length] at hF
    exact ⟨i2 (Nat.le_refl _), hq _ _ F' H' hF (e1.trans (e2.trans e3)) (resD rep_int)⟩
theorem d_sumG {elt tg : Expr} {ifs : List Expr} {scope : Scope} {own : List (Str × Nat)} {fi : DI} {gt : DG} {fe : DE} {ws : List Nat} {k : Nat} {p gpos : Pos} (hr : Room (k + 1) X.A) (hc : X.calm = true) (nd : X.N.Nodup) (hm : X.mg "sum" = none) (TB : TabB X.base X.mg c P) (hT : P ∈ z.T) (hgt : GT.q P = none) (hcode : X.env.code = .ref c) (hi : PID X z tg ea fi) (hb : BlkOk X.N X.env.scope scope own)
    (ht : ∀ A' s H cl C code fp, Room k A' → PGD (genCx X A' s H (genEnv scope cl C code builtinsNs X.env) fp) z ws tg gt) (hif : ∀ A' s H cl C code fp, Room k A' → PTs (genCx X A' s H (genEnv scope cl C code builtinsNs X.env) fp) ifs (ttG X.K X.mg z W0 t))
    (hel : ∀ A' s H cl C code fp, Room k A' → PD (genCx X A' s H (genEnv scope cl C code builtinsNs X.env) fp) z .d elt fe) (hws : ∀ i ∈ ws, i ∈ own.map (·.2) := by decide) (hcell : ∀ y ∈ scope.names, y.2 ≠ .cell := by decide) (hco : scope.isCoroutine = false := by rfl) (h0 : scope.names.lookup (".0" : Str) = some NameKind.local := by rfl)
    (hg : Gl X "sum" := by rfl) (hs : ∀ v, genFold ea X.env v = pure v := by intro _; rfl)
    (he : starEach [GE elt tg ea ifs scope gpos] X.env = (false, eval (GE elt tg ea ifs scope gpos) X.env) :: starEach [] X.env := by rfl) :
    PD X z .d (.Call (.Name "sum" p) [.GeneratorExp elt [⟨tg, ea, ifs, 0⟩] scope gpos] [] pos) (eSumG fi gt t fe (own.map (·.2))) := fun W tk =>
  peW (pe_sumG (g := tgG X.K z ws gt) hr hc nd hm TB hcode (hi W tk) hb hcell hco h0 (fun A' s H cl C code fp h => ht A' s H cl C code fp h) hif (fun A' s H cl C code fp h => hel A' s H cl C code fp h W0 takes0) hg (by decide +kernel) hs he) fun σ H R h => sum_of hT hgt hws h
end
/-- the sum of those that pass -/
theorem sumF_filt {α : Type} {g : DG} {t : DT} {fe : DE} {ρ : Rho} {Q : D → Prop} (cv : α → D) (p : α → Bool) (f : α → Int) (B : Int) (hB : 0 ≤ B) : ∀ (xs : List α) (acc : Int), 0 ≤ acc → acc + B * xs.length ≤ 2 ^ 60 → (∀ x ∈ xs, p x = true → 0 ≤ f x ∧ f x ≤ B) →
    (∀ x ∈ xs, ∀ (F : Int → Prop) (acc : Int), 0 ≤ acc → acc + B ≤ 2 ^ 60 → F (if p x = true then acc + f x else acc) → g (cv x) ρ fun ρ2 => t ρ2 (fun b => if b = true then fe ρ2 (fun y => ∃ n, y = .int n ∧ In63 n ∧ In63 (acc + n) ∧ F (acc + n)) (fun _ => False) else F acc) (fun _ => False)) →
    Q (.int (acc + ((xs.filter p).map f).sum)) → sumF g t fe ρ Q (xs.map cv) acc
  | [], acc, _, _, _, _, hq => by
    have e : acc + ((([] : List α).filter p).map f).sum = acc := by simp
    rw [e] at hq
    exact hq
  | x :: xs, acc, ha, hl, hf, hs, hq => by
    have hlen : B * ((x :: xs).length : Int) = B * (xs.length : Int) + B := by rw [List.length_cons, Int.natCast_add, Int.mul_add]; simp
    have hnn : 0 ≤ B * (xs.length : Int) := Int.mul_nonneg hB (by omega)
    refine hs x List.mem_cons_self (fun acc => sumF g t fe ρ Q (xs.map cv) acc) acc ha (by omega) ?_
    by_cases c : p x = true
    · rw [if_pos c]
      have hx := hf x List.mem_cons_self c
      refine sumF_filt cv p f B hB xs (acc + f x) (by omega) (by omega) (fun y hy => hf y (List.mem_cons_of_mem _ hy)) (fun y hy => hs y (List.mem_cons_of_mem _ hy)) ?_
      rw [List.filter_cons_of_pos c, List.map_cons, List.sum_cons, ← Int.add_assoc] at hq
      exact hq
    · rw [if_neg c]
      refine sumF_filt cv p f B hB xs acc ha (by omega) (fun y hy => hf y (List.mem_cons_of_mem _ hy)) (fun y hy => hs y (List.mem_cons_of_mem _ hy)) ?_
      rw [List.filter_cons_of_neg c] at hq
      exact hq
end Act
namespace Act
variable [GT]
open PySem PySem.Spec PyProof.Rows L2
open GxR (TabB TabG Tabbed)
/-! ## tuple(elt for target in what ..) -/
def tupF (g : DG) (t : DT) (fe : DE) (ρ : Rho) (Q : D → Prop) : List D → List D → Prop
  | [], acc => Q (.tup acc)
  | d :: ds, acc => g d ρ fun ρ2 => t ρ2 (fun b => if b = true then fe ρ2 (fun y => acc.length ≤ cap ∧ tupF g t fe ρ Q ds (acc ++ [y])) (fun _ => False) else tupF g t fe ρ Q ds acc) (fun _ => False)
def eTupG (fi : DI) (g : DG) (t : DT) (fe : DE) (vs : List Nat) : DE := fun ρ Q E => fi ρ (fun ds => tupF g t fe (wipeR ρ vs) Q ds []) E
section
variable {X : Cx} {z : Zx} {m ma mb mc : Mo} {e ea eb ec : Expr} {f fa fb fc : DE} {pos : Pos} {t : DT} {c P : Addr}
theorem tupG_of {K : PySem.W.Frag} {mg : Str → Option Value} {W : WX} {fi : DI} {gt : DG} {fe : DE} {ws vs : List Nat} {σ : L2.St} {H : Hp} {R : VK} (hT : P ∈ z.T) (hgt : GT.q P = none) (hws : ∀ i ∈ ws, i ∈ vs) (h : teG K mg z W .d (eTupG fi gt t fe vs) σ H R) :
    tTupG P (tiG K mg z W fi) (tgG K z ws gt) (ttG K mg z W0 t) (teG K mg z W0 .d fe) vs σ H R := by
  obtain ⟨F0, H0, ρ, F, Q, E, rs, hf, hq, hx⟩ := h
  refine ⟨F0, H0, ρ, F, _, E, rs, hf, (fun ds J F1 H1 q1 e1 it => ⟨((rs.step e1).tabs _ hT).g hgt, fun H2 hTb S => ?_⟩), hx⟩
  have rs1 := rs.step e1
  have e2 := le_ext (K := K) (z := z) rs1.nt rs1.sub (le_tabbed hgt ((rs1.tabs _ hT).g hgt) hTb)
  have rs2 := rs1.step e2
  refine ⟨fun vl i m H' => ∃ F' acc xs, Ext K z F1 H2 F' H' ∧ Vals xs vl ∧ Reps K F' acc xs ∧ i ≤ ds.length ∧ m = ds.length - i ∧ tupF gt t fe (wipeR ρ vs) Q (ds.drop i) acc, ⟨ds.length, F1, [], [], Ext.refl rs2.sub, .nil, .nil, Nat.zero_le _, rfl, q1⟩, ?_⟩
  rintro h i m H' ⟨F', acc, xs, e3, hv, hr, hi, rfl, hF⟩
  have rs3 := rs2.step e3
  obtain ⟨i1, i2⟩ := it i F' H' e3.ff e3.fh rs3.rf
  by_cases c : i < ds.length
  · right
    obtain ⟨hgo, hy⟩ := i1 ds[i] (List.getElem?_eq_getElem c)
    rw [List.drop_eq_getElem_cons c] at hF
    refine ⟨hgo, by omega, fun h' H4 => ∃ F' acc xs, Ext K z F1 H2 F' H4 ∧ Vals xs (itemsOf S h') ∧ Reps K F' acc xs ∧ tupF gt t fe (wipeR ρ vs) Q (ds.drop (i + 1)) acc, fun h' H4 ⟨F4, acc4, xs4, a1, a2, a3, a4⟩ => ⟨ds.length - (i + 1), by omega, F4, acc4, xs4, a1, a2, a3, c, rfl, a4⟩, fun x H'' y => ?_⟩
    obtain ⟨F'', e4, r4⟩ := hy x H'' y
    refine ⟨F0, H0, wipeR ρ vs, F'', ds[i], _, (rs3.step e4).wipe, r4, hF, fun ρ5 σ5 q5 rs5 wr => ⟨?_, F0, H0, ρ5, F'', _, _, rs5, q5, (fun b F6 H6 q6 e6 => ?_), xw0⟩⟩
    · rw [wr vs hws]
      exact wipe_idem σ vs
    · have e46 := e4.trans e6
      cases b with
      | false => exact ⟨F6, acc, xs, e3.trans e46, hv, hr.up e46.ff, q6⟩
      | true =>
        refine ⟨F0, H0, ρ5, F6, _, _, rs5.step e6, q6, (fun y v F7 H7 q7 e7 r7 => ?_), xw0⟩
        have e37 := e3.trans (e46.trans e7)
        refine ⟨by rw [← hv.length, ← hr.len]; exact cap_lt q7.1, fun u h' ru eh => ⟨F7, acc ++ [y], xs ++ [v], e37, ?_, (hr.up (e46.trans e7).ff).app (.cons r7 .nil), q7.2⟩⟩
        rw [eh]
        exact hv.append (.cons ru .nil)
  · left
    have e : i = ds.length := by omega
    subst e
    rw [List.drop_length] at hF
    refine ⟨i2 (Nat.le_refl _), xs, hv, fun p np => ?_⟩
    have e5 := Ext.made (K := K) (z := z) (e1.trans (e2.trans e3)).fh (o := .tup xs) np
    exact hq _ _ _ _ hF ((e1.trans (e2.trans e3)).trans e5) (resD <| rep_tup ⟨p, xs, rfl, .inl upd_same, hr.up e5.ff⟩)
theorem d_tupG {elt tg : Expr} {ifs : List Expr} {scope : Scope} {own : List (Str × Nat)} {fi : DI} {gt : DG} {fe : DE} {ws : List Nat} {k : Nat} {p gpos : Pos} (hr : Room (k + 1) X.A) (hc : X.calm = true) (nd : X.N.Nodup) (hm : X.mg "tuple" = none) (TB : TabB X.base X.mg c P) (hT : P ∈ z.T) (hgt : GT.q P = none) (hcode : X.env.code = .ref c) (hi : PID X z tg ea fi) (hb : BlkOk X.N X.env.scope scope own)
    (ht : ∀ A' s H cl C code fp, Room k A' → PGD (genCx X A' s H (genEnv scope cl C code builtinsNs X.env) fp) z ws tg gt) (hif : ∀ A' s H cl C code fp, Room k A' → PTs (genCx X A' s H (genEnv scope cl C code builtinsNs X.env) fp) ifs (ttG X.K X.mg z W0 t))
    (hel : ∀ A' s H cl C code fp, Room k A' → PD (genCx X A' s H (genEnv scope cl C code builtinsNs X.env) fp) z .d elt fe) (hws : ∀ i ∈ ws, i ∈ own.map (·.2) := by decide) (hcell : ∀ y ∈ scope.names, y.2 ≠ .cell := by decide) (hco : scope.isCoroutine = false := by rfl) (h0 : scope.names.lookup (".0" : Str) = some NameKind.local := by rfl)
    (hg : Gl X "tuple" := by rfl) (hs : ∀ v, genFold ea X.env v = pure v := by intro _; rfl)
    (he : starEach [GE elt tg ea ifs scope gpos] X.env = (false, eval (GE elt tg ea ifs scope gpos) X.env) :: starEach [] X.env := by rfl) :
    PD X z .d (.Call (.Name "tuple" p) [.GeneratorExp elt [⟨tg, ea, ifs, 0⟩] scope gpos] [] pos) (eTupG fi gt t fe (own.map (·.2))) := fun W tk =>
  peW (pe_tupG (g := tgG X.K z ws gt) hr hc nd hm TB hcode (hi W tk) hb hcell hco h0 (fun A' s H cl C code fp h => ht A' s H cl C code fp h) hif (fun A' s H cl C code fp h => hel A' s H cl C code fp h W0 takes0) hg (by decide +kernel) hs he) fun σ H R h => tupG_of hT hgt hws h
end
/-- item by item -/
theorem tupF_map {g : DG} {fe : DE} {ρ : Rho} {Q : D → Prop} {ds : List D} (f : Nat → D) (hl : ds.length ≤ cap) (hs : ∀ (i : Nat) (d : D) (F : D → Prop), ds[i]? = some d → F (f i) → g d ρ fun ρ2 => fe ρ2 F (fun _ => False)) (hn : Q (.tup ((List.range ds.length).map f))) : tupF g tTrue fe ρ Q ds [] := by
  have go : ∀ (n i : Nat), n = ds.length - i → i ≤ ds.length → tupF g tTrue fe ρ Q (ds.drop i) ((List.range i).map f) := by
    intro n
    induction n with
    | zero =>
      intro i hni hi
      have e : i = ds.length := by omega
      subst e
      rw [List.drop_length]
      exact hn
    | succ n ih =>
      intro i hni hi
      have c : i < ds.length := by omega
      rw [List.drop_eq_getElem_cons c]
      have i2 := ih (i + 1) (by omega) c
      rw [List.range_succ, List.map_append] at i2
      have hx := hs i ds[i] (fun y => ((List.range i).map f).length ≤ cap ∧ tupF g tTrue fe ρ Q (ds.drop (i + 1)) ((List.range i).map f ++ [y])) (List.getElem?_eq_getElem c) ⟨by rw [List.length_map, List.length_range]; omega, i2⟩
      simp only [tupF, tTrue, if_true]
      exact hx
  exact go ds.length 0 (by omega) (Nat.zero_le _)
end Act
namespace Act
variable [GT]
open PySem PySem.Spec PyProof.Rows L2
/-! ## any of a tuple of integers -/
def rAnyT (K : PySem.W.Frag) : List V → Hp → VK → Prop := fun vs H Q => ∃ (a : Addr) (ns : List Int), vs = [V.ref a] ∧ SqT K H a (ns.map V.int) ∧ Q (.bl (ns.any fun i => i != 0)) H
def truI (v : V) : Bool := match v with | .int i => i != 0 | _ => false
section
variable {X : Cx} {z : Zx} {m ma mb mc : Mo} {e ea eb ec : Expr} {f fa fb fc : DE} {pos : Pos}
theorem cr_anyT (hc : X.calm = true) : CallR X (.builtin "any") (rAnyT X.K) := by
  intro pins s σ H vs us Q I r h
  obtain ⟨a, ns, rfl, hs, q⟩ := h
  obtain ⟨its, rv, hl, _⟩ := I.tuple hs
  rw [Vals.ref1 r]
  have ht : s.heap.IsTuple a its.toArray := hl
  have hlta : a < s.heap.objs.size := by
    obtain ⟨o, ho, _⟩ := id ht
    exact Heap.lt_size ho
  refine call_any_walk (wpAny_pyIter_tuple ht ?_)
  refine ⟨s.heap.objs.size, [s.heap.objs.size, a], [s.heap.objs.size], its.toArray.size, _, _, ansAt truI (ns.map V.int), rfl, Walks.tuple (A := X.A.in1) (I.ok.hd hc) _ a (Nat.ne_of_lt hlta) its.toArray, ⟨⟨_, Heap.get?_push_size _ rfl, rfl, rfl⟩, ?_⟩, fun i v s2 Q2 E2 hv hq => ?_, fun h' tk hk => ?_⟩
  · obtain ⟨o, ho, r⟩ := id ht
    exact ⟨o, Heap.get?_push_of_some _ ho, r⟩
  · have hv' : its[i]? = some v := by simpa using hv
    have hil : i < (ns.map V.int).length := by
      rw [rv.length]
      exact (List.getElem?_eq_some_iff.mp hv').1
    have hxi : (ns.map V.int)[i]? = some (ns.map V.int)[i] := List.getElem?_eq_getElem hil
    obtain ⟨u', hu', ru⟩ := rv.get hxi
    rw [hv'] at hu'
    cases hu'
    rw [ansAt_some hxi] at hq
    have hxi2 := hxi
    rw [List.getElem?_map] at hxi2
    obtain ⟨n, _, en⟩ := Option.map_eq_some_iff.mp hxi2
    rw [← en] at ru hq
    obtain ⟨t, rfl⟩ := ru
    exact PySem.P.truthy_int hq
  · have I2 : Inv X pins σ H { s with heap := h', toks := tk } := I.kept fun b u hb => hk b u (fun hm => Nat.lt_irrefl _ ((by simpa using hm : b = s.heap.objs.size) ▸ Heap.lt_size hb)) (Heap.get?_push_of_some _ hb)
    refine ⟨.bl _, H, I2, rfl, ?_⟩
    have el : its.toArray.size = (ns.map V.int).length := by rw [List.size_toArray]; exact rv.length.symm
    rw [el, any_ansAt, show (ns.map V.int).any truI = ns.any (fun i => i != 0) from any_map_int (fun i => i != 0) ns]
    exact q
def eAnyT (fa : DE) : DE := fun ρ Q E => fa ρ (fun d => match d with | .tup ds => ∃ ns : List Int, ds = ns.map D.int ∧ Q (.bl (ns.any fun i => i != 0)) | _ => False) E
theorem d_anyT (hz : X.mg "any" = none) {p : Pos} (ha : PD X z ma ea fa) (hc : X.calm = true := by rfl) (hg : Gl X "any" := by rfl) (hse : starEach [ea] X.env = (false, eval ea X.env) :: starEach [] X.env := by rfl) : PD X z .d (.Call (.Name "any" p) [ea] [] pos) (eAnyT fa) := fun W tk =>
  peW (pe_callB (cr_anyT hc) hg hz (by decide +kernel) (pa_cons (ha W tk) pa_nil hse) (by decide) (by decide) hse (by rfl)) fun σ H R ⟨F0, H0, ρ, F, Q, E, rs, hf, hq, hx⟩ => ⟨F0, H0, ρ, F, _, E, rs, hf, (fun d v F1 H1 q1 e1 r1 => by
    cases d <;> try exact False.elim q1
    obtain ⟨ns, rfl, hQ⟩ := q1
    obtain ⟨a, xs, rfl, t, r⟩ := rb_tup r1.b
    exact ⟨a, ns, rfl, by rw [← reps_intsV r]; exact (t.sub e1.fh).sq, hq _ _ _ _ hQ e1 (resD rep_bl)⟩), hx⟩
end
end Act
namespace Act
variable [GT]
open PySem PySem.Spec PyProof.Rows L2
open scoped Rat
/-! ### sizes over a common bottom -/
/-- r is some x / D, where x has at most n digits -/
def Fr (D n : Nat) (r : Rat) : Prop := ∃ x : Int, r = (x : Rat) / ((D : Int) : Rat) ∧ x.natAbs < 2 ^ n
theorem Fr.bd {D n m : Nat} {r : Rat} (h : Fr D n r) (h0 : D ≠ 0) (hm : D < 2 ^ m) (l : m ≤ n) : Bd n r := by
  obtain ⟨x, rfl, hx⟩ := h
  rw [← divInt_div]
  exact Bd.divInt (by omega) hx (by rw [Int.natAbs_natCast]; exact Nat.lt_of_lt_of_le hm (Nat.pow_le_pow_right (by decide) l))
theorem Fr.mono {D n m : Nat} {r : Rat} (h : Fr D n r) (l : n ≤ m) : Fr D m r := by
  obtain ⟨x, e, hx⟩ := h
  exact ⟨x, e, Nat.lt_of_lt_of_le hx (Nat.pow_le_pow_right (by decide) l)⟩
theorem Fr.zero {D n : Nat} : Fr D n 0 := ⟨0, by rw [Rat.div_def]; simp, Nat.two_pow_pos n⟩
theorem Fr.neg {D n : Nat} {r : Rat} (h : Fr D n r) : Fr D n (-r) := by
  obtain ⟨x, rfl, hx⟩ := h
  exact ⟨-x, by rw [Rat.div_def, Rat.div_def, Rat.intCast_neg, Rat.neg_mul], by rw [Int.natAbs_neg]; exact hx⟩
theorem Fr.add {D n m l : Nat} {a b : Rat} (ha : Fr D n a) (hb : Fr D m b) (hn : n < l) (hm : m < l) : Fr D l (a + b) := by
  obtain ⟨x, rfl, hx⟩ := ha
  obtain ⟨y, rfl, hy⟩ := hb
  refine ⟨x + y, by rw [Rat.div_def, Rat.div_def, Rat.div_def, Rat.intCast_add, Rat.add_mul], ?_⟩
  obtain ⟨l, rfl⟩ : ∃ k, l = k + 1 := ⟨l - 1, by omega⟩
  have h1 : x.natAbs < 2 ^ l := Nat.lt_of_lt_of_le hx (Nat.pow_le_pow_right (by decide) (by omega))
  have h2 : y.natAbs < 2 ^ l := Nat.lt_of_lt_of_le hy (Nat.pow_le_pow_right (by decide) (by omega))
  have := Int.natAbs_add_le x y
  rw [Nat.pow_succ]
  omega
theorem Fr.sub {D n m l : Nat} {a b : Rat} (ha : Fr D n a) (hb : Fr D m b) (hn : n < l) (hm : m < l) : Fr D l (a - b) := by
  rw [Rat.sub_eq_add_neg]
  exact ha.add hb.neg hn hm
theorem Fr.mul {D E n m : Nat} {a b : Rat} (ha : Fr D n a) (hb : Fr E m b) : Fr (D * E) (n + m) (a * b) := by
  obtain ⟨x, rfl, hx⟩ := ha
  obtain ⟨y, rfl, hy⟩ := hb
  refine ⟨x * y, ?_, by rw [Int.natAbs_mul, Nat.pow_add]; exact Nat.mul_lt_mul'' hx hy⟩
  rw [Rat.div_def, Rat.div_def, Rat.div_def, Rat.intCast_mul, Int.natCast_mul, Rat.intCast_mul, Rat.inv_mul_rev]
  grind
theorem Fr.lift {D n e : Nat} {r : Rat} (h : Fr D n r) (E : Nat) (h0 : E ≠ 0) (he : E < 2 ^ e) : Fr (D * E) (n + e) r := by
  have one : Fr E e 1 := ⟨(E : Int), by rw [Rat.div_def]; exact (Rat.mul_inv_cancel _ fun c => by have := Rat.intCast_eq_zero_iff.mp c; omega).symm, by rw [Int.natAbs_natCast]; exact he⟩
  have := h.mul one
  rw [Rat.mul_one] at this
  exact this
theorem Fr.int {i : Int} {n : Nat} (h : i.natAbs < 2 ^ n) : Fr 1 n (i : Rat) := ⟨i, by rw [Rat.div_def]; show _ = (i : Rat) * ((1 : Int) : Rat)⁻¹; rw [Rat.intCast_one]; have := Rat.mul_inv_cancel (1 : Rat) (by decide); rw [Rat.one_mul] at this; rw [this, Rat.mul_one], h⟩
theorem Fr.self {r : Rat} {n : Nat} (h : Bd n r) : Fr r.den n r := ⟨r.num, by rw [← divInt_div]; exact (Rat.num_divInt_den r).symm, h.1⟩
theorem Fr.divInt {t : Int} {b n : Nat} (h : t.natAbs < 2 ^ n) : Fr b n (t /. (b : Int)) := ⟨t, divInt_div _ _, h⟩
theorem Fr.cast {D E n : Nat} {r : Rat} (h : Fr D n r) (e : D = E) : Fr E n r := e ▸ h
end Act
namespace Act
variable [GT]
open PySem PySem.Spec PyProof.Rows L2
open scoped Rat
theorem rpow_add (a : Rat) (m : Nat) : ∀ n : Nat, a ^ (m + n) = a ^ m * a ^ n
  | 0 => by rw [Nat.add_zero, Rat.pow_zero, Rat.mul_one]
  | n + 1 => by rw [← Nat.add_assoc, Rat.pow_succ, rpow_add a m n, Rat.pow_succ, Rat.mul_assoc]
theorem sumBd_of {b m : Nat} {rs : List Rat} (h : ∀ r ∈ rs, Bd b r) (hl : rs.length ≤ m) : SumBd ((b + 1) * m + 1) rs := by
  have go : ∀ xs : List Rat, (∀ r ∈ xs, Bd b r) → Bd ((b + 1) * xs.length + 1) xs.sum := by
    intro xs
    induction xs with
    | nil => intro _; exact Bd.zero (by omega)
    | cons x xs ih =>
      intro hx
      have h1 := hx x List.mem_cons_self
      have h2 := ih fun r hr => hx r (List.mem_cons_of_mem _ hr)
      rw [List.sum_cons]
      refine (h1.add h2).mono ?_
      rw [List.length_cons, Nat.mul_succ]
      omega
  have gl : ∀ xs : List Rat, xs.length ≤ m → (b + 1) * xs.length ≤ (b + 1) * m := fun xs hx => Nat.mul_le_mul_left _ hx
  refine ⟨fun r hr => (h r hr).mono ?_, fun i hi => (go _ fun r hr => h r (List.mem_of_mem_take hr)).mono ?_⟩
  · have : 1 ≤ rs.length := List.length_pos_of_mem hr
    have : (b + 1) * 1 ≤ (b + 1) * m := Nat.mul_le_mul_left _ (by omega)
    omega
  · have := gl (rs.take i) (by rw [List.length_take]; omega)
    omega
/-! ### the loss and its variance -/
namespace Pol
variable (P : Pol)
def A : Nat → Rat
  | 0 => 0
  | t + 1 => A t + P.back ^ t * P.net t
def L (t : Nat) : Rat := P.A (t + 1) + P.back ^ (t + 1) * P.e t
def ch (t : Nat) : Rat := dpart P.ls P.a t
def lp (t : Nat) : Rat := P.liv t /. P.liv 0
def M (t : Nat) : Rat := P.A t + P.back ^ t * P.V t
def yv (t : Nat) : Rat := (P.back ^ (2 * (t + 1)) * P.lp t) * ((P.q t * (1 - P.q t)) * ((P.e t - P.V (t + 1)) * (P.e t - P.V (t + 1))))
end Pol
section
variable {P : Pol}
theorem G_pow (h : PolOk P) (k : Nat) : P.back.den ^ k < 2 ^ (11 * k + 1) := by
  have := ((back_bd h).pow k).2
  rw [Rat.den_pow] at this
  exact this
theorem G_ne (k : Nat) : P.back.den ^ k ≠ 0 := Nat.ne_of_gt (Nat.pow_pos P.back.den_pos)
theorem pd_lt (h : PolOk P) : P.p.den < 2 ^ 20 := by have := h.prem.bot; show _ < 1048576; omega
theorem pd_ne : P.p.den ≠ 0 := P.p.den_nz
theorem back_fr (h : PolOk P) : Fr P.back.den 11 P.back := Fr.self (back_bd h)
theorem backpow_fr (h : PolOk P) (k : Nat) : Fr (P.back.den ^ k) (11 * k + 1) (P.back ^ k) := by
  have := Fr.self ((back_bd h).pow k)
  rw [Rat.den_pow] at this
  exact this
theorem e_nat (h : PolOk P) (t : Nat) : (lat P.de t).natAbs < 2 ^ 20 := by have := (e_bd h t).1; unfold Pol.e at this; rw [Rat.num_intCast] at this; exact this
theorem al_nat (h : PolOk P) (t : Nat) : (lat P.al t).natAbs < 2 ^ 20 := by have := (pay_bd h.al t).1; rw [Rat.num_intCast] at this; exact this
theorem net_fr (h : PolOk P) (t : Nat) : Fr P.p.den 41 (P.net t) := by
  have f1 : Fr P.p.den 40 (lat P.al t : Rat) := ((Fr.int (al_nat h t)).lift P.p.den pd_ne (pd_lt h)).cast (Nat.one_mul _)
  unfold Pol.net
  split
  · exact f1.sub (Fr.self h.prem.bd) (by decide) (by decide)
  · exact f1.mono (by decide)
theorem W_fr (h : PolOk P) : ∀ k, k ≤ P.span → Fr (P.p.den * P.back.den ^ k) (64 + 13 * k) ((P.liv (P.span - k) : Rat) * P.rv k)
  | 0, _ => by
    show Fr _ _ (_ * 0)
    rw [Rat.mul_zero]
    exact Fr.zero
  | k + 1, hk => by
    have ih := W_fr h k (by omega)
    have ht : P.span - (k + 1) < P.span := by omega
    have e2 := liv_q h ht
    rw [show P.span - (k + 1) + 1 = P.span - k by omega] at e2
    have l1 := liv_le h (P.span - (k + 1))
    have l2 := liv_le h (P.span - k)
    have l3 := liv_fall h (P.span - (k + 1))
    rw [show P.span - (k + 1) + 1 = P.span - k by omega] at l3
    have f1 : Fr (P.p.den * P.back.den ^ (k + 1)) (61 + (11 * (k + 1) + 1)) ((P.liv (P.span - (k + 1)) : Rat) * P.net (P.span - (k + 1))) := (((Fr.int (i := P.liv (P.span - (k + 1))) (n := 20) (by show _ < 1048576; omega)).mul (net_fr h _)).cast (Nat.one_mul _)).lift _ (G_ne _) (G_pow h _)
    have f2 : Fr (P.p.den * P.back.den ^ k) (40 + (20 + (11 * k + 1))) (((P.liv (P.span - (k + 1)) - P.liv (P.span - k) : Int) : Rat) * P.e (P.span - (k + 1))) := by
      have g := (Fr.int (i := P.liv (P.span - (k + 1)) - P.liv (P.span - k)) (n := 20) (by show _ < 1048576; omega)).mul (Fr.int (e_nat h (P.span - (k + 1))))
      have g2 := (g.lift P.p.den pd_ne (pd_lt h)).lift _ (G_ne (P := P) k) (G_pow h k)
      exact (g2.cast (by simp)).mono (by omega)
    have f3 := f2.add (l := 65 + 13 * k) ih (by omega) (by omega)
    have f4 := ((back_fr h).mul f3).cast (show _ = P.p.den * P.back.den ^ (k + 1) by rw [Nat.pow_succ]; simp [Nat.mul_comm, Nat.mul_left_comm])
    have f5 := f1.add (l := 64 + 13 * (k + 1)) f4 (by omega) (by omega)
    have e : (P.liv (P.span - (k + 1)) : Rat) * P.rv (k + 1) = (P.liv (P.span - (k + 1)) : Rat) * P.net (P.span - (k + 1)) + P.back * (((P.liv (P.span - (k + 1)) - P.liv (P.span - k) : Int) : Rat) * P.e (P.span - (k + 1)) + (P.liv (P.span - k) : Rat) * P.rv k) := by
      show _ * (P.net (P.span - (k + 1)) + P.back * P.ye (P.span - (k + 1)) (P.rv k)) = _
      unfold Pol.ye
      have e4 : (P.liv (P.span - k) : Rat) = (P.liv (P.span - (k + 1)) : Rat) - (P.liv (P.span - (k + 1)) : Rat) * P.q (P.span - (k + 1)) := by
        rw [e2, Rat.intCast_sub]
        grind
      rw [e4, ← e2]
      grind
    rw [e]
    exact f5
theorem V_bd2 (h : PolOk P) (t : Nat) : Bd (84 + 13 * P.span) (P.V t) := by
  unfold Pol.V
  by_cases c : t < P.span
  · have f := W_fr h (P.span - t) (by omega)
    rw [show P.span - (P.span - t) = t by omega] at f
    have b := f.bd (m := 20 + (11 * (P.span - t) + 1)) (Nat.mul_ne_zero pd_ne (G_ne _)) (by rw [Nat.pow_add]; exact Nat.mul_lt_mul'' (pd_lt h) (G_pow h _)) (by omega)
    have d := Bd.div (liv_ne h c) b (liv_bd h t)
    have e : (P.liv t : Rat) * P.rv (P.span - t) / (P.liv t : Rat) = P.rv (P.span - t) := by
      have := Rat.mul_inv_cancel _ (liv_ne h c)
      rw [Rat.div_def]
      grind
    rw [e] at d
    exact d.mono (by omega)
  · rw [show P.span - t = 0 by omega]
    exact Bd.zero (by omega)
theorem A_fr (h : PolOk P) : ∀ t, Fr (P.p.den * P.back.den ^ t) (64 + 13 * t) (P.A t)
  | 0 => Fr.zero
  | t + 1 => by
    have ih := ((A_fr h t).lift _ (G_ne (P := P) 1) (G_pow h 1)).cast (show _ = P.p.den * P.back.den ^ (t + 1) by rw [Nat.pow_one, Nat.pow_succ, Nat.mul_assoc])
    have g := (((backpow_fr h t).mul (net_fr h t)).lift _ (G_ne (P := P) 1) (G_pow h 1)).cast (show _ = P.p.den * P.back.den ^ (t + 1) by rw [Nat.pow_one, Nat.pow_succ, Nat.mul_comm (P.back.den ^ t) P.p.den, Nat.mul_assoc])
    exact ih.add g (by omega) (by omega)
theorem fr_top (h : PolOk P) (k : Nat) : P.p.den * P.back.den ^ k < 2 ^ (20 + (11 * k + 1)) := by rw [Nat.pow_add]; exact Nat.mul_lt_mul'' (pd_lt h) (G_pow h _)
theorem A_bd (h : PolOk P) (t : Nat) : Bd (64 + 13 * t) (P.A t) := (A_fr h t).bd (Nat.mul_ne_zero pd_ne (G_ne _)) (fr_top h t) (by omega)
theorem L_bd (h : PolOk P) (t : Nat) : Bd (78 + 13 * t) (P.L t) := by
  have g := (((backpow_fr h (t + 1)).mul (Fr.int (e_nat h t))).lift _ pd_ne (pd_lt h)).cast (show _ = P.p.den * P.back.den ^ (t + 1) by simp [Nat.mul_comm])
  exact ((A_fr h (t + 1)).add (l := 78 + 13 * t) g (by omega) (by omega)).bd (Nat.mul_ne_zero pd_ne (G_ne _)) (fr_top h (t + 1)) (by omega)
theorem span_liv (h : PolOk P) : 0 < P.span := span_pos h
theorem lp_bd (h : PolOk P) (t : Nat) : Bd 20 (P.lp t) := part_bd (liv_pos h (span_pos h)) (liv_le h 0).2 (by have := liv_le h t; omega)
theorem ch_eq (h : PolOk P) {t : Nat} (ht : t < P.span) : P.ch t = P.lp t * P.q t := by
  have e := liv_q h ht
  show (P.liv t - P.liv (t + 1)) /. P.liv 0 = _
  unfold Pol.lp
  rw [divInt_div, divInt_div, Rat.div_def, Rat.div_def, ← e]
  grind
theorem lp_succ (h : PolOk P) {t : Nat} (ht : t < P.span) : P.lp (t + 1) = P.lp t * (1 - P.q t) := by
  have e := liv_q h ht
  unfold Pol.lp
  rw [divInt_div, divInt_div, Rat.div_def, Rat.div_def]
  have e4 : (P.liv (t + 1) : Rat) = (P.liv t : Rat) - (P.liv t : Rat) * P.q t := by
    rw [e, Rat.intCast_sub]
    grind
  rw [e4]
  grind
theorem lp_zero (h : PolOk P) : P.lp 0 = 1 := by
  unfold Pol.lp
  rw [divInt_div, Rat.div_def]
  exact Rat.mul_inv_cancel _ (liv_ne h (span_pos h))
theorem lp_end (h : PolOk P) : P.lp P.span = 0 := by
  have : P.liv P.span = 0 := lat_zero h.lives (by have := h.age.lt; unfold Pol.span; omega)
  unfold Pol.lp
  rw [this, Rat.zero_divInt]
theorem hat_step (h : PolOk P) {t : Nat} (ht : t < P.span) : P.lp t * (P.M t * P.M t) + P.yv t = P.ch t * (P.L t * P.L t) + P.lp (t + 1) * (P.M (t + 1) * P.M (t + 1)) := by
  have e3 := V_step (P := P) ht
  unfold Pol.ye at e3
  rw [ch_eq h ht, lp_succ h ht]
  have eA : P.A (t + 1) = P.A t + P.back ^ t * P.net t := rfl
  have eM : P.M t = P.q t * P.L t + (1 - P.q t) * P.M (t + 1) := by
    unfold Pol.M Pol.L
    rw [eA, e3, Rat.pow_succ]
    grind
  have eX : P.L t - P.M (t + 1) = P.back ^ (t + 1) * (P.e t - P.V (t + 1)) := by
    unfold Pol.M Pol.L
    grind
  have eY : P.yv t = P.lp t * ((P.q t * (1 - P.q t)) * ((P.L t - P.M (t + 1)) * (P.L t - P.M (t + 1)))) := by
    rw [eX]
    unfold Pol.yv
    rw [show 2 * (t + 1) = (t + 1) + (t + 1) by omega, rpow_add]
    grind
  rw [eM, eY]
  generalize P.L t = x
  generalize P.M (t + 1) = y
  generalize P.q t = q
  generalize P.lp t = l
  grind
theorem hat_sum (h : PolOk P) : ∀ j, j ≤ P.span → ((List.range j).map fun t => P.ch t * (P.L t * P.L t)).sum + P.lp j * (P.M j * P.M j) = P.V 0 * P.V 0 + ((List.range j).map P.yv).sum
  | 0, _ => by
    have e : P.M 0 = P.V 0 := by
      show 0 + P.back ^ 0 * P.V 0 = _
      rw [Rat.pow_zero]
      grind
    rw [lp_zero h, e]
    simp only [List.range_zero, List.map_nil, List.sum_nil]
    grind
  | j + 1, hj => by
    have ih := hat_sum h j (by omega)
    have s := hat_step h (show j < P.span by omega)
    rw [List.range_succ, List.map_append, List.map_append, List.sum_append, List.sum_append]
    simp only [List.map_cons, List.map_nil, List.sum_cons, List.sum_nil]
    grind
theorem hat_all (h : PolOk P) : ((List.range P.span).map fun t => P.ch t * (P.L t * P.L t)).sum - P.V 0 * P.V 0 = ((List.range P.span).map P.yv).sum := by
  have e := hat_sum h P.span (Nat.le_refl _)
  rw [lp_end h] at e
  grind
end
end Act
namespace Act
variable [GT]
open PySem PySem.Spec PyProof.Rows L2
open scoped Rat
theorem lc_each {α : Type} {g : DG} {fe : DE} {ρ : Rho} {Q : D → Prop} {xs : List α} (c : α → D) (f : α → D) (hl : xs.length ≤ cap) (hs : ∀ x ∈ xs, ∀ F : D → Prop, F (f x) → g (c x) ρ fun ρ2 => fe ρ2 F (fun _ => False)) (hn : Q (.lst (xs.map f))) : lcF g tTrue fe ρ Q (xs.map c) [] := by
  refine lc_nat (fun i acc => i ≤ xs.length ∧ acc = (xs.take i).map f) ⟨Nat.zero_le _, rfl⟩ ?_ ?_
  · rintro i d acc F hd ⟨hi, rfl⟩ hF
    rw [List.getElem?_map] at hd
    obtain ⟨x, hx, rfl⟩ := Option.map_eq_some_iff.mp hd
    have c1 : i < xs.length := (List.getElem?_eq_some_iff.mp hx).1
    have e : xs[i] = x := (List.getElem?_eq_some_iff.mp hx).2
    have := hs x (List.mem_of_getElem? hx) (fun y => ((xs.take i).map f).length ≤ cap ∧ F ((xs.take i).map f ++ [y])) ⟨by rw [List.length_map, List.length_take]; omega, hF _ ⟨c1, by rw [List.take_succ_eq_append_getElem c1, List.map_append, e]; rfl⟩⟩
    exact this
  · rintro acc ⟨_, rfl⟩
    rw [List.length_map, List.take_length]
    exact hn
theorem sum_filter {p : Nat → Bool} {f : Nat → Rat} (h : ∀ t, p t = false → f t = 0) : ∀ l : List Nat, ((l.filter p).map f).sum = (l.map f).sum
  | [] => rfl
  | t :: l => by
    have ih := sum_filter h l
    cases c : p t
    · rw [List.filter_cons_of_neg (by rw [c]; decide), ih, List.map_cons, List.sum_cons, h t c, Rat.zero_add]
    · rw [List.filter_cons_of_pos c, List.map_cons, List.map_cons, List.sum_cons, List.sum_cons, ih]
def lossT (P : Pol) (j : Nat) : List Nat := (List.range j).filter fun t => !decide (P.ch t = 0)
def lossP (P : Pol) (t : Nat) : D := .tup [dR (P.L t), dR (P.ch t)]
def lossD (P : Pol) (j : Nat) : List D := (lossT P j).map (lossP P)
theorem lossD_no {P : Pol} {j : Nat} (c : P.ch j = 0) : lossD P (j + 1) = lossD P j := by
  unfold lossD lossT
  rw [List.range_succ, List.filter_append, List.filter_cons_of_neg (by simp [c])]
  simp
theorem lossD_yes {P : Pol} {j : Nat} (c : ¬ P.ch j = 0) : lossD P (j + 1) = lossD P j ++ [lossP P j] := by
  unfold lossD lossT
  rw [List.range_succ, List.filter_append, List.filter_cons_of_pos (by simp [c])]
  simp
theorem lossT_len (P : Pol) (j : Nat) : (lossT P j).length ≤ j := by
  have := List.length_filter_le (fun t => !decide (P.ch t = 0)) (List.range j)
  rw [List.length_range] at this
  exact this
theorem lossD_len (P : Pol) (j : Nat) : (lossD P j).length ≤ j := by unfold lossD; rw [List.length_map]; exact lossT_len P j
section
variable {P : Pol}
theorem V162 (h : PolOk P) (hs : P.span ≤ 6) (t : Nat) : Bd 162 (P.V t) := (V_bd2 h t).mono (by omega)
theorem ch_bd (h : PolOk P) (t : Nat) : Bd 20 (P.ch t) := dpart_bd h.lives h.age t
theorem ch_sum (h : PolOk P) : ((lossT P P.span).map fun t => P.ch t * (P.L t * P.L t)).sum - P.V 0 * P.V 0 = ((List.range P.span).map P.yv).sum := by
  rw [← hat_all h]
  unfold lossT
  rw [sum_filter (f := fun t => P.ch t * (P.L t * P.L t))]
  intro t ht
  have c : P.ch t = 0 := by simpa using ht
  rw [c, Rat.zero_mul]
theorem ch_sumBd (h : PolOk P) (hs : P.span ≤ 6) : SumBd 2200 ((lossT P P.span).map fun t => P.ch t * (P.L t * P.L t)) := by
  have len := lossT_len P P.span
  have s := sumBd_of (b := 330) (m := 6) (rs := (lossT P P.span).map fun t => P.ch t * (P.L t * P.L t)) (fun r hr => by
    obtain ⟨t, ht, rfl⟩ := List.mem_map.mp hr
    have ht2 : t < P.span := List.mem_range.mp (List.mem_filter.mp ht).1
    have b := (L_bd h t).mono (show _ ≤ 155 by omega)
    exact ((ch_bd h t).mul (b.mul b)).mono (by omega)) (by rw [List.length_map]; omega)
  exact ⟨fun r hr => (s.1 r hr).mono (by decide), fun i hi => (s.2 i hi).mono (by decide)⟩
theorem yv_bd (h : PolOk P) (hs : P.span ≤ 6) {t : Nat} (ht : t < P.span) : Bd 570 (P.yv t) := by
  have b := (e_bd h t).sub (V162 h hs (t + 1))
  exact ((((back_bd h).pow (2 * (t + 1))).mul (lp_bd h t)).mul (((q_bd h ht).mul (one_bd.sub (q_bd h ht))).mul (b.mul b))).mono (by omega)
theorem yv_sumBd (h : PolOk P) (hs : P.span ≤ 6) : SumBd 3427 ((List.range P.span).map P.yv) := sumBd_of (b := 570) (m := 6) (fun r hr => by
    obtain ⟨t, ht, rfl⟩ := List.mem_map.mp hr
    exact yv_bd h hs (List.mem_range.mp ht)) (by rw [List.length_map, List.length_range]; omega)
theorem chance_eq (h : PolOk P) {t : Nat} (ht : t < P.span) : (P.liv t * (P.liv t - P.liv (t + 1)) * P.liv (t + 1)) /. (P.liv 0 * P.liv t * P.liv t) = P.lp t * (P.q t * (1 - P.q t)) := by
  have e := liv_q h ht
  have i0 := Rat.inv_mul_cancel _ (liv_ne h (span_pos h))
  have i1 := Rat.inv_mul_cancel _ (liv_ne h ht)
  have e4 : (P.liv (t + 1) : Rat) = (P.liv t : Rat) - (P.liv t : Rat) * P.q t := by
    rw [e, Rat.intCast_sub]
    grind
  unfold Pol.lp
  rw [divInt_div, divInt_div, Rat.div_def, Rat.div_def, Rat.intCast_mul, Rat.intCast_mul, Rat.intCast_mul, Rat.intCast_mul, ← e, Rat.inv_mul_rev, Rat.inv_mul_rev, e4]
  generalize (P.liv 0 : Rat)⁻¹ = a at i0 ⊢
  generalize (P.liv t : Rat)⁻¹ = b at i1 ⊢
  generalize (P.liv t : Rat) = l at i1 ⊢
  generalize P.q t = q
  have : l * (l * q) * (l - l * q) * (b * (b * a)) = (b * l) * (b * l) * (l * a * (q * (1 - q))) := by grind
  rw [this, i1]
  grind
end
def spSqD : SpD := fun ds Q _ => ∃ (r : Rat) (n : Nat), ds = [dR r] ∧ Bd n r ∧ n ≤ 4000 ∧ Q (dR (r * r))
end Act
namespace Act
variable [GT]
open PySem PySem.Spec PyProof.Rows L2
open scoped Rat
/-! ### sums over the first n numbers -/
def rs (f : Nat → Rat) : Nat → Rat
  | 0 => 0
  | n + 1 => rs f n + f n
theorem rs_congr {f g : Nat → Rat} : ∀ {n : Nat}, (∀ i, i < n → f i = g i) → rs f n = rs g n
  | 0, _ => rfl
  | n + 1, h => by
    show rs f n + f n = rs g n + g n
    rw [rs_congr fun i hi => h i (by omega), h n (by omega)]
theorem rs_zero {f : Nat → Rat} {n : Nat} (h : ∀ i, i < n → f i = 0) : rs f n = 0 := by
  induction n with
  | zero => rfl
  | succ n ih =>
    show rs f n + f n = 0
    rw [ih fun i hi => h i (by omega), h n (by omega), Rat.add_zero]
theorem rs_front (f : Nat → Rat) : ∀ n, rs f (n + 1) = f 0 + rs (fun i => f (i + 1)) n
  | 0 => by show 0 + f 0 = f 0 + 0; rw [Rat.zero_add, Rat.add_zero]
  | n + 1 => by
    show rs f (n + 1) + f (n + 1) = f 0 + (rs (fun i => f (i + 1)) n + f (n + 1))
    rw [rs_front f n, Rat.add_assoc]
theorem rs_rev (f : Nat → Rat) : ∀ n, rs f n = rs (fun i => f (n - 1 - i)) n
  | 0 => rfl
  | n + 1 => by
    rw [rs_front (fun i => f (n + 1 - 1 - i)) n]
    show rs f n + f n = f (n + 1 - 1 - 0) + _
    rw [rs_rev f n, Rat.add_comm]
    congr 1
    refine rs_congr fun i hi => ?_
    congr 1
    omega
theorem rs_ext {f : Nat → Rat} {m : Nat} (h : ∀ i, m ≤ i → f i = 0) : ∀ n, m ≤ n → rs f n = rs f m
  | n, hn => by
    induction hn with
    | refl => rfl
    | @step n hn ih =>
      show rs f n + f n = _
      rw [ih, h n hn, Rat.add_zero]
theorem rs_add (f g : Nat → Rat) : ∀ n, rs (fun i => f i + g i) n = rs f n + rs g n
  | 0 => by show (0 : Rat) = 0 + 0; rw [Rat.add_zero]
  | n + 1 => by
    show rs (fun i => f i + g i) n + (f n + g n) = rs f n + f n + (rs g n + g n)
    rw [rs_add f g n]
    grind
theorem rs_mul (c : Rat) (f : Nat → Rat) : ∀ n, rs (fun i => c * f i) n = c * rs f n
  | 0 => (Rat.mul_zero c).symm
  | n + 1 => by
    show rs (fun i => c * f i) n + c * f n = c * (rs f n + f n)
    rw [rs_mul c f n, Rat.mul_add]
theorem rs_swap (f : Nat → Nat → Rat) (m : Nat) : ∀ n, rs (fun i => rs (fun j => f i j) m) n = rs (fun j => rs (fun i => f i j) n) m
  | 0 => (rs_zero fun _ _ => rfl).symm
  | n + 1 => by
    show rs (fun i => rs (fun j => f i j) m) n + rs (fun j => f n j) m = _
    rw [rs_swap f m n, ← rs_add]
    rfl
theorem rs_shift {f : Nat → Rat} {i m : Nat} : ∀ n, rs (fun k => if i ≤ k ∧ k < i + m then f (k - i) else 0) (i + n) = rs (fun j => if j < m then f j else 0) n
  | 0 => rs_zero fun k hk => by rw [if_neg (by omega)]
  | n + 1 => by
    show rs _ (i + n) + (if i ≤ i + n ∧ i + n < i + m then f (i + n - i) else 0) = rs _ n + (if n < m then f n else 0)
    rw [rs_shift n, show i + n - i = n by omega]
    by_cases c : n < m
    · rw [if_pos (by omega), if_pos c]
    · rw [if_neg (by omega), if_neg c]
theorem rs_sum (f : Nat → Rat) : ∀ n, ((List.range n).map f).sum = rs f n
  | 0 => rfl
  | n + 1 => by
    rw [List.range_succ, List.map_append, List.sum_append, rs_sum f n]
    simp [rs, Rat.add_zero]
/-! ### folding -/
def ca (a : List Rat) (i : Nat) : Rat := a.getD i 0
theorem ca_ge {a : List Rat} {i : Nat} (h : a.length ≤ i) : ca a i = 0 := by simp [ca, List.getD, List.getElem?_eq_none h]
theorem ca_at {a : List Rat} {i : Nat} (h : i < a.length) : a[i]? = some (ca a i) := by
  rw [List.getElem?_eq_getElem h]
  simp [ca, List.getD, List.getElem?_eq_getElem h]
theorem ca_mem {a : List Rat} {i : Nat} (h : i < a.length) : ca a i ∈ a := List.mem_of_getElem? (ca_at h)
def sh (b : List Rat) (n i : Nat) : Rat := if i ≤ n then ca b (n - i) else 0
def cv (a b : List Rat) (n : Nat) : Rat := rs (fun i => ca a i * sh b n i) a.length
def cvL (a b : List Rat) : List Rat := (List.range (a.length + b.length - 1)).map (cv a b)
theorem cvL_len (a b : List Rat) : (cvL a b).length = a.length + b.length - 1 := by simp [cvL]
theorem cv_all (a b : List Rat) (n : Nat) : cv a b n = rs (fun i => ca a i * ca b (n - i)) (n + 1) := by
  have e1 : rs (fun i => ca a i * sh b n i) (n + 1) = rs (fun i => ca a i * ca b (n - i)) (n + 1) := rs_congr fun i hi => by
    unfold sh
    rw [if_pos (by omega)]
  rw [← e1]
  unfold cv
  by_cases c : a.length ≤ n + 1
  · exact (rs_ext (fun i hi => by rw [ca_ge hi, Rat.zero_mul]) _ c).symm
  · exact rs_ext (fun i hi => by unfold sh; rw [if_neg (by omega), Rat.mul_zero]) _ (by omega)
theorem cv_comm (a b : List Rat) (n : Nat) : cv a b n = cv b a n := by
  rw [cv_all, cv_all, rs_rev]
  refine rs_congr fun i hi => ?_
  rw [show n + 1 - 1 - i = n - i by omega, show n - (n - i) = i by omega, Rat.mul_comm]
theorem cvL_comm (a b : List Rat) : cvL a b = cvL b a := by
  unfold cvL
  rw [Nat.add_comm a.length b.length]
  exact List.map_congr_left fun n _ => cv_comm a b n
theorem cvL_at {a b : List Rat} {n : Nat} (h : n < a.length + b.length - 1) : ca (cvL a b) n = cv a b n := by
  have e := ca_at (a := cvL a b) (i := n) (by rw [cvL_len]; exact h)
  unfold cvL at e
  rw [List.getElem?_map, List.getElem?_range h] at e
  exact (Option.some.inj e).symm
/-- the whole, and the whole by places -/
def s0 (a : List Rat) : Rat := rs (ca a) a.length
def s1 (a : List Rat) : Rat := rs (fun i => ((i : Int) : Rat) * ca a i) a.length
theorem row_sum (g : Nat → Rat) {b : List Rat} {i N : Nat} (h : i + b.length ≤ N) : rs (fun n => g n * sh b n i) N = rs (fun j => g (i + j) * ca b j) b.length := by
  obtain ⟨m, rfl⟩ : ∃ m, N = i + m := ⟨N - i, by omega⟩
  have e1 : rs (fun n => g n * sh b n i) (i + m) = rs (fun k => if i ≤ k ∧ k < i + b.length then (fun j => g (i + j) * ca b j) (k - i) else 0) (i + m) := rs_congr fun k hk => by
    unfold sh
    by_cases c : i ≤ k
    · rw [if_pos c]
      by_cases c2 : k < i + b.length
      · rw [if_pos ⟨c, c2⟩]
        show _ = g (i + (k - i)) * _
        rw [show i + (k - i) = k by omega]
      · rw [if_neg (by omega), ca_ge (by omega), Rat.mul_zero]
    · rw [if_neg c, if_neg (by omega), Rat.mul_zero]
  refine (e1.trans (rs_shift (f := fun j => g (i + j) * ca b j) m)).trans ?_
  rw [rs_ext (m := b.length) (fun j hj => if_neg (by omega)) m (by omega)]
  exact rs_congr fun j hj => if_pos hj
theorem cv_moment (g : Nat → Rat) {a b : List Rat} (hb : 0 < b.length) : rs (fun n => g n * ca (cvL a b) n) (cvL a b).length = rs (fun i => ca a i * rs (fun j => g (i + j) * ca b j) b.length) a.length := by
  rw [cvL_len]
  have e1 : rs (fun n => g n * ca (cvL a b) n) (a.length + b.length - 1) = rs (fun n => rs (fun i => ca a i * (g n * sh b n i)) a.length) (a.length + b.length - 1) := rs_congr fun n hn => by
    rw [cvL_at hn]
    unfold cv
    rw [← rs_mul]
    exact rs_congr fun i _ => by grind
  rw [e1, rs_swap]
  refine rs_congr fun i hi => ?_
  rw [rs_mul, row_sum g (by omega)]
theorem cv_s0 {a b : List Rat} (hb : 0 < b.length) : s0 (cvL a b) = s0 a * s0 b := by
  have e := cv_moment (fun _ => 1) (a := a) hb
  have z : ∀ x : List Rat, rs (fun n => (1 : Rat) * ca x n) x.length = s0 x := fun x => rs_congr fun i _ => Rat.one_mul _
  rw [z] at e
  rw [e]
  have e2 : rs (fun i => ca a i * rs (fun j => (1 : Rat) * ca b j) b.length) a.length = rs (fun i => s0 b * ca a i) a.length := rs_congr fun i _ => by rw [z, Rat.mul_comm]
  rw [e2, rs_mul, Rat.mul_comm]
  rfl
theorem cv_s1 {a b : List Rat} (hb : 0 < b.length) : s1 (cvL a b) = s1 a * s0 b + s0 a * s1 b := by
  have e := cv_moment (fun n => ((n : Int) : Rat)) (a := a) hb
  show rs (fun n => ((n : Int) : Rat) * ca (cvL a b) n) (cvL a b).length = _
  rw [e]
  have e2 : ∀ i, ca a i * rs (fun j => (((i + j : Nat) : Int) : Rat) * ca b j) b.length = s0 b * (((i : Int) : Rat) * ca a i) + s1 b * ca a i := fun i => by
    have e3 : rs (fun j => (((i + j : Nat) : Int) : Rat) * ca b j) b.length = rs (fun j => ((i : Int) : Rat) * ca b j + ((j : Int) : Rat) * ca b j) b.length := rs_congr fun j _ => by
      rw [Int.natCast_add, Rat.intCast_add, Rat.add_mul]
    rw [e3, rs_add, rs_mul]
    show ca a i * (((i : Int) : Rat) * s0 b + s1 b) = _
    grind
  rw [rs_congr fun i _ => e2 i, rs_add, rs_mul, rs_mul]
  show s0 b * s1 a + s1 b * s0 a = _
  grind
end Act
namespace Act
variable [GT]
open PySem PySem.Spec PyProof.Rows L2
open scoped Rat
/-! ### folding, step by step -/
/-- what stands at place n when j numbers of the first and k numbers of the next are folded in -/
def fo (a b : List Rat) (j k n : Nat) : Rat := rs (fun i => ca a i * sh b n i) j + (if j ≤ n ∧ n < j + k then ca a j * ca b (n - j) else 0)
def foL (a b : List Rat) (j k : Nat) : List Rat := (List.range (a.length + b.length - 1)).map (fo a b j k)
theorem foL_len (a b : List Rat) (j k : Nat) : (foL a b j k).length = a.length + b.length - 1 := by simp [foL]
theorem foL_at {a b : List Rat} {j k n : Nat} (h : n < a.length + b.length - 1) : (dRs (foL a b j k))[n]? = some (dR (fo a b j k n)) := by
  unfold dRs foL
  rw [List.getElem?_map, List.getElem?_map, List.getElem?_range h]
  rfl
theorem fo_next (a b : List Rat) (j n : Nat) : fo a b j b.length n = fo a b (j + 1) 0 n := by
  unfold fo
  rw [if_neg (by omega : ¬(j + 1 ≤ n ∧ n < j + 1 + 0)), Rat.add_zero]
  show _ = rs (fun i => ca a i * sh b n i) j + ca a j * sh b n j
  congr 1
  unfold sh
  by_cases c : j ≤ n
  · rw [if_pos c]
    by_cases c2 : n < j + b.length
    · rw [if_pos ⟨c, c2⟩]
    · rw [if_neg (by omega), ca_ge (a := b) (i := n - j) (by omega), Rat.mul_zero]
  · rw [if_neg c, if_neg (by omega), Rat.mul_zero]
theorem foL_next (a b : List Rat) (j : Nat) : foL a b j b.length = foL a b (j + 1) 0 := by
  unfold foL
  exact List.map_congr_left fun n _ => fo_next a b j n
theorem fo_step (a b : List Rat) (j k n : Nat) : fo a b j (k + 1) n = if n = j + k then fo a b j k n + ca a j * ca b k else fo a b j k n := by
  unfold fo
  by_cases c : n = j + k
  · subst c
    rw [if_pos rfl, if_pos (by omega), if_neg (by omega), Rat.add_zero, show j + k - j = k by omega]
  · rw [if_neg c]
    by_cases c2 : j ≤ n ∧ n < j + k
    · rw [if_pos c2, if_pos (by omega)]
    · rw [if_neg c2, if_neg (by omega)]
theorem foL_step {a b : List Rat} {j k : Nat} : (dRs (foL a b j k)).set (j + k) (dR (fo a b j k (j + k) + ca a j * ca b k)) = dRs (foL a b j (k + 1)) := by
  refine List.ext_getElem? fun n => ?_
  by_cases hn : n < a.length + b.length - 1
  · rw [foL_at hn, fo_step]
    rw [List.getElem?_set]
    by_cases c : j + k = n
    · subst c
      rw [if_pos rfl, if_pos (by unfold dRs; rw [List.length_map, foL_len]; exact hn), if_pos rfl]
    · rw [if_neg c, if_neg (fun e => c e.symm), foL_at hn]
  · rw [List.getElem?_eq_none (by simp [dRs, foL_len]; omega), List.getElem?_eq_none (by simp [dRs, foL_len]; omega)]
theorem foL_start (a b : List Rat) : foL a b 0 0 = List.replicate (a.length + b.length - 1) 0 := by
  refine List.ext_getElem? fun n => ?_
  unfold foL
  by_cases hn : n < a.length + b.length - 1
  · rw [List.getElem?_map, List.getElem?_range hn, List.getElem?_replicate, if_pos hn]
    show some (0 + _) = some 0
    rw [if_neg (by omega), Rat.add_zero]
  · rw [List.getElem?_eq_none (by simp; omega), List.getElem?_eq_none (by simp; omega)]
theorem foL_end (a b : List Rat) : foL a b a.length 0 = cvL a b := by
  unfold foL cvL
  refine List.map_congr_left fun n _ => ?_
  unfold fo cv
  rw [if_neg (by omega), Rat.add_zero]
/-! ### sizes -/
/-- all numbers over one bottom -/
def Frs (D n : Nat) (a : List Rat) : Prop := ∀ i, Fr D n (ca a i)
theorem Frs.of {D n : Nat} {a : List Rat} (h : ∀ r ∈ a, Fr D n r) : Frs D n a := fun i => by
  by_cases c : i < a.length
  · exact h _ (ca_mem c)
  · rw [ca_ge (by omega)]; exact Fr.zero
theorem rs_fr {D n : Nat} {f : Nat → Rat} (h : ∀ i, Fr D n (f i)) : ∀ j, Fr D (n + j) (rs f j)
  | 0 => Fr.zero
  | j + 1 => (rs_fr h j).add (l := n + (j + 1)) ((h j).mono (show n ≤ n + j by omega)) (by omega) (by omega)
theorem sh_fr {D n : Nat} {b : List Rat} (h : Frs D n b) (m i : Nat) : Fr D n (sh b m i) := by
  unfold sh
  split
  · exact h _
  · exact Fr.zero
theorem fo_fr {D E n m : Nat} {a b : List Rat} (ha : Frs D n a) (hb : Frs E m b) (j k p : Nat) : Fr (D * E) (n + m + j + 1) (fo a b j k p) := by
  unfold fo
  refine (rs_fr (fun i => (ha i).mul (sh_fr hb p i)) j).add (m := n + m) ?_ (by omega) (by omega)
  split
  · exact (ha j).mul (hb _)
  · exact Fr.zero
theorem cvL_fr {D E n m l : Nat} {a b : List Rat} (ha : Frs D n a) (hb : Frs E m b) (hl : a.length ≤ l) : Frs (D * E) (n + m + l + 1) (cvL a b) := fun i => by
  by_cases c : i < a.length + b.length - 1
  · have h := fo_fr ha hb a.length 0 i
    have e : fo a b a.length 0 i = cv a b i := by
      unfold fo cv
      rw [if_neg (by omega), Rat.add_zero]
    rw [e, ← cvL_at c] at h
    exact h.mono (by omega)
  · rw [ca_ge (by rw [cvL_len]; omega)]
    exact Fr.zero
def spFoldD : SpD := fun ds Q _ => ∃ (a b : List Rat) (D E n m d : Nat), ds = [.lst (dRs a), .lst (dRs b)] ∧ 0 < a.length ∧ 0 < b.length ∧ a.length ≤ 100 ∧ b.length ≤ 100 ∧ Frs D n a ∧ Frs E m b ∧ D ≠ 0 ∧ E ≠ 0 ∧ D < 2 ^ d ∧ E < 2 ^ d ∧ d ≤ n ∧ d ≤ m ∧ n + m ≤ 4000 ∧ Q (.lst (dRs (cvL a b)))
end Act
namespace Act
variable [GT]
open PySem PySem.Spec PyProof.Rows L2
open scoped Rat
/-! ### claims -/
structure ClmOk (ws : List Int) : Prop where
  len : 1 ≤ ws.length
  nat : ∀ n ∈ ws, 0 ≤ n ∧ n ≤ 1000
  pos : 0 < lat ws (ws.length - 1)
def chs (ws : List Int) : List Rat := ws.map fun n => n /. ws.sum
theorem sum_le {ws : List Int} (h : ∀ n ∈ ws, 0 ≤ n ∧ n ≤ 1000) : 0 ≤ ws.sum ∧ ws.sum ≤ 1000 * ws.length := by
  induction ws with
  | nil => simp
  | cons n ls ih =>
    have h1 := h n List.mem_cons_self
    have h2 := ih fun m hm => h m (List.mem_cons_of_mem _ hm)
    rw [List.sum_cons, List.length_cons]
    omega
theorem le_sum {ws : List Int} (h : ∀ n ∈ ws, 0 ≤ n ∧ n ≤ 1000) : ∀ n ∈ ws, n ≤ ws.sum := by
  induction ws with
  | nil => intro n hn; simp at hn
  | cons m ls ih =>
    intro n hn
    have h1 := h m List.mem_cons_self
    have h3 := sum_le fun m hm => h m (List.mem_cons_of_mem _ hm)
    rw [List.sum_cons]
    rcases List.mem_cons.mp hn with e | e
    · omega
    · have := ih (fun m hm => h m (List.mem_cons_of_mem _ hm)) n e; omega
theorem ClmOk.sum_pos {ws : List Int} (h : ClmOk ws) : 0 < ws.sum := by
  have e := getD_lt (ls := ws) (i := ws.length - 1) (by have := h.len; omega)
  have h1 := le_sum h.nat _ (List.mem_of_getElem? e)
  have h2 : 0 < ws.getD (ws.length - 1) 0 := h.pos
  omega
theorem chs_len (ws : List Int) : (chs ws).length = ws.length := by simp [chs]
theorem chs_frs {ws : List Int} (h : ClmOk ws) : Frs ws.sum.toNat 10 (chs ws) := Frs.of fun r hr => by
  obtain ⟨n, hn, rfl⟩ := List.mem_map.mp hr
  have := h.nat n hn
  have hp := h.sum_pos
  have e : ((ws.sum.toNat : Nat) : Int) = ws.sum := by omega
  have f := Fr.divInt (t := n) (b := ws.sum.toNat) (n := 10) (by show _ < 1024; omega)
  rw [e] at f
  exact f
theorem rs_getD_sum (f : Int → Rat) : ∀ ws : List Int, rs (fun i => ca (ws.map f) i) ws.length = (ws.map f).sum
  | [] => rfl
  | w :: ws => by
    rw [List.length_cons, rs_front, List.map_cons, List.sum_cons, ← rs_getD_sum f ws]
    rfl
theorem div_sum (s : Int) : ∀ ws : List Int, (ws.map fun n => n /. s).sum = (ws.sum : Rat) * (s : Rat)⁻¹
  | [] => by simp
  | w :: ws => by
    rw [List.map_cons, List.sum_cons, div_sum s ws, List.sum_cons, Rat.intCast_add, Rat.add_mul, divInt_div, Rat.div_def]
theorem chs_s0 {ws : List Int} (h : ClmOk ws) : s0 (chs ws) = 1 := by
  unfold s0
  have e : rs (ca (chs ws)) (chs ws).length = (chs ws).sum := by
    rw [chs_len]
    exact rs_getD_sum (fun n => n /. ws.sum) ws
  rw [e]
  unfold chs
  rw [div_sum]
  exact Rat.mul_inv_cancel _ fun c => by have := Rat.intCast_eq_zero_iff.mp c; have := h.sum_pos; omega
/-- t claims together -/
def sums (c : List Rat) : Nat → List Rat
  | 0 => [1]
  | t + 1 => cvL (sums c t) c
theorem sums_len {ws : List Int} (h : 1 ≤ ws.length) : ∀ t, (sums (chs ws) t).length + t = t * ws.length + 1
  | 0 => by simp [sums]
  | t + 1 => by
    have ih := sums_len h t
    have hl : t * 1 ≤ t * ws.length := Nat.mul_le_mul_left t h
    show (cvL (sums (chs ws) t) (chs ws)).length + (t + 1) = _
    rw [cvL_len, chs_len, Nat.succ_mul]
    omega
theorem sums_pos {ws : List Int} (h : ClmOk ws) (t : Nat) : 1 ≤ (sums (chs ws) t).length := by
  have ih := sums_len h.len t
  have : t * 1 ≤ t * ws.length := Nat.mul_le_mul_left t h.len
  omega
theorem sums_le {ws : List Int} (h : 1 ≤ ws.length) (hl : ws.length ≤ 5) (t : Nat) (ht : t ≤ 4) : (sums (chs ws) t).length ≤ 17 := by
  have ih := sums_len h t
  have h1 : t * ws.length ≤ t * 5 := Nat.mul_le_mul_left t hl
  omega
theorem sums_frs {ws : List Int} (h : ClmOk ws) (hl : ws.length ≤ 5) : ∀ t, t ≤ 4 → Frs (ws.sum.toNat ^ t) (14 + 40 * t) (sums (chs ws) t)
  | 0, _ => Frs.of fun r hr => by
    rw [List.mem_singleton.mp hr, Nat.pow_zero]
    have := Fr.int (i := 1) (n := 14 + 40 * 0) (by decide)
    exact this
  | t + 1, ht => fun i => by
    have f := cvL_fr (l := 17) (sums_frs h hl t (by omega)) (chs_frs h) (sums_le h.len hl t (by omega)) i
    rw [← Nat.pow_succ] at f
    exact f.mono (by omega)
theorem sums_s0 {ws : List Int} (h : ClmOk ws) : ∀ t, s0 (sums (chs ws) t) = 1
  | 0 => by show (0 : Rat) + 1 = 1; rw [Rat.zero_add]
  | t + 1 => by
    show s0 (cvL _ _) = 1
    rw [cv_s0 (by rw [chs_len]; exact h.len), sums_s0 h t, chs_s0 h, Rat.mul_one]
theorem sums_s1 {ws : List Int} (h : ClmOk ws) : ∀ t : Nat, s1 (sums (chs ws) t) = ((t : Int) : Rat) * s1 (chs ws)
  | 0 => by
    show (0 : Rat) + ((0 : Int) : Rat) * 1 = ((0 : Int) : Rat) * _
    rw [Rat.intCast_zero, Rat.zero_mul, Rat.zero_mul, Rat.add_zero]
  | t + 1 => by
    show s1 (cvL _ _) = _
    rw [cv_s1 (by rw [chs_len]; exact h.len), sums_s1 h t, chs_s0 h, sums_s0 h t, Int.natCast_add, Rat.intCast_add]
    show _ = (_ + ((1 : Int) : Rat)) * _
    rw [Rat.intCast_one]
    grind
theorem s_bd {ws : List Int} (h : ClmOk ws) (hl : ws.length ≤ 13) : ws.sum.toNat < 2 ^ 14 ∧ ws.sum.toNat ≠ 0 := by
  have := sum_le h.nat
  have := h.sum_pos
  constructor
  · show _ < 16384; omega
  · omega
theorem spow_lt {ws : List Int} (h : ClmOk ws) (hl : ws.length ≤ 13) : ∀ t, ws.sum.toNat ^ t < 2 ^ (14 * t + 1)
  | 0 => by rw [Nat.pow_zero]; decide
  | t + 1 => by
    rw [Nat.pow_succ, show 14 * (t + 1) + 1 = 14 * t + 1 + 14 by omega, Nat.pow_add 2 (14 * t + 1) 14]
    exact Nat.mul_lt_mul'' (spow_lt h hl t) (s_bd h hl).1
theorem Frs.mono {D n m : Nat} {a : List Rat} (h : Frs D n a) (l : n ≤ m) : Frs D m a := fun i => (h i).mono l
theorem chs_bd {ws : List Int} (h : ClmOk ws) (hl : ws.length ≤ 13) (k : Nat) : Bd 14 (ca (chs ws) k) := ((chs_frs h k).mono (show 10 ≤ 14 by decide)).bd (s_bd h hl).2 (s_bd h hl).1 (by decide)
theorem spow_ne {ws : List Int} (h : ClmOk ws) (t : Nat) : ws.sum.toNat ^ t ≠ 0 := Nat.ne_of_gt (Nat.pow_pos (by have := h.sum_pos; omega))
theorem sums_bd {ws : List Int} (h : ClmOk ws) (hl : ws.length ≤ 5) {t : Nat} (ht : t ≤ 4) (k : Nat) : Bd 174 (ca (sums (chs ws) t) k) := ((sums_frs h hl t ht k).mono (show _ ≤ 174 by omega)).bd (spow_ne h t) (spow_lt h (by omega) t) (by omega)
/-- moments -/
def moments (a : List Rat) : List Rat := (List.range a.length).map fun (k : Nat) => ((k : Int) : Rat) * ca a k
theorem moments_sum (a : List Rat) : (moments a).sum = s1 a := rs_sum _ _
theorem moments_bd {a : List Rat} {b m : Nat} (h : ∀ k, Bd b (ca a k)) (hl : a.length ≤ m) (hm : m ≤ 100) : SumBd ((20 + b + 1) * m + 1) (moments a) := sumBd_of (fun r hr => by
  obtain ⟨k, hk, rfl⟩ := List.mem_map.mp hr
  have := List.mem_range.mp hk
  exact (Bd.int (i := (k : Int)) (n := 20) (by show _ < 1048576; omega) (by decide)).mul (h k)) (by unfold moments; rw [List.length_map, List.length_range]; exact hl)
theorem above_sum : ∀ (k : Nat) (a : List Rat), (aboveF 0 k a).sum = rs (fun i => (((k + i : Nat) : Int) : Rat) * ca a i) a.length
  | k, [] => rfl
  | k, r :: a => by
    have ih := above_sum (k + 1) a
    rw [List.length_cons, rs_front]
    have e : rs (fun i => (((k + (i + 1) : Nat) : Int) : Rat) * ca (r :: a) (i + 1)) a.length = rs (fun i => (((k + 1 + i : Nat) : Int) : Rat) * ca a i) a.length := rs_congr fun i _ => by
      rw [show k + (i + 1) = k + 1 + i by omega]
      rfl
    rw [e, ← ih]
    show _ = (((k + 0 : Nat) : Int) : Rat) * r + _
    simp only [aboveF]
    by_cases c : (k : Int) > 0
    · rw [if_pos c, List.sum_cons, Int.sub_zero]
      rfl
    · have k0 : k = 0 := by omega
      subst k0
      rw [if_neg c]
      show _ = ((0 : Int) : Rat) * r + _
      rw [Rat.intCast_zero, Rat.zero_mul, Rat.zero_add]
theorem above_s1 (a : List Rat) : (aboveF 0 0 a).sum = s1 a := by
  rw [above_sum]
  exact rs_congr fun i _ => by rw [Nat.zero_add]
theorem above_mem : ∀ (k : Nat) (a : List Rat) (r : Rat), r ∈ aboveF 0 k a → ∃ (i : Nat) (x : Rat), x ∈ a ∧ i < k + a.length ∧ r = ((i : Int) : Rat) * x
  | k, [], r, h => by simp [aboveF] at h
  | k, x :: a, r, h => by
    have tail : r ∈ aboveF 0 (k + 1) a → ∃ (i : Nat) (y : Rat), y ∈ x :: a ∧ i < k + (x :: a).length ∧ r = ((i : Int) : Rat) * y := fun h => by
      obtain ⟨i, y, hy, hi, e⟩ := above_mem (k + 1) a r h
      exact ⟨i, y, List.mem_cons_of_mem _ hy, by rw [List.length_cons]; omega, e⟩
    simp only [aboveF] at h
    by_cases c : (k : Int) > 0
    · rw [if_pos c] at h
      rcases List.mem_cons.mp h with e | e
      · exact ⟨k, x, List.mem_cons_self, by rw [List.length_cons]; omega, by rw [e, Int.sub_zero]⟩
      · exact tail e
    · rw [if_neg c] at h
      exact tail h
theorem above_len : ∀ (k : Nat) (a : List Rat), (aboveF 0 k a).length ≤ a.length
  | k, [] => Nat.le_refl _
  | k, x :: a => by
    have := above_len (k + 1) a
    simp only [aboveF]
    split
    · simp only [List.length_cons]; omega
    · simp only [List.length_cons]; omega
theorem above_bd {a : List Rat} {b m : Nat} (h : ∀ r ∈ a, Bd b r) (hl : a.length ≤ m) (hm : m ≤ 100) : SumBd ((20 + b + 1) * m + 1) (aboveF 0 0 a) := sumBd_of (fun r hr => by
  obtain ⟨i, x, hx, hi, rfl⟩ := above_mem 0 a r hr
  exact (Bd.int (i := (i : Int)) (n := 20) (by show _ < 1048576; omega) (by decide)).mul (h x hx)) (Nat.le_trans (above_len 0 a) hl)
theorem chs_mem {ws : List Int} (h : ClmOk ws) (hl : ws.length ≤ 13) : ∀ r ∈ chs ws, Bd 14 r := fun r hr => by
  obtain ⟨i, hi, e⟩ := List.getElem_of_mem hr
  have e2 := ca_at (a := chs ws) (i := i) hi
  rw [List.getElem?_eq_getElem hi, e] at e2
  rw [Option.some.inj e2]
  exact chs_bd h hl i
def spWtsD : SpD := fun ds Q _ => ∃ (ws : List Int) (m : Int), ds = [.tup (ws.map D.int), .int m] ∧ ClmOk ws ∧ (ws.length : Int) ≤ m ∧ Q (.bl true)
def spCheckClmD : SpD := fun ds Q _ => ∃ ws : List Int, ds = [.tup (ws.map D.int)] ∧ ClmOk ws ∧ ws.length ≤ 13 ∧ Q .non
def spChsD : SpD := fun ds Q _ => ∃ ws : List Int, ds = [.tup (ws.map D.int)] ∧ ClmOk ws ∧ ws.length ≤ 13 ∧ Q (.lst (dRs (chs ws)))
def spSummedD : SpD := fun ds Q _ => ∃ (ws : List Int) (t : Nat), ds = [.tup (ws.map D.int), .int (t : Int)] ∧ ClmOk ws ∧ ws.length ≤ 5 ∧ t ≤ 4 ∧ Q (.tup (dRs (sums (chs ws) t)))
def spMeanClmD : SpD := fun ds Q _ => ∃ ws : List Int, ds = [.tup (ws.map D.int)] ∧ ClmOk ws ∧ ws.length ≤ 13 ∧ Q (dR (s1 (chs ws)))
def spClmDrawD : SpD := fun ds Q _ => ∃ most : Int, ds = [D.int most] ∧ 1 ≤ most ∧ most ≤ 8 ∧ ∀ ws : List Int, (ws.length : Int) ≤ most → ClmOk ws → Q (.tup (ws.map D.int))
end Act
namespace Act
variable [GT]
open PySem PySem.Spec PyProof.Rows L2
open scoped Rat
/-! ### sums up to a greatest one -/
theorem cut_to {xs : List D} {m : Nat} (h : m ≤ xs.length) : cutD xs none (some (m : Int)) = xs.take m := by
  unfold cutD
  rw [HT.sIx_none, HT.sIx_nat, List.drop_zero, Nat.sub_zero, Nat.min_eq_left h]
def upto (a : List Rat) (m : Nat) : List Rat := (List.range (m + 1)).map (ca a)
theorem upto_len (a : List Rat) (m : Nat) : (upto a m).length = m + 1 := by simp [upto]
theorem upto_at {a : List Rat} {m i : Nat} (h : i ≤ m) : ca (upto a m) i = ca a i := by
  have e := ca_at (a := upto a m) (i := i) (by rw [upto_len]; omega)
  unfold upto at e
  rw [List.getElem?_map, List.getElem?_range (by omega)] at e
  exact (Option.some.inj e).symm
theorem take_upto {a : List Rat} {m : Nat} (h : m + 1 ≤ a.length) : a.take (m + 1) = upto a m := by
  refine List.ext_getElem? fun i => ?_
  rw [List.getElem?_take]
  by_cases c : i < m + 1
  · rw [if_pos c, ca_at (by omega)]
    unfold upto
    rw [List.getElem?_map, List.getElem?_range c]
    rfl
  · rw [if_neg c, List.getElem?_eq_none (by rw [upto_len]; omega)]
theorem upto_fold (a c : List Rat) (m : Nat) (hc : 0 < c.length) : (cvL (upto a m) c).take (m + 1) = upto (cvL a c) m := by
  by_cases h : True
  · rw [take_upto (by rw [cvL_len, upto_len]; omega)]
    unfold upto
    refine List.map_congr_left fun n hn => ?_
    have hn' := List.mem_range.mp hn
    have e1 : ca (cvL (upto a m) c) n = cv (upto a m) c n := cvL_at (by rw [upto_len]; omega)
    have e2 : ca (cvL a c) n = cv a c n := by
      by_cases h2 : n < a.length + c.length - 1
      · exact cvL_at h2
      · rw [ca_ge (by rw [cvL_len]; omega)]
        unfold cv
        refine (rs_zero fun i hi => ?_).symm
        unfold sh
        by_cases h3 : i ≤ n
        · rw [if_pos h3, ca_ge (a := c) (by omega), Rat.mul_zero]
        · rw [if_neg h3, Rat.mul_zero]
    show ca (cvL (upto a m) c) n = ca (cvL a c) n
    rw [e1, e2, cv_all, cv_all]
    exact rs_congr fun i hi => by rw [upto_at (by omega)]
  · exact absurd trivial h
theorem upto_one (m : Nat) : [dR 1] ++ (List.replicate m [dR 0]).flatten = dRs (upto [1] m) := by
  refine List.ext_getElem? fun i => ?_
  have e : (List.replicate m [dR 0]).flatten = List.replicate m (dR 0) := by
    induction m with
    | zero => rfl
    | succ z ih => rw [List.replicate_succ, List.flatten_cons, ih, List.replicate_succ]; rfl
  rw [e]
  unfold dRs upto
  rw [List.getElem?_map, List.getElem?_map]
  by_cases c : i < m + 1
  · rw [List.getElem?_range c]
    cases i with
    | zero => rfl
    | succ i =>
      show (List.replicate m (dR 0))[i]? = some (dR (ca [1] (i + 1)))
      rw [List.getElem?_replicate, if_pos (by omega), ca_ge (by simp)]
  · rw [List.getElem?_eq_none (by simp; omega), List.getElem?_eq_none (by simp; omega)]
    rfl
theorem pad_upto {a : List Rat} {k m : Nat} (h : m + 1 ≤ a.length + k) : (dRs a ++ (List.replicate k [dR 0]).flatten).take (m + 1) = dRs (upto a m) := by
  refine List.ext_getElem? fun i => ?_
  have e : (List.replicate k [dR 0]).flatten = List.replicate k (dR 0) := by
    clear h
    induction k with
    | zero => rfl
    | succ z ih => rw [List.replicate_succ, List.flatten_cons, ih, List.replicate_succ]; rfl
  have ela : (dRs a).length = a.length := by simp [dRs]
  rw [e, List.getElem?_take]
  by_cases c : i < m + 1
  · rw [if_pos c]
    have er : (dRs (upto a m))[i]? = some (dR (ca a i)) := by
      unfold dRs upto
      rw [List.getElem?_map, List.getElem?_map, List.getElem?_range c]
      rfl
    rw [er]
    by_cases c2 : i < a.length
    · rw [List.getElem?_append_left (by omega)]
      unfold dRs
      rw [List.getElem?_map, ca_at c2]
      rfl
    · rw [List.getElem?_append_right (by omega), ela, List.getElem?_replicate, if_pos (by omega), ca_ge (by omega)]
  · rw [if_neg c, List.getElem?_eq_none (by simp [dRs, upto_len]; omega)]
theorem upto_frs {D n m : Nat} {a : List Rat} (h : Frs D n a) : Frs D n (upto a m) := fun i => by
  by_cases c : i ≤ m
  · rw [upto_at c]; exact h i
  · rw [ca_ge (by rw [upto_len]; omega)]; exact Fr.zero
/-- over one bottom, place by place, up to 40 -/
theorem upto_sums_frs {E m : Nat} {c : List Rat} (hc : 0 < c.length) (hE : Frs E 40 c) (hm : m ≤ 40) : ∀ t, Frs (E ^ t) (1 + 82 * t) (upto (sums c t) m)
  | 0 => upto_frs (Frs.of fun r hr => by
    rw [List.mem_singleton.mp hr, Nat.pow_zero]
    have := Fr.int (i := 1) (n := 1 + 82 * 0) (by decide)
    exact this)
  | t + 1 => fun i => by
    have ih := upto_sums_frs hc hE hm t
    have f := cvL_fr (l := 41) ih hE (by rw [upto_len]; omega)
    by_cases c2 : i ≤ m
    · rw [upto_at c2]
      have e : ca (sums c (t + 1)) i = ca (cvL (upto (sums c t) m) c) i := by
        have u := upto_fold (sums c t) c m hc
        have u1 : ca ((cvL (upto (sums c t) m) c).take (m + 1)) i = ca (cvL (upto (sums c t) m) c) i := by
          rw [take_upto (by rw [cvL_len, upto_len]; omega), upto_at c2]
        rw [← u1, u, upto_at c2]
        rfl
      rw [e]
      have fi := f i
      rw [← Nat.pow_succ] at fi
      exact fi.mono (by omega)
    · rw [ca_ge (by rw [upto_len]; omega)]; exact Fr.zero
theorem epow_lt {E : Nat} (h : E < 2 ^ 40) : ∀ t, E ^ t < 2 ^ (40 * t + 1)
  | 0 => by rw [Nat.pow_zero]; decide
  | t + 1 => by
    rw [Nat.pow_succ, show 40 * (t + 1) + 1 = 40 * t + 1 + 40 by omega, Nat.pow_add 2 (40 * t + 1) 40]
    exact Nat.mul_lt_mul'' (epow_lt h t) h
theorem epow_ne {E : Nat} (h : E ≠ 0) (t : Nat) : E ^ t ≠ 0 := Nat.ne_of_gt (Nat.pow_pos (Nat.pos_of_ne_zero h))
/-! ### trials -/
structure ChOk (p : Rat) : Prop where
  lo : 0 ≤ p.num
  hi : p.num ≤ (p.den : Int)
  bot : p.den ≤ 1000
theorem ChOk.bd {p : Rat} (h : ChOk p) : Bd 10 p := by
  have := h.lo
  have := h.hi
  have := h.bot
  exact ⟨by show _ < 1024; omega, by show _ < 1024; omega⟩
theorem one_sub_parts (p : Rat) : D.tup [.int ((p.den : Int) - p.num), .int (p.den : Int)] = dR (1 - p) := by
  have e := grow_parts (-p)
  rw [← Rat.sub_eq_add_neg, Rat.neg_num, Rat.neg_den] at e
  simp only [dR]
  rw [e.1, e.2]
  congr 3
  omega
def tri (p : Rat) (c : List Rat) : List Rat := (c.map fun r => p * r).set 0 (p * ca c 0 + (1 - p))
theorem tri_len (p : Rat) (c : List Rat) : (tri p c).length = c.length := by simp [tri]
theorem tri_D (p : Rat) (c : List Rat) : (c.map fun r => dR (p * r)).set 0 (dR (p * ca c 0 + (1 - p))) = dRs (tri p c) := by
  unfold tri dRs
  rw [List.map_set, List.map_map]
  rfl
theorem tri_frs {p : Rat} {ws : List Int} (hp : ChOk p) (h : ClmOk ws) (hl : ws.length ≤ 13) : Frs (p.den * ws.sum.toNat) 40 (tri p (chs ws)) := fun i => by
  have fp : Fr p.den 10 p := Fr.self hp.bd
  have f1 : Fr p.den 11 (1 : Rat) := ((Fr.int (i := 1) (n := 1) (by decide)).lift (e := 10) p.den p.den_nz (by have := hp.bot; show _ < 1024; omega)).cast (Nat.one_mul _)
  by_cases c : i < (chs ws).length
  · cases i with
    | zero =>
      have e := ca_at (a := tri p (chs ws)) (i := 0) (by rw [tri_len]; exact c)
      unfold tri at e
      rw [List.getElem?_set, if_pos rfl, if_pos (by rw [List.length_map]; exact c)] at e
      have e2 : ca (tri p (chs ws)) 0 = p * ca (chs ws) 0 + (1 - p) := (Option.some.inj e).symm
      rw [e2]
      have g := (f1.sub (l := 12) fp (by decide) (by decide)).lift ws.sum.toNat (s_bd h hl).2 (s_bd h hl).1
      exact (fp.mul (chs_frs h 0)).add (l := 40) g (by decide) (by decide)
    | succ i =>
      have e := ca_at (a := tri p (chs ws)) (i := i + 1) (by rw [tri_len]; exact c)
      unfold tri at e
      rw [List.getElem?_set, if_neg (by omega), List.getElem?_map, ca_at c] at e
      have e2 : ca (tri p (chs ws)) (i + 1) = p * ca (chs ws) (i + 1) := (Option.some.inj e).symm
      rw [e2]
      exact (fp.mul (chs_frs h (i + 1))).mono (by decide)
  · rw [ca_ge (by rw [tri_len]; omega)]
    exact Fr.zero
theorem tri_bot {p : Rat} {ws : List Int} (hp : ChOk p) (h : ClmOk ws) (hl : ws.length ≤ 13) : p.den * ws.sum.toNat ≠ 0 ∧ p.den * ws.sum.toNat < 2 ^ 40 := by
  refine ⟨Nat.mul_ne_zero p.den_nz (s_bd h hl).2, ?_⟩
  have m : p.den * ws.sum.toNat < 2 ^ 10 * 2 ^ 14 := Nat.mul_lt_mul'' (by have := hp.bot; show _ < 1024; omega) (s_bd h hl).1
  exact Nat.lt_of_lt_of_le m (by decide)
theorem sums_len2 {c : List Rat} (h : 1 ≤ c.length) : ∀ t, (sums c t).length + t = t * c.length + 1
  | 0 => by simp [sums]
  | t + 1 => by
    have ih := sums_len2 h t
    have hl : t * 1 ≤ t * c.length := Nat.mul_le_mul_left t h
    show (cvL (sums c t) c).length + (t + 1) = _
    rw [cvL_len, Nat.succ_mul]
    omega
theorem slen {p : Rat} {ws : List Int} (hl : ws.length ≤ 4) (hp : ChOk p) (h : ClmOk ws) (t : Nat) (ht : t ≤ 5) : 0 < (sums (tri p (chs ws)) t).length ∧ (sums (tri p (chs ws)) t).length ≤ 16 := by
  have l1 := h.len
  have lt : (tri p (chs ws)).length = ws.length := by rw [tri_len, chs_len]
  have e := sums_len2 (c := tri p (chs ws)) (by omega) t
  rw [lt] at e
  have h1 : t * ws.length ≤ t * 4 := Nat.mul_le_mul_left t hl
  have h2 : t * 1 ≤ t * ws.length := Nat.mul_le_mul_left t l1
  omega
theorem sums_tri_frs {p : Rat} {ws : List Int} (hl : ws.length ≤ 4) (hp : ChOk p) (h : ClmOk ws) : ∀ t, t ≤ 5 → Frs ((p.den * ws.sum.toNat) ^ t) (1 + 82 * t) (sums (tri p (chs ws)) t)
  | 0, _ => Frs.of fun r hr => by
    rw [List.mem_singleton.mp hr, Nat.pow_zero]
    have := Fr.int (i := 1) (n := 1 + 82 * 0) (by decide)
    exact this
  | t + 1, ht => fun i => by
    have f := cvL_fr (l := 16) (sums_tri_frs hl hp h t (by omega)) (tri_frs hp h (by omega)) (slen hl hp h t (by omega)).2 i
    rw [← Nat.pow_succ] at f
    exact f.mono (by omega)
def spIsChD : SpD := fun ds Q _ => ∃ p, ds = [dR p] ∧ ChOk p ∧ Q (.bl true)
def spCheckChD : SpD := fun ds Q _ => ∃ p, ds = [dR p] ∧ ChOk p ∧ Q .non
def spUptoD : SpD := fun ds Q _ => ∃ (c : List Rat) (t m E : Nat), ds = [.lst (dRs c), .int (t : Int), .int (m : Int)] ∧ 0 < c.length ∧ c.length ≤ 100 ∧ Frs E 40 c ∧ E ≠ 0 ∧ E < 2 ^ 40 ∧ t ≤ 6 ∧ m ≤ 40 ∧ Q (.lst (dRs (upto (sums c t) m)))
def spBinD : SpD := fun ds Q _ => ∃ (p : Rat) (ws : List Int) (t m : Nat), ds = [.int (t : Int), dR p, .tup (ws.map D.int), .int (m : Int)] ∧ ChOk p ∧ ClmOk ws ∧ ws.length ≤ 13 ∧ 1 ≤ t ∧ t ≤ 6 ∧ m ≤ 40 ∧ Q (.tup (dRs (upto (sums (tri p (chs ws)) t) m)))
end Act
namespace Act
variable [GT]
open PySem PySem.Spec PyProof.Rows L2
open scoped Rat
/-! ### the worst part -/
section
variable (c : List Rat) (W : Rat)
/-- what the k-th from the top gives, and what is wanted still -/
def tkr : Nat → Rat × Rat
  | 0 => (0, W)
  | k + 1 => let r := (tkr k).2; let t := if ca c (c.length - 1 - k) < r then ca c (c.length - 1 - k) else r; (t, r - t)
def rem (k : Nat) : Rat := (tkr c W k).2
def tk (k : Nat) : Rat := if ca c (c.length - 1 - k) < rem c W k then ca c (c.length - 1 - k) else rem c W k
end
section
variable {c : List Rat} {W : Rat}
theorem rem_succ (k : Nat) : rem c W (k + 1) = rem c W k - tk c W k := rfl
theorem rem_zero0 : rem c W 0 = W := rfl
structure WOk (c : List Rat) (W : Rat) : Prop where
  pos : 0 < c.length
  nn : ∀ k, 0 ≤ ca c k
  one : s0 c = 1
  w0 : 0 < W
  w1 : W ≤ 1
theorem rem_nn (h : WOk c W) : ∀ k, 0 ≤ rem c W k
  | 0 => Rat.le_of_lt h.w0
  | k + 1 => by
    have ih := rem_nn h k
    rw [rem_succ]
    unfold tk
    split
    · grind
    · grind
theorem tk_nn (h : WOk c W) (k : Nat) : 0 ≤ tk c W k := by
  unfold tk
  split
  · exact h.nn _
  · exact rem_nn h k
theorem tk_le (k : Nat) : tk c W k ≤ ca c (c.length - 1 - k) := by
  unfold tk
  split
  · exact Rat.le_refl
  · rename_i x; exact Rat.not_lt.mp x
theorem tk_sum : ∀ k, rs (tk c W) k = W - rem c W k
  | 0 => by show (0 : Rat) = W - W; grind
  | k + 1 => by
    show rs (tk c W) k + tk c W k = _
    rw [tk_sum k, rem_succ]
    grind
theorem rem_stay (h : WOk c W) {j : Nat} (hj : rem c W j = 0) : ∀ k, j ≤ k → rem c W k = 0
  | k, hk => by
    induction hk with
    | refl => exact hj
    | @step k _ ih =>
      rw [rem_succ, ih]
      have := h.nn (c.length - 1 - k)
      unfold tk
      rw [ih, if_neg (Rat.not_lt.mpr this)]
      grind
theorem rem_alt (h : WOk c W) : ∀ k, rem c W k = 0 ∨ rem c W k = W - rs (fun j => ca c (c.length - 1 - j)) k
  | 0 => .inr (by show W = W - 0; grind)
  | k + 1 => by
    rcases rem_alt h k with e | e
    · exact .inl (rem_stay h e _ (by omega))
    · rw [rem_succ]
      unfold tk
      split
      · refine .inr ?_
        show _ = W - (rs (fun j => ca c (c.length - 1 - j)) k + ca c (c.length - 1 - k))
        rw [e]; grind
      · exact .inl (by grind)
theorem rem_end (h : WOk c W) : rem c W c.length = 0 := by
  rcases rem_alt h c.length with e | e
  · exact e
  · have e2 : rs (fun j => ca c (c.length - 1 - j)) c.length = 1 := by
      rw [← rs_rev]
      exact h.one
    rw [e2] at e
    have := rem_nn h c.length
    have := h.w1
    grind
theorem tk_edge (h : WOk c W) : ∀ m, (∀ k, k < m → tk c W k = ca c (c.length - 1 - k)) ∨ ∃ k0, k0 < m ∧ (∀ k, k < k0 → tk c W k = ca c (c.length - 1 - k)) ∧ ∀ k, k0 < k → tk c W k = 0
  | 0 => .inl fun k hk => by omega
  | m + 1 => by
    rcases tk_edge h m with e | ⟨k0, h0, h1, h2⟩
    · by_cases x : ca c (c.length - 1 - m) < rem c W m
      · refine .inl fun k hk => ?_
        by_cases c2 : k < m
        · exact e k c2
        · have : k = m := by omega
          subst this
          unfold tk
          rw [if_pos x]
      · refine .inr ⟨m, by omega, e, fun k hk => ?_⟩
        have z : rem c W (m + 1) = 0 := by
          rw [rem_succ]
          unfold tk
          rw [if_neg x]
          grind
        have z2 := rem_stay h z k (by omega)
        unfold tk
        rw [z2, if_neg (Rat.not_lt.mpr (h.nn _))]
    · exact .inr ⟨k0, by omega, h1, h2⟩
end
/-- the parts, place by place -/
def wp (c : List Rat) (W : Rat) : List Rat := (List.range c.length).map fun i => tk c W (c.length - 1 - i)
theorem wp_len (c : List Rat) (W : Rat) : (wp c W).length = c.length := by simp [wp]
theorem wp_at {c : List Rat} {W : Rat} {i : Nat} (h : i < c.length) : ca (wp c W) i = tk c W (c.length - 1 - i) := by
  have e := ca_at (a := wp c W) (i := i) (by rw [wp_len]; exact h)
  unfold wp at e
  rw [List.getElem?_map, List.getElem?_range h] at e
  exact (Option.some.inj e).symm
/-- what is expected above an edge -/
def Ab (c : List Rat) (e : Nat) : Rat := ((List.range (c.length - (e + 1))).map fun (j : Nat) => (((j + 1 : Nat) : Int) : Rat) * ca c (e + 1 + j)).sum
def vl (c : List Rat) (W : Rat) (e : Nat) : Rat := ((e : Int) : Rat) + Ab c e * W⁻¹
section
variable {c : List Rat} {W : Rat}
theorem Ab_eq {e : Nat} (he : e < c.length) : Ab c e = rs (fun i => if e < i then (((i : Int) : Rat) - ((e : Int) : Rat)) * ca c i else 0) c.length := by
  unfold Ab
  rw [rs_sum]
  have s := rs_shift (f := fun j => (((j + 1 : Nat) : Int) : Rat) * ca c (e + 1 + j)) (i := e + 1) (m := c.length - (e + 1)) (c.length - (e + 1))
  rw [show e + 1 + (c.length - (e + 1)) = c.length by omega] at s
  have e1 : rs (fun j => if j < c.length - (e + 1) then (((j + 1 : Nat) : Int) : Rat) * ca c (e + 1 + j) else 0) (c.length - (e + 1)) = rs (fun j => (((j + 1 : Nat) : Int) : Rat) * ca c (e + 1 + j)) (c.length - (e + 1)) := rs_congr fun j hj => if_pos hj
  rw [← e1, ← s]
  refine rs_congr fun i hi => ?_
  by_cases c2 : e < i
  · rw [if_pos c2, if_pos ⟨by omega, by omega⟩]
    show (((i - (e + 1) + 1 : Nat) : Int) : Rat) * ca c (e + 1 + (i - (e + 1))) = _
    rw [show e + 1 + (i - (e + 1)) = i by omega, show ((i - (e + 1) + 1 : Nat) : Int) = (i : Int) - (e : Int) by omega, Rat.intCast_sub]
  · rw [if_neg c2, if_neg (by omega)]
theorem wp_s0 (h : WOk c W) : rs (ca (wp c W)) c.length = W := by
  have e : rs (ca (wp c W)) c.length = rs (fun i => tk c W (c.length - 1 - i)) c.length := rs_congr fun i hi => wp_at hi
  rw [e, ← rs_rev, tk_sum, rem_end h]
  grind
theorem wp_move (h : WOk c W) (e : Nat) : rs (fun i => (((i : Int) : Rat) - ((e : Int) : Rat)) * ca (wp c W) i) c.length = s1 (wp c W) - ((e : Int) : Rat) * W := by
  have e1 : rs (fun i => (((i : Int) : Rat) - ((e : Int) : Rat)) * ca (wp c W) i) c.length = rs (fun i => ((i : Int) : Rat) * ca (wp c W) i + (-((e : Int) : Rat)) * ca (wp c W) i) c.length := rs_congr fun i _ => by grind
  rw [e1, rs_add, rs_mul, wp_s0 h]
  unfold s1
  rw [wp_len]
  grind
theorem rs_le {f g : Nat → Rat} : ∀ {n : Nat}, (∀ i, i < n → f i ≤ g i) → rs f n ≤ rs g n
  | 0, _ => Rat.le_refl
  | n + 1, h => by
    have a := rs_le (n := n) fun i hi => h i (by omega)
    have b := h n (by omega)
    show rs f n + f n ≤ rs g n + g n
    grind
theorem vl_ge (h : WOk c W) {e : Nat} (he : e < c.length) : s1 (wp c W) * W⁻¹ ≤ vl c W e := by
  have m := wp_move h e
  have l : rs (fun i => (((i : Int) : Rat) - ((e : Int) : Rat)) * ca (wp c W) i) c.length ≤ Ab c e := by
    rw [Ab_eq he]
    refine rs_le fun i hi => ?_
    rw [wp_at hi]
    have t0 := tk_nn h (c.length - 1 - i)
    have t1 := tk_le (c := c) (W := W) (c.length - 1 - i)
    rw [show c.length - 1 - (c.length - 1 - i) = i by omega] at t1
    by_cases c2 : e < i
    · rw [if_pos c2]
      refine Rat.mul_le_mul_of_nonneg_left t1 ?_
      have : ((e : Int) : Rat) ≤ ((i : Int) : Rat) := Rat.intCast_le_intCast.mpr (by omega)
      grind
    · rw [if_neg c2]
      have d : (0 : Rat) ≤ ((e : Int) : Rat) - ((i : Int) : Rat) := by
        have : ((i : Int) : Rat) ≤ ((e : Int) : Rat) := Rat.intCast_le_intCast.mpr (by omega)
        grind
      have := Rat.mul_nonneg d t0
      grind
  rw [m] at l
  have wi : 0 ≤ W⁻¹ := Rat.le_of_lt (Rat.inv_pos.mpr h.w0)
  have l2 := Rat.mul_le_mul_of_nonneg_right l wi
  have cw := Rat.mul_inv_cancel W (Rat.ne_of_gt h.w0)
  unfold vl
  have : (s1 (wp c W) - ((e : Int) : Rat) * W) * W⁻¹ = s1 (wp c W) * W⁻¹ - ((e : Int) : Rat) * (W * W⁻¹) := by grind
  rw [this, cw] at l2
  grind
theorem vl_hit (h : WOk c W) : ∃ e, e < c.length ∧ vl c W e = s1 (wp c W) * W⁻¹ := by
  have key : ∀ e, e < c.length → (∀ i, i < c.length → e < i → tk c W (c.length - 1 - i) = ca c i) → (∀ i, i < e → tk c W (c.length - 1 - i) = 0) → vl c W e = s1 (wp c W) * W⁻¹ := fun e he h1 h2 => by
    have m := wp_move h e
    have l : rs (fun i => (((i : Int) : Rat) - ((e : Int) : Rat)) * ca (wp c W) i) c.length = Ab c e := by
      rw [Ab_eq he]
      refine rs_congr fun i hi => ?_
      rw [wp_at hi]
      by_cases c2 : e < i
      · rw [if_pos c2, h1 i hi c2]
      · rw [if_neg c2]
        by_cases c3 : i = e
        · subst c3; grind
        · rw [h2 i (by omega), Rat.mul_zero]
    rw [m] at l
    have cw := Rat.mul_inv_cancel W (Rat.ne_of_gt h.w0)
    unfold vl
    rw [← l]
    have : (s1 (wp c W) - ((e : Int) : Rat) * W) * W⁻¹ = s1 (wp c W) * W⁻¹ - ((e : Int) : Rat) * (W * W⁻¹) := by grind
    rw [this, cw]
    grind
  have hp := h.pos
  rcases tk_edge h c.length with e | ⟨k0, h0, h1, h2⟩
  · exact ⟨0, hp, key 0 hp (fun i hi _ => by rw [e _ (by omega), show c.length - 1 - (c.length - 1 - i) = i by omega]) fun i hi => by omega⟩
  · exact ⟨c.length - 1 - k0, by omega, key _ (by omega) (fun i hi hl => by rw [h1 _ (by omega), show c.length - 1 - (c.length - 1 - i) = i by omega]) fun i hi => h2 _ (by omega)⟩
end
/-- the least of the first ones -/
def mnv (f : Nat → Rat) : Nat → Rat
  | 0 => f 0
  | i + 1 => if f (i + 1) < mnv f i then f (i + 1) else mnv f i
theorem mnv_le (f : Nat → Rat) : ∀ m i, i ≤ m → mnv f m ≤ f i
  | 0, i, hi => by rw [show i = 0 by omega]; exact Rat.le_refl
  | m + 1, i, hi => by
    show (if f (m + 1) < mnv f m then f (m + 1) else mnv f m) ≤ f i
    by_cases c : i = m + 1
    · subst c
      split
      · exact Rat.le_refl
      · rename_i x; exact Rat.not_lt.mp x
    · have ih := mnv_le f m i (by omega)
      split
      · rename_i x; exact Rat.le_trans (Rat.le_of_lt x) ih
      · exact ih
theorem mnv_mem (f : Nat → Rat) : ∀ m, ∃ i, i ≤ m ∧ mnv f m = f i
  | 0 => ⟨0, Nat.le_refl _, rfl⟩
  | m + 1 => by
    obtain ⟨i, hi, e⟩ := mnv_mem f m
    by_cases x : f (m + 1) < mnv f m
    · exact ⟨m + 1, Nat.le_refl _, if_pos x⟩
    · exact ⟨i, by omega, by rw [← e]; exact if_neg x⟩
theorem mnv_all {c : List Rat} {W : Rat} (h : WOk c W) : mnv (vl c W) (c.length - 1) = s1 (wp c W) * W⁻¹ := by
  obtain ⟨e, he, ee⟩ := vl_hit h
  obtain ⟨i, hi, ei⟩ := mnv_mem (vl c W) (c.length - 1)
  have l1 := mnv_le (vl c W) (c.length - 1) e (by omega)
  have l2 := vl_ge h (e := i) (by have := h.pos; omega)
  rw [ee] at l1
  rw [← ei] at l2
  exact Rat.le_antisymm l1 l2
end Act
namespace Act
variable [GT]
open PySem PySem.Spec PyProof.Rows L2
open scoped Rat
structure LvOk (p : Rat) : Prop where
  ch : ChOk p
  lt : p.num < (p.den : Int)
theorem lv_pos {p : Rat} (h : LvOk p) : 0 < 1 - p := by
  rw [Rat.sub_eq_add_neg]
  exact grow_pos (by rw [Rat.neg_num, Rat.neg_den]; have := h.lt; omega)
theorem chs_nn {ws : List Int} (h : ClmOk ws) (k : Nat) : 0 ≤ ca (chs ws) k := by
  by_cases c : k < (chs ws).length
  · obtain ⟨n, hn, e⟩ := List.mem_map.mp (ca_mem c)
    change _ = ca (chs ws) k at e
    rw [← e, divInt_div, Rat.div_def]
    exact Rat.mul_nonneg (Rat.intCast_nonneg.mpr (h.nat n hn).1) (Rat.le_of_lt (Rat.inv_pos.mpr (Rat.intCast_pos.mpr h.sum_pos)))
  · rw [ca_ge (by omega)]; exact Rat.le_refl
theorem wok {ws : List Int} {p : Rat} (h : ClmOk ws) (hp : LvOk p) : WOk (chs ws) (1 - p) where
  pos := by rw [chs_len]; exact h.len
  nn := chs_nn h
  one := chs_s0 h
  w0 := lv_pos hp
  w1 := by
    have : 0 ≤ p := Rat.num_nonneg.mp hp.ch.lo
    grind
theorem W_fr2 {p : Rat} {ws : List Int} (h : ClmOk ws) (hl : ws.length ≤ 13) (hp : LvOk p) : Fr (p.den * ws.sum.toNat) 26 (1 - p) := by
  have fp : Fr p.den 10 p := Fr.self hp.ch.bd
  have f1 : Fr p.den 11 (1 : Rat) := ((Fr.int (i := 1) (n := 1) (by decide)).lift (e := 10) p.den p.den_nz (by have := hp.ch.bot; show _ < 1024; omega)).cast (Nat.one_mul _)
  exact (f1.sub (l := 12) fp (by decide) (by decide)).lift ws.sum.toNat (s_bd h hl).2 (s_bd h hl).1
theorem x_fr {p : Rat} {ws : List Int} (h : ClmOk ws) (hl : ws.length ≤ 13) (hp : LvOk p) (k : Nat) : Fr (p.den * ws.sum.toNat) 20 (ca (chs ws) k) :=
  ((chs_frs h k).lift (e := 10) p.den p.den_nz (by have := hp.ch.bot; show _ < 1024; omega)).cast (Nat.mul_comm _ _)
theorem rem_fr {p : Rat} {ws : List Int} (h : ClmOk ws) (hl : ws.length ≤ 13) (hp : LvOk p) : ∀ k, Fr (p.den * ws.sum.toNat) (26 + k) (rem (chs ws) (1 - p) k)
  | 0 => W_fr2 h hl hp
  | k + 1 => by
    have ih := rem_fr h hl hp k
    rw [rem_succ]
    refine ih.sub (m := 26 + k) ?_ (by omega) (by omega)
    unfold tk
    split
    · exact (x_fr h hl hp _).mono (by omega)
    · exact ih
theorem bot_lt {p : Rat} {ws : List Int} (h : ClmOk ws) (hl : ws.length ≤ 13) (hp : LvOk p) : p.den * ws.sum.toNat ≠ 0 ∧ p.den * ws.sum.toNat < 2 ^ 24 := by
  refine ⟨Nat.mul_ne_zero p.den_nz (s_bd h hl).2, ?_⟩
  have m : p.den * ws.sum.toNat < 2 ^ 10 * 2 ^ 14 := Nat.mul_lt_mul'' (by have := hp.ch.bot; show _ < 1024; omega) (s_bd h hl).1
  exact Nat.lt_of_lt_of_le m (by decide)
theorem rem_bd {p : Rat} {ws : List Int} (h : ClmOk ws) (hl : ws.length ≤ 13) (hp : LvOk p) {k : Nat} (hk : k ≤ 13) : Bd 40 (rem (chs ws) (1 - p) k) :=
  ((rem_fr h hl hp k).mono (show 26 + k ≤ 40 by omega)).bd (bot_lt h hl hp).1 (bot_lt h hl hp).2 (by decide)
theorem tk_bd {p : Rat} {ws : List Int} (h : ClmOk ws) (hl : ws.length ≤ 13) (hp : LvOk p) {k : Nat} (hk : k ≤ 13) : Bd 40 (tk (chs ws) (1 - p) k) := by
  unfold tk
  split
  · exact (chs_bd h hl _).mono (by decide)
  · exact rem_bd h hl hp hk
theorem wp_mem {p : Rat} {ws : List Int} (h : ClmOk ws) (hl : ws.length ≤ 13) (hp : LvOk p) : ∀ r ∈ wp (chs ws) (1 - p), Bd 40 r := fun r hr => by
  obtain ⟨i, hi, rfl⟩ := List.mem_map.mp hr
  have := chs_len ws
  exact tk_bd h hl hp (by omega)
theorem W_bd {p : Rat} (hp : LvOk p) : Bd 12 (1 - p) := one_bd.sub hp.ch.bd
theorem Wi_bd {p : Rat} (hp : LvOk p) : Bd 12 (1 - p)⁻¹ := by
  have b := Bd.div (Rat.ne_of_gt (lv_pos hp)) (Bd.one (n := 1) (by decide)) (W_bd hp)
  have e := disc_parts (r := -p) (by rw [Rat.neg_num, Rat.neg_den]; have := hp.lt; omega)
  rw [← Rat.sub_eq_add_neg] at e
  have h1 := hp.ch.lo
  have h2 := hp.ch.bot
  have h3 := hp.lt
  rw [Rat.neg_den, Rat.neg_num] at e
  exact ⟨by rw [e.1]; show _ < 4096; omega, by have := e.2; show _ < 4096; omega⟩
theorem Wi_D {p : Rat} (hp : LvOk p) : D.tup [.int (p.den : Int), .int ((p.den : Int) - p.num)] = dR (1 - p)⁻¹ := by
  have e := disc_parts (r := -p) (by rw [Rat.neg_num, Rat.neg_den]; have := hp.lt; omega)
  rw [← Rat.sub_eq_add_neg, Rat.neg_den, Rat.neg_num] at e
  simp only [dR]
  rw [e.1, e.2]
  congr 4
  omega
theorem Ab_bd {ws : List Int} (h : ClmOk ws) (hl : ws.length ≤ 13) (e : Nat) : SumBd ((20 + 14 + 1) * 13 + 1) ((List.range ((chs ws).length - (e + 1))).map fun (j : Nat) => (((j + 1 : Nat) : Int) : Rat) * ca (chs ws) (e + 1 + j)) := sumBd_of (fun r hr => by
  obtain ⟨k, hk, rfl⟩ := List.mem_map.mp hr
  have := List.mem_range.mp hk
  have := chs_len ws
  exact (Bd.int (i := ((k + 1 : Nat) : Int)) (n := 20) (by show _ < 1048576; omega) (by decide)).mul (chs_bd h hl _)) (by rw [List.length_map, List.length_range]; have := chs_len ws; omega)
theorem Ab_bd2 {ws : List Int} (h : ClmOk ws) (hl : ws.length ≤ 13) (e : Nat) : Bd ((20 + 14 + 1) * 13 + 1) (Ab (chs ws) e) := by
  have := (Ab_bd h hl e).2 _ (Nat.le_refl _)
  rw [List.take_length] at this
  exact this
theorem vl_bd {ws : List Int} {p : Rat} (h : ClmOk ws) (hl : ws.length ≤ 13) (hp : LvOk p) {e : Nat} (he : e ≤ 13) : Bd 500 (vl (chs ws) (1 - p) e) :=
  ((Bd.int (i := (e : Int)) (n := 20) (by show _ < 1048576; omega) (by decide)).add ((Ab_bd2 h hl e).mul (Wi_bd hp))).mono (by decide)
theorem mnv_bd {ws : List Int} {p : Rat} (h : ClmOk ws) (hl : ws.length ≤ 13) (hp : LvOk p) {m : Nat} (hm : m ≤ 13) : Bd 500 (mnv (vl (chs ws) (1 - p)) m) := by
  obtain ⟨i, hi, e⟩ := mnv_mem (vl (chs ws) (1 - p)) m
  rw [e]
  exact vl_bd h hl hp (by omega)
def spLessD : SpD := fun ds Q _ => ∃ (a b : Rat) (n m : Nat), ds = [dR a, dR b] ∧ Bd n a ∧ Bd m b ∧ n + m ≤ 8900 ∧ Q (.bl (decide (a < b)))
def spCheckLvD : SpD := fun ds Q _ => ∃ p, ds = [dR p] ∧ LvOk p ∧ Q .non
def spEarD : SpD := fun ds Q _ => ∃ (ws : List Int) (p : Rat), ds = [.lst (dRs (chs ws)).reverse, dR (1 - p)] ∧ ClmOk ws ∧ ws.length ≤ 13 ∧ LvOk p ∧ Q (.lst (dRs ((List.range ws.length).map (tk (chs ws) (1 - p)))))
def spClmLvD (f : List Int → Rat → D) : SpD := fun ds Q _ => ∃ (ws : List Int) (p : Rat), ds = [.tup (ws.map D.int), dR p] ∧ ClmOk ws ∧ ws.length ≤ 13 ∧ LvOk p ∧ Q (f ws p)
def spAboveD : SpD := fun ds Q _ => ∃ (ws : List Int) (e : Nat), ds = [.lst (dRs (chs ws)), .int (e : Int)] ∧ ClmOk ws ∧ ws.length ≤ 13 ∧ e < ws.length ∧ Q (dR (Ab (chs ws) e))
theorem wp_rev {ws : List Int} {p : Rat} : (dRs ((List.range ws.length).map (tk (chs ws) (1 - p)))).reverse = dRs (wp (chs ws) (1 - p)) := by
  unfold dRs
  rw [← List.map_reverse]
  congr 1
  refine List.ext_getElem? fun i => ?_
  unfold wp
  rw [chs_len]
  by_cases hi : i < ws.length
  · rw [List.getElem?_reverse (by simpa using hi)]
    simp only [List.length_map, List.length_range, List.getElem?_map]
    rw [List.getElem?_range (by omega), List.getElem?_range hi]
    rfl
  · rw [List.getElem?_eq_none (by simp; omega), List.getElem?_eq_none (by simp; omega)]
theorem lt_dec (a b : Rat) : decide (a.num * (b.den : Int) < b.num * (a.den : Int)) = decide (a < b) := decide_eq_decide.mpr (Rat.lt_iff a b).symm
def dueD (f : Nat → Rat) : Nat → D
  | 0 => .non
  | i + 1 => dR (mnv f i)
theorem dueD_all {ws : List Int} {p : Rat} (h : ClmOk ws) (hp : LvOk p) : dueD (vl (chs ws) (1 - p)) ws.length = dR (s1 (wp (chs ws) (1 - p)) * (1 - p)⁻¹) := by
  have e := mnv_all (wok h hp)
  rw [chs_len] at e
  have l := h.len
  obtain ⟨m, hm⟩ : ∃ m, ws.length = m + 1 := ⟨ws.length - 1, by omega⟩
  rw [hm] at e ⊢
  rw [← e]
  rfl
end Act
namespace Act
variable [GT]
open PySem PySem.Spec PyProof.Rows L2
open scoped Rat
/-! ### folding is associative -/
def cf (f g : Nat → Rat) (n : Nat) : Rat := rs (fun i => f i * g (n - i)) (n + 1)
theorem cv_cf (a b : List Rat) (n : Nat) : cv a b n = cf (ca a) (ca b) n := cv_all a b n
theorem cv_out {a b : List Rat} {n : Nat} (h : a.length + b.length - 1 ≤ n) : cv a b n = 0 := by
  unfold cv
  refine rs_zero fun i hi => ?_
  unfold sh
  by_cases h3 : i ≤ n
  · rw [if_pos h3, ca_ge (a := b) (by omega), Rat.mul_zero]
  · rw [if_neg h3, Rat.mul_zero]
theorem ca_cvL (a b : List Rat) (n : Nat) : ca (cvL a b) n = cf (ca a) (ca b) n := by
  rw [← cv_cf]
  by_cases h : n < a.length + b.length - 1
  · exact cvL_at h
  · rw [ca_ge (by rw [cvL_len]; omega), cv_out (by omega)]
theorem rs_right (c : Rat) (f : Nat → Rat) (n : Nat) : rs (fun i => f i * c) n = rs f n * c := by
  rw [Rat.mul_comm, ← rs_mul]
  exact rs_congr fun i _ => Rat.mul_comm _ _
theorem rs_tri (F : Nat → Nat → Rat) (n : Nat) : rs (fun i => rs (fun j => F i j) (i + 1)) (n + 1) = rs (fun j => rs (fun k => F (j + k) j) (n - j + 1)) (n + 1) := by
  have e1 : rs (fun i => rs (fun j => F i j) (i + 1)) (n + 1) = rs (fun i => rs (fun j => if j ≤ i then F i j else 0) (n + 1)) (n + 1) := rs_congr fun i hi => by
    rw [rs_ext (f := fun j => if j ≤ i then F i j else 0) (m := i + 1) (fun j hj => if_neg (by omega)) (n + 1) (by omega)]
    exact rs_congr fun j hj => (if_pos (by omega)).symm
  rw [e1, rs_swap]
  refine rs_congr fun j hj => ?_
  have s := rs_shift (f := fun k => F (j + k) j) (i := j) (m := n - j + 1) (n - j + 1)
  rw [show j + (n - j + 1) = n + 1 by omega] at s
  have e2 : rs (fun k => if k < n - j + 1 then F (j + k) j else 0) (n - j + 1) = rs (fun k => F (j + k) j) (n - j + 1) := rs_congr fun k hk => if_pos hk
  rw [← e2, ← s]
  refine rs_congr fun i hi => ?_
  by_cases c : j ≤ i
  · rw [if_pos c, if_pos ⟨c, by omega⟩]
    show F i j = F (j + (i - j)) j
    rw [show j + (i - j) = i by omega]
  · rw [if_neg c, if_neg (by omega)]
theorem cf_assoc (f g h : Nat → Rat) (n : Nat) : cf (cf f g) h n = cf f (cf g h) n := by
  have e1 : cf (cf f g) h n = rs (fun i => rs (fun j => f j * g (i - j) * h (n - i)) (i + 1)) (n + 1) := rs_congr fun i _ => by
    unfold cf
    rw [rs_right]
  rw [e1, rs_tri]
  refine rs_congr fun j hj => ?_
  show _ = f j * rs (fun k => g k * h (n - j - k)) (n - j + 1)
  rw [← rs_mul]
  refine rs_congr fun k hk => ?_
  rw [show j + k - j = k by omega, show n - (j + k) = n - j - k by omega, Rat.mul_assoc]
theorem ca_assoc (a b c : List Rat) (n : Nat) : ca (cvL (cvL a b) c) n = ca (cvL a (cvL b c)) n := by
  rw [ca_cvL, ca_cvL]
  have e1 : ca (cvL a b) = cf (ca a) (ca b) := funext (ca_cvL a b)
  have e2 : ca (cvL b c) = cf (ca b) (ca c) := funext (ca_cvL b c)
  rw [e1, e2, cf_assoc]
end Act
namespace Act
variable [GT]
open PySem PySem.Spec PyProof.Rows L2
open scoped Rat
/-! ### waiting for a success -/
/-- the chances of the totals 0 to g before the first success -/
def wL (p : Rat) (f : Nat → Rat) : Nat → List Rat
  | 0 => [p / (1 - f 0)]
  | g + 1 => wL p f g ++ [rs (fun a => f (a + 1) * ca (wL p f g) (g - a)) (g + 1) / (1 - f 0)]
section
variable {p : Rat} {f : Nat → Rat}
theorem wL_len : ∀ g, (wL p f g).length = g + 1
  | 0 => rfl
  | g + 1 => by
    show (wL p f g ++ [_]).length = _
    rw [List.length_append, wL_len g]
    rfl
theorem wL_stay {n m : Nat} (h : n ≤ m) : ca (wL p f m) n = ca (wL p f n) n := by
  induction h with
  | refl => rfl
  | @step m hm ih =>
    have hm' : n ≤ m := hm
    rw [← ih]
    show ca (wL p f m ++ [_]) n = _
    have hl := wL_len (p := p) (f := f) m
    unfold ca
    simp only [List.getD]
    rw [List.getElem?_append_left (by omega)]
theorem wL_last (g : Nat) : ca (wL p f (g + 1)) (g + 1) = rs (fun a => f (a + 1) * ca (wL p f g) (g - a)) (g + 1) / (1 - f 0) := by
  show ca (wL p f g ++ [_]) (g + 1) = _
  have hl := wL_len (p := p) (f := f) g
  unfold ca
  simp only [List.getD]
  rw [List.getElem?_append_right (by omega), hl, Nat.sub_self]
  rfl
/-- one more trial: a success at once, or a failure and its claim -/
theorem wL_eq (hL : 1 - f 0 ≠ 0) {m n : Nat} (h : n ≤ m) : ca (wL p f m) n = (if n = 0 then p else 0) + cf f (ca (wL p f m)) n := by
  have c := Rat.mul_inv_cancel _ hL
  rw [wL_stay h]
  cases n with
  | zero =>
    rw [if_pos rfl]
    have e : cf f (ca (wL p f m)) 0 = f 0 * (p / (1 - f 0)) := by
      show (0 : Rat) + f 0 * ca (wL p f m) 0 = _
      rw [wL_stay (Nat.zero_le m), Rat.zero_add]
      rfl
    rw [e]
    show p / (1 - f 0) = _
    rw [Rat.div_def]
    generalize (1 - f 0)⁻¹ = i at c ⊢
    grind
  | succ g =>
    rw [if_neg (by omega), Rat.zero_add, wL_last]
    have e : cf f (ca (wL p f m)) (g + 1) = f 0 * ca (wL p f (g + 1)) (g + 1) + rs (fun a => f (a + 1) * ca (wL p f g) (g - a)) (g + 1) := by
      unfold cf
      rw [rs_front]
      show f 0 * ca (wL p f m) (g + 1) + _ = _
      rw [wL_stay h]
      congr 1
      refine rs_congr fun a ha => ?_
      rw [show g + 1 - (a + 1) = g - a by omega, wL_stay (show g - a ≤ m by omega), wL_stay (n := g - a) (m := g) (by omega)]
    rw [e, wL_last, Rat.div_def]
    generalize rs (fun a => f (a + 1) * ca (wL p f g) (g - a)) (g + 1) = s
    generalize (1 - f 0)⁻¹ = i at c ⊢
    grind
theorem cf_comm (f g : Nat → Rat) (n : Nat) : cf f g n = cf g f n := by
  unfold cf
  rw [rs_rev]
  refine rs_congr fun i hi => ?_
  rw [show n + 1 - 1 - i = n - i by omega, show n - (n - i) = i by omega, Rat.mul_comm]
theorem cf_low {f g g' : Nat → Rat} {n : Nat} (h : ∀ i, i ≤ n → g i = g' i) : cf f g n = cf f g' n := rs_congr fun i _ => by rw [h (n - i) (by omega)]
/-- the law of more successes: with what is before folded in -/
theorem wait_law (hL : 1 - f 0 ≠ 0) (A : Nat → Rat) {m n : Nat} (h : n ≤ m) : cf A (ca (wL p f m)) n = p * A n + cf f (cf A (ca (wL p f m))) n := by
  have e1 : cf A (ca (wL p f m)) n = cf A (fun i => (if i = 0 then p else 0) + cf f (ca (wL p f m)) i) n := cf_low fun i hi => wL_eq hL (by omega)
  have e2 : cf A (fun i => (if i = 0 then p else 0) + cf f (ca (wL p f m)) i) n = cf A (fun i => if i = 0 then p else 0) n + cf A (cf f (ca (wL p f m))) n := by
    unfold cf
    rw [← rs_add]
    exact rs_congr fun i _ => Rat.mul_add _ _ _
  have e3 : cf A (fun i => if i = 0 then p else 0) n = p * A n := by
    show rs _ n + A n * (if n - n = 0 then p else 0) = _
    rw [rs_zero fun i hi => by show A i * (if n - i = 0 then p else 0) = 0; rw [if_neg (by omega), Rat.mul_zero], if_pos (by omega), Rat.zero_add, Rat.mul_comm]
  have e4 : cf A (cf f (ca (wL p f m))) n = cf f (cf A (ca (wL p f m))) n := by
    rw [← cf_assoc, ← cf_assoc]
    have : cf A f = cf f A := funext (cf_comm A f)
    rw [this]
  rw [e1, e2, e3, e4]
end
end Act
namespace Act
variable [GT]
open PySem PySem.Spec PyProof.Rows L2
open scoped Rat
theorem flat_rep (x : D) : ∀ n : Nat, (List.replicate n [x]).flatten = List.replicate n x
  | 0 => rfl
  | n + 1 => by rw [List.replicate_succ, List.flatten_cons, flat_rep x n, List.replicate_succ]; rfl
theorem mul3_lt {x y z a b c : Nat} (hx : x < 2 ^ a) (hy : y < 2 ^ b) (hz : z < 2 ^ c) : x * y * z < 2 ^ (a + b + c) := by
  rw [Nat.pow_add, Nat.pow_add]
  exact Nat.mul_lt_mul'' (Nat.mul_lt_mul'' hx hy) hz
theorem lt_pow {x a b : Nat} (h : x < 2 ^ a) (l : a ≤ b) : x < 2 ^ b := Nat.lt_of_lt_of_le h (Nat.pow_le_pow_right (by decide) l)
/-! ### sums of failures (k37): sizes -/
/-- the chance that a trial fails, with a claim of this amount -/
def fW (p : Rat) (ws : List Int) (a : Nat) : Rat := (1 - p) * ca (chs ws) a
def uW (p : Rat) (ws : List Int) : Int := (p.den : Int) * ws.sum - ((p.den : Int) - p.num) * lat ws 0
structure WaitOk (p : Rat) (ws : List Int) : Prop where
  ch : ChOk p
  pos : 0 < p.num
  clm : ClmOk ws
  len : ws.length ≤ 4
theorem ca_chs {ws : List Int} (i : Nat) : ca (chs ws) i = (lat ws i : Rat) / (ws.sum : Rat) := by
  by_cases c : i < ws.length
  · have e := ca_at (a := chs ws) (i := i) (by rw [chs_len]; exact c)
    have e2 : (chs ws)[i]? = some (lat ws i /. ws.sum) := by
      unfold chs
      rw [List.getElem?_map, getD_lt c]
      rfl
    rw [e2] at e
    rw [← Option.some.inj e, divInt_div]
  · rw [ca_ge (by rw [chs_len]; omega)]
    have : lat ws i = 0 := getD_ge (by omega)
    rw [this, Rat.div_def]
    simp
section
variable {p : Rat} {ws : List Int}
theorem WaitOk.sum (h : WaitOk p ws) : 0 < ws.sum ∧ ws.sum ≤ 4000 := by
  have := sum_le h.clm.nat
  have := h.clm.sum_pos
  have := h.len
  omega
theorem lat_le {ws : List Int} (h : ClmOk ws) (i : Nat) : 0 ≤ lat ws i ∧ lat ws i ≤ 1000 ∧ lat ws i ≤ ws.sum := by
  have hs := sum_le h.nat
  by_cases c : i < ws.length
  · have m := List.mem_of_getElem? (getD_lt (ls := ws) c)
    have := h.nat _ m
    exact ⟨this.1, this.2, le_sum h.nat _ m⟩
  · have : lat ws i = 0 := getD_ge (by omega)
    rw [this]; omega
theorem WaitOk.u (h : WaitOk p ws) : 0 < uW p ws ∧ uW p ws ≤ 4000000 := by
  have hs := h.sum
  have l := lat_le h.clm 0
  have h1 := h.pos
  have h2 := h.ch.hi
  have h3 := h.ch.bot
  have dp := p.den_pos
  unfold uW
  have a1 : ((p.den : Int) - p.num) * lat ws 0 ≤ ((p.den : Int) - p.num) * ws.sum := Int.mul_le_mul_of_nonneg_left l.2.2 (by omega)
  have a2 : ((p.den : Int) - p.num) * ws.sum = (p.den : Int) * ws.sum - p.num * ws.sum := Int.sub_mul ..
  have a3 : 1 * 1 ≤ p.num * ws.sum := Int.mul_le_mul (by omega) (by omega) (by decide) (by omega)
  have a4 : (p.den : Int) * ws.sum ≤ 1000 * 4000 := Int.mul_le_mul (by omega) hs.2 (by omega) (by decide)
  have a5 : 0 ≤ ((p.den : Int) - p.num) * lat ws 0 := Int.mul_nonneg (by omega) l.1
  omega
theorem leave_eq (h : WaitOk p ws) : 1 - fW p ws 0 = (uW p ws : Rat) / (((p.den : Int) * ws.sum : Int) : Rat) := by
  have hs := h.sum
  have np : ((p.den : Int) : Rat) ≠ 0 := fun e => by have := Rat.intCast_eq_zero_iff.mp e; have := p.den_pos; omega
  have ns : (ws.sum : Rat) ≠ 0 := fun e => by have := Rat.intCast_eq_zero_iff.mp e; omega
  have ep : p = (p.num : Rat) / ((p.den : Int) : Rat) := by rw [← divInt_div]; exact (Rat.num_divInt_den p).symm
  unfold fW uW
  rw [ca_chs]
  rw [Rat.intCast_sub, Rat.intCast_mul, Rat.intCast_mul, Rat.intCast_sub, Rat.div_def, Rat.div_def, Rat.inv_mul_rev]
  rw [Rat.div_def] at ep
  have i1 := Rat.mul_inv_cancel _ np
  have i2 := Rat.mul_inv_cancel _ ns
  generalize (p.num : Rat) = pn at *
  generalize ((p.den : Int) : Rat) = pd at *
  generalize (ws.sum : Rat) = s at *
  generalize (lat ws 0 : Rat) = n0 at *
  generalize pd⁻¹ = pi at *
  generalize s⁻¹ = si at *
  rw [ep]
  grind
theorem leave_ne (h : WaitOk p ws) : 1 - fW p ws 0 ≠ 0 := by
  rw [leave_eq h]
  have hs := h.sum
  have hu := h.u
  have np : (((p.den : Int) * ws.sum : Int) : Rat) ≠ 0 := fun e => by
    have e2 := Rat.intCast_eq_zero_iff.mp e
    have dp := p.den_pos
    have : 1 * 1 ≤ (p.den : Int) * ws.sum := Int.mul_le_mul (by omega) (by omega) (by decide) (by omega)
    omega
  have nu : (uW p ws : Rat) ≠ 0 := fun e => by have := Rat.intCast_eq_zero_iff.mp e; omega
  rw [Rat.div_def]
  intro e
  rcases Rat.mul_eq_zero.mp e with e | e
  · exact nu e
  · have i1 := Rat.mul_inv_cancel _ np
    rw [e, Rat.mul_zero] at i1
    exact absurd i1 (by decide)
/-- what is divided by the leaving part: over U -/
theorem over_fr (h : WaitOk p ws) {x : Rat} {t : Int} (hx : x = (t : Rat) / (((p.den : Int) * ws.sum : Int) : Rat)) {n : Nat} (ht : t.natAbs < 2 ^ n) : Fr (uW p ws).toNat n (x / (1 - fW p ws 0)) := by
  have hu := h.u
  have hs := h.sum
  refine ⟨t, ?_, ht⟩
  have np : (((p.den : Int) * ws.sum : Int) : Rat) ≠ 0 := fun e => by
    have e2 := Rat.intCast_eq_zero_iff.mp e
    have dp := p.den_pos
    have : 1 * 1 ≤ (p.den : Int) * ws.sum := Int.mul_le_mul (by omega) (by omega) (by decide) (by omega)
    omega
  have nu : (uW p ws : Rat) ≠ 0 := fun e => by have := Rat.intCast_eq_zero_iff.mp e; omega
  rw [leave_eq h, hx, show (((uW p ws).toNat : Nat) : Int) = uW p ws by omega]
  have i1 := Rat.mul_inv_cancel _ np
  have i2 := Rat.mul_inv_cancel _ nu
  rw [Rat.div_def, Rat.div_def, Rat.div_def, Rat.div_def, Rat.inv_mul_rev, Rat.inv_inv]
  generalize ((((p.den : Int) * ws.sum : Int) : Rat)) = z at *
  generalize (uW p ws : Rat) = u at *
  generalize z⁻¹ = zi at *
  generalize u⁻¹ = ui at *
  grind
theorem fW_eq (p : Rat) (ws : List Int) (a : Nat) : fW p ws a = ((((p.den : Int) - p.num) * lat ws a : Int) : Rat) / (((p.den : Int) * ws.sum : Int) : Rat) := by
  have np : ((p.den : Int) : Rat) ≠ 0 := fun e => by have := Rat.intCast_eq_zero_iff.mp e; have := p.den_pos; omega
  have ep : p = (p.num : Rat) / ((p.den : Int) : Rat) := by rw [← divInt_div]; exact (Rat.num_divInt_den p).symm
  unfold fW
  rw [ca_chs]
  rw [Rat.intCast_mul, Rat.intCast_mul, Rat.intCast_sub, Rat.div_def, Rat.div_def, Rat.inv_mul_rev]
  rw [Rat.div_def] at ep
  have i1 := Rat.mul_inv_cancel _ np
  generalize (p.num : Rat) = pn at *
  generalize ((p.den : Int) : Rat) = pd at *
  generalize (ws.sum : Rat)⁻¹ = si at *
  generalize (lat ws a : Rat) = n0 at *
  generalize pd⁻¹ = pi at *
  rw [ep]
  grind
theorem fW_top (h : WaitOk p ws) (a : Nat) : (((p.den : Int) - p.num) * lat ws a).natAbs < 2 ^ 20 := by
  have l := lat_le h.clm a
  have h1 := h.pos
  have h2 := h.ch.hi
  have h3 := h.ch.bot
  have a1 : ((p.den : Int) - p.num) * lat ws a ≤ 1000 * 1000 := Int.mul_le_mul (by omega) l.2.1 l.1 (by decide)
  have a2 : 0 ≤ ((p.den : Int) - p.num) * lat ws a := Int.mul_nonneg (by omega) l.1
  show _ < 1048576
  omega
theorem fW_over (h : WaitOk p ws) (a : Nat) : Fr (uW p ws).toNat 20 (fW p ws a / (1 - fW p ws 0)) := over_fr h (fW_eq p ws a) (fW_top h a)
theorem w0_over (h : WaitOk p ws) : Fr (uW p ws).toNat 22 (p / (1 - fW p ws 0)) := by
  have hs := h.sum
  refine over_fr h (t := p.num * ws.sum) ?_ ?_
  · have ep : p = (p.num : Rat) / ((p.den : Int) : Rat) := by rw [← divInt_div]; exact (Rat.num_divInt_den p).symm
    have ns : (ws.sum : Rat) ≠ 0 := fun e => by have := Rat.intCast_eq_zero_iff.mp e; omega
    have i := Rat.mul_inv_cancel _ ns
    rw [Rat.intCast_mul, Rat.intCast_mul, Rat.div_def, Rat.inv_mul_rev]
    rw [Rat.div_def] at ep
    generalize (p.num : Rat) = pn at *
    generalize ((p.den : Int) : Rat)⁻¹ = pi at *
    generalize (ws.sum : Rat) = s at *
    generalize s⁻¹ = si at *
    rw [ep]
    grind
  · have h1 := h.pos
    have h2 := h.ch.hi
    have h3 := h.ch.bot
    have a1 : p.num * ws.sum ≤ 1000 * 4000 := Int.mul_le_mul (by omega) hs.2 (by omega) (by decide)
    have a2 : 0 ≤ p.num * ws.sum := Int.mul_nonneg (by omega) (by omega)
    show _ < 4194304
    omega
theorem upow_lt (h : WaitOk p ws) : ∀ t, (uW p ws).toNat ^ t < 2 ^ (22 * t + 1)
  | 0 => by rw [Nat.pow_zero]; decide
  | t + 1 => by
    have hu := h.u
    rw [Nat.pow_succ, show 22 * (t + 1) + 1 = 22 * t + 1 + 22 by omega, Nat.pow_add 2 (22 * t + 1) 22]
    exact Nat.mul_lt_mul'' (upow_lt h t) (by show _ < 4194304; omega)
theorem upow13 (h : WaitOk p ws) {b : Nat} (hb : 287 ≤ b) : (uW p ws).toNat ^ 13 < 2 ^ b := lt_pow (upow_lt h 13) hb
theorem upow_ne (h : WaitOk p ws) (t : Nat) : (uW p ws).toNat ^ t ≠ 0 := Nat.ne_of_gt (Nat.pow_pos (by have := h.u; omega))
theorem w_over (h : WaitOk p ws) : ∀ g, g ≤ 12 → ∀ i, i ≤ g → Fr ((uW p ws).toNat ^ (i + 1)) (24 + 48 * i) (ca (wL p (fW p ws) g) i) := by
  have main : ∀ i, i ≤ 12 → Fr ((uW p ws).toNat ^ (i + 1)) (24 + 48 * i) (ca (wL p (fW p ws) i) i) := by
    intro i
    induction i using Nat.strongRecOn with
    | _ i ih =>
      intro hi
      cases i with
      | zero =>
        have e : ca (wL p (fW p ws) 0) 0 = p / (1 - fW p ws 0) := rfl
        rw [e, Nat.zero_add, Nat.pow_one]
        exact (w0_over h).mono (by omega)
      | succ g =>
        rw [wL_last, Rat.div_def, ← rs_right]
        have term : ∀ a, Fr ((uW p ws).toNat ^ (g + 1 + 1)) (45 + 48 * g) (if a ≤ g then fW p ws (a + 1) * ca (wL p (fW p ws) g) (g - a) * (1 - fW p ws 0)⁻¹ else 0) := fun a => by
          by_cases c : a ≤ g
          · rw [if_pos c]
            have e : fW p ws (a + 1) * ca (wL p (fW p ws) g) (g - a) * (1 - fW p ws 0)⁻¹ = fW p ws (a + 1) / (1 - fW p ws 0) * ca (wL p (fW p ws) (g - a)) (g - a) := by
              rw [wL_stay (show g - a ≤ g by omega), Rat.div_def]
              grind
            rw [e]
            have f1 := (ih (g - a) (by omega) (by omega)).lift ((uW p ws).toNat ^ a) (upow_ne h a) (upow_lt h a)
            rw [← Nat.pow_add, show g - a + 1 + a = g + 1 by omega] at f1
            have f2 := (fW_over h (a + 1)).mul f1
            rw [← Nat.pow_succ'] at f2
            exact f2.mono (by omega)
          · rw [if_neg c]; exact Fr.zero
        have s := rs_fr term (g + 1)
        have e : rs (fun i => fW p ws (i + 1) * ca (wL p (fW p ws) g) (g - i) * (1 - fW p ws 0)⁻¹) (g + 1) = rs (fun a => if a ≤ g then fW p ws (a + 1) * ca (wL p (fW p ws) g) (g - a) * (1 - fW p ws 0)⁻¹ else 0) (g + 1) := rs_congr fun a ha => (if_pos (by omega)).symm
        rw [e]
        exact s.mono (by omega)
  intro g hg i hi
  rw [wL_stay hi]
  exact main i (by omega)
theorem w_frs (h : WaitOk p ws) {m : Nat} (hm : m ≤ 12) : Frs ((uW p ws).toNat ^ 13) 865 (wL p (fW p ws) m) := fun i => by
  by_cases c : i ≤ m
  · have f := (w_over h m hm i c).lift ((uW p ws).toNat ^ (12 - i)) (upow_ne h _) (upow_lt h _)
    rw [← Nat.pow_add, show i + 1 + (12 - i) = 13 by omega] at f
    exact f.mono (by omega)
  · rw [ca_ge (by rw [wL_len]; omega)]
    exact Fr.zero
end
/-- the same as upto_sums_frs, for greater bottoms -/
theorem upto_frs2 {E m n : Nat} {c : List Rat} (hc : 0 < c.length) (hE : Frs E n c) (hm : m ≤ 12) : ∀ t, Frs (E ^ t) (1 + (n + 14) * t) (upto (sums c t) m)
  | 0 => upto_frs (Frs.of fun r hr => by
    rw [List.mem_singleton.mp hr, Nat.pow_zero]
    have := Fr.int (i := 1) (n := 1) (by decide)
    exact this.mono (by omega))
  | t + 1 => fun i => by
    have ih := upto_frs2 hc hE hm t
    have f := cvL_fr (l := 13) ih hE (by rw [upto_len]; omega)
    by_cases c2 : i ≤ m
    · rw [upto_at c2]
      have e : ca (sums c (t + 1)) i = ca (cvL (upto (sums c t) m) c) i := by
        have u := upto_fold (sums c t) c m hc
        have u1 : ca ((cvL (upto (sums c t) m) c).take (m + 1)) i = ca (cvL (upto (sums c t) m) c) i := by
          rw [take_upto (by rw [cvL_len, upto_len]; omega), upto_at c2]
        rw [← u1, u, upto_at c2]
        rfl
      rw [e]
      have fi := f i
      rw [← Nat.pow_succ] at fi
      exact fi.mono (by rw [Nat.mul_succ]; omega)
    · rw [ca_ge (by rw [upto_len]; omega)]; exact Fr.zero
def waits (p : Rat) (ws : List Int) (t m : Nat) : List Rat := upto (sums (wL p (fW p ws) m) t) m
theorem waits_len (p : Rat) (ws : List Int) (t m : Nat) : (waits p ws t m).length = m + 1 := upto_len _ _
theorem waits_frs {p : Rat} {ws : List Int} (h : WaitOk p ws) {m : Nat} (hm : m ≤ 12) (t : Nat) : Frs ((uW p ws).toNat ^ (13 * t)) (1 + 879 * t) (waits p ws t m) := by
  have f := upto_frs2 (m := m) (n := 865) (by rw [wL_len]; omega) (w_frs h hm) hm t
  rw [← Nat.pow_mul] at f
  exact f
theorem waits_law {p : Rat} {ws : List Int} (h : WaitOk p ws) {t m n : Nat} (hn : n ≤ m) : ca (waits p ws (t + 1) m) n = p * ca (waits p ws t m) n + rs (fun k => fW p ws k * ca (waits p ws (t + 1) m) (n - k)) (n + 1) := by
  unfold waits
  rw [upto_at hn, upto_at hn]
  have e1 : ∀ j, ca (sums (wL p (fW p ws) m) (t + 1)) j = cf (ca (sums (wL p (fW p ws) m) t)) (ca (wL p (fW p ws) m)) j := fun j => ca_cvL _ _ j
  rw [e1, wait_law (leave_ne h) _ hn]
  congr 1
  refine rs_congr fun k hk => ?_
  rw [upto_at (show n - k ≤ m by omega), e1]
def spWaitChD : SpD := fun ds Q _ => ∃ (p : Rat) (ws : List Int) (m : Nat), ds = [dR p, .tup (ws.map D.int), .int (m : Int)] ∧ WaitOk p ws ∧ m ≤ 12 ∧ Q (.lst (dRs (wL p (fW p ws) m)))
def spWaitD : SpD := fun ds Q _ => ∃ (p : Rat) (ws : List Int) (t m : Nat), ds = [.int (t : Int), dR p, .tup (ws.map D.int), .int (m : Int)] ∧ WaitOk p ws ∧ m ≤ 12 ∧ 1 ≤ t ∧ t ≤ 4 ∧ Q (.tup (dRs (waits p ws t m)))
/-- folding up to a greatest one, whatever the bottoms -/
def spUpto2D : SpD := fun ds Q _ => ∃ (c : List Rat) (t m E n e : Nat), ds = [.lst (dRs c), .int (t : Int), .int (m : Int)] ∧ 0 < c.length ∧ c.length ≤ 100 ∧ Frs E n c ∧ E ≠ 0 ∧ (∀ i, i < t → E ^ i < 2 ^ e) ∧ E < 2 ^ e ∧ e ≤ n ∧ n + e ≤ 4000 ∧ t ≤ 6 ∧ m ≤ 12 ∧ 1 + (n + 14) * t ≤ 4000 ∧ Q (.lst (dRs (upto (sums c t) m)))
end Act
namespace Act
variable [GT]
open PySem PySem.Spec PyProof.Rows L2
open scoped Rat
/-! ### companions -/
abbrev Cmp := List Int × Nat
def cD (c : Cmp) : D := .tup [.tup (c.1.map D.int), .int (c.2 : Int)]
structure CmpOk (cs : List Cmp) : Prop where
  lo : 1 ≤ cs.length
  hi : cs.length ≤ 4
  ok : ∀ c ∈ cs, LivesOk c.1 ∧ AgeOk c.1 c.2
def cAt (cs : List Cmp) (i : Nat) : Cmp := cs.getD i ([], 0)
theorem cAt_at {cs : List Cmp} {i : Nat} (h : i < cs.length) : cs[i]? = some (cAt cs i) := by
  rw [List.getElem?_eq_getElem h]
  simp [cAt, List.getD, List.getElem?_eq_getElem h]
theorem cAt_ok {cs : List Cmp} (h : CmpOk cs) {i : Nat} (hi : i < cs.length) : LivesOk (cAt cs i).1 ∧ AgeOk (cAt cs i).1 (cAt cs i).2 := h.ok _ (List.mem_of_getElem? (cAt_at hi))
/-- the part of companion i that lives y years later; the living at the start -/
def pC (cs : List Cmp) (y i : Nat) : Rat := lpart (cAt cs i).1 (cAt cs i).2 y
def lC (cs : List Cmp) (i : Nat) : Nat := (lat (cAt cs i).1 (cAt cs i).2).toNat
theorem pC_fr {cs : List Cmp} (h : CmpOk cs) (y : Nat) {i : Nat} (hi : i < cs.length) : Fr (lC cs i) 20 (pC cs y i) := by
  have ⟨h1, h2⟩ := cAt_ok h hi
  have hp := lat_pos h1 h2
  have hb := lat_bd h1 ((cAt cs i).2 + y)
  have f := Fr.divInt (t := lat (cAt cs i).1 ((cAt cs i).2 + y)) (b := lC cs i) (n := 20) (by show _ < 1048576; omega)
  have e : ((lC cs i : Nat) : Int) = lat (cAt cs i).1 (cAt cs i).2 := by unfold lC; omega
  rw [e] at f
  exact f
theorem pC_bd {cs : List Cmp} (h : CmpOk cs) (y : Nat) {i : Nat} (hi : i < cs.length) : Bd 20 (pC cs y i) := lpart_bd (cAt_ok h hi).1 (cAt_ok h hi).2 y
theorem lC_pos {cs : List Cmp} (h : CmpOk cs) {i : Nat} (hi : i < cs.length) : lC cs i ≠ 0 ∧ lC cs i < 2 ^ 20 := by
  have ⟨h1, h2⟩ := cAt_ok h hi
  have hp := lat_pos h1 h2
  have hb := lat_bd h1 (cAt cs i).2
  unfold lC
  exact ⟨by omega, by show _ < 1048576; omega⟩
def bC (cs : List Cmp) : Nat → Nat
  | 0 => 1
  | n + 1 => bC cs n * lC cs n
theorem bC_ok {cs : List Cmp} (h : CmpOk cs) : ∀ n, n ≤ cs.length → bC cs n ≠ 0 ∧ bC cs n < 2 ^ (20 * n + 1)
  | 0, _ => ⟨by show (1 : Nat) ≠ 0; decide, by show (1 : Nat) < 2 ^ (20 * 0 + 1); decide⟩
  | n + 1, hn => by
    have ih := bC_ok h n (by omega)
    have l := lC_pos h (show n < cs.length by omega)
    refine ⟨Nat.mul_ne_zero ih.1 l.1, ?_⟩
    show bC cs n * lC cs n < _
    rw [show 20 * (n + 1) + 1 = 20 * n + 1 + 20 by omega, Nat.pow_add 2 (20 * n + 1) 20]
    exact Nat.mul_lt_mul'' ih.2 l.2
/-! ### products of first factors -/
/-- factor i is q i + p i x: the coefficients of the product of the first n -/
def poly (q p : Nat → Rat) : Nat → List Rat
  | 0 => [1]
  | n + 1 => cvL (poly q p n) [q n, p n]
theorem poly_len (q p : Nat → Rat) : ∀ n, (poly q p n).length = n + 1
  | 0 => rfl
  | n + 1 => by
    show (cvL _ _).length = _
    rw [cvL_len, poly_len q p n]
    rfl
def coef (q p : Nat → Rat) : Nat → Nat → Rat
  | 0, j => if j = 0 then 1 else 0
  | n + 1, 0 => coef q p n 0 * q n
  | n + 1, j + 1 => coef q p n (j + 1) * q n + coef q p n j * p n
theorem ca_two (u v : Rat) (i : Nat) : ca [u, v] i = if i = 0 then u else if i = 1 then v else 0 := by
  match i with
  | 0 => rfl
  | 1 => rfl
  | i + 2 => rw [ca_ge (by simp), if_neg (by omega), if_neg (by omega)]
theorem cf_two (f : Nat → Rat) (u v : Rat) (j : Nat) : cf f (ca [u, v]) (j + 1) = f (j + 1) * u + f j * v := by
  show rs (fun i => f i * ca [u, v] (j + 1 - i)) (j + 1) + f (j + 1) * ca [u, v] (j + 1 - (j + 1)) = _
  have e : rs (fun i => f i * ca [u, v] (j + 1 - i)) (j + 1) = f j * v := by
    show rs (fun i => f i * ca [u, v] (j + 1 - i)) j + f j * ca [u, v] (j + 1 - j) = _
    rw [rs_zero fun i hi => by rw [ca_ge (a := [u, v]) (by simp; omega), Rat.mul_zero], show j + 1 - j = 1 by omega, Rat.zero_add]
    rfl
  rw [e, Nat.sub_self, Rat.add_comm]
  rfl
theorem ca_poly (q p : Nat → Rat) : ∀ n j, ca (poly q p n) j = coef q p n j
  | 0, j => by
    cases j with
    | zero => rfl
    | succ j => exact ca_ge (by simp [poly])
  | n + 1, 0 => by
    show ca (cvL _ _) 0 = _
    rw [ca_cvL]
    show 0 + ca (poly q p n) 0 * q n = _
    rw [Rat.zero_add, ca_poly q p n 0]
    rfl
  | n + 1, j + 1 => by
    show ca (cvL _ _) (j + 1) = _
    rw [ca_cvL, cf_two, ca_poly q p n (j + 1), ca_poly q p n j]
    rfl
theorem coef_out (q p : Nat → Rat) : ∀ n j, n < j → coef q p n j = 0
  | 0, j, h => if_neg (by omega)
  | n + 1, 0, h => by omega
  | n + 1, j + 1, h => by
    show coef q p n (j + 1) * q n + coef q p n j * p n = 0
    rw [coef_out q p n (j + 1) (by omega), coef_out q p n j (by omega), Rat.zero_mul, Rat.zero_mul, Rat.add_zero]
/-! ### all sets of numbers below n -/
def subs : Nat → List (List Nat)
  | 0 => [[]]
  | n + 1 => subs n ++ (subs n).map (· ++ [n])
theorem subs_len : ∀ n, (subs n).length = 2 ^ n
  | 0 => rfl
  | n + 1 => by
    show (subs n ++ _).length = _
    rw [List.length_append, List.length_map, subs_len n, Nat.pow_succ]
    omega
theorem subs_lt : ∀ n, ∀ S ∈ subs n, (∀ k ∈ S, k < n) ∧ S.length ≤ n
  | 0, S, h => by
    rw [List.mem_singleton.mp h]
    exact ⟨(fun k hk => by cases hk), Nat.le_refl _⟩
  | n + 1, S, h => by
    rcases List.mem_append.mp h with h | h
    · have := subs_lt n S h
      exact ⟨fun k hk => by have := this.1 k hk; omega, by omega⟩
    · obtain ⟨U, hU, rfl⟩ := List.mem_map.mp h
      have := subs_lt n U hU
      refine ⟨fun k hk => ?_, by rw [List.length_append, List.length_singleton]; omega⟩
      rcases List.mem_append.mp hk with e | e
      · have := this.1 k e; omega
      · rw [List.mem_singleton.mp e]; omega
def Wt (q p : Nat → Rat) (S : List Nat) : Nat → Rat
  | 0 => 1
  | n + 1 => Wt q p S n * (if n ∈ S then p n else q n)
def accL (w : List Nat → Rat) (j : Nat) : List (List Nat) → Rat
  | [] => 0
  | S :: L => accL w j L + (if S.length = j then w S else 0)
theorem accL_app (w : List Nat → Rat) (j : Nat) : ∀ L M, accL w j (L ++ M) = accL w j L + accL w j M
  | [], M => (Rat.zero_add _).symm
  | S :: L, M => by
    show accL w j (L ++ M) + _ = accL w j L + _ + accL w j M
    rw [accL_app w j L M]
    grind
theorem accL_congr {w w' : List Nat → Rat} {j : Nat} : ∀ {L : List (List Nat)}, (∀ S ∈ L, w S = w' S) → accL w j L = accL w' j L
  | [], _ => rfl
  | S :: L, h => by
    show accL w j L + (if S.length = j then w S else 0) = accL w' j L + (if S.length = j then w' S else 0)
    rw [accL_congr fun U hU => h U (List.mem_cons_of_mem _ hU), h S List.mem_cons_self]
theorem accL_mul (w : List Nat → Rat) (c : Rat) (j : Nat) : ∀ L, accL (fun S => w S * c) j L = accL w j L * c
  | [] => (Rat.zero_mul c).symm
  | S :: L => by
    show accL (fun S => w S * c) j L + (if S.length = j then w S * c else 0) = (accL w j L + (if S.length = j then w S else 0)) * c
    rw [accL_mul w c j L]
    split <;> grind
theorem accL_map (w : List Nat → Rat) (n j : Nat) : ∀ L : List (List Nat), accL w (j + 1) (L.map (· ++ [n])) = accL (fun S => w (S ++ [n])) j L
  | [] => rfl
  | S :: L => by
    show accL w (j + 1) (L.map _) + (if (S ++ [n]).length = j + 1 then w (S ++ [n]) else 0) = accL _ j L + (if S.length = j then w (S ++ [n]) else 0)
    rw [accL_map w n j L]
    congr 1
    by_cases c : S.length = j
    · rw [if_pos c, if_pos (by simp; exact c)]
    · rw [if_neg c, if_neg (by simp; exact c)]
theorem accL_map0 (w : List Nat → Rat) (n : Nat) : ∀ L : List (List Nat), accL w 0 (L.map (· ++ [n])) = 0
  | [] => rfl
  | S :: L => by
    show accL w 0 (L.map _) + (if (S ++ [n]).length = 0 then w (S ++ [n]) else 0) = 0
    rw [accL_map0 w n L, if_neg (by simp), Rat.add_zero]
theorem Wt_app (q p : Nat → Rat) (S : List Nat) (m : Nat) : ∀ n, n ≤ m → Wt q p (S ++ [m]) n = Wt q p S n
  | 0, _ => rfl
  | n + 1, h => by
    show Wt q p (S ++ [m]) n * (if n ∈ S ++ [m] then p n else q n) = Wt q p S n * (if n ∈ S then p n else q n)
    rw [Wt_app q p S m n (by omega)]
    congr 1
    by_cases c : n ∈ S
    · rw [if_pos c, if_pos (List.mem_append_left _ c)]
    · rw [if_neg c, if_neg fun e => by
        rcases List.mem_append.mp e with e | e
        · exact c e
        · have := List.mem_singleton.mp e; omega]
theorem acc_coef (q p : Nat → Rat) : ∀ n j, accL (fun S => Wt q p S n) j (subs n) = coef q p n j
  | 0, j => by
    show 0 + (if ([] : List Nat).length = j then (1 : Rat) else 0) = if j = 0 then 1 else 0
    rw [Rat.zero_add]
    cases j <;> rfl
  | n + 1, j => by
    show accL _ j (subs n ++ (subs n).map _) = _
    rw [accL_app]
    have a : accL (fun S => Wt q p S (n + 1)) j (subs n) = coef q p n j * q n := by
      rw [← acc_coef q p n j, ← accL_mul]
      refine accL_congr fun S hS => ?_
      show Wt q p S n * (if n ∈ S then p n else q n) = _
      rw [if_neg fun e => by have := (subs_lt n S hS).1 n e; omega]
    rw [a]
    cases j with
    | zero => rw [accL_map0, Rat.add_zero]; rfl
    | succ j =>
      rw [accL_map]
      have b : accL (fun S => Wt q p (S ++ [n]) (n + 1)) j (subs n) = coef q p n j * p n := by
        rw [← acc_coef q p n j, ← accL_mul]
        refine accL_congr fun S hS => ?_
        show Wt q p (S ++ [n]) n * (if n ∈ S ++ [n] then p n else q n) = _
        rw [Wt_app q p S n n (Nat.le_refl _), if_pos (List.mem_append_right _ (List.mem_singleton.mpr rfl))]
      rw [b]
      rfl
/-- the product of the numbers of a set -/
def prodS (p : Nat → Rat) (S : List Nat) : Rat := S.foldl (fun x k => x * p k) 1
theorem prodS_app (p : Nat → Rat) (S : List Nat) (n : Nat) : prodS p (S ++ [n]) = prodS p S * p n := by
  unfold prodS
  rw [List.foldl_append]
  rfl
theorem prodS_Wt (p : Nat → Rat) : ∀ n, ∀ S ∈ subs n, prodS p S = Wt (fun _ => 1) p S n
  | 0, S, h => by rw [List.mem_singleton.mp h]; rfl
  | n + 1, S, h => by
    rcases List.mem_append.mp h with h | h
    · rw [prodS_Wt p n S h]
      show _ = Wt _ p S n * (if n ∈ S then p n else 1)
      rw [if_neg fun e => by have := (subs_lt n S h).1 n e; omega, Rat.mul_one]
    · obtain ⟨U, hU, rfl⟩ := List.mem_map.mp h
      rw [prodS_app, prodS_Wt p n U hU]
      show _ = Wt _ p (U ++ [n]) n * (if n ∈ U ++ [n] then p n else 1)
      rw [Wt_app _ p U n n (Nat.le_refl _), if_pos (List.mem_append_right _ (List.mem_singleton.mpr rfl))]
/-! ### expectations by differences -/
def dif (a : Nat → Int) : Nat → Nat → Int
  | 0, j => a j
  | k + 1, j => dif a k (j + 1) - dif a k j
theorem dif_sh (a : Nat → Int) : ∀ k j, dif (fun i => a (i + 1) - a i) k j = dif a (k + 1) j
  | 0, j => rfl
  | k + 1, j => by
    show dif _ k (j + 1) - dif _ k j = _
    rw [dif_sh a k (j + 1), dif_sh a k j]
    rfl
theorem coef_sum (q p g : Nat → Rat) (n : Nat) : rs (fun k => g k * coef q p (n + 1) k) (n + 2) = rs (fun k => g k * coef q p n k) (n + 1) * q n + rs (fun k => g (k + 1) * coef q p n k) (n + 1) * p n := by
  rw [rs_front]
  have e1 : rs (fun i => g (i + 1) * coef q p (n + 1) (i + 1)) (n + 1) = rs (fun i => g (i + 1) * coef q p n (i + 1) * q n + g (i + 1) * coef q p n i * p n) (n + 1) := rs_congr fun i _ => by
    show g (i + 1) * (coef q p n (i + 1) * q n + coef q p n i * p n) = _
    grind
  rw [e1, rs_add, rs_right, rs_right]
  have e2 : rs (fun k => g k * coef q p n k) (n + 2) = rs (fun k => g k * coef q p n k) (n + 1) := by
    show rs _ (n + 1) + g (n + 1) * coef q p n (n + 1) = _
    rw [coef_out q p n (n + 1) (by omega), Rat.mul_zero, Rat.add_zero]
  have e3 := rs_front (fun k => g k * coef q p n k) (n + 1)
  rw [e2] at e3
  have e4 : g 0 * coef q p (n + 1) 0 = g 0 * coef q p n 0 * q n := by
    show g 0 * (coef q p n 0 * q n) = _
    grind
  rw [e4, e3]
  grind
theorem nesbitt (p : Nat → Rat) : ∀ (n : Nat) (a : Nat → Int), rs (fun k => (a k : Rat) * coef (fun i => 1 - p i) p n k) (n + 1) = rs (fun k => (dif a k 0 : Rat) * coef (fun _ => 1) p n k) (n + 1)
  | 0, a => rfl
  | n + 1, a => by
    rw [coef_sum _ p (fun k => (a k : Rat)), coef_sum _ p (fun k => (dif a k 0 : Rat))]
    have e2 := nesbitt p n (fun i => a (i + 1) - a i)
    have e3 : rs (fun k => ((a (k + 1) - a k : Int) : Rat) * coef (fun i => 1 - p i) p n k) (n + 1) = rs (fun k => (a (k + 1) : Rat) * coef (fun i => 1 - p i) p n k) (n + 1) - rs (fun k => (a k : Rat) * coef (fun i => 1 - p i) p n k) (n + 1) := by
      have : ∀ m, rs (fun k => ((a (k + 1) - a k : Int) : Rat) * coef (fun i => 1 - p i) p n k) m = rs (fun k => (a (k + 1) : Rat) * coef (fun i => 1 - p i) p n k) m - rs (fun k => (a k : Rat) * coef (fun i => 1 - p i) p n k) m := by
        intro m
        induction m with
        | zero => show (0 : Rat) = 0 - 0; grind
        | succ m ih =>
          show rs _ m + _ = rs _ m + _ - (rs _ m + _)
          rw [ih]
          simp only [Rat.intCast_sub]
          grind
      exact this _
    have e4 : rs (fun k => (dif (fun i => a (i + 1) - a i) k 0 : Rat) * coef (fun _ => 1) p n k) (n + 1) = rs (fun k => (dif a (k + 1) 0 : Rat) * coef (fun _ => 1) p n k) (n + 1) := rs_congr fun k _ => by rw [dif_sh]
    rw [e3, e4] at e2
    have ih := nesbitt p n a
    rw [← e2, ih]
    generalize rs (fun k => (dif a k 0 : Rat) * coef (fun _ => 1) p n k) (n + 1) = x at *
    generalize rs (fun k => (a (k + 1) : Rat) * coef (fun i => 1 - p i) p n k) (n + 1) = y at *
    grind
theorem dif_bd {a : Nat → Int} {b : Nat} (h : ∀ i, (a i).natAbs ≤ b) : ∀ k j, (dif a k j).natAbs ≤ 2 ^ k * b
  | 0, j => by rw [Nat.pow_zero, Nat.one_mul]; exact h j
  | k + 1, j => by
    have h1 := dif_bd h k (j + 1)
    have h2 := dif_bd h k j
    show (dif a k (j + 1) - dif a k j).natAbs ≤ _
    rw [Nat.pow_succ, Nat.mul_assoc, Nat.mul_comm 2 b, ← Nat.mul_assoc]
    omega
/-! ### sizes -/
section
variable {cs : List Cmp} (h : CmpOk cs) (y : Nat)
include h
/-- the parts that live not, or 1 -/
def qOk (cs : List Cmp) (q : Nat → Rat) : Prop := ∀ i, i < cs.length → Fr (lC cs i) 22 (q i) ∧ Bd 22 (q i)
theorem qOk_dead : qOk cs (fun i => 1 - pC cs y i) := fun i hi => by
  have l := lC_pos h hi
  have one : Fr (lC cs i) 21 (1 : Rat) := ((Fr.int (i := 1) (n := 1) (by decide)).lift (e := 20) (lC cs i) l.1 l.2).cast (Nat.one_mul _)
  exact ⟨one.sub (pC_fr h y hi) (by omega) (by omega), (one_bd.sub (pC_bd h y hi)).mono (by omega)⟩
theorem qOk_one : qOk cs (fun _ => 1) := fun i hi => by
  have l := lC_pos h hi
  exact ⟨(((Fr.int (i := 1) (n := 1) (by decide)).lift (e := 20) (lC cs i) l.1 l.2).cast (Nat.one_mul _)).mono (by omega), (Bd.one (n := 22) (by decide))⟩
theorem Wt_fr {q : Nat → Rat} (hq : qOk cs q) (S : List Nat) : ∀ n, n ≤ cs.length → Fr (bC cs n) (1 + 22 * n) (Wt q (pC cs y) S n)
  | 0, _ => (Fr.int (i := 1) (n := 1) (by decide)).mono (by omega)
  | n + 1, hn => by
    have ih := Wt_fr hq S n (by omega)
    show Fr (bC cs n * lC cs n) _ (Wt q (pC cs y) S n * _)
    split
    · exact (ih.mul (pC_fr h y (show n < cs.length by omega))).mono (by omega)
    · exact (ih.mul (hq n (by omega)).1).mono (by omega)
theorem Wt_bd {q : Nat → Rat} (hq : qOk cs q) (S : List Nat) {n : Nat} (hn : n ≤ cs.length) : Bd 90 (Wt q (pC cs y) S n) := by
  have hi := h.hi
  exact ((Wt_fr h y hq S n hn).mono (show _ ≤ 90 by omega)).bd (bC_ok h n hn).1 (bC_ok h n hn).2 (by omega)
theorem accL_fr {q : Nat → Rat} (hq : qOk cs q) {n : Nat} (hn : n ≤ cs.length) (j : Nat) : ∀ L : List (List Nat), Fr (bC cs n) (1 + 22 * n + L.length) (accL (fun S => Wt q (pC cs y) S n) j L)
  | [] => Fr.zero
  | S :: L => by
    have ih := accL_fr hq hn j L
    refine ih.add (m := 1 + 22 * n) (l := 1 + 22 * n + (S :: L).length) ?_ (by rw [List.length_cons]; omega) (by rw [List.length_cons]; omega)
    split
    · exact Wt_fr h y hq S n hn
    · exact Fr.zero
theorem accL_bd {q : Nat → Rat} (hq : qOk cs q) {n : Nat} (hn : n ≤ cs.length) (j : Nat) {L : List (List Nat)} (hL : L.length ≤ 16) : Bd 110 (accL (fun S => Wt q (pC cs y) S n) j L) := by
  have hi := h.hi
  exact ((accL_fr h y hq hn j L).mono (show _ ≤ 110 by omega)).bd (bC_ok h n hn).1 (bC_ok h n hn).2 (by omega)
theorem coef_bd {q : Nat → Rat} (hq : qOk cs q) {n : Nat} (hn : n ≤ cs.length) (j : Nat) : Bd 110 (coef q (pC cs y) n j) := by
  rw [← acc_coef]
  have hi := h.hi
  refine accL_bd h y hq hn j ?_
  rw [subs_len]
  exact Nat.le_trans (Nat.pow_le_pow_right (by decide) (show n ≤ 4 by omega)) (by decide)
theorem poly_frs {q : Nat → Rat} (hq : qOk cs q) {n : Nat} (hn : n ≤ cs.length) : Frs (bC cs n) 105 (poly q (pC cs y) n) := fun j => by
  rw [ca_poly, ← acc_coef]
  have hi := h.hi
  refine (accL_fr h y hq hn j (subs n)).mono ?_
  have : (subs n).length ≤ 16 := by
    rw [subs_len]
    exact Nat.le_trans (Nat.pow_le_pow_right (by decide) (show n ≤ 4 by omega)) (by decide)
  omega
end
theorem inV_nat (i : Nat) : ∀ S : List Nat, inV (dV (.int (i : Int))) ((S.map fun (k : Nat) => D.int (k : Int)).map dV) = decide (i ∈ S)
  | [] => rfl
  | k :: S => by
    have ih := inV_nat i S
    show (eqV (V.int (k : Int)) (V.int (i : Int)) || inV (dV (.int (i : Int))) ((S.map fun (k : Nat) => D.int (k : Int)).map dV)) = _
    rw [ih]
    by_cases c : k = i
    · subst c
      have : eqV (V.int (k : Int)) (V.int (k : Int)) = true := by simp [eqV]
      rw [this]
      simp
    · have : eqV (V.int (k : Int)) (V.int (i : Int)) = false := by simp [eqV]; omega
      rw [this]
      have c2 : ¬ i = k := fun e => c e.symm
      simp [c2]
def csD (cs : List Cmp) : List D := cs.map cD
def sD (S : List Nat) : D := .tup (S.map fun (k : Nat) => D.int (k : Int))
def spIsCmpD : SpD := fun ds Q _ => ∃ c : Cmp, ds = [cD c] ∧ LivesOk c.1 ∧ AgeOk c.1 c.2 ∧ Q (.bl true)
def spCheckCmpD : SpD := fun ds Q _ => ∃ cs : List Cmp, ds = [.tup (csD cs)] ∧ CmpOk cs ∧ Q .non
/-- all companions, in a tuple or a list -/
def spCmpYD (f : List Cmp → Nat → D) : SpD := fun ds Q _ => ∃ (cs : List Cmp) (y : Nat), ds = [.tup (csD cs), .int (y : Int)] ∧ CmpOk cs ∧ y ≤ 60 ∧ Q (f cs y)
def partsC (cs : List Cmp) (y : Nat) : List Rat := cs.map fun c => lpart c.1 c.2 y
def spPartsCD : SpD := fun ds Q _ => ∃ (cs : List Cmp) (y : Nat) (d : D), ds = [d, .int (y : Int)] ∧ (d = .tup (csD cs) ∨ d = .lst (csD cs)) ∧ (∀ c ∈ cs, LivesOk c.1 ∧ AgeOk c.1 c.2) ∧ cs.length ≤ 100 ∧ y ≤ 1000 ∧ Q (.lst (dRs (partsC cs y)))
def spCmpDrawD : SpD := fun ds Q _ => ∃ most : Int, ds = [D.int most] ∧ 1 ≤ most ∧ most ≤ 4 ∧ ∀ cs : List Cmp, CmpOk cs → (cs.length : Int) ≤ most → (∀ c ∈ cs, c.1.length ≤ 5) → Q (.tup (csD cs))
def spLivedD : SpD := fun ds Q _ => ∃ (c : Cmp) (y : Nat), ds = [cD c, .int (y : Int)] ∧ LivesOk c.1 ∧ AgeOk c.1 c.2 ∧ y ≤ 1000 ∧ Q (dR (lpart c.1 c.2 y))
def spSubsD : SpD := fun ds Q _ => ∃ n : Nat, ds = [.int (n : Int)] ∧ n ≤ 4 ∧ Q (.lst ((subs n).map sD))
def spJustD : SpD := fun ds Q _ => ∃ (cs : List Cmp) (S : List Nat) (y : Nat), ds = [.tup (csD cs), sD S, .int (y : Int)] ∧ CmpOk cs ∧ y ≤ 60 ∧ (∀ k ∈ S, k < 100) ∧ Q (dR (Wt (fun i => 1 - pC cs y i) (pC cs y) S cs.length))
theorem partsC_at {cs : List Cmp} {y i : Nat} (hi : i < cs.length) : (partsC cs y)[i]? = some (pC cs y i) := by
  unfold partsC
  rw [List.getElem?_map, cAt_at hi]
  rfl
theorem csD_at {cs : List Cmp} {i : Nat} (hi : i < cs.length) : (csD cs)[i]? = some (cD (cAt cs i)) := by
  unfold csD
  rw [List.getElem?_map, cAt_at hi]
  rfl
theorem csD_len (cs : List Cmp) : (csD cs).length = cs.length := by simp [csD]
theorem partsC_len (cs : List Cmp) (y : Nat) : (partsC cs y).length = cs.length := by simp [partsC]
/-- the sums over the first i sets, by their sizes -/
def cntL (w : List Nat → Rat) (n i : Nat) : List Rat := (List.range (n + 1)).map fun j => accL w j ((subs n).take i)
theorem cntL_len (w : List Nat → Rat) (n i : Nat) : (cntL w n i).length = n + 1 := by simp [cntL]
theorem cntL_at {w : List Nat → Rat} {n i j : Nat} (h : j ≤ n) : (dRs (cntL w n i))[j]? = some (dR (accL w j ((subs n).take i))) := by
  unfold dRs cntL
  rw [List.getElem?_map, List.getElem?_map, List.getElem?_range (by omega)]
  rfl
theorem cntL_set {w : List Nat → Rat} {n i : Nat} {S : List Nat} (hS : (subs n)[i]? = some S) (hl : S.length ≤ n) : (dRs (cntL w n i)).set S.length (dR (accL w S.length ((subs n).take i) + w S)) = dRs (cntL w n (i + 1)) := by
  have hi := (List.getElem?_eq_some_iff.mp hS).1
  have eS := (List.getElem?_eq_some_iff.mp hS).2
  refine List.ext_getElem? fun j => ?_
  by_cases c : j ≤ n
  · rw [cntL_at c, List.take_succ_eq_append_getElem hi, eS, accL_app, List.getElem?_set]
    have e : accL w j [S] = if S.length = j then w S else 0 := Rat.zero_add _
    rw [e]
    by_cases e2 : S.length = j
    · rw [if_pos e2, if_pos (by unfold dRs; rw [List.length_map, cntL_len]; omega), if_pos e2, e2]
    · rw [if_neg e2, if_neg e2, Rat.add_zero, cntL_at c]
  · rw [List.getElem?_eq_none (by simp [dRs, cntL_len]; omega), List.getElem?_eq_none (by simp [dRs, cntL_len]; omega)]
theorem cntL_start (w : List Nat → Rat) (n : Nat) : dRs (cntL w n 0) = List.replicate (n + 1) (dR 0) := by
  refine List.ext_getElem? fun j => ?_
  by_cases c : j ≤ n
  · rw [cntL_at c, List.take_zero, List.getElem?_replicate, if_pos (by omega)]
    rfl
  · rw [List.getElem?_eq_none (by simp [dRs, cntL_len]; omega), List.getElem?_eq_none (by simp; omega)]
theorem cntL_end (q p : Nat → Rat) (n : Nat) : dRs (cntL (fun S => Wt q p S n) n (subs n).length) = dRs (poly q p n) := by
  refine List.ext_getElem? fun j => ?_
  by_cases c : j ≤ n
  · rw [cntL_at c, List.take_length, acc_coef]
    unfold dRs
    rw [List.getElem?_map, ca_at (by rw [poly_len]; omega), ca_poly]
    rfl
  · rw [List.getElem?_eq_none (by simp [dRs, cntL_len]; omega), List.getElem?_eq_none (by simp [dRs, poly_len]; omega)]
theorem poly_at (q p : Nat → Rat) {n j : Nat} (h : j ≤ n) : (dRs (poly q p n))[j]? = some (dR (coef q p n j)) := by
  unfold dRs
  rw [List.getElem?_map, ca_at (by rw [poly_len]; omega), ca_poly]
  rfl
end Act
namespace Act
variable [GT]
open PySem PySem.Spec PyProof.Rows L2
open GxR (TabB TabG Tabbed GenS inv_tab sh_eta)
/-! ## all(is_between(x, low, high) for x in a tuple), low and high names of the def -/
def CbetV (i j : Nat) (P : Addr) : L2.St → Hp → List V → (V → Bool) → Prop := fun σ H xs p => ∃ (ns : List Int) (lo hi : Int), σ[i]? = some (some (.int lo)) ∧ σ[j]? = some (some (.int hi)) ∧ TabG H P ∧ xs = ns.map V.int ∧ p = fun v => match v with | .int n => decide (lo ≤ n ∧ n ≤ hi) | _ => false
theorem elt_betV {X : Cx} {scope : Scope} {x y1 y2 : Str} {P : Addr} {k i j : Nat} {p px pos p1 p2 : Pos} (hr : Room k X.A) (q : QBetween X.prog X.w X.K X.mg X.base) (hN1 : X.N[i]? = some y1) (hN2 : X.N[j]? = some y2) (hv1 : Vis X.env.scope y1) (hv2 : Vis X.env.scope y2) (hcl1 : X.env.kindOf y1 = some .cell) (hcl2 : X.env.kindOf y2 = some .cell)
    (hfree : ∀ z ∈ scope.names, z.2 = .free → ∃ c, X.env.cells.lookup z.1 = some c) (hmem1 : (y1, NameKind.free) ∈ scope.names) (hmem2 : (y2, NameKind.free) ∈ scope.names)
    (hk : scope.kind = .function) (hx : scope.names.lookup x = some .local) (hb : scope.names.lookup ("is_between" : Str) = some NameKind.globalImplicit) (hy1 : scope.names.lookup y1 = some .free) (hy2 : scope.names.lookup y2 = some .free) (hd : (x == ("__debug__" : Str)) = false := by decide) (hd1 : (y1 == ("__debug__" : Str)) = false := by decide) (hd2 : (y2 == ("__debug__" : Str)) = false := by decide) (hc1 : (y1 == ("__classdict__" : Str)) = false := by decide) (hc2 : (y2 == ("__classdict__" : Str)) = false := by decide)
    (st1 : ∀ cenv : Env, starEach [.Name x px, .Name y1 p1, .Name y2 p2] cenv = (false, eval (.Name x px) cenv) :: starEach [.Name y1 p1, .Name y2 p2] cenv := by intro _; rfl) (st2 : ∀ cenv : Env, starEach [.Name y1 p1, .Name y2 p2] cenv = (false, eval (.Name y1 p1) cenv) :: starEach [.Name y2 p2] cenv := by intro _; rfl) (st3 : ∀ cenv : Env, starEach [.Name y2 p2] cenv = (false, eval (.Name y2 p2) cenv) :: starEach [] cenv := by intro _; rfl)
    (pl : ∀ cenv : Env, (backTo pos (starEach [.Name y1 p1, .Name y2 p2] cenv)).any (·.1) = false := by intro _; rfl) :
    EltOk X scope x (.Call (.Name "is_between" p) [.Name x px, .Name y1 p1, .Name y2 p2] [] pos) P (CbetV i j P) := by
  intro pins σ H1 s1 I xs pb hC cenv A' E' v u s2 m2 hsc hgl hcells hA hD hU hv ru hn hm hkeep kb
  obtain ⟨ns, lo, hi, hσ1, hσ2, ⟨ps, hP, _⟩, rfl, rfl⟩ := hC
  obtain ⟨n, _, rfl⟩ := List.mem_map.mp hv
  obtain ⟨m0, hn0, hloc⟩ := I.loc
  have hPs : s1.heap.get? P = some { cls := .none, data := .fields ps } := I.hok P _ hP
  have kf : cenv.scope.kind = .function := by rw [hsc]; exact hk
  have qf : Qf cenv := ⟨kf, hgl⟩
  have fv : ∀ (l : Nat) (y : Str) (a : Int) (pp : Pos), X.N[l]? = some y → σ[l]? = some (some (.int a)) → Vis X.env.scope y → X.env.kindOf y = some .cell → (y, NameKind.free) ∈ scope.names → scope.names.lookup y = some .free → (y == ("__debug__" : Str)) = false → (y == ("__classdict__" : Str)) = false → Qe X.prog X.w (PySem.W.hideAll s1.heap [P]) cenv m2 (X.A.depth + 1) (.Name y pp) (.int a) := by
    intro l y a pp hN hσ hvy hcl hmem hy hdy hcy
    obtain ⟨uu, ruu, lk⟩ := hloc l y (.int a) hN hσ hvy
    have hcell : ∃ c, X.env.cells.lookup y = some c ∧ s1.heap.IsCell c (some uu) := by
      rcases lk with ⟨h1, _⟩ | ⟨_, h⟩
      · rw [hcl] at h1; cases h1
      · exact h
    obtain ⟨c, hc, o, ho, hdc⟩ := hcell
    have ncP : c ≠ P := fun z => by rw [z, hPs] at ho; cases ho; cases hdc
    exact qe_free kf (by show cenv.scope.names.lookup y = _; rw [hsc]; exact hy) (by rw [hcells]; exact _root_.NdefX.clo_has hfree hmem hc) ⟨o, PySem.W.hideAll_get [P] ho (by simp [ncP]), hdc⟩ ruu hdy hcy
  obtain ⟨f, hmf, kp, hq⟩ := q.ex
  have M := I.ok.mod
  have hdp := hr.dp
  -- the def is_between, seen from the heap without the table
  have kb' : ∀ b o, X.base.get? b = some o → (PySem.W.hideAll s1.heap [P]).get? b = some o := fun b o e => by
    refine PySem.W.hideAll_get [P] (I.bk b o e) ?_
    have nb := (I.bs b o e).2
    have : b ≠ P := fun z => by rw [z, hP] at nb; cases nb
    simp [this]
  have e1 := fv i y1 lo p1 hN1 hσ1 hv1 hcl1 hmem1 hy1 hd1 hc1
  have e2 := fv j y2 hi p2 hN2 hσ2 hv2 hcl2 hmem2 hy2 hd2 hc2
  have ex : Qe X.prog X.w (PySem.W.hideAll s1.heap [P]) cenv m2 (X.A.depth + 1) (.Name x px) (.int n) := qe_loc qf (by show cenv.scope.names.lookup x = _; rw [hsc]; exact hx) hm ru hd
  have ag := qa_cons ex (qa_cons e1 (qa_cons e2 qa_nil (st3 cenv)) (st2 cenv)) (st1 cenv)
  have kh : ∀ b o, (PySem.W.hideAll s1.heap [P]).get? b = some o → s2.heap.get? b = some o := fun b o' e => by
    obtain ⟨h1, h2⟩ := hide_get e
    exact hkeep b o' h2 h1
  refine wpAny_Call_Name_kw (Calls.Name_function_global kf (by show cenv.scope.names.lookup _ = _; rw [hsc]; exact hb) (Calls.loadGlobal_global (by rw [hgl]; exact M.glob.keeps kb) hmf ?_) (by decide))
  refine PySem.W.callWith_K (h₀ := X.base) M.kin kp (thn (ag pos A' E' s2 hA hD kh hn) fun us s3 ⟨rus, k1⟩ => ⟨M.kin.keeps fun b o e => k1.keep b o (kb b o e), ?_⟩) (st1 cenv) (pl cenv)
  refine wpAny_call (codeAny_mono (hq M n lo hi A' s3 us hA (by omega) (fun b o e => k1.keep b o (kb b o e)) rus) fun res s4 ⟨u', e1', ru', k2⟩ => ?_)
  subst e1'
  exact ⟨ru', k1.trans' k2⟩
section
variable {X : Cx} {z : Zx} {m ma mb mc : Mo} {e ea eb ec : Expr} {f fa fb fc : DE} {pos : Pos}
def eAllRow (i j : Nat) (fa : DE) : DE := fun ρ Q E => fa ρ (fun d => match d, ρ[i]?, ρ[j]? with
  | .tup ds, some (.va (.int lo)), some (.va (.int hi)) => ∃ ns : List Int, ds = ns.map D.int ∧ Q (.bl (ns.all fun n => decide (lo ≤ n ∧ n ≤ hi)))
  | _, _, _ => False) E
theorem d_allRow {c P : Addr} {elt : Expr} {x : Str} {px p gpos : Pos} {scope : Scope} {k i j : Nat} (hr : Room k X.A) (hm : X.mg "all" = none) (TB : TabB X.base X.mg c P) (hT : P ∈ z.T) (hgt : GT.q P = none) (hcode : X.env.code = .ref c) (S : GenS X.env scope x) (ha : PD X z ma ea fa) (hel : EltOk X scope x elt P (CbetV i j P))
    (hg : Gl X "all" := by rfl) (hs : ∀ v, genFold ea X.env v = pure v := by intro _; rfl)
    (he : starEach [.GeneratorExp elt [⟨.Name x px, ea, [], 0⟩] scope gpos] X.env = (false, eval (.GeneratorExp elt [⟨.Name x px, ea, [], 0⟩] scope gpos) X.env) :: starEach [] X.env := by rfl) :
    PD X z .d (.Call (.Name "all" p) [.GeneratorExp elt [⟨.Name x px, ea, [], 0⟩] scope gpos] [] pos) (eAllRow i j fa) := fun W tk =>
  peW (pe_allT hr hm TB hcode S (ha W tk) hel hg (by decide +kernel) hs he) fun σ H R ⟨F0, H0, ρ, F, Q, E, rs, hf, hq, hx⟩ => ⟨F0, H0, ρ, F, _, E, rs, hf, (fun d v F1 H1 q1 e1 r1 => by
    cases d <;> try exact False.elim q1
    have rs1 := rs.step e1
    cases er : ρ[i]? with
    | none => rw [er] at q1; exact False.elim q1
    | some sl =>
      rw [er] at q1
      cases sl <;> try exact False.elim q1
      rename_i d1
      cases d1 <;> try exact False.elim q1
      rename_i lo
      cases er2 : ρ[j]? with
      | none => rw [er2] at q1; exact False.elim q1
      | some sl2 =>
        rw [er2] at q1
        cases sl2 <;> try exact False.elim q1
        rename_i d2
        cases d2 <;> try exact False.elim q1
        rename_i hi
        obtain ⟨ns, rfl, hQ⟩ := q1
        obtain ⟨a, xs, rfl, t, r⟩ := rb_tup r1.b
        obtain ⟨o1, q1, v1, rfl, rv1⟩ := rs1.slot i _ er
        obtain ⟨o2, q2, v2, rfl, rv2⟩ := rs1.slot j _ er2
        rw [Rep.int_iff] at rv1 rv2
        subst rv1 rv2
        refine ⟨a, ns.map V.int, _, rfl, by rw [← reps_intsV r]; exact (t.sub e1.fh).sq, ⟨ns, _, _, q1, q2, (rs1.tabs _ hT).g hgt, rfl, rfl⟩, (rs1.tabs _ hT).g hgt, fun H2 hTb => ?_⟩
        have l := le_tabbed hgt ((rs1.tabs _ hT).g hgt) hTb
        rw [List.all_map]
        exact hq _ _ F1 H2 hQ (e1.trans (le_ext rs1.nt rs1.sub l)) (resD rep_bl)), hx⟩
end
/-- a generator's scope that captures two names -/
def gsB3 (sc : Scope) (x y w : Str) : Bool := decide (sc.kind = .function) && (!sc.isCoroutine && ((sc.names.all fun n => decide (n.2 ≠ .cell) && (decide (n.2 ≠ .free) || (decide (n.1 = y) || decide (n.1 = w)))) && (decide (sc.names.lookup (".0" : Str) = some NameKind.local) && decide (sc.names.lookup x = some .local))))
theorem gens_of3 {env : Env} {sc : Scope} {x y w : Str} (h : gsB3 sc x y w = true) (hc : ∃ c, env.cells.lookup y = some c) (hc2 : ∃ c, env.cells.lookup w = some c) : GxR.GenS env sc x := by
  obtain ⟨h1, h2⟩ := He.ba h
  obtain ⟨h3, h4⟩ := He.ba h2
  obtain ⟨h5, h6⟩ := He.ba h4
  obtain ⟨h7, h8⟩ := He.ba h6
  have hn := List.all_eq_true.mp h5
  refine ⟨of_decide_eq_true h1, by simpa using h3, fun y hy => of_decide_eq_true (He.ba (hn y hy)).1, of_decide_eq_true h7, of_decide_eq_true h8, fun n hm e => ?_⟩
  have := (He.ba (hn n hm)).2
  rw [Bool.or_eq_true, Bool.or_eq_true] at this
  rcases this with q | q | q
  · exact absurd e (of_decide_eq_true q)
  · rw [of_decide_eq_true q]; exact hc
  · rw [of_decide_eq_true q]; exact hc2
end Act
namespace Act
variable [GT]
open PySem PySem.Spec PyProof.Rows L2
/-! ## zip of a tuple and a list -/
def ItzM (K : PySem.W.Frag) (a b : Addr) : It :=
  ⟨fun i H => ∃ (xs ys : List V) (x y : V), SqT K H a xs ∧ SqL K H b ys ∧ xs[i]? = some x ∧ ys[i]? = some y,
    fun i H v H' => ∃ T x y, v = .ref T ∧ H T = none ∧ H' = upd H T (.tup [x, y]) ∧ (∀ xs, SqT K H a xs → xs[i]? = some x) ∧ ∀ ys, SqL K H b ys → ys[i]? = some y,
    fun i H => ∃ xs ys : List V, SqT K H a xs ∧ SqL K H b ys ∧ (xs.length ≤ i ∨ ys.length ≤ i)⟩
theorem zsep {z TI TO i1 i2 a b : Addr} (D : ZipApart z TI TO i1 i2 a b) : ZipSep2 z TI TO i1 i2 [i1, a] [i2, b] where
  TIz := D.TIz
  TOz := D.TOz
  TITO := D.TITO
  TIi1 := D.TIi1
  mem1 := by simp
  zf1 := by simp [D.i1z.symm, D.l1z.symm]
  Tf1 := by simp [D.TOi1, D.l1TO.symm]
  TIi2 := D.TIi2
  mem2 := by simp
  zf2 := by simp [D.i2z.symm, D.l2z.symm]
  Tf2 := by simp [D.TOi2, D.l2TO.symm]
  sep1_2 := by simp [D.i12, D.l2i1.symm]
  sep2_1 := by simp [D.i12.symm, D.l1i2.symm]
theorem turn_zipM {P : Program} {w : World} {K : PySem.W.Frag} {elts : List Expr} {kk : Nat} {tpos : Pos} {a b z TI TO i1 i2 : Addr} (D : ZipApart z TI TO i1 i2 a b) (l1i1 : a ≠ i1) (l2i2 : b ≠ i2) :
    Turn P w K (.Tuple elts kk tpos) (ItzM K a b) [z, TI, TO, i1, i2] z (fun i h => IsZip h z TI TO .none ∧ IsTupOf2 h TI (.ref i1) (.ref i2) ∧ (∃ x y, IsTupOf2 h TO x y) ∧ h.IsTupleIter i1 a i ∧ h.IsListIter i2 b i) where
  mem := by simp
  obj := fun i h st c hc => by
    obtain ⟨hz, hTI, ⟨x, y, hTO⟩, ⟨o1, e1, _, d1⟩, ⟨o2, e2, _, d2⟩⟩ := st
    have e' : c = z ∨ c = TI ∨ c = TO ∨ c = i1 ∨ c = i2 := by simpa using hc
    rcases e' with q | q | q | q | q
    · rw [q]; exact ⟨_, hz, fun v q => nomatch q⟩
    · rw [q]; exact ⟨_, hTI, fun v q => nomatch q⟩
    · rw [q]; exact ⟨_, hTO, fun v q => nomatch q⟩
    · rw [q]; exact ⟨o1, e1, fun v q => by rw [d1] at q; cases q⟩
    · rw [q]; exact ⟨o2, e2, fun v q => by rw [d2] at q; cases q⟩
  keep := fun i h h' st k => by
    obtain ⟨hz, hTI, ⟨x, y, hTO⟩, h1, h2⟩ := st
    exact ⟨k z (by simp) _ hz, k TI (by simp) _ hTI, ⟨x, y, k TO (by simp) _ hTO⟩, h1.at fun o q => k i1 (by simp) o q, h2.at fun o q => k i2 (by simp) o q⟩
  item := by
    intro X hP hw hK hc i pins s σ H E I hf st hg
    subst hP hw hK
    obtain ⟨hz, hTI, ⟨x0, y0, hTO⟩, h1, h2⟩ := st
    obtain ⟨xs, ys, x, y, hqx, hqy, hx, hy⟩ := hg
    obtain ⟨its, rv, p, _⟩ := I.tuple hqx
    obtain ⟨its2, rv2, p2, _⟩ := I.list hqy
    obtain ⟨u, hu, ru⟩ := rv.get hx
    obtain ⟨u2, hu2, ru2⟩ := rv2.get hy
    have hzl : z < s.heap.objs.size := Heap.lt_size hz
    have i1lt : i < its.toArray.size := by
      have := (List.getElem?_eq_some_iff.mp hu).1
      simpa using this
    have i2lt : i < its2.toArray.size := by
      have := (List.getElem?_eq_some_iff.mp hu2).1
      simpa using this
    have hh : X.A.in1.handled = none := I.ok.hd hc
    have D1 := Draws.tuple (prog := X.prog) (w := X.w) (A := X.A.in1) hh i1 a l1i1 its.toArray
    have D2 := Draws.list (prog := X.prog) (w := X.w) (A := X.A.in1) hh i2 b l2i2 its2.toArray
    refine wpAny_pyNext_zipD2_item (zsep D) D1 D2 hz hTI hTO ⟨h1, p⟩ ⟨h2, p2.isList⟩ i1lt i2lt fun v1 v2 h' tk hv1 hv2 z' TO' st1 st2 hT hsz hk => ?_
    have ev1 : v1 = u := by
      have : its.toArray[i]? = some u := by simpa using hu
      rw [this] at hv1; exact (Option.some.inj hv1).symm
    have ev2 : v2 = u2 := by
      have : its2.toArray[i]? = some u2 := by simpa using hu2
      rw [this] at hv2; exact (Option.some.inj hv2).symm
    subst ev1 ev2
    refine ⟨_, rfl, wpAny_letOwnedTupleGo_zip (s := { s with heap := h', toks := tk }) z' fun h'' z'' sb => ?_⟩
    have hT2 : h''.get? s.heap.objs.size = some { cls := .type "tuple", data := .seq #[v1, v2] } := (sb.2 _ (Nat.ne_of_gt hzl)).trans hT
    have new : ObjOk X.prog X.w (upd H s.heap.objs.size (.tup [x, y])) h'' s.heap.objs.size (.tup [x, y]) :=
      ⟨by show 2 ≤ sizeLine; decide, [v1, v2], .cons ru (.cons ru2 .nil), ⟨_, hT2, rfl, _, rfl⟩⟩
    have I1 : Inv X pins σ (upd H s.heap.objs.size (.tup [x, y])) { s with heap := h'', toks := tk } :=
      I.turnedNew (t' := tk) (ch := [z, TI, TO, i1, i2]) (fun c o hb q => (sb.2 c (fun q' => hb (by simp [q']))).trans (hk c o (fun q' => hb (by simp [q'])) (fun q' => hb (by simp [q'])) (fun q' => hb (by simp [q'])) (fun q' => hb (by simp [q'])) q)) hf (Nat.le_refl _) new
    refine ⟨.ref s.heap.objs.size, _, I1, rfl, ⟨_, x, y, rfl, I.hok.fresh (Nat.le_refl _), rfl, fun l hl => by rw [I.tuple_inj hl hqx]; exact hx, fun l hl => by rw [I.list_inj hl hqy]; exact hy⟩, ⟨z'', ?_, ⟨v1, v2, ?_⟩, ?_, ?_⟩, fun c hcm => ?_⟩
    · exact (sb.2 _ D.TIz).trans (hk _ _ D.TIz D.TITO D.TIi1 D.TIi2 hTI)
    · exact (sb.2 _ D.TOz).trans TO'
    · exact st1.1.at fun o q => (sb.2 _ D.i1z).trans q
    · exact st2.1.at fun o q => (sb.2 _ D.i2z).trans q
    · have hlt : c < s.heap.objs.size := by
        have e' : c = z ∨ c = TI ∨ c = TO ∨ c = i1 ∨ c = i2 := by simpa using hcm
        rcases e' with q | q | q | q | q
        · rw [q]; exact hzl
        · rw [q]; exact Heap.lt_size hTI
        · rw [q]; exact Heap.lt_size hTO
        · rw [q]; obtain ⟨_, e1, _⟩ := h1; exact Heap.lt_size e1
        · rw [q]; obtain ⟨_, e2, _⟩ := h2; exact Heap.lt_size e2
      rw [upd_ne (Nat.ne_of_lt hlt)]
      exact (hf c hcm).1
  done := by
    intro X hP hw hK hc i pins s σ H E I hf st hg
    subst hP hw hK
    obtain ⟨hz, hTI, ⟨x0, y0, hTO⟩, h1, h2⟩ := st
    obtain ⟨xs, ys, hqx, hqy, hend⟩ := hg
    obtain ⟨its, rv, p, _⟩ := I.tuple hqx
    obtain ⟨its2, rv2, p2, _⟩ := I.list hqy
    have l1 := rv.length
    have l2 := rv2.length
    have hh : X.A.in1.handled = none := I.ok.hd hc
    have fin : ∀ (h' : Heap) (tk : Nat), (∀ c o, c ≠ z → c ≠ TO → c ≠ i1 → c ≠ i2 → s.heap.get? c = some o → h'.get? c = some o) → Inv X pins σ H { s with heap := h', toks := tk } := fun h' tk hk => I.turnedL (t' := tk) (ch := [z, TI, TO, i1, i2]) (fun c o hb q =>
      hk c o (fun q' => hb (by simp [q'])) (fun q' => hb (by simp [q'])) (fun q' => hb (by simp [q'])) (fun q' => hb (by simp [q'])) q) hf
    have D1 := Draws.tuple (prog := X.prog) (w := X.w) (A := X.A.in1) hh i1 a l1i1 its.toArray
    have D2 := Draws.list (prog := X.prog) (w := X.w) (A := X.A.in1) hh i2 b l2i2 its2.toArray
    have E1 : its.toArray[i]? = none → Draws X.prog X.w X.A.in1 i1 [i1, a] i (fun _ _ => False) (fun j h => j = i ∧ h.IsTupleIter i1 a i ∧ h.IsTuple a its.toArray) := fun hn =>
      { live := fun _ _ st => let ⟨o, ho, _⟩ := st.2.1; ⟨o, ho⟩
        frame := fun _ _ _ st hk => ⟨st.1, st.2.1.at fun o e => hk i1 (by simp) o e, st.2.2.at fun o e => hk a (by simp) o e⟩
        item := fun j s Q E hi st hQ => by have := st.1; omega
        done := fun s Q E st hE => wpAny_nextOf_tuple_end hh st.2.1 st.2.2 hn hE }
    have E2 : its2.toArray[i]? = none → Draws X.prog X.w X.A.in1 i2 [i2, b] i (fun _ _ => False) (fun j h => j = i ∧ h.IsListIter i2 b i ∧ h.IsList b its2.toArray) := fun hn =>
      { live := fun _ _ st => let ⟨o, ho, _⟩ := st.2.1; ⟨o, ho⟩
        frame := fun _ _ _ st hk => ⟨st.1, st.2.1.at fun o e => hk i2 (by simp) o e, st.2.2.at fun o e => hk b (by simp) o e⟩
        item := fun j s Q E hi st hQ => by have := st.1; omega
        done := fun s Q E st hE => wpAny_nextOf_list_end hh st.2.1 st.2.2 hn hE }
    have S := zsep D
    by_cases c1 : xs.length ≤ i
    · have n1 : its.toArray[i]? = none := by simp; omega
      by_cases c2 : ys.length ≤ i
      · have n2 : its2.toArray[i]? = none := by simp; omega
        exact wpAny_pyNext_zipD2_end S (E1 n1) (E2 n2) hz hTI hTO ⟨rfl, h1, p⟩ ⟨rfl, h2, p2.isList⟩ (Nat.le_refl _) (Nat.le_refl _) (.inl rfl) fun h' tk hk => ⟨rfl, fin h' tk hk⟩
      · exact wpAny_pyNext_zipD2_end S (E1 n1) D2 hz hTI hTO ⟨rfl, h1, p⟩ ⟨h2, p2.isList⟩ (Nat.le_refl _) (by simp; omega) (.inl rfl) fun h' tk hk => ⟨rfl, fin h' tk hk⟩
    · have c2 : ys.length ≤ i := hend.resolve_left c1
      have n2 : its2.toArray[i]? = none := by simp; omega
      exact wpAny_pyNext_zipD2_end S D1 (E2 n2) hz hTI hTO ⟨h1, p⟩ ⟨rfl, h2, p2.isList⟩ (by simp; omega) (Nat.le_refl _) (.inr rfl) fun h' tk hk => ⟨rfl, fin h' tk hk⟩
  self := fun A i s Q E st h => wpAny_pyIter_zip st.1 h
theorem pi_zipM {X : Cx} {e e2 : Expr} {ta : TA} {p pos tpos : Pos} {elts : List Expr} {kk : Nat} (hg : Gl X "zip") (hm : X.mg "zip" = none) (ha : PA X [e, e2] ta)
    (hs : starEach [e, e2] X.env = (false, eval e X.env) :: starEach [e2] X.env := by rfl) (hpl : (backTo pos (starEach [e2] X.env)).any (·.1) = false := by rfl) :
    PI X (.Tuple elts kk tpos) (.Call (.Name "zip" p) [e, e2] [] pos) (fun σ H R => ta σ H fun vs H1 => ∃ a b xs ys, vs = [.ref a, .ref b] ∧ SqT X.K H1 a xs ∧ SqL X.K H1 b ys ∧ R (ItzM X.K a b) H1) := by
  refine ⟨fun pins s σ H R I h => ?_⟩
  refine Call_ (ld_blt I hg hm PyProof.Rows.boot_zip (PyProof.Rows.callWith_type1 (thn (ha.run pos pins s σ H _ I h) fun us s1 ⟨vs, H1, I1, r1, q1⟩ => ?_) hs hpl))
  obtain ⟨a, b, xs, ys, ex, hqx, hqy, q⟩ := q1
  subst ex
  cases r1 with
  | cons r rr =>
    cases rr with
    | cons r' rr =>
      cases rr
      cases r
      cases r'
      have fresh5 : ∀ c, c ∈ [s1.heap.objs.size + 4, s1.heap.objs.size + 2, s1.heap.objs.size + 3, s1.heap.objs.size, s1.heap.objs.size + 1] → FpOk X pins H1 c := fun c hcm => by
        have e' : c = s1.heap.objs.size + 4 ∨ c = s1.heap.objs.size + 2 ∨ c = s1.heap.objs.size + 3 ∨ c = s1.heap.objs.size ∨ c = s1.heap.objs.size + 1 := by simpa using hcm
        have hle : s1.heap.objs.size ≤ c := by
          rcases e' with z | z | z | z | z
          · rw [z]; exact Nat.le_add_right _ _
          · rw [z]; exact Nat.le_add_right _ _
          · rw [z]; exact Nat.le_add_right _ _
          · rw [z]; exact Nat.le_refl _
          · rw [z]; exact Nat.le_add_right _ _
        exact I1.fpOk hle (I1.hok.fresh hle)
      obtain ⟨its, rv, p1, _⟩ := I1.tuple hqx
      obtain ⟨its2, rv2, p2, _⟩ := I1.list hqy
      obtain ⟨o1, ho1, _⟩ := id p1
      have hl1 : a < s1.heap.objs.size := Heap.lt_size ho1
      have hl2 : b < s1.heap.objs.size := p2.lt
      refine zip_begins2 (begins_tuple a its.toArray) (begins_list b its2.toArray) (show s1.heap.IsTuple a its.toArray from p1) p2.isList fun h' hz hTI hTO h1 h2 hsz hk => wpAny_pyIter_zip hz ?_
      have I2 : Inv X pins σ H1 { s1 with heap := h' } := I1.kept (t' := s1.toks) hk
      exact ⟨s1.heap.objs.size + 4, [s1.heap.objs.size + 4, s1.heap.objs.size + 2, s1.heap.objs.size + 3, s1.heap.objs.size, s1.heap.objs.size + 1], _, _, H1, rfl, I2, turn_zipM (PySem.W.ktu_apart s1.heap.objs.size a b hl1 hl2) (Nat.ne_of_lt hl1) (Nat.ne_of_lt (Nat.lt_succ_of_lt hl2)), ⟨hz, hTI, ⟨_, _, hTO⟩, ⟨_, h1, rfl, rfl⟩, ⟨_, h2, rfl, rfl⟩⟩, fresh5, q⟩
section
variable {X : Cx} {z : Zx} {m ma mb mc : Mo} {e ea eb ec : Expr} {f fa fb fc : DE} {pos : Pos}
def iZipM (fa fb : DE) : DI := fun ρ Q E => fa ρ (fun d => fb ρ (fun d' => match d, d' with | .tup ds, .lst es => Q (zipD ds es) | _, _ => False) E) E
theorem i_zipM {p tpos : Pos} {elts : List Expr} {kk : Nat} (hm : X.mg "zip" = none) (ha : PD X z .d ea fa) (hb : PD X z .d eb fb) (hg : Gl X "zip" := by rfl) (hse : starEach [ea, eb] X.env = (false, eval ea X.env) :: starEach [eb] X.env := by rfl) (hse2 : starEach [eb] X.env = (false, eval eb X.env) :: starEach [] X.env := by rfl)
    (hpl : (backTo pos (starEach [eb] X.env)).any (·.1) = false := by rfl) : PID X z (.Tuple elts kk tpos) (.Call (.Name "zip" p) [ea, eb] [] pos) (iZipM fa fb) := fun W tk =>
  piW (pi_zipM hg hm (pa_cons (ha W tk) (pa_cons (hb W tk) pa_nil hse2) hse) hse hpl) fun σ H R ⟨F0, H0, ρ, F, Q, E, rs, hf, hq, hx⟩ => ⟨F0, H0, ρ, F, _, E, rs, hf, (fun d v F1 H1 q1 e1 r1 => ⟨F0, H0, ρ, F1, _, E, rs.step e1, q1, (fun d' v' F2 H2 q2 e2 r2 => by
    have r1' := Rep.up e2.ff r1
    cases d <;> cases d' <;> try exact False.elim q2
    · rename_i ds es
      obtain ⟨a, xs, rfl, t, r⟩ := Rep.tup_iff.mp r1'
      obtain ⟨b, ys, rfl, t', r'⟩ := Rep.lst_iff.mp r2
      refine ⟨a, b, xs, ys, rfl, (t.sub e2.fh).sq, SqL.of (e2.fh _ _ t'), hq (zipD ds es) _ F2 H2 q2 (e1.trans e2) fun i F' H' s1 s2 rf => ⟨fun d hd => ?_, fun hl => ⟨xs, ys, ((t.sub s1).sub s2).sq, SqL.of (s2 _ _ (s1 _ _ t')), by rw [zipD_len, r.len, r'.len] at hl; omega⟩⟩⟩
      obtain ⟨d1, d2, h1, h2, rfl⟩ := zipD_at _ _ _ _ hd
      obtain ⟨v, hv, rv⟩ := r.at h1
      obtain ⟨u, hu, ru⟩ := r'.at h2
      refine ⟨⟨xs, ys, v, u, ((t.sub s1).sub s2).sq, SqL.of (s2 _ _ (s1 _ _ t')), hv, hu⟩, fun x H'' y => ?_⟩
      obtain ⟨Tn, w1, w2, rfl, nT, rfl, y1, y2⟩ := y
      have e3 := (y1 xs ((t.sub s1).sub s2).sq).symm.trans hv
      have e4 := (y2 ys (SqL.of (s2 _ _ (s1 _ _ t')))).symm.trans hu
      cases e3
      cases e4
      have e2 := Ext.made (K := X.K) (z := z) s2 (o := .tup [v, u]) nT
      exact ⟨_, e2, rep_tup ⟨Tn, _, rfl, .inl upd_same, .cons ((rv.up s1).up e2.ff) (.cons ((ru.up s1).up e2.ff) .nil)⟩⟩), hx.step e1⟩), hx⟩
end
end Act
namespace Act
variable [GT]
open PySem PySem.Spec PyProof.Rows L2
open scoped Rat
/-! ## sums over all sets: payments that hang on the count, and to one left alone -/
def gsum (g : Nat → Rat) (w : List Nat → Rat) (L : List (List Nat)) : Rat := (L.map fun S => g S.length * w S).sum
theorem gsum_nil (g : Nat → Rat) (w : List Nat → Rat) : gsum g w [] = 0 := rfl
theorem gsum_cons (g : Nat → Rat) (w : List Nat → Rat) (S : List Nat) (L : List (List Nat)) : gsum g w (S :: L) = g S.length * w S + gsum g w L := rfl
theorem gsum_app1 (g : Nat → Rat) (w : List Nat → Rat) (S : List Nat) : ∀ L, gsum g w (L ++ [S]) = gsum g w L + g S.length * w S
  | [] => by show _ + 0 = 0 + _; rw [Rat.add_zero, Rat.zero_add]
  | U :: L => by
    rw [List.cons_append, gsum_cons, gsum_app1 g w S L, gsum_cons]
    grind
theorem rs_pick (g : Nat → Rat) (x : Rat) (l : Nat) : ∀ n, l < n → rs (fun k => g k * (if l = k then x else 0)) n = g l * x
  | 0, h => by omega
  | n + 1, h => by
    show rs (fun k => g k * (if l = k then x else 0)) n + g n * (if l = n then x else 0) = _
    by_cases c : l = n
    · subst c
      rw [if_pos rfl, rs_zero fun i hi => by rw [if_neg (by omega), Rat.mul_zero], Rat.zero_add]
    · rw [if_neg c, rs_pick g x l n (by omega), Rat.mul_zero, Rat.add_zero]
theorem gsum_acc (g : Nat → Rat) (w : List Nat → Rat) (n : Nat) : ∀ L : List (List Nat), (∀ S ∈ L, S.length ≤ n) → gsum g w L = rs (fun k => g k * accL w k L) (n + 1)
  | [], _ => by rw [gsum_nil, rs_zero fun i _ => by show g i * 0 = 0; rw [Rat.mul_zero]]
  | S :: L, h => by
    rw [gsum_cons, gsum_acc g w n L fun U hU => h U (List.mem_cons_of_mem _ hU), ← rs_pick g (w S) S.length (n + 1) (by have := h S List.mem_cons_self; omega), ← rs_add]
    refine rs_congr fun k _ => ?_
    show _ = g k * (accL w k L + (if S.length = k then w S else 0))
    grind
theorem gsum_coef (g q p : Nat → Rat) (n : Nat) : gsum g (fun S => Wt q p S n) (subs n) = rs (fun k => g k * coef q p n k) (n + 1) := by
  rw [gsum_acc g _ n _ fun S hS => (subs_lt n S hS).2]
  exact rs_congr fun k _ => by rw [acc_coef]
/-- the sum of the one set [i] -/
def osum (i : Nat) (w : List Nat → Rat) (L : List (List Nat)) : Rat := (L.map fun S => if S = [i] then w S else 0).sum
theorem osum_app (i : Nat) (w : List Nat → Rat) (L M : List (List Nat)) : osum i w (L ++ M) = osum i w L + osum i w M := by
  unfold osum
  rw [List.map_append, List.sum_append]
theorem osum_one (i : Nat) (w : List Nat → Rat) (S : List Nat) : osum i w [S] = if S = [i] then w S else 0 := by
  show _ + 0 = _
  rw [Rat.add_zero]
theorem sum_zero {α : Type} (f : α → Rat) : ∀ L : List α, (∀ x ∈ L, f x = 0) → (L.map f).sum = 0
  | [], _ => rfl
  | x :: L, h => by rw [List.map_cons, List.sum_cons, h x List.mem_cons_self, sum_zero f L fun y hy => h y (List.mem_cons_of_mem _ hy), Rat.add_zero]
theorem esum (f : List Nat → Rat) : ∀ n, ((subs n).map fun S => if S = [] then f S else 0).sum = f []
  | 0 => by show f [] + 0 = f []; rw [Rat.add_zero]
  | n + 1 => by
    show ((subs n ++ (subs n).map (· ++ [n])).map _).sum = _
    rw [List.map_append, List.sum_append, esum f n, List.map_map, sum_zero _ _ fun S _ => by
      show (if S ++ [n] = [] then _ else (0 : Rat)) = 0
      rw [if_neg (by simp)], Rat.add_zero]
theorem osum_subs (w : List Nat → Rat) : ∀ n i, i < n → osum i w (subs n) = w [i]
  | 0, i, h => by omega
  | n + 1, i, h => by
    show osum i w (subs n ++ (subs n).map (· ++ [n])) = _
    rw [osum_app]
    by_cases c : i < n
    · rw [osum_subs w n i c]
      have : osum i w ((subs n).map (· ++ [n])) = 0 := by
        unfold osum
        rw [List.map_map]
        refine sum_zero _ _ fun S _ => ?_
        show (if S ++ [n] = [i] then _ else (0 : Rat)) = 0
        rw [if_neg fun e => ?_]
        have e2 := congrArg List.getLast? e
        simp at e2
        omega
      rw [this, Rat.add_zero]
    · have ei : i = n := by omega
      subst ei
      have z : osum i w (subs i) = 0 := by
        unfold osum
        refine sum_zero _ _ fun S hS => ?_
        rw [if_neg fun e => ?_]
        have := (subs_lt i S hS).1 i (by rw [e]; exact List.mem_singleton.mpr rfl)
        omega
      rw [z, Rat.zero_add]
      unfold osum
      rw [List.map_map]
      have e : ((fun S => if S = [i] then w S else 0) ∘ fun S : List Nat => S ++ [i]) = fun S => if S = [] then w (S ++ [i]) else 0 := by
        funext S
        show (if S ++ [i] = [i] then w (S ++ [i]) else 0) = _
        by_cases c : S = []
        · subst c; simp
        · rw [if_neg c, if_neg fun e => c (List.append_left_eq_self.mp e)]
      rw [e, esum (fun S => w (S ++ [i])) i]
      rfl
/-! ### products of lists -/
def prodL (l : List Rat) : Rat := l.foldl (fun x y => x * y) 1
theorem prodL_app (l : List Rat) (x : Rat) : prodL (l ++ [x]) = prodL l * x := by
  unfold prodL
  rw [List.foldl_append]
  rfl
theorem prodL_take {l : List Rat} {i : Nat} {x : Rat} (h : l[i]? = some x) : prodL (l.take (i + 1)) = prodL (l.take i) * x := by
  have hi := (List.getElem?_eq_some_iff.mp h).1
  rw [List.take_succ_eq_append_getElem hi, (List.getElem?_eq_some_iff.mp h).2, prodL_app]
theorem Wt_one (q p : Nat → Rat) (i : Nat) : ∀ (n : Nat) (l : List Rat), l.length = n → (∀ j, j < n → l[j]? = some (q j)) → Wt q p [i] n = if i < n then p i * prodL (l.eraseIdx i) else prodL l
  | 0, l, hl, h => by
    rw [if_neg (by omega), List.eq_nil_of_length_eq_zero hl]
    rfl
  | n + 1, l, hl, h => by
    have e : l = l.take n ++ [q n] := by
      have hn := (List.getElem?_eq_some_iff.mp (h n (by omega)))
      have := List.take_succ_eq_append_getElem hn.1
      rw [hn.2, ← hl, List.take_length] at this
      exact this
    have lt : (l.take n).length = n := by rw [List.length_take]; omega
    have ih := Wt_one q p i n (l.take n) lt fun j hj => by rw [List.getElem?_take, if_pos hj]; exact h j (by omega)
    show Wt q p [i] n * (if n ∈ [i] then p n else q n) = _
    rw [ih]
    by_cases c : i < n
    · rw [if_pos c, if_pos (show i < n + 1 by omega), if_neg (show ¬ n ∈ [i] by simp; omega)]
      have e2 : l.eraseIdx i = (l.take n).eraseIdx i ++ [q n] := by
        rw [← List.eraseIdx_append_of_lt_length (l := l.take n) (k := i) (by omega) [q n], ← e]
      rw [e2, prodL_app]
      grind
    · by_cases c2 : i = n
      · subst c2
        rw [if_neg c, if_pos (show i < i + 1 by omega), if_pos (show i ∈ [i] by simp)]
        have e2 : l.eraseIdx i = l.take i := by
          conv => lhs; rw [e]
          rw [List.eraseIdx_append_of_length_le (l := l.take i) (k := i) (by omega) [q i], lt, Nat.sub_self]
          simp
        rw [e2, Rat.mul_comm]
      · rw [if_neg c, if_neg (show ¬ i < n + 1 by omega), if_neg (show ¬ n ∈ [i] by simp; omega)]
        conv => rhs; rw [e]
        rw [prodL_app]
/-! ### promises -/
def spRowD : SpD := fun ds Q _ => ∃ (ns : List Int) (lo hi : Int), ds = [.tup (ns.map D.int), .int (ns.length : Int), .int lo, .int hi] ∧ (∀ n ∈ ns, lo ≤ n ∧ n ≤ hi) ∧ Q (.bl true)
def spCmpIxD : SpD := fun ds Q _ => ∃ (cs : List Cmp) (i : Nat), ds = [.tup (csD cs), .int (i : Int)] ∧ CmpOk cs ∧ i < cs.length ∧ Q .non
def spWithoutD : SpD := fun ds Q _ => ∃ (cs : List Cmp) (i : Nat), ds = [.tup (csD cs), .int (i : Int)] ∧ cs.length ≤ 100 ∧ i < cs.length ∧ Q (.lst (csD (cs.eraseIdx i)))
/-- every product of first ones is small -/
def ProdBd (n : Nat) (rs : List Rat) : Prop := (∀ r ∈ rs, Bd n r) ∧ ∀ i, i ≤ rs.length → Bd n (prodL (rs.take i))
def spProdD : SpD := fun ds Q _ => ∃ rs n, ds = [.lst (dRs rs)] ∧ ProdBd n rs ∧ n ≤ 4400 ∧ Q (dR (prodL rs))
theorem prodBd_of {b m : Nat} {rs : List Rat} (h : ∀ r ∈ rs, Bd b r) (hl : rs.length ≤ m) : ProdBd (b * (m + 1) + 1) rs := by
  have hb : b ≤ b * (m + 1) + 1 := Nat.le_succ_of_le (Nat.le_mul_of_pos_right b (Nat.succ_pos m))
  refine ⟨fun r hr => (h r hr).mono hb, fun i hi => ?_⟩
  have go : ∀ i, i ≤ rs.length → Bd (b * i + 1) (prodL (rs.take i)) := fun i => by
    induction i with
    | zero => exact fun _ => Bd.one (by omega)
    | succ i ih =>
      intro hi
      have e : rs[i]? = some rs[i] := List.getElem?_eq_getElem (by omega)
      rw [prodL_take e]
      exact ((ih (by omega)).mul (h _ (List.getElem_mem _))).mono (by rw [Nat.mul_succ]; omega)
  refine (go i hi).mono ?_
  have := Nat.mul_le_mul_left b (show i ≤ m + 1 by omega)
  omega
/-- the longest of the spans -/
def IsLong (cs : List Cmp) (m : Int) : Prop := m ∈ cs.map (fun c => ((c.1.length - 1 - c.2 : Nat) : Int)) ∧ ∀ y ∈ cs.map (fun c => ((c.1.length - 1 - c.2 : Nat) : Int)), y ≤ m
theorem IsLong.eq {cs : List Cmp} {m l : Int} (h : IsLong cs m) (g : IsLong cs l) : m = l := Int.le_antisymm (g.2 _ h.1) (h.2 _ g.1)
def spLongD : SpD := fun ds Q _ => ∃ cs : List Cmp, ds = [.tup (csD cs)] ∧ CmpOk cs ∧ ∀ m, IsLong cs m → Q (.int m)
/-- values of payments by the count, and left alone, up to a time -/
def countV (cs : List Cmp) (v : Rat) (am : Nat → Rat) : Nat → Rat
  | 0 => 0
  | t + 1 => countV cs v am t + v ^ t * rs (fun k => am k * coef (fun i => 1 - pC cs t i) (pC cs t) cs.length k) (cs.length + 1)
def aloneV (cs : List Cmp) (v : Rat) (i : Nat) : Nat → Rat
  | 0 => 0
  | t + 1 => aloneV cs v i t + v ^ t * Wt (fun i => 1 - pC cs t i) (pC cs t) [i] cs.length
def spanC (cs : List Cmp) (i : Nat) : Nat := (cAt cs i).1.length - 1 - (cAt cs i).2
def spCountVD : SpD := fun ds Q _ => ∃ (cs : List Cmp) (r : Rat) (ns : List Int), ds = [.tup (csD cs), dR r, .tup (ns.map D.int)] ∧ CmpOk cs ∧ RateOk r ∧ ns.length = cs.length + 1 ∧ (∀ n ∈ ns, -1000 ≤ n ∧ n ≤ 1000) ∧ (∀ c ∈ cs, c.1.length ≤ 5) ∧ ∀ m : Nat, IsLong cs (m : Int) → Q (dR (countV cs (1 + r)⁻¹ (fun k => (lat ns k : Rat)) m))
def spAloneVD : SpD := fun ds Q _ => ∃ (cs : List Cmp) (r : Rat) (i : Nat), ds = [.tup (csD cs), dR r, .int (i : Int)] ∧ CmpOk cs ∧ RateOk r ∧ i < cs.length ∧ (∀ c ∈ cs, c.1.length ≤ 5) ∧ Q (dR (aloneV cs (1 + r)⁻¹ i (spanC cs i)))
theorem cut_from2 {xs : List D} {m : Nat} (h : m ≤ xs.length) : cutD xs (some (m : Int)) none = xs.drop m := by
  unfold cutD
  rw [HT.sIx_none, HT.sIx_nat, Nat.min_eq_left h]
  exact List.take_of_length_le (by rw [List.length_drop]; omega)
theorem csD_without {cs : List Cmp} {i : Nat} (h : i < cs.length) : cutD (csD cs) none (some (i : Int)) ++ (cutD (csD cs) (some ((i : Int) + 1)) none ++ []) = csD (cs.eraseIdx i) := by
  have e := cut_from2 (xs := csD cs) (m := i + 1) (by rw [csD_len]; omega)
  rw [Int.natCast_add] at e
  change cutD (csD cs) (some ((i : Int) + 1)) none = _ at e
  rw [e, cut_to (by rw [csD_len]; omega), List.append_nil, List.eraseIdx_eq_take_drop_succ]
  unfold csD
  rw [List.map_append, List.map_take, List.map_drop]
theorem spans_ints (cs : List Cmp) : cs.map (fun c => D.int ((c.1.length - 1 - c.2 : Nat) : Int)) = (cs.map fun c => ((c.1.length - 1 - c.2 : Nat) : Int)).map D.int := by rw [List.map_map]; rfl
section
variable {cs : List Cmp} {r : Rat}
theorem long_le (h5 : ∀ c ∈ cs, c.1.length ≤ 5) {m : Nat} (hm : IsLong cs (m : Int)) : m ≤ 4 := by
  obtain ⟨c, hc, e⟩ := List.mem_map.mp hm.1
  have := h5 c hc
  omega
theorem span_le (h5 : ∀ c ∈ cs, c.1.length ≤ 5) {i : Nat} (hi : i < cs.length) : spanC cs i ≤ 4 := by
  have := h5 _ (List.mem_of_getElem? (cAt_at hi))
  unfold spanC
  omega
theorem sumBd2 {b n : Nat} {f : Nat → Rat} (h : ∀ k, k < n → Bd b (f k)) : SumBd ((b + 1) * n + 1) ((List.range n).map f) := sumBd_of (fun q hq => by
  obtain ⟨k, hk, rfl⟩ := List.mem_map.mp hq
  exact h k (List.mem_range.mp hk)) (by rw [List.length_map, List.length_range]; exact Nat.le_refl _)
theorem rs_bd {b : Nat} {f : Nat → Rat} : ∀ {n : Nat}, (∀ k, k < n → Bd b (f k)) → Bd ((b + 1) * n + 1) (rs f n)
  | 0, _ => Bd.zero (by omega)
  | n + 1, h => ((rs_bd (n := n) fun k hk => h k (by omega)).add (h n (by omega))).mono (by rw [Nat.mul_succ]; omega)
theorem am_bd {ns : List Int} (h : ∀ n ∈ ns, -1000 ≤ n ∧ n ≤ 1000) (k : Nat) : Bd 10 (lat ns k : Rat) := by
  refine Bd.int ?_ (by decide)
  by_cases c : k < ns.length
  · have : -1000 ≤ lat ns k ∧ lat ns k ≤ 1000 := h _ (List.mem_of_getElem? (getD_lt c))
    show _ < 1024
    omega
  · have : lat ns k = 0 := getD_ge (by omega)
    rw [this]; decide
theorem meanC_bd (h : CmpOk cs) {ns : List Int} (hn : ∀ n ∈ ns, -1000 ≤ n ∧ n ≤ 1000) (t : Nat) : Bd 606 (rs (fun k => (lat ns k : Rat) * coef (fun i => 1 - pC cs t i) (pC cs t) cs.length k) (cs.length + 1)) := by
  have c4 := h.hi
  refine (rs_bd (b := 120) fun k _ => (am_bd hn k).mul (coef_bd h t (qOk_dead h t) (Nat.le_refl _) k)).mono ?_
  omega
theorem disc_pow (hr : RateOk r) {t : Nat} (ht : t ≤ 4) : Bd 45 ((1 + r)⁻¹ ^ t) := (hr.disc.pow t).mono (by omega)
theorem countV_bd (h : CmpOk cs) (hr : RateOk r) {ns : List Int} (hn : ∀ n ∈ ns, -1000 ≤ n ∧ n ≤ 1000) : ∀ t, t ≤ 4 → Bd (652 * t + 1) (countV cs (1 + r)⁻¹ (fun k => (lat ns k : Rat)) t)
  | 0, _ => Bd.zero (by omega)
  | t + 1, ht => ((countV_bd h hr hn t (by omega)).add ((disc_pow hr (show t ≤ 4 by omega)).mul (meanC_bd h hn t))).mono (by omega)
theorem aloneV_bd (h : CmpOk cs) (hr : RateOk r) (i : Nat) : ∀ t, t ≤ 4 → Bd (136 * t + 1) (aloneV cs (1 + r)⁻¹ i t)
  | 0, _ => Bd.zero (by omega)
  | t + 1, ht => ((aloneV_bd h hr i t (by omega)).add ((disc_pow hr (show t ≤ 4 by omega)).mul (Wt_bd h t (qOk_dead h t) [i] (Nat.le_refl _)))).mono (by omega)
theorem eraseIdx_map {α β : Type} (f : α → β) : ∀ (l : List α) (i : Nat), (l.map f).eraseIdx i = (l.eraseIdx i).map f
  | [], i => by simp
  | x :: l, 0 => by simp
  | x :: l, i + 1 => by simp [eraseIdx_map f l i]
/-- the chance that companion i alone lives -/
theorem alone_chance {y i : Nat} (hi : i < cs.length) : Wt (fun i => 1 - pC cs y i) (pC cs y) [i] cs.length = pC cs y i * prodL ((partsC (cs.eraseIdx i) y).map fun p => 1 - p) := by
  rw [Wt_one _ (pC cs y) i cs.length ((partsC cs y).map fun p => 1 - p) (by rw [List.length_map, partsC_len]) fun j hj => by rw [List.getElem?_map, partsC_at hj]; rfl, if_pos hi, eraseIdx_map]
  unfold partsC
  rw [eraseIdx_map]
end
theorem gsum_mul (g : Nat → Rat) (w : List Nat → Rat) (c : Rat) : ∀ L, gsum g (fun S => w S * c) L = c * gsum g w L
  | [] => by rw [gsum_nil, gsum_nil, Rat.mul_zero]
  | S :: L => by
    rw [gsum_cons, gsum_cons, gsum_mul g w c L]
    grind
theorem take_one {α : Type} {L : List α} {j : Nat} {x : α} (h : L[j]? = some x) : L.take (j + 1) = L.take j ++ [x] := by
  have hi := (List.getElem?_eq_some_iff.mp h).1
  rw [List.take_succ_eq_append_getElem hi, (List.getElem?_eq_some_iff.mp h).2]
theorem pC_late {cs : List Cmp} (h : CmpOk cs) {i : Nat} (hi : i < cs.length) {t : Nat} (ht : spanC cs i ≤ t) : pC cs t i = 0 := by
  have ⟨o1, o2⟩ := cAt_ok h hi
  have hlt := o2.lt
  unfold spanC at ht
  have e : lat (cAt cs i).1 ((cAt cs i).2 + t) = 0 := lat_zero o1 (by omega)
  show lat (cAt cs i).1 ((cAt cs i).2 + t) /. _ = 0
  rw [e]
  exact Rat.zero_divInt _
theorem aloneV_late {cs : List Cmp} (h : CmpOk cs) {i : Nat} (hi : i < cs.length) (v : Rat) : ∀ k, aloneV cs v i (spanC cs i + k) = aloneV cs v i (spanC cs i)
  | 0 => rfl
  | k + 1 => by
    have z := pC_late h hi (Nat.le_add_right (spanC cs i) k)
    have w := alone_chance (y := spanC cs i + k) hi
    rw [z, Rat.zero_mul] at w
    show aloneV cs v i (spanC cs i + k) + v ^ (spanC cs i + k) * Wt (fun j => 1 - pC cs (spanC cs i + k) j) (pC cs (spanC cs i + k)) [i] cs.length = _
    rw [w, aloneV_late h hi v k, Rat.mul_zero, Rat.add_zero]
theorem deq_sD {S : List Nat} {i : Nat} : deq (sD S) (.tup [.int (i : Int)]) = decide (S = [i]) := by
  have e1 : sD S = .tup ((S.map fun (k : Nat) => (k : Int)).map D.int) := by unfold sD; rw [List.map_map]; rfl
  have e2 : D.tup [.int (i : Int)] = .tup (([i].map fun (k : Nat) => (k : Int)).map D.int) := rfl
  rw [e1, e2]
  show PyData.eqvAll (toPys _) (toPys _) = _
  rw [eqvAll_int]
  by_cases c : S = [i]
  · rw [c]; simp
  · rw [decide_eq_false c, decide_eq_false]
    intro e
    refine c ?_
    have inj : ∀ (a b : List Nat), a.map (fun (k : Nat) => (k : Int)) = b.map (fun (k : Nat) => (k : Int)) → a = b := fun a b h => by
      induction a generalizing b with
      | nil => cases b <;> simp_all
      | cons x a ih =>
        cases b with
        | nil => simp at h
        | cons y b =>
          rw [List.map_cons, List.map_cons] at h
          injection h with h1 h2
          rw [ih b h2, show x = y by omega]
    exact inj _ _ e
end Act
namespace Act
variable [GT]
open PySem PySem.Spec PyProof.Rows L2
open scoped Rat
/-! ### what claims teach (k64) -/
/-- a row of ratios, by the place -/
def rl (f : Nat → Rat) (n : Nat) : List D := (List.range n).map fun i => dR (f i)
theorem rl_eq (f : Nat → Rat) (n : Nat) : rl f n = dRs ((List.range n).map f) := by unfold rl dRs; rw [List.map_map]; rfl
theorem rl_len (f : Nat → Rat) (n : Nat) : (rl f n).length = n := by simp [rl]
theorem rl_at {f : Nat → Rat} {n i : Nat} {d : D} (h : (rl f n)[i]? = some d) : i < n ∧ d = dR (f i) := by
  have hi : i < n := by
    have := (List.getElem?_eq_some_iff.mp h).1
    rwa [rl_len] at this
  refine ⟨hi, ?_⟩
  unfold rl at h
  rw [List.getElem?_map, List.getElem?_range hi] at h
  exact (Option.some.inj h).symm
theorem rl_get {f : Nat → Rat} {n i : Nat} (h : i < n) : (rl f n)[i]? = some (dR (f i)) := by
  unfold rl
  rw [List.getElem?_map, List.getElem?_range h]
  rfl
theorem range_ca (a : List Rat) : (List.range a.length).map (ca a) = a := by
  refine List.ext_getElem? fun i => ?_
  by_cases h : i < a.length
  · rw [List.getElem?_map, List.getElem?_range h, ca_at h]
    rfl
  · rw [List.getElem?_eq_none (by simp; omega), List.getElem?_eq_none (by omega)]
theorem rl_ca (a : List Rat) : rl (ca a) a.length = dRs a := by rw [rl_eq, range_ca]
theorem rl_congr {f g : Nat → Rat} {n : Nat} (h : ∀ i, i < n → f i = g i) : rl f n = rl g n := by
  unfold rl
  exact List.map_congr_left fun i hi => by rw [h i (List.mem_range.mp hi)]
theorem zip_rl {f g : Nat → Rat} {n i : Nat} {d : D} (h : (zipD (rl f n) (rl g n))[i]? = some d) : i < n ∧ d = .tup [dR (f i), dR (g i)] := by
  obtain ⟨a, b, h1, h2, rfl⟩ := zipD_at _ _ _ _ h
  obtain ⟨hi, rfl⟩ := rl_at h1
  obtain ⟨_, rfl⟩ := rl_at h2
  exact ⟨hi, rfl⟩
theorem rs_nonneg {f : Nat → Rat} : ∀ {n : Nat}, (∀ i, i < n → 0 ≤ f i) → 0 ≤ rs f n
  | 0, _ => Rat.le_refl
  | n + 1, h => Rat.add_nonneg (rs_nonneg fun i hi => h i (by omega)) (h n (by omega))
/-- the squares of what lies apart from the mean -/
theorem rs_apart (c x : Nat → Rat) (M : Rat) : ∀ n, rs (fun i => c i * ((x i - M) * (x i - M))) n = rs (fun i => c i * (x i * x i)) n - 2 * M * rs (fun i => c i * x i) n + M * M * rs c n
  | 0 => by show (0 : Rat) = 0 - 2 * M * 0 + M * M * 0; grind
  | n + 1 => by
    show rs _ n + _ = rs _ n + _ - 2 * M * (rs _ n + _) + M * M * (rs _ n + _)
    rw [rs_apart c x M n]
    grind
theorem rs_apart1 {c x : Nat → Rat} {n : Nat} (h : rs c n = 1) : rs (fun i => c i * ((x i - rs (fun i => c i * x i) n) * (x i - rs (fun i => c i * x i) n))) n = rs (fun i => c i * (x i * x i)) n - rs (fun i => c i * x i) n * rs (fun i => c i * x i) n := by
  rw [rs_apart, h]
  grind
theorem sq_nonneg (x : Rat) : 0 ≤ x * x := by
  rcases Rat.le_total (a := 0) (b := x) with h | h
  · exact Rat.mul_nonneg h h
  · have h2 : 0 ≤ -x := by grind
    have := Rat.mul_nonneg h2 h2
    grind
/-! kinds -/
abbrev Kd := Int × List Int
def kD (c : Kd) : D := .tup [.int c.1, .tup (c.2.map D.int)]
def kat (ks : List Kd) (i : Nat) : Kd := ks.getD i (1, [1])
def kwL (ks : List Kd) : List Int := ks.map fun c => c.1
structure KdsOk (ks : List Kd) : Prop where
  lo : 1 ≤ ks.length
  hi : ks.length ≤ 3
  w : ∀ c ∈ ks, 1 ≤ c.1 ∧ c.1 ≤ 1000
  ok : ∀ c ∈ ks, ClmOk c.2
  len : ∀ c ∈ ks, c.2.length ≤ 3
theorem kat_lt {ks : List Kd} {i : Nat} (h : i < ks.length) : ks[i]? = some (kat ks i) := by
  unfold kat
  rw [List.getD_eq_getElem?_getD, List.getElem?_eq_getElem h]
  rfl
theorem kat_mem {ks : List Kd} {i : Nat} (h : i < ks.length) : kat ks i ∈ ks := List.mem_of_getElem? (kat_lt h)
theorem kds_at {ks : List Kd} {i : Nat} {d : D} (h : (ks.map kD)[i]? = some d) : i < ks.length ∧ d = kD (kat ks i) := by
  have hi : i < ks.length := by
    have := (List.getElem?_eq_some_iff.mp h).1
    rwa [List.length_map] at this
  refine ⟨hi, ?_⟩
  rw [List.getElem?_map, kat_lt hi] at h
  exact (Option.some.inj h).symm
theorem kds_get {ks : List Kd} {i : Nat} (h : i < ks.length) : (ks.map kD)[i]? = some (kD (kat ks i)) := by rw [List.getElem?_map, kat_lt h]; rfl
theorem map_kat {α : Type} (g : Kd → α) (ks : List Kd) : ks.map g = (List.range ks.length).map fun i => g (kat ks i) := by
  refine List.ext_getElem? fun i => ?_
  by_cases h : i < ks.length
  · rw [List.getElem?_map, List.getElem?_map, kat_lt h, List.getElem?_range h]
    rfl
  · rw [List.getElem?_eq_none (by simp; omega), List.getElem?_eq_none (by simp; omega)]
theorem kwL_len (ks : List Kd) : (kwL ks).length = ks.length := by simp [kwL]
theorem KdsOk.clm {ks : List Kd} (h : KdsOk ks) : ClmOk (kwL ks) := by
  refine ⟨by rw [kwL_len]; exact h.lo, fun n hn => ?_, ?_⟩
  · obtain ⟨c, hc, rfl⟩ := List.mem_map.mp hn
    have := h.w c hc
    omega
  · have hl := h.lo
    have e : (kwL ks)[(kwL ks).length - 1]? = some (kat ks (ks.length - 1)).1 := by
      unfold kwL
      rw [List.length_map, List.getElem?_map, kat_lt (by omega)]
      rfl
    have e2 := getD_lt (ls := kwL ks) (i := (kwL ks).length - 1) (by rw [kwL_len]; omega)
    rw [e] at e2
    have e3 := Option.some.inj e2
    show 0 < (kwL ks).getD ((kwL ks).length - 1) 0
    rw [← e3]
    have := h.w _ (kat_mem (show ks.length - 1 < ks.length by omega))
    omega
/-- the chance of a kind, its mean, its mean square -/
def kc (ks : List Kd) (i : Nat) : Rat := ca (chs (kwL ks)) i
def pj (ws : List Int) (j : Nat) : Rat := ca (chs ws) j
def mn (ws : List Int) : Rat := s1 (chs ws)
def ms (ws : List Int) : Rat := rs (fun j => pj ws j * (((j : Int) * (j : Int) : Int) : Rat)) ws.length
def km (ks : List Kd) (i : Nat) : Rat := mn (kat ks i).2
def kM (ks : List Kd) : Rat := rs (fun i => kc ks i * km ks i) ks.length
def kS (ks : List Kd) : Rat := rs (fun i => kc ks i * (km ks i * km ks i)) ks.length
def kB (ks : List Kd) : Rat := kS ks - kM ks * kM ks
def kQ (ks : List Kd) : Rat := rs (fun i => kc ks i * ms (kat ks i).2) ks.length
def kW (ks : List Kd) : Rat := kQ ks - kS ks
/-- the fair weight of what is seen in y years -/
def kF (ks : List Kd) (y : Nat) : Rat := (((y : Nat) : Int) : Rat) * kB ks / ((((y : Nat) : Int) : Rat) * kB ks + kW ks)
theorem ca_nonneg {ws : List Int} (h : ClmOk ws) (j : Nat) : 0 ≤ ca (chs ws) j := by
  by_cases c : j < ws.length
  · have e := ca_at (a := chs ws) (i := j) (by rw [chs_len]; exact c)
    unfold chs at e
    rw [List.getElem?_map, getD_lt c] at e
    have e := Option.some.inj e
    rw [show ca (chs ws) j = ca (ws.map fun n => n /. ws.sum) j from rfl, ← e]
    have hn := (h.nat _ (List.mem_of_getElem? (getD_lt c))).1
    have hp := h.sum_pos
    show 0 ≤ (ws.getD j 0) /. ws.sum
    rw [divInt_div, Rat.div_def]
    exact Rat.mul_nonneg (Rat.intCast_nonneg.mpr hn) (Rat.le_of_lt (Rat.inv_pos.mpr (Rat.intCast_pos.mpr hp)))
  · rw [ca_ge (by rw [chs_len]; omega)]
    exact Rat.le_refl
section
variable {ks : List Kd} {ws : List Int}
theorem pj_sum (h : ClmOk ws) : rs (pj ws) ws.length = 1 := by
  have e := chs_s0 h
  unfold s0 at e
  rw [chs_len] at e
  exact e
theorem mn_eq (ws : List Int) : mn ws = rs (fun j => pj ws j * ((j : Int) : Rat)) ws.length := by
  unfold mn s1
  rw [chs_len]
  exact rs_congr fun j _ => Rat.mul_comm _ _
theorem ms_eq (h : ClmOk ws) : rs (fun j => pj ws j * ((((j : Int) : Rat) - mn ws) * (((j : Int) : Rat) - mn ws))) ws.length = ms ws - mn ws * mn ws := by
  have e := rs_apart1 (x := fun j => ((j : Int) : Rat)) (pj_sum h)
  rw [← mn_eq] at e
  rw [e]
  unfold ms
  congr 1
  exact rs_congr fun j _ => by rw [Rat.intCast_mul]
theorem kc_sum (h : KdsOk ks) : rs (kc ks) ks.length = 1 := by
  have e := pj_sum h.clm
  rw [kwL_len] at e
  exact e
theorem kB_eq (h : KdsOk ks) : rs (fun i => kc ks i * ((km ks i - kM ks) * (km ks i - kM ks))) ks.length = kB ks := rs_apart1 (kc_sum h)
theorem kW_eq (h : KdsOk ks) : rs (fun i => rs (fun j => kc ks i * (pj (kat ks i).2 j * ((((j : Int) : Rat) - km ks i) * (((j : Int) : Rat) - km ks i)))) (kat ks i).2.length) ks.length = kW ks := by
  have e : ∀ i, i < ks.length → rs (fun j => kc ks i * (pj (kat ks i).2 j * ((((j : Int) : Rat) - km ks i) * (((j : Int) : Rat) - km ks i)))) (kat ks i).2.length = kc ks i * ms (kat ks i).2 + (-1) * (kc ks i * (km ks i * km ks i)) := fun i hi => by
    rw [rs_mul]
    have z := ms_eq (h.ok _ (kat_mem hi))
    show kc ks i * rs (fun j => pj (kat ks i).2 j * ((((j : Int) : Rat) - mn (kat ks i).2) * (((j : Int) : Rat) - mn (kat ks i).2))) _ = _
    rw [z]
    show kc ks i * (ms (kat ks i).2 - mn (kat ks i).2 * mn (kat ks i).2) = kc ks i * ms (kat ks i).2 + (-1) * (kc ks i * (mn (kat ks i).2 * mn (kat ks i).2))
    grind
  rw [rs_congr e, rs_add, rs_mul]
  unfold kW kQ kS
  grind
theorem kB_nonneg (h : KdsOk ks) : 0 ≤ kB ks := by
  rw [← kB_eq h]
  exact rs_nonneg fun i _ => Rat.mul_nonneg (ca_nonneg h.clm i) (sq_nonneg _)
theorem kW_nonneg (h : KdsOk ks) : 0 ≤ kW ks := by
  rw [← kW_eq h]
  exact rs_nonneg fun i hi => rs_nonneg fun j _ => Rat.mul_nonneg (ca_nonneg h.clm i) (Rat.mul_nonneg (ca_nonneg (h.ok _ (kat_mem hi)) j) (sq_nonneg _))
/-! sizes -/
theorem kc_bd (h : KdsOk ks) (i : Nat) : Bd 14 (kc ks i) := chs_bd h.clm (by rw [kwL_len]; have := h.hi; omega) i
theorem pj_bd (h : ClmOk ws) (hl : ws.length ≤ 3) (j : Nat) : Bd 14 (pj ws j) := chs_bd h (by omega) j
theorem mn_bd (h : ClmOk ws) (hl : ws.length ≤ 3) : Bd 15 (mn ws) := by
  rw [mn_eq]
  have f : ∀ j, Fr ws.sum.toNat 12 (if j < 3 then pj ws j * ((j : Int) : Rat) else 0) := fun j => by
    split
    · rename_i c
      have := (chs_frs h j).mul (Fr.int (i := (j : Int)) (n := 2) (by show _ < 4; omega))
      rw [Nat.mul_one] at this
      exact this
    · exact Fr.zero
  have g := rs_fr f ws.length
  rw [rs_congr (g := fun j => pj ws j * ((j : Int) : Rat)) fun j hj => if_pos (by omega)] at g
  have s := s_bd h (by omega : ws.length ≤ 13)
  exact (g.mono (show 12 + ws.length ≤ 15 by omega)).bd s.2 (m := 14) s.1 (by decide)
theorem ms_bd (h : ClmOk ws) (hl : ws.length ≤ 3) : Bd 16 (ms ws) := by
  unfold ms
  have f : ∀ j, Fr ws.sum.toNat 13 (if j < 3 then pj ws j * (((j : Int) * (j : Int) : Int) : Rat) else 0) := fun j => by
    split
    · rename_i c
      have e : ((j : Int) * (j : Int)).natAbs < 2 ^ 3 := by
        have h4 : j * j ≤ 2 * 2 := Nat.mul_le_mul (by omega) (by omega)
        have e : ((j : Int) * (j : Int)).natAbs = j * j := by rw [Int.natAbs_mul]; rfl
        rw [e]
        show _ < 8
        omega
      have := (chs_frs h j).mul (Fr.int e)
      rw [Nat.mul_one] at this
      exact this
    · exact Fr.zero
  have g := rs_fr f ws.length
  rw [rs_congr (g := fun j => pj ws j * (((j : Int) * (j : Int) : Int) : Rat)) fun j hj => if_pos (by omega)] at g
  have s := s_bd h (by omega : ws.length ≤ 13)
  exact (g.mono (show 13 + ws.length ≤ 16 by omega)).bd s.2 (m := 14) s.1 (by decide)
theorem km_bd (h : KdsOk ks) {i : Nat} (hi : i < ks.length) : Bd 15 (km ks i) := mn_bd (h.ok _ (kat_mem hi)) (h.len _ (kat_mem hi))
theorem kM_bd (h : KdsOk ks) : Bd 91 (kM ks) := (rs_bd (b := 29) fun i hi => (kc_bd h i).mul (km_bd h hi)).mono (by have := h.hi; omega)
theorem kS_bd (h : KdsOk ks) : Bd 136 (kS ks) := (rs_bd (b := 44) fun i hi => (kc_bd h i).mul ((km_bd h hi).mul (km_bd h hi))).mono (by have := h.hi; omega)
theorem kB_bd (h : KdsOk ks) : Bd 319 (kB ks) := ((kS_bd h).sub ((kM_bd h).mul (kM_bd h))).mono (by omega)
theorem kQ_bd (h : KdsOk ks) : Bd 94 (kQ ks) := (rs_bd (b := 30) fun i hi => (kc_bd h i).mul (ms_bd (h.ok _ (kat_mem hi)) (h.len _ (kat_mem hi)))).mono (by have := h.hi; omega)
theorem kW_bd (h : KdsOk ks) : Bd 231 (kW ks) := ((kQ_bd h).sub (kS_bd h)).mono (by omega)
theorem yB_bd (h : KdsOk ks) {y : Nat} (hy : y ≤ 8) : Bd 339 ((((y : Nat) : Int) : Rat) * kB ks) := ((Bd.int (i := (y : Int)) (n := 20) (by show _ < 1048576; omega) (by decide)).mul (kB_bd h)).mono (by omega)
theorem whole_bd (h : KdsOk ks) {y : Nat} (hy : y ≤ 8) : Bd 571 ((((y : Nat) : Int) : Rat) * kB ks + kW ks) := ((yB_bd h hy).add (kW_bd h)).mono (by omega)
theorem yB_nonneg (h : KdsOk ks) (y : Nat) : 0 ≤ (((y : Nat) : Int) : Rat) * kB ks := Rat.mul_nonneg (Rat.intCast_nonneg.mpr (by omega)) (kB_nonneg h)
theorem whole_ne (h : KdsOk ks) {y : Nat} (c : (((y : Nat) : Int) : Rat) * kB ks ≠ 0) : (((y : Nat) : Int) : Rat) * kB ks + kW ks ≠ 0 := fun e => by
  have h1 := yB_nonneg h y
  have h2 := kW_nonneg h
  generalize (((y : Nat) : Int) : Rat) * kB ks = a at *
  grind
theorem zero_div' (x : Rat) : 0 / x = 0 := by rw [Rat.div_def, Rat.zero_mul]
theorem kF_zero {y : Nat} (c : (((y : Nat) : Int) : Rat) * kB ks = 0) : kF ks y = 0 := by
  unfold kF
  rw [c, zero_div']
theorem kF_whole {y : Nat} (c : (((y : Nat) : Int) : Rat) * kB ks + kW ks = 0) : kF ks y = 0 := by
  unfold kF
  rw [c, Rat.div_def, Rat.inv_zero, Rat.mul_zero]
theorem kF_bd (h : KdsOk ks) {y : Nat} (hy : y ≤ 8) : Bd 910 (kF ks y) := by
  by_cases c : (((y : Nat) : Int) : Rat) * kB ks + kW ks = 0
  · rw [kF_whole c]; exact Bd.zero (by decide)
  · exact (Bd.div c (yB_bd h hy) (whole_bd h hy)).mono (by omega)
end
/-- what seen claims mix with the guess -/
def kL (ks : List Kd) (seen : List Int) : Rat := if seen = [] then kM ks else kF ks seen.length * (seen.sum /. ((seen.length : Nat) : Int)) + (1 - kF ks seen.length) * kM ks
def sqL (n : Nat) : List Int := (List.range n).map fun i => ((i : Nat) : Int) * ((i : Nat) : Int)
theorem rl_succ (f : Nat → Rat) (n : Nat) : rl f (n + 1) = rl f n ++ [dR (f n)] := by
  unfold rl
  rw [List.range_succ, List.map_append]
  rfl
theorem chs_get {ws : List Int} {j : Nat} (h : j < ws.length) : (chs ws)[j]? = some (pj ws j) := ca_at (by rw [chs_len]; exact h)
theorem chs_atI {ws : List Int} {j : Nat} (h : j < ws.length) : atI (dRs (chs ws)) (j : Int) = some (dR (pj ws j)) := by
  refine atI_nat ?_
  unfold dRs
  rw [List.getElem?_map, chs_get h]
  rfl
theorem kc_at {ks : List Kd} {i : Nat} (h : i < ks.length) : (kat ks i).1 /. (kwL ks).sum = kc ks i := by
  have e := chs_get (ws := kwL ks) (j := i) (by rw [kwL_len]; exact h)
  unfold chs at e
  have e2 : (kwL ks)[i]? = some (kat ks i).1 := by
    unfold kwL
    rw [List.getElem?_map, kat_lt h]
    rfl
  rw [List.getElem?_map, e2] at e
  exact Option.some.inj e
theorem sif_to {t : DT} {g g' : DS} {pe : PEnds} {ρ : Rho} (R : Rho → Prop) (h : ∀ nx' : Rho → Prop, (∀ ρ', R ρ' → nx' ρ') → sIf t g g' ⟨nx', pe.rt, pe.bk, pe.ct, pe.ex⟩ ρ) (k : ∀ ρ', R ρ' → pe.nx ρ') : sIf t g g' pe ρ := h pe.nx k
theorem eIf_to {t : DT} {fa fb : DE} {ρ : Rho} {Q : D → Prop} {E : Exc → Prop} {d : D} (c : ∀ Q' : D → Prop, Q' d → eIf t fa fb ρ Q' E) (h : Q d) : eIf t fa fb ρ Q E := c Q h
theorem dRs_len2 (xs : List Rat) : (dRs xs).length = xs.length := by simp [dRs]
/-! ### promises -/
def spWholesD : SpD := fun ds Q _ => ∃ ns : List Int, ds = [.lst (ns.map D.int)] ∧ ns.length ≤ 1000 ∧ Q (.lst (dRs (ns.map fun n : Int => (n : Rat))))
def spMixD : SpD := fun ds Q _ => ∃ (p v : Nat → Rat) (n a b : Nat), ds = [.lst (rl p n), .lst (rl v n)] ∧ n ≤ 100 ∧ (∀ i, i < n → Bd a (p i)) ∧ (∀ i, i < n → Bd b (v i)) ∧ (a + b + 1) * n + 1 ≤ 4400 ∧ a + b ≤ 8900 ∧ Q (dR (rs (fun i => p i * v i) n))
def spExpD : SpD := fun ds Q _ => ∃ (ws : List Int) (v : Nat → Rat) (c : D) (b : Nat), ds = [c, .lst (rl v ws.length)] ∧ (c = .lst (ws.map D.int) ∨ c = .tup (ws.map D.int)) ∧ ClmOk ws ∧ ws.length ≤ 13 ∧ (∀ i, i < ws.length → Bd b (v i)) ∧ (14 + b + 1) * ws.length + 1 ≤ 4400 ∧ 14 + b ≤ 8900 ∧ Q (dR (rs (fun i => ca (chs ws) i * v i) ws.length))
def spKindD : SpD := fun ds Q _ => ∃ c : Kd, ds = [kD c] ∧ 1 ≤ c.1 ∧ c.1 ≤ 1000 ∧ ClmOk c.2 ∧ c.2.length ≤ 13 ∧ Q (.bl true)
def spPriD (f : List Kd → D) : SpD := fun ds Q _ => ∃ ks : List Kd, ds = [.tup (ks.map kD)] ∧ KdsOk ks ∧ Q (f ks)
def spSeenD : SpD := fun ds Q _ => ∃ ss : List Int, ds = [.tup (ss.map D.int)] ∧ ss.length ≤ 8 ∧ (∀ n ∈ ss, 0 ≤ n ∧ n ≤ 12) ∧ Q .non
def spRow0D : SpD := fun ds Q _ => ∃ ws : List Int, ds = [.tup (ws.map D.int), .tup []] ∧ ClmOk ws ∧ ws.length ≤ 3 ∧ Q (dR 1)
def spPri0D (f : List Kd → D) : SpD := fun ds Q _ => ∃ ks : List Kd, ds = [.tup (ks.map kD), .tup []] ∧ KdsOk ks ∧ Q (f ks)
def spMsD : SpD := fun ds Q _ => ∃ ws : List Int, ds = [.tup (ws.map D.int)] ∧ ClmOk ws ∧ ws.length ≤ 3 ∧ Q (dR (ms ws))
def spMn3D : SpD := fun ds Q _ => ∃ ws : List Int, ds = [.tup (ws.map D.int)] ∧ ClmOk ws ∧ ws.length ≤ 3 ∧ Q (dR (mn ws))
def spPriYD : SpD := fun ds Q _ => ∃ (ks : List Kd) (y : Nat), ds = [.tup (ks.map kD), .int (y : Int)] ∧ KdsOk ks ∧ y ≤ 8 ∧ Q (dR (kF ks y))
def spPriSD : SpD := fun ds Q _ => ∃ (ks : List Kd) (ss : List Int), ds = [.tup (ks.map kD), .tup (ss.map D.int)] ∧ KdsOk ks ∧ ss.length ≤ 8 ∧ (∀ n ∈ ss, 0 ≤ n ∧ n ≤ 12) ∧ Q (dR (kL ks ss))
def spPriDrawD : SpD := fun ds Q _ => ds = [] ∧ ∀ ks : List Kd, KdsOk ks → Q (.tup (ks.map kD))
end Act
namespace Act
variable [GT]
open PySem PySem.Spec PyProof.Rows L2
open scoped Rat
/-! ### the chances of the kinds behind seen claims (k63) -/
structure SnOk (ss : List Int) : Prop where
  len : ss.length ≤ 3
  at' : ∀ n ∈ ss, 0 ≤ n ∧ n ≤ 12
/-- the chances of seen claims, together -/
def psL (ws ss : List Int) : List Rat := ss.map fun n => pj ws n.toNat
def pr (ws ss : List Int) : Rat := prodL (psL ws ss)
def kb (ks : List Kd) (ss : List Int) (i : Nat) : Rat := ((kat ks i).1 : Rat) * pr (kat ks i).2 ss
def ka (ks : List Kd) (ss : List Int) (i : Nat) : Rat := kc ks i * pr (kat ks i).2 ss
def kU (ks : List Kd) (ss : List Int) : Rat := rs (kb ks ss) ks.length
def kT (ks : List Kd) (ss : List Int) : Rat := rs (ka ks ss) ks.length
def kd (ks : List Kd) (ss : List Int) (i : Nat) : Rat := ka ks ss i / kT ks ss
def kE (ks : List Kd) (ss : List Int) : Rat := rs (fun i => kd ks ss i * km ks i) ks.length
section
variable {ks : List Kd} {ws ss : List Int}
theorem pj_ge {j : Nat} (h : ws.length ≤ j) : pj ws j = 0 := ca_ge (by rw [chs_len]; omega)
theorem ps_bd (h : ClmOk ws) (hl : ws.length ≤ 3) (hs : SnOk ss) : ProdBd 57 (psL ws ss) := prodBd_of (b := 14) (m := 3) (fun r hr => by
  obtain ⟨n, _, rfl⟩ := List.mem_map.mp hr
  exact pj_bd h hl _) (by unfold psL; rw [List.length_map]; exact hs.len)
theorem pr_bd (h : ClmOk ws) (hl : ws.length ≤ 3) (hs : SnOk ss) : Bd 57 (pr ws ss) := by
  have e := (ps_bd h hl hs).2 _ (Nat.le_refl _)
  rw [List.take_length] at e
  exact e
theorem kb_bd (h : KdsOk ks) (hs : SnOk ss) {i : Nat} (hi : i < ks.length) : Bd 67 (kb ks ss i) :=
  (Bd.int (n := 10) (by have := h.w _ (kat_mem hi); show _ < 1024; omega) (by decide)).mul (pr_bd (h.ok _ (kat_mem hi)) (h.len _ (kat_mem hi)) hs)
theorem ka_bd (h : KdsOk ks) (hs : SnOk ss) {i : Nat} (hi : i < ks.length) : Bd 71 (ka ks ss i) :=
  (kc_bd h i).mul (pr_bd (h.ok _ (kat_mem hi)) (h.len _ (kat_mem hi)) hs)
theorem kU_bd (h : KdsOk ks) (hs : SnOk ss) : Bd 205 (kU ks ss) := (rs_bd (b := 67) fun i hi => kb_bd h hs hi).mono (by have := h.hi; omega)
theorem kT_bd (h : KdsOk ks) (hs : SnOk ss) : Bd 217 (kT ks ss) := (rs_bd (b := 71) fun i hi => ka_bd h hs hi).mono (by have := h.hi; omega)
theorem W_ne (h : KdsOk ks) : (((kwL ks).sum : Int) : Rat) ≠ 0 := fun e => by
  have := Rat.intCast_eq_zero_iff.mp e
  have := h.clm.sum_pos
  omega
theorem kb_ka (h : KdsOk ks) {i : Nat} (hi : i < ks.length) : kb ks ss i = (((kwL ks).sum : Int) : Rat) * ka ks ss i := by
  have ne := W_ne h
  unfold kb ka
  rw [← kc_at hi, divInt_div]
  generalize (((kwL ks).sum : Int) : Rat) = W at *
  generalize (((kat ks i).1 : Int) : Rat) = A
  generalize pr (kat ks i).2 ss = p
  have e : W * (A / W * p) = A * p := by
    rw [Rat.div_def]
    have := Rat.mul_inv_cancel W ne
    grind
  exact e.symm
theorem kU_kT (h : KdsOk ks) : kU ks ss = (((kwL ks).sum : Int) : Rat) * kT ks ss := by
  unfold kU kT
  rw [rs_congr fun i hi => kb_ka h hi, rs_mul]
theorem kU_zero (h : KdsOk ks) : kU ks ss = 0 ↔ kT ks ss = 0 := by
  rw [kU_kT h]
  have ne := W_ne h
  constructor
  · intro e
    exact (Rat.mul_eq_zero.mp e).resolve_left ne
  · intro e
    rw [e, Rat.mul_zero]
theorem kd_eq (h : KdsOk ks) {i : Nat} (hi : i < ks.length) : kb ks ss i / kU ks ss = kd ks ss i := by
  have ne := W_ne h
  unfold kd
  rw [kb_ka h hi, kU_kT h]
  generalize (((kwL ks).sum : Int) : Rat) = W at *
  generalize ka ks ss i = a
  generalize kT ks ss = t
  rw [Rat.div_def, Rat.div_def, Rat.inv_mul_rev]
  have := Rat.mul_inv_cancel W ne
  grind
theorem kd_bd (h : KdsOk ks) (hs : SnOk ss) (c : kT ks ss ≠ 0) {i : Nat} (hi : i < ks.length) : Bd 288 (kd ks ss i) := Bd.div c (ka_bd h hs hi) (kT_bd h hs)
theorem kE_bd (h : KdsOk ks) (hs : SnOk ss) (c : kT ks ss ≠ 0) : Bd 913 (kE ks ss) := (rs_bd (b := 303) fun i hi => (kd_bd h hs c hi).mul (km_bd h hi)).mono (by have := h.hi; omega)
end
def spRowSD : SpD := fun ds Q _ => ∃ ws ss : List Int, ds = [.tup (ws.map D.int), .tup (ss.map D.int)] ∧ ClmOk ws ∧ ws.length ≤ 3 ∧ SnOk ss ∧ Q (dR (pr ws ss))
def spAllSD (f : List Kd → List Int → D) : SpD := fun ds Q _ => ∃ (ks : List Kd) (ss : List Int), ds = [.tup (ks.map kD), .tup (ss.map D.int)] ∧ KdsOk ks ∧ SnOk ss ∧ Q (f ks ss)
def spSnD (f : List Kd → List Int → D) : SpD := fun ds Q E => ∃ (ks : List Kd) (ss : List Int), ds = [.tup (ks.map kD), .tup (ss.map D.int)] ∧ KdsOk ks ∧ SnOk ss ∧ (kT ks ss = 0 → E ⟨"NeverSeen", none⟩) ∧ (kT ks ss ≠ 0 → Q (f ks ss))
end Act
namespace Act
open PySem PySem.Spec PyProof.Rows L2
open scoped Rat
def topS (i : Nat) : Stmt := PySem.Challenge.pw_actuarium_k63_whole_kinds_learned.main.body.getD i (.Pass ⟨0, 0, 0, 0⟩)
section
variable [GT] {P : Program} {w : World} {K : PySem.W.Frag} {mg : Str → Option Value} {base : Heap} {T : List Addr} {k : Nat}
abbrev s_law_told : Stmt := topS 55
abbrev N_law_told : List Str := ["work", "e"]
theorem sc_law_told : FnScope N_law_told ["work"] (defScope s_law_told) := ⟨rfl, rfl, rfl, by decide +kernel, rfl, by decide +kernel, by decide +kernel⟩
theorem has_law_told (d : Df K mg "_law_told" s_law_told ["work"]) : HasTold P w K mg base T k s_law_told := ⟨d⟩
abbrev s_law_taken : Stmt := topS 41
abbrev N_law_taken : List Str := ["row", "many", "found", "cell"]
theorem sc_law_taken : FnScope N_law_taken ["row", "many"] (defScope s_law_taken) := ⟨rfl, rfl, rfl, by decide +kernel, rfl, by decide +kernel, by decide +kernel⟩
theorem has_law_taken (d : Df K mg "_law_taken" s_law_taken ["row", "many"]) (z_int : mg "int" = none) (z_len : mg "len" = none) : HasR P w K mg base T (k + 1) "_law_taken" ["row", "many"] spTakenD := by
  obtain ⟨f, fd, F, m, b⟩ := d.ex
  refine ⟨f, fd, fun ns => fnok_cx (fn_ok F sc_law_taken (fun vs H Q E h => ?_) (fun cdv A outer s H vs Q E hr h => ?_)) (fun vs H Q E h => taken_conv h), m, F.kp, b⟩
  · obtain ⟨a, m, rfl, _⟩ := h
    rfl
  obtain ⟨sc, ns⟩ := ns
  obtain ⟨a, m, rfl, ⟨c, x, r, e, hS, hc, hx, hx2⟩, hm, hm2, q⟩ := h
  dsimp only at e hS
  refine ⟨_, (pss_cons (ps_if (pt_cmpR op_gt (pe_ix (r := rIxL K) ix_list (pv 0) pe_int (fun _ _ => rfl)) pe_int (nomark _)) (pss_cons (ps_set (i := 2) sc_law_taken.nd rfl (.inl rfl) (pe_op op_mod (pe_callTy call_int1 (by rfl) z_int (by decide +kernel) (pa_cons (pe_ix (r := rIxL K) ix_list (pv 0) pe_int (fun _ _ => rfl)) pa_nil)) (pv 1)))
      (pss_cons (ps_asg (pe_op op_fdivZ (pe_ix (r := rIxL K) ix_list (pv 0) pe_int (fun _ _ => rfl)) (pv 1)) (pg_sub (pv 0) pe_int set_list))
      (pss_one (ps_ret (pv 2))))) pss_nil)
      (pss_cons (ps_asg (pe_op op_add (pe_ix (r := rIxL K) ix_list (pv 0) pe_int (fun _ _ => rfl)) pe_int) (pg_sub (pv 0) pe_int set_list))
      (pss_cons (ps_if (pt_cmpR op_gt (pe_ix (r := rIxL K) ix_list (pv 0) pe_int (fun _ _ => rfl)) (pe_callB call_len_seq (by rfl) z_len PySem.boot_len (pa_cons (pe_ix (r := rIxL K) ix_list (pv 0) pe_int (fun _ _ => rfl)) pa_nil)) (nomark _)) (pss_cons (ps_asg (pe_op op_mod (pe_callTy call_int1 (by rfl) z_int (by decide +kernel) (pa_cons (pe_op op_add (pe_op op_mulW (pe_ix (r := rIxL K) ix_list (pv 0) pe_int (fun _ _ => rfl)) pe_int) pe_int) pa_nil)) pe_int) (pg_sub (pv 0) pe_int set_list))
      (pss_one (ps_ret (pe_op op_mod (pe_callTy call_int1 (by rfl) z_int (by decide +kernel) (pa_cons (pe_op op_fdivZ (pe_ix (r := rIxL K) ix_list (pv 0) pe_int (fun _ _ => rfl)) pe_int) pa_nil)) (pv 1))))) pss_nil)
      (pss_cons (ps_set (i := 3) sc_law_taken.nd rfl (.inl rfl) (pe_ix (r := rIxL K) ix_list (pe_ix (r := rIxL K) ix_list (pv 0) pe_int (fun _ _ => rfl)) (pe_op op_sub (pe_ix (r := rIxL K) ix_list (pv 0) pe_int (fun _ _ => rfl)) pe_int) (fun _ _ => rfl)))
      (pss_cons (ps_asg (pe_op op_mod (pe_callTy call_int1 (by rfl) z_int (by decide +kernel) (pa_cons (pe_op op_add (pe_op op_add (pe_op op_mulW (pe_ix (r := rIxL K) ix_list (pv 0) pe_int (fun _ _ => rfl)) pe_int) (pv 3)) pe_int) pa_nil)) pe_int) (pg_sub (pv 0) pe_int set_list))
      (pss_cons (ps_if (pt_cmpR op_ge (pv 3) (pe_op op_pow pe_int pe_int) (nomark _)) (pss_one (ps_asg (pe_op op_fdivZ (pv 3) (pv 1)) (pg_sub (pv 0) pe_int set_list))) pss_nil)
      (pss_one (ps_ret (pe_op op_mod (pe_callTy call_int1 (by rfl) z_int (by decide +kernel) (pa_cons (pv 3) pa_nil)) (pv 1)))))))))), ?_⟩
  have mz : m ≠ 0 := by omega
  have mlog : CDivZ 0 m := cdivz mz (n := 30) (by omega) (by omega)
  have out : ∀ (z : Int) (H' : Hp), (∃ c' x' r', H' = upd H a (.lst [.ref sc, .int c', .int x', .int r']) ∧ 0 ≤ c' ∧ 0 ≤ x' ∧ x' < 2147483647) → Q (.int (z % m)) H' := fun z H' ⟨c', x', r', eH, h1, h2, h3⟩ => by
    subst eH
    exact q _ _ (Int.emod_nonneg _ mz) (Int.emod_lt_of_pos _ hm) ⟨c', x', r', upd_same, seqL_but e hS, h1, h2, h3⟩ LeB.at
  refine ⟨_, rfl, a, _, 3, _, rfl, rfl, SqL.of e, rfl, _, _, rfl, rfl, _, rfl, ?_⟩
  refine ite2 (fun c0 => ?_) (fun c0 => ?_)
  · refine ⟨_, rfl, a, _, 3, _, rfl, rfl, SqL.of e, rfl, .inl ⟨_, rfl, _, rfl, _, _, rfl, rfl, hm, ?_⟩⟩
    refine ⟨_, rfl, a, _, 3, _, rfl, rfl, SqL.of e, rfl, _, rfl, _, _, rfl, rfl, mlog, _, rfl, a, _, 3, 3, rfl, rfl, e, rfl, ?_⟩
    exact ⟨_, rfl, out _ _ ⟨_, _, _, rfl, hc, hx, hx2⟩⟩
  · -- row[1] = row[1] + 1
    refine ⟨_, rfl, a, _, 1, _, rfl, rfl, SqL.of e, rfl, _, _, rfl, rfl, _, rfl, a, _, 1, 1, rfl, rfl, e, rfl, ?_⟩
    have hS1 : SqL K (upd H a (.lst [.ref sc, .int (c + 1), .int x, .int r])) sc (ns.map V.int) := seqL_but e hS
    have e1 : (upd H a (.lst [.ref sc, .int (c + 1), .int x, .int r])) a = some (.lst [.ref sc, .int (c + 1), .int x, .int r]) := upd_same
    -- if row[1] > len(row[0])
    refine ⟨_, rfl, a, _, 1, _, rfl, rfl, SqL.of e1, rfl, _, rfl, a, _, 0, _, rfl, rfl, SqL.of e1, rfl, sc, _, rfl, .inl hS1, _, _, rfl, rfl, _, rfl, ?_⟩
    have xm : ∀ z : Int, 0 ≤ z % 2147483647 ∧ z % 2147483647 < 2147483647 := fun z => by omega
    refine ite2 (fun c1 => ?_) (fun c1 => ?_)
    · refine ⟨_, rfl, a, _, 2, _, rfl, rfl, SqL.of e1, rfl, _, _, rfl, rfl, cmul (a := 31) (b := 16) (by omega) (by decide) (by decide), _, _, rfl, rfl, .inl ⟨_, rfl, _, _, rfl, rfl, (by show (0 : Int) < 2147483647; decide), _, rfl, a, _, 2, 2, rfl, rfl, e1, rfl, ?_⟩⟩
      rw [upd_upd]
      refine ⟨_, rfl, a, _, 2, _, rfl, rfl, SqL.of upd_same, rfl, _, _, rfl, rfl, cdivz (by decide) (n := 3) (by decide) (by decide), .inl ⟨_, rfl, _, rfl, _, _, rfl, rfl, hm, ?_⟩⟩
      exact out _ _ ⟨_, _, _, rfl, by omega, (xm _).1, (xm _).2⟩
    · -- cell = row[0][row[1] - 1]
      have hl : (c + 1) ≤ (ns.map V.int).length := by
        have := of_decide_eq_false (Bool.eq_false_iff.mpr c1)
        omega
      rw [List.length_map] at hl
      have hi : c.toNat < ns.length := by omega
      have g : atI (ns.map V.int) (c + 1 - 1) = some (.int ns[c.toNat]) := by
        have q0 : atI (ns.map V.int) ((c.toNat : Nat) : Int) = some (.int ns[c.toNat]) := atI_nat (by rw [List.getElem?_map, List.getElem?_eq_getElem hi] <;> rfl)
        rw [show (c + 1 - 1 : Int) = ((c.toNat : Nat) : Int) by omega]
        exact q0
      refine ⟨_, rfl, a, _, 0, _, rfl, rfl, SqL.of e1, rfl, _, rfl, a, _, 1, _, rfl, rfl, SqL.of e1, rfl, _, _, rfl, rfl, sc, _, _, _, rfl, rfl, hS1, g, ?_⟩
      generalize ns[c.toNat] = cell
      -- row[2] = ..
      refine ⟨_, rfl, a, _, 2, _, rfl, rfl, SqL.of e1, rfl, _, _, rfl, rfl, cmul (a := 31) (b := 16) (by omega) (by decide) (by decide), _, rfl, _, _, rfl, rfl, _, _, rfl, rfl, .inl ⟨_, rfl, _, _, rfl, rfl, (by show (0 : Int) < 2147483647; decide), _, rfl, a, _, 2, 2, rfl, rfl, e1, rfl, ?_⟩⟩
      rw [upd_upd]
      -- if cell >= 10 ** 18
      refine ⟨_, rfl, _, _, rfl, rfl, ⟨by decide, by decide, by decide⟩, _, _, rfl, rfl, _, rfl, ?_⟩
      refine ite2 (fun c2 => ?_) (fun c2 => ?_)
      · refine ⟨_, rfl, _, rfl, _, _, rfl, rfl, mlog, _, rfl, a, _, 3, 3, rfl, rfl, upd_same, rfl, ?_⟩
        rw [upd_upd]
        refine ⟨_, rfl, .inl ⟨_, rfl, _, rfl, _, _, rfl, rfl, hm, ?_⟩⟩
        exact out _ _ ⟨_, _, _, rfl, by omega, (xm _).1, (xm _).2⟩
      · refine ⟨_, rfl, .inl ⟨_, rfl, _, rfl, _, _, rfl, rfl, hm, ?_⟩⟩
        exact out _ _ ⟨_, _, _, rfl, by omega, (xm _).1, (xm _).2⟩
abbrev s_law_pick : Stmt := topS 42
abbrev N_law_pick : List Str := ["row", "things"]
theorem sc_law_pick : FnScope N_law_pick ["row", "things"] (defScope s_law_pick) := ⟨rfl, rfl, rfl, by decide +kernel, rfl, by decide +kernel, by decide +kernel⟩
theorem has_law_pick (d : Df K mg "_law_pick" s_law_pick ["row", "things"]) (h_law_taken : HasR P w K mg base T k "_law_taken" ["row", "many"] spTakenD) (z_len : mg "len" = none) : HasR P w K mg base T (k + 1) "_law_pick" ["row", "things"] spPickD := by
  refine d.hasR sc_law_pick (fun ds Q E ⟨_, h, _⟩ => by rw [h]; rfl) (by decide) (fun Sc a f cdv A outer s H E hr po => (b_one (s_ret (d_ix (d_var 1) (d_callR (i := 0) h_law_taken hr (a_cons (d_len z_len (d_var 1)) a_nil)))))) ?_
  rintro ds Q E ⟨xs, rfl, hne, hl, q⟩
  refine ⟨[.ro, .va (.lst xs)], rfl, ?_⟩
  simp only [iRan3, pInD, List.any_cons, List.any_nil, sRaise, eTold, sSeq, sSeqN, sRetO, sTupA, tupGo, sSet, sOwn, sAsg, sPar, sPar3, slOf, sRet, sExpr, sIf, sApp, sPut, sFrz, sAugI, eVar, eVarB, eC, eOp, tOpD, eNeg, eNot, eChain, eAnd, eOr, tV, tN, tA, tO, eIf, aNil, aCons, aStar, eTup, eLst, eLen, eTuple, eList, eAbs, eInt, eGcd, eIsI, eIsI2, eCall, eCallR, gVa, gNil', gCons', gTup', eSlT, eSlL, eRevL, oNone, oSome, e2I, eSum, eMaxL, eMaxT, eAllI, eAnyI, eAllG, eAnyG, eAnyT, eSumG, eTupG, tT, List.isEmpty_cons, List.isEmpty_nil, pI, pI0, pAdd, pCat, pMul, pMulB, pEq, pNe, pIs, pIsNot, pIx, pRepL, List.getElem?_cons_zero, List.getElem?_cons_succ, List.set_cons_zero, List.set_cons_succ, startR, List.map_cons, List.map_nil, List.cons_append, List.nil_append, List.length_cons, List.length_nil, List.replicate_succ, List.replicate_zero, Nat.add_sub_cancel, Nat.reduceAdd, Nat.reduceSub, Nat.reduceLeDiff, if_true, if_false, ite_true, ite_false, reduceIte, true_and, and_true, is_non_int, is_non_bool, is_non_tuple, is_non_list, is_non_str, is_bl_int, is_bl_bool, is_bl_tuple, is_bl_list, is_bl_str, is_int_int, is_int_bool, is_int_tuple, is_int_list, is_int_str, is_str_int, is_str_bool, is_str_tuple, is_str_list, is_str_str, is_tup_int, is_tup_bool, is_tup_tuple, is_tup_list, is_tup_str, is_lst_int, is_lst_bool, is_lst_tuple, is_lst_list, is_lst_str, spIsIntD_eq, isInt_int, spBetD_eq, bet_int, Nat.sub_self, Bool.false_eq_true, if_pos trivial, atI_0, atI_1, atI_2, atI_3, atI_4, atI_5, atI_6, ex_some, cap0, cap1, cap2, cap3, cap4, cap5, cap6, cap7, cap8, cap10, deq_int, iAny, iRan1, iRan2, iRev', iRevR1, iEnuA, iZip', sFor, eLc, wipeR, tTrue, pInG, eSum2, forall_eq, ne_eq, Bool.not_true, Bool.not_false, decide_true, decide_false]
  have h0 : 0 < xs.length := List.length_pos_iff.mpr hne
  refine ⟨_, rfl, by omega, by omega, fun i h1 h2 => ?_⟩
  obtain ⟨j, rfl⟩ : ∃ j : Nat, i = (j : Int) := ⟨i.toNat, by omega⟩
  have hj : j < xs.length := by omega
  exact ⟨xs[j], atI_nat (List.getElem?_eq_getElem hj), q _ (List.getElem_mem hj)⟩
abbrev s_law_claims : Stmt := topS 48
abbrev N_law_claims : List Str := ["row", "most", "found", "k"]
theorem sc_law_claims : FnScope N_law_claims ["row", "most"] (defScope s_law_claims) := ⟨rfl, rfl, rfl, by decide +kernel, rfl, by decide +kernel, by decide +kernel⟩
theorem has_law_claims (d : Df K mg "_law_claims" s_law_claims ["row", "most"]) (h_law_pick : HasR P w K mg base T k "_law_pick" ["row", "things"] spPickD) (h_law_taken : HasR P w K mg base T k "_law_taken" ["row", "many"] spTakenD) (z_range : mg "range" = none) (z_tuple : mg "tuple" = none) : HasR P w K mg base T (k + 1) "_law_claims" ["row", "most"] spClmDrawD := by
  refine d.hasR sc_law_claims (fun ds Q E ⟨_, h, _⟩ => by rw [h]; rfl) (by decide) (fun Sc a f cdv A outer s H E hr po => (b_cons (s_lc (i := 2) (own := [("k", 3)]) rfl sc_law_claims.nd (i_range1 z_range (d_callR (i := 0) h_law_taken hr (a_cons (d_var 1) a_nil))) (blkOk_by (N := N_law_claims) (sc := defScope s_law_claims) (by decide +kernel)) (fun _ _ _ _ _ => (g_name 3 sc_law_claims.nd)) (fun _ _ _ _ _ => ifs_nil) (fun _ _ _ _ _ => (d_callR (i := 0) h_law_pick hr (a_cons (PD.fr (d_lst (a_cons d_int (a_cons d_int (a_cons d_int (a_cons d_int (a_cons d_int (a_cons (d_callR (i := 0) h_law_taken hr (a_cons d_int a_nil)) a_nil)))))))) a_nil))))
      (b_one (s_ret (d_op o_add opd_add (d_tuple z_tuple (d_varB 2)) (d_tup (a_cons (d_callR (i := 0) h_law_pick hr (a_cons (PD.fr (d_lst (a_cons d_int (a_cons d_int (a_cons d_int a_nil))))) a_nil)) a_nil))))))) ?_
  rintro ds Q E ⟨most, rfl, m1, m2, q⟩
  refine ⟨[.ro, .va (.int most), .un, .un], rfl, ?_⟩
  simp only [iRan3, pInD, List.any_cons, List.any_nil, sRaise, eTold, sSeq, sSeqN, sRetO, sTupA, tupGo, sSet, sOwn, sAsg, sPar, sPar3, slOf, sRet, sExpr, sIf, sApp, sPut, sFrz, sAugI, eVar, eVarB, eC, eOp, tOpD, eNeg, eNot, eChain, eAnd, eOr, tV, tN, tA, tO, eIf, aNil, aCons, aStar, eTup, eLst, eLen, eTuple, eList, eAbs, eInt, eGcd, eIsI, eIsI2, eCall, eCallR, gVa, gNil', gCons', gTup', eSlT, eSlL, eRevL, oNone, oSome, e2I, eSum, eMaxL, eMaxT, eAllI, eAnyI, eAllG, eAnyG, eAnyT, eSumG, eTupG, tT, List.isEmpty_cons, List.isEmpty_nil, pI, pI0, pAdd, pCat, pMul, pMulB, pEq, pNe, pIs, pIsNot, pIx, pRepL, List.getElem?_cons_zero, List.getElem?_cons_succ, List.set_cons_zero, List.set_cons_succ, startR, List.map_cons, List.map_nil, List.cons_append, List.nil_append, List.length_cons, List.length_nil, List.replicate_succ, List.replicate_zero, Nat.add_sub_cancel, Nat.reduceAdd, Nat.reduceSub, Nat.reduceLeDiff, if_true, if_false, ite_true, ite_false, reduceIte, true_and, and_true, is_non_int, is_non_bool, is_non_tuple, is_non_list, is_non_str, is_bl_int, is_bl_bool, is_bl_tuple, is_bl_list, is_bl_str, is_int_int, is_int_bool, is_int_tuple, is_int_list, is_int_str, is_str_int, is_str_bool, is_str_tuple, is_str_list, is_str_str, is_tup_int, is_tup_bool, is_tup_tuple, is_tup_list, is_tup_str, is_lst_int, is_lst_bool, is_lst_tuple, is_lst_list, is_lst_str, spIsIntD_eq, isInt_int, spBetD_eq, bet_int, Nat.sub_self, Bool.false_eq_true, if_pos trivial, atI_0, atI_1, atI_2, atI_3, atI_4, atI_5, atI_6, ex_some, cap0, cap1, cap2, cap3, cap4, cap5, cap6, cap7, cap8, cap10, deq_int, iAny, iRan1, iRan2, iRev', iRevR1, iEnuA, iZip', sFor, eLc, wipeR, tTrue, pInG, eSum2, forall_eq, ne_eq, Bool.not_true, Bool.not_false, decide_true, decide_false]
  refine ⟨most, rfl, by omega, by omega, fun x x0 x1 => ?_⟩
  refine ⟨by omega, ?_⟩
  refine lc_any (fun _ y => ∃ n : Int, y = .int n ∧ (0 ≤ n ∧ n ≤ 29)) (by rw [rangeD_len]; show _ ≤ 1000000; omega) ?_ ?_
  · intro i d F hd hF
    simp only [iRan3, pInD, List.any_cons, List.any_nil, sRaise, eTold, sSeq, sSeqN, sRetO, sTupA, tupGo, sSet, sOwn, sAsg, sPar, sPar3, slOf, sRet, sExpr, sIf, sApp, sPut, sFrz, sAugI, eVar, eVarB, eC, eOp, tOpD, eNeg, eNot, eChain, eAnd, eOr, tV, tN, tA, tO, eIf, aNil, aCons, aStar, eTup, eLst, eLen, eTuple, eList, eAbs, eInt, eGcd, eIsI, eIsI2, eCall, eCallR, gVa, gNil', gCons', gTup', eSlT, eSlL, eRevL, oNone, oSome, e2I, eSum, eMaxL, eMaxT, eAllI, eAnyI, eAllG, eAnyG, eAnyT, eSumG, eTupG, tT, List.isEmpty_cons, List.isEmpty_nil, pI, pI0, pAdd, pCat, pMul, pMulB, pEq, pNe, pIs, pIsNot, pIx, pRepL, List.getElem?_cons_zero, List.getElem?_cons_succ, List.set_cons_zero, List.set_cons_succ, startR, List.map_cons, List.map_nil, List.cons_append, List.nil_append, List.length_cons, List.length_nil, List.replicate_succ, List.replicate_zero, Nat.add_sub_cancel, Nat.reduceAdd, Nat.reduceSub, Nat.reduceLeDiff, if_true, if_false, ite_true, ite_false, reduceIte, true_and, and_true, is_non_int, is_non_bool, is_non_tuple, is_non_list, is_non_str, is_bl_int, is_bl_bool, is_bl_tuple, is_bl_list, is_bl_str, is_int_int, is_int_bool, is_int_tuple, is_int_list, is_int_str, is_str_int, is_str_bool, is_str_tuple, is_str_list, is_str_str, is_tup_int, is_tup_bool, is_tup_tuple, is_tup_list, is_tup_str, is_lst_int, is_lst_bool, is_lst_tuple, is_lst_list, is_lst_str, spIsIntD_eq, isInt_int, spBetD_eq, bet_int, Nat.sub_self, Bool.false_eq_true, if_pos trivial, atI_0, atI_1, atI_2, atI_3, atI_4, atI_5, atI_6, ex_some, cap0, cap1, cap2, cap3, cap4, cap5, cap6, cap7, cap8, cap10, deq_int, iAny, iRan1, iRan2, iRev', iRevR1, iEnuA, iZip', sFor, eLc, wipeR, tTrue, pInG, eSum2, forall_eq, ne_eq, Bool.not_true, Bool.not_false, decide_true, decide_false]
    refine ⟨30, rfl, by decide, by decide, fun y y0 y1 => ?_⟩
    refine ⟨_, rfl, by simp, by simp, ?_⟩
    simp only [List.mem_cons, List.not_mem_nil, or_false, forall_eq_or_imp, forall_eq]
    exact ⟨hF _ ⟨_, rfl, by omega⟩, hF _ ⟨_, rfl, by omega⟩, hF _ ⟨_, rfl, by omega⟩, hF _ ⟨_, rfl, by omega⟩, hF _ ⟨_, rfl, by omega⟩, hF _ ⟨_, rfl, by omega⟩⟩
  · intro xs hl hx
    rw [rangeD_len] at hl
    obtain ⟨ns, rfl, hn⟩ := ints_of hx
    rw [List.length_map] at hl
    simp only [iRan3, pInD, List.any_cons, List.any_nil, sRaise, eTold, sSeq, sSeqN, sRetO, sTupA, tupGo, sSet, sOwn, sAsg, sPar, sPar3, slOf, sRet, sExpr, sIf, sApp, sPut, sFrz, sAugI, eVar, eVarB, eC, eOp, tOpD, eNeg, eNot, eChain, eAnd, eOr, tV, tN, tA, tO, eIf, aNil, aCons, aStar, eTup, eLst, eLen, eTuple, eList, eAbs, eInt, eGcd, eIsI, eIsI2, eCall, eCallR, gVa, gNil', gCons', gTup', eSlT, eSlL, eRevL, oNone, oSome, e2I, eSum, eMaxL, eMaxT, eAllI, eAnyI, eAllG, eAnyG, eAnyT, eSumG, eTupG, tT, List.isEmpty_cons, List.isEmpty_nil, pI, pI0, pAdd, pCat, pMul, pMulB, pEq, pNe, pIs, pIsNot, pIx, pRepL, List.getElem?_cons_zero, List.getElem?_cons_succ, List.set_cons_zero, List.set_cons_succ, startR, List.map_cons, List.map_nil, List.cons_append, List.nil_append, List.length_cons, List.length_nil, List.replicate_succ, List.replicate_zero, Nat.add_sub_cancel, Nat.reduceAdd, Nat.reduceSub, Nat.reduceLeDiff, if_true, if_false, ite_true, ite_false, reduceIte, true_and, and_true, is_non_int, is_non_bool, is_non_tuple, is_non_list, is_non_str, is_bl_int, is_bl_bool, is_bl_tuple, is_bl_list, is_bl_str, is_int_int, is_int_bool, is_int_tuple, is_int_list, is_int_str, is_str_int, is_str_bool, is_str_tuple, is_str_list, is_str_str, is_tup_int, is_tup_bool, is_tup_tuple, is_tup_list, is_tup_str, is_lst_int, is_lst_bool, is_lst_tuple, is_lst_list, is_lst_str, spIsIntD_eq, isInt_int, spBetD_eq, bet_int, Nat.sub_self, Bool.false_eq_true, if_pos trivial, atI_0, atI_1, atI_2, atI_3, atI_4, atI_5, atI_6, ex_some, cap0, cap1, cap2, cap3, cap4, cap5, cap6, cap7, cap8, cap10, deq_int, iAny, iRan1, iRan2, iRev', iRevR1, iEnuA, iZip', sFor, eLc, wipeR, tTrue, pInG, eSum2, forall_eq, ne_eq, Bool.not_true, Bool.not_false, decide_true, decide_false]
    refine ⟨_, rfl, by simp, by simp, fun z hz => ?_⟩
    obtain ⟨u, rfl, u1, u2⟩ : ∃ n : Int, z = .int n ∧ 1 ≤ n ∧ n ≤ 5 := by
      simp only [List.mem_cons, List.not_mem_nil, or_false] at hz
      rcases hz with rfl | rfl | rfl <;> exact ⟨_, rfl, by decide, by decide⟩
    have app : ns.map D.int ++ [D.int u] = (ns ++ [u]).map D.int := by rw [List.map_append]; rfl
    have q2 := q (ns ++ [u]) (by rw [List.length_append, List.length_singleton]; omega) ⟨by rw [List.length_append, List.length_singleton]; omega, fun n hn' => by
      rcases List.mem_append.mp hn' with e | e
      · have := hn n e; omega
      · rw [List.mem_singleton.mp e]; omega, by
        rw [List.length_append, List.length_singleton, Nat.add_sub_cancel]
        have : lat (ns ++ [u]) ns.length = u := by simp [List.getD]
        rw [this]; omega⟩
    rw [← app] at q2
    exact ⟨by rw [List.length_map]; show _ ≤ 1000000; omega, q2⟩
abbrev s_law_prior : Stmt := topS 51
abbrev N_law_prior : List Str := ["row", "found", "k"]
theorem sc_law_prior : FnScope N_law_prior ["row"] (defScope s_law_prior) := ⟨rfl, rfl, rfl, by decide +kernel, rfl, by decide +kernel, by decide +kernel⟩
theorem has_law_prior (d : Df K mg "_law_prior" s_law_prior ["row"]) (h_law_taken : HasR P w K mg base T k "_law_taken" ["row", "many"] spTakenD) (h_law_pick : HasR P w K mg base T k "_law_pick" ["row", "things"] spPickD) (h_law_claims : HasR P w K mg base T k "_law_claims" ["row", "most"] spClmDrawD) (z_range : mg "range" = none) (z_tuple : mg "tuple" = none) : HasR P w K mg base T (k + 1) "_law_prior" ["row"] spPriDrawD := by
  refine d.hasR sc_law_prior (fun ds Q E ⟨h, _⟩ => by rw [h]; rfl) (by decide) (fun Sc a f cdv A outer s H E hr po => (b_cons (s_own (i := 1) sc_law_prior.nd (d_lst a_nil))
      (b_cons (s_for po rfl (i_range1 z_range (d_op o_add opd_add d_int (d_callR (i := 0) h_law_taken hr (a_cons d_int a_nil)))) (g_name 2 sc_law_prior.nd) (b_one (s_app (i := 1) (d_tup (a_cons (d_callR (i := 0) h_law_pick hr (a_cons (PD.fr (d_lst (a_cons d_int (a_cons d_int (a_cons d_int (a_cons d_int a_nil)))))) a_nil)) (a_cons (d_callR (i := 0) h_law_claims hr (a_cons d_int a_nil)) a_nil))))))
      (b_one (s_ret (d_tuple z_tuple (d_varB 1))))))) ?_
  rintro ds Q E ⟨rfl, q⟩
  refine ⟨[.ro, .un, .un], rfl, ?_⟩
  simp only [iRan3, pInD, List.any_cons, List.any_nil, sRaise, eTold, sSeq, sSeqN, sRetO, sTupA, tupGo, sSet, sOwn, sAsg, sPar, sPar3, slOf, sRet, sExpr, sIf, sApp, sPut, sFrz, sAugI, eVar, eVarB, eC, eOp, tOpD, eNeg, eNot, eChain, eAnd, eOr, tV, tN, tA, tO, eIf, aNil, aCons, aStar, eTup, eLst, eLen, eTuple, eList, eAbs, eInt, eGcd, eIsI, eIsI2, eCall, eCallR, gVa, gNil', gCons', gTup', eSlT, eSlL, eRevL, oNone, oSome, e2I, eSum, eMaxL, eMaxT, eAllI, eAnyI, eAllG, eAnyG, eAnyT, eSumG, eTupG, tT, List.isEmpty_cons, List.isEmpty_nil, pI, pI0, pAdd, pCat, pMul, pMulB, pEq, pNe, pIs, pIsNot, pIx, pRepL, List.getElem?_cons_zero, List.getElem?_cons_succ, List.set_cons_zero, List.set_cons_succ, startR, List.map_cons, List.map_nil, List.cons_append, List.nil_append, List.length_cons, List.length_nil, List.replicate_succ, List.replicate_zero, Nat.add_sub_cancel, Nat.reduceAdd, Nat.reduceSub, Nat.reduceLeDiff, if_true, if_false, ite_true, ite_false, reduceIte, true_and, and_true, is_non_int, is_non_bool, is_non_tuple, is_non_list, is_non_str, is_bl_int, is_bl_bool, is_bl_tuple, is_bl_list, is_bl_str, is_int_int, is_int_bool, is_int_tuple, is_int_list, is_int_str, is_str_int, is_str_bool, is_str_tuple, is_str_list, is_str_str, is_tup_int, is_tup_bool, is_tup_tuple, is_tup_list, is_tup_str, is_lst_int, is_lst_bool, is_lst_tuple, is_lst_list, is_lst_str, spIsIntD_eq, isInt_int, spBetD_eq, bet_int, Nat.sub_self, Bool.false_eq_true, if_pos trivial, atI_0, atI_1, atI_2, atI_3, atI_4, atI_5, atI_6, ex_some, cap0, cap1, cap2, cap3, cap4, cap5, cap6, cap7, cap8, cap10, deq_int, iAny, iRan1, iRan2, iRev', iRevR1, iEnuA, iZip', sFor, eLc, wipeR, tTrue, pInG, eSum2, forall_eq, ne_eq, Bool.not_true, Bool.not_false, decide_true, decide_false]
  refine ⟨3, rfl, by decide, by decide, fun u u0 u1 => ?_⟩
  refine ⟨by omega, ?_⟩
  refine for_nat (fun i ρ => ∃ (ks : List Kd) (x : Sl), ρ = [.ro, .ow (ks.map kD), x] ∧ ks.length = i ∧ (∀ c ∈ ks, 1 ≤ c.1 ∧ c.1 ≤ 1000) ∧ (∀ c ∈ ks, ClmOk c.2) ∧ ∀ c ∈ ks, c.2.length ≤ 3) ⟨[], _, rfl, rfl, fun c hc => by simp at hc, fun c hc => by simp at hc, fun c hc => by simp at hc⟩ ?_ ?_
  · rintro i d ρ F hd ⟨ks, x, rfl, hl, g1, g2, g3⟩ hF
    obtain ⟨hi, rfl⟩ := range_at hd
    simp only [iRan3, pInD, List.any_cons, List.any_nil, sRaise, eTold, sSeq, sSeqN, sRetO, sTupA, tupGo, sSet, sOwn, sAsg, sPar, sPar3, slOf, sRet, sExpr, sIf, sApp, sPut, sFrz, sAugI, eVar, eVarB, eC, eOp, tOpD, eNeg, eNot, eChain, eAnd, eOr, tV, tN, tA, tO, eIf, aNil, aCons, aStar, eTup, eLst, eLen, eTuple, eList, eAbs, eInt, eGcd, eIsI, eIsI2, eCall, eCallR, gVa, gNil', gCons', gTup', eSlT, eSlL, eRevL, oNone, oSome, e2I, eSum, eMaxL, eMaxT, eAllI, eAnyI, eAllG, eAnyG, eAnyT, eSumG, eTupG, tT, List.isEmpty_cons, List.isEmpty_nil, pI, pI0, pAdd, pCat, pMul, pMulB, pEq, pNe, pIs, pIsNot, pIx, pRepL, List.getElem?_cons_zero, List.getElem?_cons_succ, List.set_cons_zero, List.set_cons_succ, startR, List.map_cons, List.map_nil, List.cons_append, List.nil_append, List.length_cons, List.length_nil, List.replicate_succ, List.replicate_zero, Nat.add_sub_cancel, Nat.reduceAdd, Nat.reduceSub, Nat.reduceLeDiff, if_true, if_false, ite_true, ite_false, reduceIte, true_and, and_true, is_non_int, is_non_bool, is_non_tuple, is_non_list, is_non_str, is_bl_int, is_bl_bool, is_bl_tuple, is_bl_list, is_bl_str, is_int_int, is_int_bool, is_int_tuple, is_int_list, is_int_str, is_str_int, is_str_bool, is_str_tuple, is_str_list, is_str_str, is_tup_int, is_tup_bool, is_tup_tuple, is_tup_list, is_tup_str, is_lst_int, is_lst_bool, is_lst_tuple, is_lst_list, is_lst_str, spIsIntD_eq, isInt_int, spBetD_eq, bet_int, Nat.sub_self, Bool.false_eq_true, if_pos trivial, atI_0, atI_1, atI_2, atI_3, atI_4, atI_5, atI_6, ex_some, cap0, cap1, cap2, cap3, cap4, cap5, cap6, cap7, cap8, cap10, deq_int, iAny, iRan1, iRan2, iRev', iRevR1, iEnuA, iZip', sFor, eLc, wipeR, tTrue, pInG, eSum2, forall_eq, ne_eq, Bool.not_true, Bool.not_false, decide_true, decide_false]
    refine ⟨_, rfl, by simp, by simp, fun y hy => ?_⟩
    obtain ⟨n, rfl, n1, n2⟩ : ∃ n : Int, y = .int n ∧ 1 ≤ n ∧ n ≤ 1000 := by
      simp only [List.mem_cons, List.not_mem_nil, or_false] at hy
      rcases hy with rfl | rfl | rfl | rfl <;> exact ⟨_, rfl, by decide, by decide⟩
    refine ⟨3, rfl, by decide, by decide, fun ws lw hw => ?_⟩
    refine ⟨by rw [List.length_map]; show _ ≤ 1000000; omega, ?_⟩
    have e : ks.map kD ++ [D.tup [.int n, .tup (ws.map D.int)]] = (ks ++ [(n, ws)]).map kD := by rw [List.map_append]; rfl
    rw [e]
    refine hF _ ⟨ks ++ [(n, ws)], _, rfl, by rw [List.length_append, hl]; rfl, fun c hc => ?_, fun c hc => ?_, fun c hc => ?_⟩
    all_goals rcases List.mem_append.mp hc with hc | hc
    · exact g1 c hc
    · rw [List.mem_singleton.mp hc]; exact ⟨n1, n2⟩
    · exact g2 c hc
    · rw [List.mem_singleton.mp hc]; exact hw
    · exact g3 c hc
    · rw [List.mem_singleton.mp hc]; show ws.length ≤ 3; omega
  · rintro ρ ⟨ks, x, rfl, hl, g1, g2, g3⟩
    rw [rangeD_len] at hl
    simp only [iRan3, pInD, List.any_cons, List.any_nil, sRaise, eTold, sSeq, sSeqN, sRetO, sTupA, tupGo, sSet, sOwn, sAsg, sPar, sPar3, slOf, sRet, sExpr, sIf, sApp, sPut, sFrz, sAugI, eVar, eVarB, eC, eOp, tOpD, eNeg, eNot, eChain, eAnd, eOr, tV, tN, tA, tO, eIf, aNil, aCons, aStar, eTup, eLst, eLen, eTuple, eList, eAbs, eInt, eGcd, eIsI, eIsI2, eCall, eCallR, gVa, gNil', gCons', gTup', eSlT, eSlL, eRevL, oNone, oSome, e2I, eSum, eMaxL, eMaxT, eAllI, eAnyI, eAllG, eAnyG, eAnyT, eSumG, eTupG, tT, List.isEmpty_cons, List.isEmpty_nil, pI, pI0, pAdd, pCat, pMul, pMulB, pEq, pNe, pIs, pIsNot, pIx, pRepL, List.getElem?_cons_zero, List.getElem?_cons_succ, List.set_cons_zero, List.set_cons_succ, startR, List.map_cons, List.map_nil, List.cons_append, List.nil_append, List.length_cons, List.length_nil, List.replicate_succ, List.replicate_zero, Nat.add_sub_cancel, Nat.reduceAdd, Nat.reduceSub, Nat.reduceLeDiff, if_true, if_false, ite_true, ite_false, reduceIte, true_and, and_true, is_non_int, is_non_bool, is_non_tuple, is_non_list, is_non_str, is_bl_int, is_bl_bool, is_bl_tuple, is_bl_list, is_bl_str, is_int_int, is_int_bool, is_int_tuple, is_int_list, is_int_str, is_str_int, is_str_bool, is_str_tuple, is_str_list, is_str_str, is_tup_int, is_tup_bool, is_tup_tuple, is_tup_list, is_tup_str, is_lst_int, is_lst_bool, is_lst_tuple, is_lst_list, is_lst_str, spIsIntD_eq, isInt_int, spBetD_eq, bet_int, Nat.sub_self, Bool.false_eq_true, if_pos trivial, atI_0, atI_1, atI_2, atI_3, atI_4, atI_5, atI_6, ex_some, cap0, cap1, cap2, cap3, cap4, cap5, cap6, cap7, cap8, cap10, deq_int, iAny, iRan1, iRan2, iRev', iRevR1, iEnuA, iZip', sFor, eLc, wipeR, tTrue, pInG, eSum2, forall_eq, ne_eq, Bool.not_true, Bool.not_false, decide_true, decide_false]
    exact q ks ⟨by omega, by omega, g1, g2, g3⟩
abbrev s_law_ratio : Stmt := topS 44
abbrev N_law_ratio : List Str := ["top", "bottom", "one", "other"]
theorem sc_law_ratio : FnScope N_law_ratio ["top", "bottom"] (defScope s_law_ratio) := ⟨rfl, rfl, rfl, by decide +kernel, rfl, by decide +kernel, by decide +kernel⟩
theorem has_law_ratio (d : Df K mg "_law_ratio" s_law_ratio ["top", "bottom"]) (z_abs : mg "abs" = none) (z_int : mg "int" = none) : HasD P w K mg base T (k + 1) "_law_ratio" ["top", "bottom"] spMakeD := by
  refine d.hasD sc_law_ratio (fun ds Q E ⟨_, _, _, h, _⟩ => by rw [h]; rfl) (fun f cdv A outer s H E hr po => (b_cons (s_par (i := 2) (j := 3) rfl sc_law_ratio.nd (d_abs z_abs (d_var 0)) (d_abs z_abs (d_var 1)))
      (b_cons (s_while po (t_cmp (op_neD (hu64 hr)) opd_ne (d_var 3) d_int) (b_one (s_par (i := 2) (j := 3) rfl sc_law_ratio.nd (d_var 3) (d_op op_mod opd_mod (d_toInt z_int (d_var 2)) (d_var 3)))))
      (b_one (s_ret (d_if (t_cmp op_gt opd_gt (d_var 1) d_int) (d_tup (a_cons (d_op op_fdivZ opd_fdiv (d_var 0) (d_var 2)) (a_cons (d_op op_fdivZ opd_fdiv (d_var 1) (d_var 2)) a_nil))) (d_tup (a_cons (d_op op_sub opd_sub d_int (d_op op_fdivZ opd_fdiv (d_var 0) (d_var 2))) (a_cons (d_op op_sub opd_sub d_int (d_op op_fdivZ opd_fdiv (d_var 1) (d_var 2))) a_nil))))))))) ?_
  rintro ds Q E ⟨t, b, n, rfl, hb, hn, hl, q⟩
  refine ⟨[.va (.int t), .va (.int b), .un, .un], rfl, ?_⟩
  have hg : ((Nat.gcd t.natAbs b.natAbs : Nat) : Int) ≠ 0 := by
    have : 0 < Nat.gcd t.natAbs b.natAbs := Nat.gcd_pos_of_pos_right _ (Int.natAbs_pos.mpr hb)
    omega
  have hgl : Nat.gcd t.natAbs b.natAbs ≤ b.natAbs := Nat.gcd_le_right _ (Int.natAbs_pos.mpr hb)
  have f1 := fdiv_top (t := t) hb
  have f2 := fdiv_bottom (t := t) hb
  have dt := gcd_dvd_int t b
  have abs_int : ∀ z : Int, (if z < 0 then -z else z) = ((z.natAbs : Nat) : Int) := fun z => by split <;> omega
  simp only [iRan3, pInD, List.any_cons, List.any_nil, sRaise, eTold, sSeq, sSeqN, sRetO, sTupA, tupGo, sSet, sOwn, sAsg, sPar, sPar3, slOf, sRet, sExpr, sIf, sApp, sPut, sFrz, sAugI, eVar, eVarB, eC, eOp, tOpD, eNeg, eNot, eChain, eAnd, eOr, tV, tN, tA, tO, eIf, aNil, aCons, aStar, eTup, eLst, eLen, eTuple, eList, eAbs, eInt, eGcd, eIsI, eIsI2, eCall, eCallR, gVa, gNil', gCons', gTup', eSlT, eSlL, eRevL, oNone, oSome, e2I, eSum, eMaxL, eMaxT, eAllI, eAnyI, eAllG, eAnyG, eAnyT, eSumG, eTupG, tT, List.isEmpty_cons, List.isEmpty_nil, pI, pI0, pAdd, pCat, pMul, pMulB, pEq, pNe, pIs, pIsNot, pIx, pRepL, List.getElem?_cons_zero, List.getElem?_cons_succ, List.set_cons_zero, List.set_cons_succ, startR, List.map_cons, List.map_nil, List.cons_append, List.nil_append, List.length_cons, List.length_nil, List.replicate_succ, List.replicate_zero, Nat.add_sub_cancel, Nat.reduceAdd, Nat.reduceSub, Nat.reduceLeDiff, if_true, if_false, ite_true, ite_false, reduceIte, true_and, and_true, is_non_int, is_non_bool, is_non_tuple, is_non_list, is_non_str, is_bl_int, is_bl_bool, is_bl_tuple, is_bl_list, is_bl_str, is_int_int, is_int_bool, is_int_tuple, is_int_list, is_int_str, is_str_int, is_str_bool, is_str_tuple, is_str_list, is_str_str, is_tup_int, is_tup_bool, is_tup_tuple, is_tup_list, is_tup_str, is_lst_int, is_lst_bool, is_lst_tuple, is_lst_list, is_lst_str, spIsIntD_eq, isInt_int, spBetD_eq, bet_int, Nat.sub_self, Bool.false_eq_true, if_pos trivial, atI_0, atI_1, atI_2, atI_3, atI_4, atI_5, atI_6, ex_some, cap0, cap1, cap2, cap3, cap4, cap5, cap6, cap7, cap8, cap10, deq_int, iAny, iRan1, iRan2, iRev', iRevR1, iEnuA, iZip', sFor, eLc, wipeR, tTrue, pInG, eSum2, forall_eq, ne_eq, Bool.not_true, Bool.not_false, decide_true, decide_false]
  rw [abs_int, abs_int]
  refine ⟨fun m ρ => ∃ one : Nat, ρ = [.va (.int t), .va (.int b), .va (.int (one : Int)), .va (.int ((m : Nat) : Int))] ∧ Nat.gcd one m = Nat.gcd t.natAbs b.natAbs, ⟨b.natAbs, t.natAbs, rfl, rfl⟩, ?_⟩
  rintro m ρ ⟨one, rfl, eg⟩
  simp only [iRan3, pInD, List.any_cons, List.any_nil, sRaise, eTold, sSeq, sSeqN, sRetO, sTupA, tupGo, sSet, sOwn, sAsg, sPar, sPar3, slOf, sRet, sExpr, sIf, sApp, sPut, sFrz, sAugI, eVar, eVarB, eC, eOp, tOpD, eNeg, eNot, eChain, eAnd, eOr, tV, tN, tA, tO, eIf, aNil, aCons, aStar, eTup, eLst, eLen, eTuple, eList, eAbs, eInt, eGcd, eIsI, eIsI2, eCall, eCallR, gVa, gNil', gCons', gTup', eSlT, eSlL, eRevL, oNone, oSome, e2I, eSum, eMaxL, eMaxT, eAllI, eAnyI, eAllG, eAnyG, eAnyT, eSumG, eTupG, tT, List.isEmpty_cons, List.isEmpty_nil, pI, pI0, pAdd, pCat, pMul, pMulB, pEq, pNe, pIs, pIsNot, pIx, pRepL, List.getElem?_cons_zero, List.getElem?_cons_succ, List.set_cons_zero, List.set_cons_succ, startR, List.map_cons, List.map_nil, List.cons_append, List.nil_append, List.length_cons, List.length_nil, List.replicate_succ, List.replicate_zero, Nat.add_sub_cancel, Nat.reduceAdd, Nat.reduceSub, Nat.reduceLeDiff, if_true, if_false, ite_true, ite_false, reduceIte, true_and, and_true, is_non_int, is_non_bool, is_non_tuple, is_non_list, is_non_str, is_bl_int, is_bl_bool, is_bl_tuple, is_bl_list, is_bl_str, is_int_int, is_int_bool, is_int_tuple, is_int_list, is_int_str, is_str_int, is_str_bool, is_str_tuple, is_str_list, is_str_str, is_tup_int, is_tup_bool, is_tup_tuple, is_tup_list, is_tup_str, is_lst_int, is_lst_bool, is_lst_tuple, is_lst_list, is_lst_str, spIsIntD_eq, isInt_int, spBetD_eq, bet_int, Nat.sub_self, Bool.false_eq_true, if_pos trivial, atI_0, atI_1, atI_2, atI_3, atI_4, atI_5, atI_6, ex_some, cap0, cap1, cap2, cap3, cap4, cap5, cap6, cap7, cap8, cap10, deq_int, iAny, iRan1, iRan2, iRev', iRevR1, iEnuA, iZip', sFor, eLc, wipeR, tTrue, pInG, eSum2, forall_eq, ne_eq, Bool.not_true, Bool.not_false, decide_true, decide_false]
  refine ⟨⟨rfl, rfl⟩, ?_⟩
  by_cases c : m = 0
  · subst c
    rw [Nat.gcd_zero_right] at eg
    subst eg
    simp only [Int.ofNat_zero, Int.natCast_zero, decide_true, Bool.not_true, Bool.false_eq_true, if_false]
    by_cases c2 : 0 < b
    · rw [Int.sign_eq_one_of_pos c2, Int.one_mul] at f1 f2
      simp only [c2, decide_true, if_true, f1, f2]
      exact ⟨cdivz (by omega) (n := n) (by omega) (by omega), cdivz (by omega) (n := n) (by omega) (by omega), q⟩
    · rw [Int.sign_eq_neg_one_of_neg (by omega), show ∀ z : Int, -1 * z = -z by intro z; omega] at f1 f2
      rw [← fdiv_neg_of hg dt.1] at f1
      rw [← fdiv_neg_of hg dt.2] at f2
      simp only [c2, decide_false, Bool.false_eq_true, if_false, f1, f2]
      exact ⟨cdivz (by omega) (n := n) (by omega) (by omega), cdivz (by omega) (n := n) (by omega) (by omega), q⟩
  · have c' : ¬ ((m : Nat) : Int) = 0 := by omega
    simp only [c', decide_false, Bool.not_false, if_true]
    refine ⟨by omega, one % m, Nat.mod_lt _ (by omega), m, by rw [Int.natCast_emod], ?_⟩
    rw [← eg, Nat.gcd_comm one m, Nat.gcd_rec m one, Nat.gcd_comm]
abbrev s_law_by : Stmt := topS 46
abbrev N_law_by : List Str := ["one", "other"]
theorem sc_law_by : FnScope N_law_by ["one", "other"] (defScope s_law_by) := ⟨rfl, rfl, rfl, by decide +kernel, rfl, by decide +kernel, by decide +kernel⟩
theorem has_law_by (d : Df K mg "_law_by" s_law_by ["one", "other"]) (h_law_ratio : HasD P w K mg base T k "_law_ratio" ["top", "bottom"] spMakeD) : HasD P w K mg base T (k + 1) "_law_by" ["one", "other"] spMulD := by
  refine d.hasD sc_law_by (fun ds Q E ⟨_, _, _, _, h, _⟩ => by rw [h]; rfl) (fun f cdv A outer s H E hr po => (b_one (s_ret (d_call h_law_ratio hr (a_cons (d_op o_mul opd_mul (d_ix (d_var 0) d_int) (d_ix (d_var 1) d_int)) (a_cons (d_op o_mul opd_mul (d_ix (d_var 0) d_int) (d_ix (d_var 1) d_int)) a_nil)))))) ?_
  rintro ds Q E ⟨a, b, n, m, rfl, ba, bb, hl, -, q⟩
  refine ⟨[.va (dR a), .va (dR b)], rfl, ?_⟩
  simp only [dR]
  simp only [iRan3, pInD, List.any_cons, List.any_nil, sRaise, eTold, sSeq, sSeqN, sRetO, sTupA, tupGo, sSet, sOwn, sAsg, sPar, sPar3, slOf, sRet, sExpr, sIf, sApp, sPut, sFrz, sAugI, eVar, eVarB, eC, eOp, tOpD, eNeg, eNot, eChain, eAnd, eOr, tV, tN, tA, tO, eIf, aNil, aCons, aStar, eTup, eLst, eLen, eTuple, eList, eAbs, eInt, eGcd, eIsI, eIsI2, eCall, eCallR, gVa, gNil', gCons', gTup', eSlT, eSlL, eRevL, oNone, oSome, e2I, eSum, eMaxL, eMaxT, eAllI, eAnyI, eAllG, eAnyG, eAnyT, eSumG, eTupG, tT, List.isEmpty_cons, List.isEmpty_nil, pI, pI0, pAdd, pCat, pMul, pMulB, pEq, pNe, pIs, pIsNot, pIx, pRepL, List.getElem?_cons_zero, List.getElem?_cons_succ, List.set_cons_zero, List.set_cons_succ, startR, List.map_cons, List.map_nil, List.cons_append, List.nil_append, List.length_cons, List.length_nil, List.replicate_succ, List.replicate_zero, Nat.add_sub_cancel, Nat.reduceAdd, Nat.reduceSub, Nat.reduceLeDiff, if_true, if_false, ite_true, ite_false, reduceIte, true_and, and_true, is_non_int, is_non_bool, is_non_tuple, is_non_list, is_non_str, is_bl_int, is_bl_bool, is_bl_tuple, is_bl_list, is_bl_str, is_int_int, is_int_bool, is_int_tuple, is_int_list, is_int_str, is_str_int, is_str_bool, is_str_tuple, is_str_list, is_str_str, is_tup_int, is_tup_bool, is_tup_tuple, is_tup_list, is_tup_str, is_lst_int, is_lst_bool, is_lst_tuple, is_lst_list, is_lst_str, spIsIntD_eq, isInt_int, spBetD_eq, bet_int, Nat.sub_self, Bool.false_eq_true, if_pos trivial, atI_0, atI_1, atI_2, atI_3, atI_4, atI_5, atI_6, ex_some, cap0, cap1, cap2, cap3, cap4, cap5, cap6, cap7, cap8, cap10, deq_int, iAny, iRan1, iRan2, iRev', iRevR1, iEnuA, iZip', sFor, eLc, wipeR, tTrue, pInG, eSum2, forall_eq, ne_eq, Bool.not_true, Bool.not_false, decide_true, decide_false]
  refine ⟨cmul (a := n) (b := m) ba.1 bb.1 (by omega), cmul (a := n) (b := m) (by exact ba.2) (by exact bb.2) (by omega), _, _, n + m, rfl, dens_ne a b, (mul_parts ba bb).2, by omega, ?_⟩
  rw [mul_eq_divInt]
  exact q
abbrev s_law_chances : Stmt := topS 49
abbrev N_law_chances : List Str := ["claims", "one"]
theorem sc_law_chances : FnScope N_law_chances ["claims"] (defScope s_law_chances) := ⟨rfl, rfl, rfl, by decide +kernel, rfl, by decide +kernel, by decide +kernel⟩
theorem has_law_chances (d : Df K mg "_law_chances" s_law_chances ["claims"]) (h_law_ratio : HasD P w K mg base T k "_law_ratio" ["top", "bottom"] spMakeD) (z_sum : mg "sum" = none) : HasD P w K mg base T (k + 1) "_law_chances" ["claims"] spChsD := by
  refine d.hasD sc_law_chances (fun ds Q E ⟨_, h, _⟩ => by rw [h]; rfl) (fun f cdv A outer s H E hr po => (b_one (s_ret (PD.fr (d_lc (own := [("one", 1)]) rfl sc_law_chances.nd (i_any (d_var 0)) (blkOk_by (N := N_law_chances) (sc := defScope s_law_chances) (by decide +kernel)) (fun _ _ _ _ _ => (g_name 1 sc_law_chances.nd)) (fun _ _ _ _ _ => ifs_nil) (fun _ _ _ _ _ => (d_call h_law_ratio hr (a_cons (d_var 1) (a_cons (d_sumA z_sum (d_var 0)) a_nil))))))))) ?_
  rintro ds Q E ⟨ws, rfl, h, hl, q⟩
  refine ⟨[.va (.tup (ws.map D.int)), .un], rfl, ?_⟩
  simp only [iRan3, pInD, List.any_cons, List.any_nil, sRaise, eTold, sSeq, sSeqN, sRetO, sTupA, tupGo, sSet, sOwn, sAsg, sPar, sPar3, slOf, sRet, sExpr, sIf, sApp, sPut, sFrz, sAugI, eVar, eVarB, eC, eOp, tOpD, eNeg, eNot, eChain, eAnd, eOr, tV, tN, tA, tO, eIf, aNil, aCons, aStar, eTup, eLst, eLen, eTuple, eList, eAbs, eInt, eGcd, eIsI, eIsI2, eCall, eCallR, gVa, gNil', gCons', gTup', eSlT, eSlL, eRevL, oNone, oSome, e2I, eSum, eMaxL, eMaxT, eAllI, eAnyI, eAllG, eAnyG, eAnyT, eSumG, eTupG, tT, List.isEmpty_cons, List.isEmpty_nil, pI, pI0, pAdd, pCat, pMul, pMulB, pEq, pNe, pIs, pIsNot, pIx, pRepL, List.getElem?_cons_zero, List.getElem?_cons_succ, List.set_cons_zero, List.set_cons_succ, startR, List.map_cons, List.map_nil, List.cons_append, List.nil_append, List.length_cons, List.length_nil, List.replicate_succ, List.replicate_zero, Nat.add_sub_cancel, Nat.reduceAdd, Nat.reduceSub, Nat.reduceLeDiff, if_true, if_false, ite_true, ite_false, reduceIte, true_and, and_true, is_non_int, is_non_bool, is_non_tuple, is_non_list, is_non_str, is_bl_int, is_bl_bool, is_bl_tuple, is_bl_list, is_bl_str, is_int_int, is_int_bool, is_int_tuple, is_int_list, is_int_str, is_str_int, is_str_bool, is_str_tuple, is_str_list, is_str_str, is_tup_int, is_tup_bool, is_tup_tuple, is_tup_list, is_tup_str, is_lst_int, is_lst_bool, is_lst_tuple, is_lst_list, is_lst_str, spIsIntD_eq, isInt_int, spBetD_eq, bet_int, Nat.sub_self, Bool.false_eq_true, if_pos trivial, atI_0, atI_1, atI_2, atI_3, atI_4, atI_5, atI_6, ex_some, cap0, cap1, cap2, cap3, cap4, cap5, cap6, cap7, cap8, cap10, deq_int, iAny, iRan1, iRan2, iRev', iRevR1, iEnuA, iZip', sFor, eLc, wipeR, tTrue, pInG, eSum2, forall_eq, ne_eq, Bool.not_true, Bool.not_false, decide_true, decide_false]
  have hp := h.sum_pos
  have hs := s_bd h hl
  refine lc_each D.int (fun n => dR (n /. ws.sum)) (by show _ ≤ 1000000; omega) ?_ ?_
  · intro n hn F hF
    simp only [iRan3, pInD, List.any_cons, List.any_nil, sRaise, eTold, sSeq, sSeqN, sRetO, sTupA, tupGo, sSet, sOwn, sAsg, sPar, sPar3, slOf, sRet, sExpr, sIf, sApp, sPut, sFrz, sAugI, eVar, eVarB, eC, eOp, tOpD, eNeg, eNot, eChain, eAnd, eOr, tV, tN, tA, tO, eIf, aNil, aCons, aStar, eTup, eLst, eLen, eTuple, eList, eAbs, eInt, eGcd, eIsI, eIsI2, eCall, eCallR, gVa, gNil', gCons', gTup', eSlT, eSlL, eRevL, oNone, oSome, e2I, eSum, eMaxL, eMaxT, eAllI, eAnyI, eAllG, eAnyG, eAnyT, eSumG, eTupG, tT, List.isEmpty_cons, List.isEmpty_nil, pI, pI0, pAdd, pCat, pMul, pMulB, pEq, pNe, pIs, pIsNot, pIx, pRepL, List.getElem?_cons_zero, List.getElem?_cons_succ, List.set_cons_zero, List.set_cons_succ, startR, List.map_cons, List.map_nil, List.cons_append, List.nil_append, List.length_cons, List.length_nil, List.replicate_succ, List.replicate_zero, Nat.add_sub_cancel, Nat.reduceAdd, Nat.reduceSub, Nat.reduceLeDiff, if_true, if_false, ite_true, ite_false, reduceIte, true_and, and_true, is_non_int, is_non_bool, is_non_tuple, is_non_list, is_non_str, is_bl_int, is_bl_bool, is_bl_tuple, is_bl_list, is_bl_str, is_int_int, is_int_bool, is_int_tuple, is_int_list, is_int_str, is_str_int, is_str_bool, is_str_tuple, is_str_list, is_str_str, is_tup_int, is_tup_bool, is_tup_tuple, is_tup_list, is_tup_str, is_lst_int, is_lst_bool, is_lst_tuple, is_lst_list, is_lst_str, spIsIntD_eq, isInt_int, spBetD_eq, bet_int, Nat.sub_self, Bool.false_eq_true, if_pos trivial, atI_0, atI_1, atI_2, atI_3, atI_4, atI_5, atI_6, ex_some, cap0, cap1, cap2, cap3, cap4, cap5, cap6, cap7, cap8, cap10, deq_int, iAny, iRan1, iRan2, iRev', iRevR1, iEnuA, iZip', sFor, eLc, wipeR, tTrue, pInG, eSum2, forall_eq, ne_eq, Bool.not_true, Bool.not_false, decide_true, decide_false]
    exact ⟨ws, rfl, n, ws.sum, 14, rfl, by omega, by have := hs.1; show _ < 16384; have : ws.sum.toNat < 16384 := hs.1; omega, by omega, hF⟩
  · have em : ws.map (fun n => dR (n /. ws.sum)) = dRs (chs ws) := by
      unfold dRs chs
      rw [List.map_map]
      rfl
    rw [em]
    exact q
abbrev s_law_kinds : Stmt := topS 52
abbrev N_law_kinds : List Str := ["prior", "seen", "whole", "found", "weight", "claims", "here", "amount", "one"]
theorem sc_law_kinds : FnScope N_law_kinds ["prior", "seen"] (defScope s_law_kinds) := ⟨rfl, rfl, rfl, by decide +kernel, rfl, by decide +kernel, by decide +kernel⟩
theorem has_law_kinds (d : Df K mg "_law_kinds" s_law_kinds ["prior", "seen"]) (h_law_ratio : HasD P w K mg base T k "_law_ratio" ["top", "bottom"] spMakeD) (h_law_by : HasD P w K mg base T k "_law_by" ["one", "other"] spMulD) (h_law_chances : HasD P w K mg base T k "_law_chances" ["claims"] spChsD) (z_sum : mg "sum" = none) (z_len : mg "len" = none) : HasD P w K mg base T (k + 1) "_law_kinds" ["prior", "seen"] (spAllSD fun ks ss => .lst (rl (ka ks ss) ks.length)) := by
  refine d.hasD sc_law_kinds (fun ds Q E ⟨_, _, h, _⟩ => by rw [h]; rfl) (fun f cdv A outer s H E hr po => (b_cons (s_par (i := 2) (j := 3) rfl sc_law_kinds.nd (d_sumA z_sum (d_lc (own := [("one", 8)]) rfl sc_law_kinds.nd (i_any (d_var 0)) (blkOk_by (N := N_law_kinds) (sc := defScope s_law_kinds) (by decide +kernel)) (fun _ _ _ _ _ => (g_name 8 sc_law_kinds.nd)) (fun _ _ _ _ _ => ifs_nil) (fun _ _ _ _ _ => (d_ix (d_var 8) d_int)))) (d_lst a_nil))
      (b_cons (s_for po rfl (i_any (d_var 0)) (g_tup (n := 2) rfl (gs_cons (g_name 4 sc_law_kinds.nd) (gs_cons (g_name 5 sc_law_kinds.nd) gs_nil))) (b_cons (s_set (i := 6) sc_law_kinds.nd (d_call h_law_ratio hr (a_cons (d_var 4) (a_cons (d_var 2) a_nil))))
      (b_cons (s_for po rfl (i_any (d_var 1)) (g_name 7 sc_law_kinds.nd) (b_one (s_set (i := 6) sc_law_kinds.nd (d_call h_law_by hr (a_cons (d_var 6) (a_cons (d_if (t_cmp op_lt opd_lt (d_var 7) (d_len z_len (d_var 5))) (d_ix (d_call h_law_chances hr (a_cons (d_var 5) a_nil)) (d_var 7)) (d_tup (a_cons d_int (a_cons d_int a_nil)))) a_nil))))))
      (b_one (s_app (i := 3) (d_var 6))))))
      (b_one (s_frz 3 (s_ret (d_var 3))))))) ?_
  rintro ds Q E ⟨ks, ss, rfl, h, hss, q⟩
  refine ⟨[.va (.tup (ks.map kD)), .va (.tup (ss.map D.int)), .un, .un, .un, .un, .un, .un, .un], rfl, ?_⟩
  have h1 := h.lo
  have h2 := h.hi
  have cl := h.clm
  have hp := cl.sum_pos
  have hs := s_bd cl (by rw [kwL_len]; omega)
  have hs1 : (kwL ks).sum.toNat < 16384 := hs.1
  simp only [iRan3, pInD, List.any_cons, List.any_nil, sRaise, eTold, sSeq, sSeqN, sRetO, sTupA, tupGo, sSet, sOwn, sAsg, sPar, sPar3, slOf, sRet, sExpr, sIf, sApp, sPut, sFrz, sAugI, eVar, eVarB, eC, eOp, tOpD, eNeg, eNot, eChain, eAnd, eOr, tV, tN, tA, tO, aNil, aCons, aStar, eTup, eLst, eLen, eTuple, eList, eAbs, eInt, eGcd, eIsI, eIsI2, eCall, eCallR, gVa, gNil', gCons', gTup', eSlT, eSlL, eRevL, oNone, oSome, e2I, eSum, eMaxL, eMaxT, eAllI, eAnyI, eAllG, eAnyG, eAnyT, eSumG, eTupG, tT, List.isEmpty_cons, List.isEmpty_nil, pI, pI0, pAdd, pCat, pMul, pMulB, pEq, pNe, pIs, pIsNot, pIx, pRepL, List.getElem?_cons_zero, List.getElem?_cons_succ, List.set_cons_zero, List.set_cons_succ, startR, List.map_cons, List.map_nil, List.cons_append, List.nil_append, List.length_cons, List.length_nil, List.replicate_succ, List.replicate_zero, Nat.add_sub_cancel, Nat.reduceAdd, Nat.reduceSub, Nat.reduceLeDiff, if_true, if_false, ite_true, ite_false, reduceIte, true_and, and_true, is_non_int, is_non_bool, is_non_tuple, is_non_list, is_non_str, is_bl_int, is_bl_bool, is_bl_tuple, is_bl_list, is_bl_str, is_int_int, is_int_bool, is_int_tuple, is_int_list, is_int_str, is_str_int, is_str_bool, is_str_tuple, is_str_list, is_str_str, is_tup_int, is_tup_bool, is_tup_tuple, is_tup_list, is_tup_str, is_lst_int, is_lst_bool, is_lst_tuple, is_lst_list, is_lst_str, spIsIntD_eq, isInt_int, spBetD_eq, bet_int, Nat.sub_self, Bool.false_eq_true, if_pos trivial, atI_0, atI_1, atI_2, atI_3, atI_4, atI_5, atI_6, ex_some, cap0, cap1, cap2, cap3, cap4, cap5, cap6, cap7, cap8, cap10, deq_int, iAny, iRan1, iRan2, iRev', iRevR1, iEnuA, iZip', sFor, eLc, wipeR, tTrue, pInG, eSum2, forall_eq, ne_eq, Bool.not_true, Bool.not_false, decide_true, decide_false]
  refine lc_each kD (fun c => .int c.1) (by show _ ≤ 1000000; omega) ?_ ?_
  · intro c hc F hF
    simp only [kD]
    simp only [iRan3, pInD, List.any_cons, List.any_nil, sRaise, eTold, sSeq, sSeqN, sRetO, sTupA, tupGo, sSet, sOwn, sAsg, sPar, sPar3, slOf, sRet, sExpr, sIf, sApp, sPut, sFrz, sAugI, eVar, eVarB, eC, eOp, tOpD, eNeg, eNot, eChain, eAnd, eOr, tV, tN, tA, tO, eIf, aNil, aCons, aStar, eTup, eLst, eLen, eTuple, eList, eAbs, eInt, eGcd, eIsI, eIsI2, eCall, eCallR, gVa, gNil', gCons', gTup', eSlT, eSlL, eRevL, oNone, oSome, e2I, eSum, eMaxL, eMaxT, eAllI, eAnyI, eAllG, eAnyG, eAnyT, eSumG, eTupG, tT, List.isEmpty_cons, List.isEmpty_nil, pI, pI0, pAdd, pCat, pMul, pMulB, pEq, pNe, pIs, pIsNot, pIx, pRepL, List.getElem?_cons_zero, List.getElem?_cons_succ, List.set_cons_zero, List.set_cons_succ, startR, List.map_cons, List.map_nil, List.cons_append, List.nil_append, List.length_cons, List.length_nil, List.replicate_succ, List.replicate_zero, Nat.add_sub_cancel, Nat.reduceAdd, Nat.reduceSub, Nat.reduceLeDiff, if_true, if_false, ite_true, ite_false, reduceIte, true_and, and_true, is_non_int, is_non_bool, is_non_tuple, is_non_list, is_non_str, is_bl_int, is_bl_bool, is_bl_tuple, is_bl_list, is_bl_str, is_int_int, is_int_bool, is_int_tuple, is_int_list, is_int_str, is_str_int, is_str_bool, is_str_tuple, is_str_list, is_str_str, is_tup_int, is_tup_bool, is_tup_tuple, is_tup_list, is_tup_str, is_lst_int, is_lst_bool, is_lst_tuple, is_lst_list, is_lst_str, spIsIntD_eq, isInt_int, spBetD_eq, bet_int, Nat.sub_self, Bool.false_eq_true, if_pos trivial, atI_0, atI_1, atI_2, atI_3, atI_4, atI_5, atI_6, ex_some, cap0, cap1, cap2, cap3, cap4, cap5, cap6, cap7, cap8, cap10, deq_int, iAny, iRan1, iRan2, iRev', iRevR1, iEnuA, iZip', sFor, eLc, wipeR, tTrue, pInG, eSum2, forall_eq, ne_eq, Bool.not_true, Bool.not_false, decide_true, decide_false]
    exact hF
  have e : ks.map (fun c => D.int c.1) = (kwL ks).map D.int := by unfold kwL; rw [List.map_map]; rfl
  rw [e]
  refine ⟨kwL ks, rfl, ?_⟩
  refine for_nat (fun i ρ => i ≤ ks.length ∧ ∃ x4 x5 x6 x7 x8, ρ = [.va (.tup (ks.map kD)), .va (.tup (ss.map D.int)), .va (.int (kwL ks).sum), .ow (rl (ka ks ss) i), x4, x5, x6, x7, x8]) ⟨Nat.zero_le _, _, _, _, _, _, rfl⟩ ?_ ?_
  · rintro i d ρ F hd ⟨hi, x4, x5, x6, x7, x8, rfl⟩ hF
    obtain ⟨hi', rfl⟩ := kds_at hd
    have hw := h.w _ (kat_mem hi')
    have oc := h.ok _ (kat_mem hi')
    have ol := h.len _ (kat_mem hi')
    have bp := ps_bd oc ol hss
    simp only [kD]
    simp only [iRan3, pInD, List.any_cons, List.any_nil, sRaise, eTold, sSeq, sSeqN, sRetO, sTupA, tupGo, sSet, sOwn, sAsg, sPar, sPar3, slOf, sRet, sExpr, sIf, sApp, sPut, sFrz, sAugI, eVar, eVarB, eC, eOp, tOpD, eNeg, eNot, eChain, eAnd, eOr, tV, tN, tA, tO, aNil, aCons, aStar, eTup, eLst, eLen, eTuple, eList, eAbs, eInt, eGcd, eIsI, eIsI2, eCall, eCallR, gVa, gNil', gCons', gTup', eSlT, eSlL, eRevL, oNone, oSome, e2I, eSum, eMaxL, eMaxT, eAllI, eAnyI, eAllG, eAnyG, eAnyT, eSumG, eTupG, tT, List.isEmpty_cons, List.isEmpty_nil, pI, pI0, pAdd, pCat, pMul, pMulB, pEq, pNe, pIs, pIsNot, pIx, pRepL, List.getElem?_cons_zero, List.getElem?_cons_succ, List.set_cons_zero, List.set_cons_succ, startR, List.map_cons, List.map_nil, List.cons_append, List.nil_append, List.length_cons, List.length_nil, List.replicate_succ, List.replicate_zero, Nat.add_sub_cancel, Nat.reduceAdd, Nat.reduceSub, Nat.reduceLeDiff, if_true, if_false, ite_true, ite_false, reduceIte, true_and, and_true, is_non_int, is_non_bool, is_non_tuple, is_non_list, is_non_str, is_bl_int, is_bl_bool, is_bl_tuple, is_bl_list, is_bl_str, is_int_int, is_int_bool, is_int_tuple, is_int_list, is_int_str, is_str_int, is_str_bool, is_str_tuple, is_str_list, is_str_str, is_tup_int, is_tup_bool, is_tup_tuple, is_tup_list, is_tup_str, is_lst_int, is_lst_bool, is_lst_tuple, is_lst_list, is_lst_str, spIsIntD_eq, isInt_int, spBetD_eq, bet_int, Nat.sub_self, Bool.false_eq_true, if_pos trivial, atI_0, atI_1, atI_2, atI_3, atI_4, atI_5, atI_6, ex_some, cap0, cap1, cap2, cap3, cap4, cap5, cap6, cap7, cap8, cap10, deq_int, iAny, iRan1, iRan2, iRev', iRevR1, iEnuA, iZip', sFor, eLc, wipeR, tTrue, pInG, eSum2, forall_eq, ne_eq, Bool.not_true, Bool.not_false, decide_true, decide_false]
    refine ⟨_, _, 14, rfl, by omega, by show _ < 16384; omega, by decide, ?_⟩
    rw [kc_at hi']
    refine for_nat (fun j ρ => j ≤ ss.length ∧ ∃ x7, ρ = [.va (.tup (ks.map kD)), .va (.tup (ss.map D.int)), .va (.int (kwL ks).sum), .ow (rl (ka ks ss) i), .va (.int (kat ks i).1), .va (.tup ((kat ks i).2.map D.int)), .va (dR (kc ks i * prodL ((psL (kat ks i).2 ss).take j))), x7, x8]) ⟨Nat.zero_le _, _, by rw [show prodL ((psL (kat ks i).2 ss).take 0) = 1 from rfl, Rat.mul_one]⟩ ?_ ?_
    · rintro j d ρ G hd ⟨hj, x7, rfl⟩ hG
      have hj' : j < ss.length := by have := (List.getElem?_eq_some_iff.mp hd).1; rwa [List.length_map] at this
      obtain ⟨n, en⟩ : ∃ n, ss[j]? = some n := ⟨_, List.getElem?_eq_getElem hj'⟩
      have hd2 : d = .int n := by
        rw [List.getElem?_map, en] at hd
        exact (Option.some.inj hd).symm
      subst hd2
      have hb := hss.at' n (List.mem_of_getElem? en)
      obtain ⟨m, rfl⟩ : ∃ m : Nat, n = (m : Int) := ⟨n.toNat, by omega⟩
      have ep : (psL (kat ks i).2 ss)[j]? = some (pj (kat ks i).2 m) := by
        unfold psL
        rw [List.getElem?_map, en]
        rfl
      have bj := pj_bd oc ol m
      have bt : Bd 71 (kc ks i * prodL ((psL (kat ks i).2 ss).take j)) := (kc_bd h i).mul (bp.2 j (by unfold psL; rw [List.length_map]; omega))
      simp only [iRan3, pInD, List.any_cons, List.any_nil, sRaise, eTold, sSeq, sSeqN, sRetO, sTupA, tupGo, sSet, sOwn, sAsg, sPar, sPar3, slOf, sRet, sExpr, sIf, sApp, sPut, sFrz, sAugI, eVar, eVarB, eC, eOp, tOpD, eNeg, eNot, eChain, eAnd, eOr, tV, tN, tA, tO, eIf, aNil, aCons, aStar, eTup, eLst, eLen, eTuple, eList, eAbs, eInt, eGcd, eIsI, eIsI2, eCall, eCallR, gVa, gNil', gCons', gTup', eSlT, eSlL, eRevL, oNone, oSome, e2I, eSum, eMaxL, eMaxT, eAllI, eAnyI, eAllG, eAnyG, eAnyT, eSumG, eTupG, tT, List.isEmpty_cons, List.isEmpty_nil, pI, pI0, pAdd, pCat, pMul, pMulB, pEq, pNe, pIs, pIsNot, pIx, pRepL, List.getElem?_cons_zero, List.getElem?_cons_succ, List.set_cons_zero, List.set_cons_succ, startR, List.map_cons, List.map_nil, List.cons_append, List.nil_append, List.length_cons, List.length_nil, List.replicate_succ, List.replicate_zero, Nat.add_sub_cancel, Nat.reduceAdd, Nat.reduceSub, Nat.reduceLeDiff, if_true, if_false, ite_true, ite_false, reduceIte, true_and, and_true, is_non_int, is_non_bool, is_non_tuple, is_non_list, is_non_str, is_bl_int, is_bl_bool, is_bl_tuple, is_bl_list, is_bl_str, is_int_int, is_int_bool, is_int_tuple, is_int_list, is_int_str, is_str_int, is_str_bool, is_str_tuple, is_str_list, is_str_str, is_tup_int, is_tup_bool, is_tup_tuple, is_tup_list, is_tup_str, is_lst_int, is_lst_bool, is_lst_tuple, is_lst_list, is_lst_str, spIsIntD_eq, isInt_int, spBetD_eq, bet_int, Nat.sub_self, Bool.false_eq_true, if_pos trivial, atI_0, atI_1, atI_2, atI_3, atI_4, atI_5, atI_6, ex_some, cap0, cap1, cap2, cap3, cap4, cap5, cap6, cap7, cap8, cap10, deq_int, iAny, iRan1, iRan2, iRev', iRevR1, iEnuA, iZip', sFor, eLc, wipeR, tTrue, pInG, eSum2, forall_eq, ne_eq, Bool.not_true, Bool.not_false, decide_true, decide_false]
      rw [List.length_map]
      by_cases c : m < (kat ks i).2.length
      · rw [decide_eq_true (by omega)]
        simp only [if_true]
        refine ⟨(kat ks i).2, rfl, oc, by omega, ?_⟩
        refine ⟨_, chs_atI c, ?_⟩
        refine ⟨_, _, 71, 14, rfl, bt, bj, by decide, trivial, ?_⟩
        dsimp only
        rw [Rat.mul_assoc, ← prodL_take ep]
        exact hG _ ⟨hj', _, rfl⟩
      · rw [decide_eq_false (by omega)]
        simp only [Bool.false_eq_true, if_false]
        refine ⟨_, 0, 71, 14, rfl, bt, Bd.zero (by decide), by decide, trivial, ?_⟩
        rw [pj_ge (by omega)] at ep
        dsimp only
        rw [Rat.mul_assoc, ← prodL_take ep]
        exact hG _ ⟨hj', _, rfl⟩
    · rintro ρ ⟨_, x7, rfl⟩
      rw [List.length_map]
      have et : (psL (kat ks i).2 ss).take ss.length = psL (kat ks i).2 ss := List.take_of_length_le (by unfold psL; rw [List.length_map]; exact Nat.le_refl _)
      rw [et]
      simp only [iRan3, pInD, List.any_cons, List.any_nil, sRaise, eTold, sSeq, sSeqN, sRetO, sTupA, tupGo, sSet, sOwn, sAsg, sPar, sPar3, slOf, sRet, sExpr, sIf, sApp, sPut, sFrz, sAugI, eVar, eVarB, eC, eOp, tOpD, eNeg, eNot, eChain, eAnd, eOr, tV, tN, tA, tO, aNil, aCons, aStar, eTup, eLst, eLen, eTuple, eList, eAbs, eInt, eGcd, eIsI, eIsI2, eCall, eCallR, gVa, gNil', gCons', gTup', eSlT, eSlL, eRevL, oNone, oSome, e2I, eSum, eMaxL, eMaxT, eAllI, eAnyI, eAllG, eAnyG, eAnyT, eSumG, eTupG, tT, List.isEmpty_cons, List.isEmpty_nil, pI, pI0, pAdd, pCat, pMul, pMulB, pEq, pNe, pIs, pIsNot, pIx, pRepL, List.getElem?_cons_zero, List.getElem?_cons_succ, List.set_cons_zero, List.set_cons_succ, startR, List.map_cons, List.map_nil, List.cons_append, List.nil_append, List.length_cons, List.length_nil, List.replicate_succ, List.replicate_zero, Nat.add_sub_cancel, Nat.reduceAdd, Nat.reduceSub, Nat.reduceLeDiff, if_true, if_false, ite_true, ite_false, reduceIte, true_and, and_true, is_non_int, is_non_bool, is_non_tuple, is_non_list, is_non_str, is_bl_int, is_bl_bool, is_bl_tuple, is_bl_list, is_bl_str, is_int_int, is_int_bool, is_int_tuple, is_int_list, is_int_str, is_str_int, is_str_bool, is_str_tuple, is_str_list, is_str_str, is_tup_int, is_tup_bool, is_tup_tuple, is_tup_list, is_tup_str, is_lst_int, is_lst_bool, is_lst_tuple, is_lst_list, is_lst_str, spIsIntD_eq, isInt_int, spBetD_eq, bet_int, Nat.sub_self, Bool.false_eq_true, if_pos trivial, atI_0, atI_1, atI_2, atI_3, atI_4, atI_5, atI_6, ex_some, cap0, cap1, cap2, cap3, cap4, cap5, cap6, cap7, cap8, cap10, deq_int, iAny, iRan1, iRan2, iRev', iRevR1, iEnuA, iZip', sFor, eLc, wipeR, tTrue, pInG, eSum2, forall_eq, ne_eq, Bool.not_true, Bool.not_false, decide_true, decide_false]
      rw [rl_len]
      exact ⟨by show _ ≤ 1000000; omega, by rw [show kc ks i * prodL (psL (kat ks i).2 ss) = ka ks ss i from rfl, ← rl_succ]; exact hF _ ⟨hi', _, _, _, _, _, rfl⟩⟩
  · rintro ρ ⟨_, x4, x5, x6, x7, x8, rfl⟩
    rw [List.length_map]
    simp only [iRan3, pInD, List.any_cons, List.any_nil, sRaise, eTold, sSeq, sSeqN, sRetO, sTupA, tupGo, sSet, sOwn, sAsg, sPar, sPar3, slOf, sRet, sExpr, sIf, sApp, sPut, sFrz, sAugI, eVar, eVarB, eC, eOp, tOpD, eNeg, eNot, eChain, eAnd, eOr, tV, tN, tA, tO, eIf, aNil, aCons, aStar, eTup, eLst, eLen, eTuple, eList, eAbs, eInt, eGcd, eIsI, eIsI2, eCall, eCallR, gVa, gNil', gCons', gTup', eSlT, eSlL, eRevL, oNone, oSome, e2I, eSum, eMaxL, eMaxT, eAllI, eAnyI, eAllG, eAnyG, eAnyT, eSumG, eTupG, tT, List.isEmpty_cons, List.isEmpty_nil, pI, pI0, pAdd, pCat, pMul, pMulB, pEq, pNe, pIs, pIsNot, pIx, pRepL, List.getElem?_cons_zero, List.getElem?_cons_succ, List.set_cons_zero, List.set_cons_succ, startR, List.map_cons, List.map_nil, List.cons_append, List.nil_append, List.length_cons, List.length_nil, List.replicate_succ, List.replicate_zero, Nat.add_sub_cancel, Nat.reduceAdd, Nat.reduceSub, Nat.reduceLeDiff, if_true, if_false, ite_true, ite_false, reduceIte, true_and, and_true, is_non_int, is_non_bool, is_non_tuple, is_non_list, is_non_str, is_bl_int, is_bl_bool, is_bl_tuple, is_bl_list, is_bl_str, is_int_int, is_int_bool, is_int_tuple, is_int_list, is_int_str, is_str_int, is_str_bool, is_str_tuple, is_str_list, is_str_str, is_tup_int, is_tup_bool, is_tup_tuple, is_tup_list, is_tup_str, is_lst_int, is_lst_bool, is_lst_tuple, is_lst_list, is_lst_str, spIsIntD_eq, isInt_int, spBetD_eq, bet_int, Nat.sub_self, Bool.false_eq_true, if_pos trivial, atI_0, atI_1, atI_2, atI_3, atI_4, atI_5, atI_6, ex_some, cap0, cap1, cap2, cap3, cap4, cap5, cap6, cap7, cap8, cap10, deq_int, iAny, iRan1, iRan2, iRev', iRevR1, iEnuA, iZip', sFor, eLc, wipeR, tTrue, pInG, eSum2, forall_eq, ne_eq, Bool.not_true, Bool.not_false, decide_true, decide_false]
    exact q
abbrev s_law_plus : Stmt := topS 45
abbrev N_law_plus : List Str := ["one", "other"]
theorem sc_law_plus : FnScope N_law_plus ["one", "other"] (defScope s_law_plus) := ⟨rfl, rfl, rfl, by decide +kernel, rfl, by decide +kernel, by decide +kernel⟩
theorem has_law_plus (d : Df K mg "_law_plus" s_law_plus ["one", "other"]) (h_law_ratio : HasD P w K mg base T k "_law_ratio" ["top", "bottom"] spMakeD) : HasD P w K mg base T (k + 1) "_law_plus" ["one", "other"] spPlusD := by
  refine d.hasD sc_law_plus (fun ds Q E ⟨_, _, _, _, h, _⟩ => by rw [h]; rfl) (fun f cdv A outer s H E hr po => (b_one (s_ret (d_call h_law_ratio hr (a_cons (d_op o_add opd_add (d_op o_mul opd_mul (d_ix (d_var 0) d_int) (d_ix (d_var 1) d_int)) (d_op o_mul opd_mul (d_ix (d_var 1) d_int) (d_ix (d_var 0) d_int))) (a_cons (d_op o_mul opd_mul (d_ix (d_var 0) d_int) (d_ix (d_var 1) d_int)) a_nil)))))) ?_
  rintro ds Q E ⟨a, b, n, m, rfl, ba, bb, hl, -, q⟩
  refine ⟨[.va (dR a), .va (dR b)], rfl, ?_⟩
  simp only [dR]
  simp only [iRan3, pInD, List.any_cons, List.any_nil, sRaise, eTold, sSeq, sSeqN, sRetO, sTupA, tupGo, sSet, sOwn, sAsg, sPar, sPar3, slOf, sRet, sExpr, sIf, sApp, sPut, sFrz, sAugI, eVar, eVarB, eC, eOp, tOpD, eNeg, eNot, eChain, eAnd, eOr, tV, tN, tA, tO, eIf, aNil, aCons, aStar, eTup, eLst, eLen, eTuple, eList, eAbs, eInt, eGcd, eIsI, eIsI2, eCall, eCallR, gVa, gNil', gCons', gTup', eSlT, eSlL, eRevL, oNone, oSome, e2I, eSum, eMaxL, eMaxT, eAllI, eAnyI, eAllG, eAnyG, eAnyT, eSumG, eTupG, tT, List.isEmpty_cons, List.isEmpty_nil, pI, pI0, pAdd, pCat, pMul, pMulB, pEq, pNe, pIs, pIsNot, pIx, pRepL, List.getElem?_cons_zero, List.getElem?_cons_succ, List.set_cons_zero, List.set_cons_succ, startR, List.map_cons, List.map_nil, List.cons_append, List.nil_append, List.length_cons, List.length_nil, List.replicate_succ, List.replicate_zero, Nat.add_sub_cancel, Nat.reduceAdd, Nat.reduceSub, Nat.reduceLeDiff, if_true, if_false, ite_true, ite_false, reduceIte, true_and, and_true, is_non_int, is_non_bool, is_non_tuple, is_non_list, is_non_str, is_bl_int, is_bl_bool, is_bl_tuple, is_bl_list, is_bl_str, is_int_int, is_int_bool, is_int_tuple, is_int_list, is_int_str, is_str_int, is_str_bool, is_str_tuple, is_str_list, is_str_str, is_tup_int, is_tup_bool, is_tup_tuple, is_tup_list, is_tup_str, is_lst_int, is_lst_bool, is_lst_tuple, is_lst_list, is_lst_str, spIsIntD_eq, isInt_int, spBetD_eq, bet_int, Nat.sub_self, Bool.false_eq_true, if_pos trivial, atI_0, atI_1, atI_2, atI_3, atI_4, atI_5, atI_6, ex_some, cap0, cap1, cap2, cap3, cap4, cap5, cap6, cap7, cap8, cap10, deq_int, iAny, iRan1, iRan2, iRev', iRevR1, iEnuA, iZip', sFor, eLc, wipeR, tTrue, pInG, eSum2, forall_eq, ne_eq, Bool.not_true, Bool.not_false, decide_true, decide_false]
  refine ⟨cmul (a := n) (b := m) ba.1 (by exact bb.2) (by omega), cmul (a := m) (b := n) bb.1 (by exact ba.2) (by omega), cmul (a := n) (b := m) (by exact ba.2) (by exact bb.2) (by omega), _, _, n + m + 1, rfl, dens_ne a b, (add_parts ba bb).2, by omega, ?_⟩
  rw [add_eq_divInt]
  exact q
abbrev s_law_sum : Stmt := topS 47
abbrev N_law_sum : List Str := ["some", "found", "one"]
theorem sc_law_sum : FnScope N_law_sum ["some"] (defScope s_law_sum) := ⟨rfl, rfl, rfl, by decide +kernel, rfl, by decide +kernel, by decide +kernel⟩
theorem has_law_sum (d : Df K mg "_law_sum" s_law_sum ["some"]) (h_law_plus : HasD P w K mg base T k "_law_plus" ["one", "other"] spPlusD) : HasD P w K mg base T (k + 1) "_law_sum" ["some"] spTotalD := by
  refine d.hasD sc_law_sum (fun ds Q E ⟨_, _, _, h, _⟩ => by rw [h]; rfl) (fun f cdv A outer s H E hr po => (b_cons (s_set (i := 1) sc_law_sum.nd (d_tup (a_cons d_int (a_cons d_int a_nil))))
      (b_cons (s_for po rfl (i_any (d_var 0)) (g_name 2 sc_law_sum.nd) (b_one (s_set (i := 1) sc_law_sum.nd (d_call h_law_plus hr (a_cons (d_var 1) (a_cons (d_var 2) a_nil))))))
      (b_one (s_ret (d_var 1)))))) ?_
  rintro ds Q E ⟨rs, n, c, rfl, hc, ⟨hb, hs⟩, hn, q⟩
  refine ⟨[.va c, .un, .un], rfl, ?_⟩
  rcases hc with rfl | rfl
  all_goals
    simp only [iRan3, pInD, List.any_cons, List.any_nil, sRaise, eTold, sSeq, sSeqN, sRetO, sTupA, tupGo, sSet, sOwn, sAsg, sPar, sPar3, slOf, sRet, sExpr, sIf, sApp, sPut, sFrz, sAugI, eVar, eVarB, eC, eOp, tOpD, eNeg, eNot, eChain, eAnd, eOr, tV, tN, tA, tO, eIf, aNil, aCons, aStar, eTup, eLst, eLen, eTuple, eList, eAbs, eInt, eGcd, eIsI, eIsI2, eCall, eCallR, gVa, gNil', gCons', gTup', eSlT, eSlL, eRevL, oNone, oSome, e2I, eSum, eMaxL, eMaxT, eAllI, eAnyI, eAllG, eAnyG, eAnyT, eSumG, eTupG, tT, List.isEmpty_cons, List.isEmpty_nil, pI, pI0, pAdd, pCat, pMul, pMulB, pEq, pNe, pIs, pIsNot, pIx, pRepL, List.getElem?_cons_zero, List.getElem?_cons_succ, List.set_cons_zero, List.set_cons_succ, startR, List.map_cons, List.map_nil, List.cons_append, List.nil_append, List.length_cons, List.length_nil, List.replicate_succ, List.replicate_zero, Nat.add_sub_cancel, Nat.reduceAdd, Nat.reduceSub, Nat.reduceLeDiff, if_true, if_false, ite_true, ite_false, reduceIte, true_and, and_true, is_non_int, is_non_bool, is_non_tuple, is_non_list, is_non_str, is_bl_int, is_bl_bool, is_bl_tuple, is_bl_list, is_bl_str, is_int_int, is_int_bool, is_int_tuple, is_int_list, is_int_str, is_str_int, is_str_bool, is_str_tuple, is_str_list, is_str_str, is_tup_int, is_tup_bool, is_tup_tuple, is_tup_list, is_tup_str, is_lst_int, is_lst_bool, is_lst_tuple, is_lst_list, is_lst_str, spIsIntD_eq, isInt_int, spBetD_eq, bet_int, Nat.sub_self, Bool.false_eq_true, if_pos trivial, atI_0, atI_1, atI_2, atI_3, atI_4, atI_5, atI_6, ex_some, cap0, cap1, cap2, cap3, cap4, cap5, cap6, cap7, cap8, cap10, deq_int, iAny, iRan1, iRan2, iRev', iRevR1, iEnuA, iZip', sFor, eLc, wipeR, tTrue, pInG, eSum2, forall_eq, ne_eq, Bool.not_true, Bool.not_false, decide_true, decide_false]
    refine for_nat (fun i ρ => ∃ x, ρ = [.va _, .va (dR (rs.take i).sum), x]) ⟨_, rfl⟩ ?_ ?_
    · rintro i d ρ F hd ⟨x, rfl⟩ hF
      obtain ⟨r, hr, rfl⟩ := dRs_at hd
      simp only [iRan3, pInD, List.any_cons, List.any_nil, sRaise, eTold, sSeq, sSeqN, sRetO, sTupA, tupGo, sSet, sOwn, sAsg, sPar, sPar3, slOf, sRet, sExpr, sIf, sApp, sPut, sFrz, sAugI, eVar, eVarB, eC, eOp, tOpD, eNeg, eNot, eChain, eAnd, eOr, tV, tN, tA, tO, eIf, aNil, aCons, aStar, eTup, eLst, eLen, eTuple, eList, eAbs, eInt, eGcd, eIsI, eIsI2, eCall, eCallR, gVa, gNil', gCons', gTup', eSlT, eSlL, eRevL, oNone, oSome, e2I, eSum, eMaxL, eMaxT, eAllI, eAnyI, eAllG, eAnyG, eAnyT, eSumG, eTupG, tT, List.isEmpty_cons, List.isEmpty_nil, pI, pI0, pAdd, pCat, pMul, pMulB, pEq, pNe, pIs, pIsNot, pIx, pRepL, List.getElem?_cons_zero, List.getElem?_cons_succ, List.set_cons_zero, List.set_cons_succ, startR, List.map_cons, List.map_nil, List.cons_append, List.nil_append, List.length_cons, List.length_nil, List.replicate_succ, List.replicate_zero, Nat.add_sub_cancel, Nat.reduceAdd, Nat.reduceSub, Nat.reduceLeDiff, if_true, if_false, ite_true, ite_false, reduceIte, true_and, and_true, is_non_int, is_non_bool, is_non_tuple, is_non_list, is_non_str, is_bl_int, is_bl_bool, is_bl_tuple, is_bl_list, is_bl_str, is_int_int, is_int_bool, is_int_tuple, is_int_list, is_int_str, is_str_int, is_str_bool, is_str_tuple, is_str_list, is_str_str, is_tup_int, is_tup_bool, is_tup_tuple, is_tup_list, is_tup_str, is_lst_int, is_lst_bool, is_lst_tuple, is_lst_list, is_lst_str, spIsIntD_eq, isInt_int, spBetD_eq, bet_int, Nat.sub_self, Bool.false_eq_true, if_pos trivial, atI_0, atI_1, atI_2, atI_3, atI_4, atI_5, atI_6, ex_some, cap0, cap1, cap2, cap3, cap4, cap5, cap6, cap7, cap8, cap10, deq_int, iAny, iRan1, iRan2, iRev', iRevR1, iEnuA, iZip', sFor, eLc, wipeR, tTrue, pInG, eSum2, forall_eq, ne_eq, Bool.not_true, Bool.not_false, decide_true, decide_false]
      have hi : i < rs.length := (List.getElem?_eq_some_iff.mp hr).1
      exact ⟨_, _, n, n, rfl, hs i (by omega), hb r (List.mem_of_getElem? hr), by omega, trivial, hF _ ⟨_, by rw [take_succ_sum hr]⟩⟩
    · rintro ρ ⟨x, rfl⟩
      simp only [iRan3, pInD, List.any_cons, List.any_nil, sRaise, eTold, sSeq, sSeqN, sRetO, sTupA, tupGo, sSet, sOwn, sAsg, sPar, sPar3, slOf, sRet, sExpr, sIf, sApp, sPut, sFrz, sAugI, eVar, eVarB, eC, eOp, tOpD, eNeg, eNot, eChain, eAnd, eOr, tV, tN, tA, tO, eIf, aNil, aCons, aStar, eTup, eLst, eLen, eTuple, eList, eAbs, eInt, eGcd, eIsI, eIsI2, eCall, eCallR, gVa, gNil', gCons', gTup', eSlT, eSlL, eRevL, oNone, oSome, e2I, eSum, eMaxL, eMaxT, eAllI, eAnyI, eAllG, eAnyG, eAnyT, eSumG, eTupG, tT, List.isEmpty_cons, List.isEmpty_nil, pI, pI0, pAdd, pCat, pMul, pMulB, pEq, pNe, pIs, pIsNot, pIx, pRepL, List.getElem?_cons_zero, List.getElem?_cons_succ, List.set_cons_zero, List.set_cons_succ, startR, List.map_cons, List.map_nil, List.cons_append, List.nil_append, List.length_cons, List.length_nil, List.replicate_succ, List.replicate_zero, Nat.add_sub_cancel, Nat.reduceAdd, Nat.reduceSub, Nat.reduceLeDiff, if_true, if_false, ite_true, ite_false, reduceIte, true_and, and_true, is_non_int, is_non_bool, is_non_tuple, is_non_list, is_non_str, is_bl_int, is_bl_bool, is_bl_tuple, is_bl_list, is_bl_str, is_int_int, is_int_bool, is_int_tuple, is_int_list, is_int_str, is_str_int, is_str_bool, is_str_tuple, is_str_list, is_str_str, is_tup_int, is_tup_bool, is_tup_tuple, is_tup_list, is_tup_str, is_lst_int, is_lst_bool, is_lst_tuple, is_lst_list, is_lst_str, spIsIntD_eq, isInt_int, spBetD_eq, bet_int, Nat.sub_self, Bool.false_eq_true, if_pos trivial, atI_0, atI_1, atI_2, atI_3, atI_4, atI_5, atI_6, ex_some, cap0, cap1, cap2, cap3, cap4, cap5, cap6, cap7, cap8, cap10, deq_int, iAny, iRan1, iRan2, iRev', iRevR1, iEnuA, iZip', sFor, eLc, wipeR, tTrue, pInG, eSum2, forall_eq, ne_eq, Bool.not_true, Bool.not_false, decide_true, decide_false]
      have e : (dRs rs).length = rs.length := by simp [dRs]
      rw [e, List.take_length]
      exact q
abbrev s_law_mean : Stmt := topS 53
abbrev N_law_mean : List Str := ["claims", "k"]
theorem sc_law_mean : FnScope N_law_mean ["claims"] (defScope s_law_mean) := ⟨rfl, rfl, rfl, by decide +kernel, rfl, by decide +kernel, by decide +kernel⟩
theorem has_law_mean (d : Df K mg "_law_mean" s_law_mean ["claims"]) (h_law_by : HasD P w K mg base T k "_law_by" ["one", "other"] spMulD) (h_law_chances : HasD P w K mg base T k "_law_chances" ["claims"] spChsD) (h_law_sum : HasD P w K mg base T k "_law_sum" ["some"] spTotalD) (z_range : mg "range" = none) (z_len : mg "len" = none) : HasD P w K mg base T (k + 1) "_law_mean" ["claims"] spMn3D := by
  refine d.hasD sc_law_mean (fun ds Q E ⟨_, h, _⟩ => by rw [h]; rfl) (fun f cdv A outer s H E hr po => (b_one (s_ret (d_call h_law_sum hr (a_cons (PD.fr (d_lc (own := [("k", 1)]) rfl sc_law_mean.nd (i_range1 z_range (d_len z_len (d_var 0))) (blkOk_by (N := N_law_mean) (sc := defScope s_law_mean) (by decide +kernel)) (fun _ _ _ _ _ => (g_name 1 sc_law_mean.nd)) (fun _ _ _ _ _ => ifs_nil) (fun _ _ _ _ _ => (d_call h_law_by hr (a_cons (d_tup (a_cons (d_var 1) (a_cons d_int a_nil))) (a_cons (d_ix (d_call h_law_chances hr (a_cons (d_var 0) a_nil)) (d_var 1)) a_nil)))))) a_nil))))) ?_
  rintro ds Q E ⟨ws, rfl, h, hl, q⟩
  refine ⟨[.va (.tup (ws.map D.int)), .un], rfl, ?_⟩
  simp only [iRan3, pInD, List.any_cons, List.any_nil, sRaise, eTold, sSeq, sSeqN, sRetO, sTupA, tupGo, sSet, sOwn, sAsg, sPar, sPar3, slOf, sRet, sExpr, sIf, sApp, sPut, sFrz, sAugI, eVar, eVarB, eC, eOp, tOpD, eNeg, eNot, eChain, eAnd, eOr, tV, tN, tA, tO, eIf, aNil, aCons, aStar, eTup, eLst, eLen, eTuple, eList, eAbs, eInt, eGcd, eIsI, eIsI2, eCall, eCallR, gVa, gNil', gCons', gTup', eSlT, eSlL, eRevL, oNone, oSome, e2I, eSum, eMaxL, eMaxT, eAllI, eAnyI, eAllG, eAnyG, eAnyT, eSumG, eTupG, tT, List.isEmpty_cons, List.isEmpty_nil, pI, pI0, pAdd, pCat, pMul, pMulB, pEq, pNe, pIs, pIsNot, pIx, pRepL, List.getElem?_cons_zero, List.getElem?_cons_succ, List.set_cons_zero, List.set_cons_succ, startR, List.map_cons, List.map_nil, List.cons_append, List.nil_append, List.length_cons, List.length_nil, List.replicate_succ, List.replicate_zero, Nat.add_sub_cancel, Nat.reduceAdd, Nat.reduceSub, Nat.reduceLeDiff, if_true, if_false, ite_true, ite_false, reduceIte, true_and, and_true, is_non_int, is_non_bool, is_non_tuple, is_non_list, is_non_str, is_bl_int, is_bl_bool, is_bl_tuple, is_bl_list, is_bl_str, is_int_int, is_int_bool, is_int_tuple, is_int_list, is_int_str, is_str_int, is_str_bool, is_str_tuple, is_str_list, is_str_str, is_tup_int, is_tup_bool, is_tup_tuple, is_tup_list, is_tup_str, is_lst_int, is_lst_bool, is_lst_tuple, is_lst_list, is_lst_str, spIsIntD_eq, isInt_int, spBetD_eq, bet_int, Nat.sub_self, Bool.false_eq_true, if_pos trivial, atI_0, atI_1, atI_2, atI_3, atI_4, atI_5, atI_6, ex_some, cap0, cap1, cap2, cap3, cap4, cap5, cap6, cap7, cap8, cap10, deq_int, iAny, iRan1, iRan2, iRev', iRevR1, iEnuA, iZip', sFor, eLc, wipeR, tTrue, pInG, eSum2, forall_eq, ne_eq, Bool.not_true, Bool.not_false, decide_true, decide_false]
  rw [List.length_map]
  refine ⟨by omega, ?_⟩
  rw [Int.toNat_natCast]
  refine lc_map (fun j => dR (((j : Int) : Rat) * pj ws j)) (by rw [rangeD_len]; show _ ≤ 1000000; omega) ?_ ?_
  · intro j d F hd hF
    obtain ⟨hj, rfl⟩ := range_at hd
    rw [Int.zero_add]
    simp only [iRan3, pInD, List.any_cons, List.any_nil, sRaise, eTold, sSeq, sSeqN, sRetO, sTupA, tupGo, sSet, sOwn, sAsg, sPar, sPar3, slOf, sRet, sExpr, sIf, sApp, sPut, sFrz, sAugI, eVar, eVarB, eC, eOp, tOpD, eNeg, eNot, eChain, eAnd, eOr, tV, tN, tA, tO, eIf, aNil, aCons, aStar, eTup, eLst, eLen, eTuple, eList, eAbs, eInt, eGcd, eIsI, eIsI2, eCall, eCallR, gVa, gNil', gCons', gTup', eSlT, eSlL, eRevL, oNone, oSome, e2I, eSum, eMaxL, eMaxT, eAllI, eAnyI, eAllG, eAnyG, eAnyT, eSumG, eTupG, tT, List.isEmpty_cons, List.isEmpty_nil, pI, pI0, pAdd, pCat, pMul, pMulB, pEq, pNe, pIs, pIsNot, pIx, pRepL, List.getElem?_cons_zero, List.getElem?_cons_succ, List.set_cons_zero, List.set_cons_succ, startR, List.map_cons, List.map_nil, List.cons_append, List.nil_append, List.length_cons, List.length_nil, List.replicate_succ, List.replicate_zero, Nat.add_sub_cancel, Nat.reduceAdd, Nat.reduceSub, Nat.reduceLeDiff, if_true, if_false, ite_true, ite_false, reduceIte, true_and, and_true, is_non_int, is_non_bool, is_non_tuple, is_non_list, is_non_str, is_bl_int, is_bl_bool, is_bl_tuple, is_bl_list, is_bl_str, is_int_int, is_int_bool, is_int_tuple, is_int_list, is_int_str, is_str_int, is_str_bool, is_str_tuple, is_str_list, is_str_str, is_tup_int, is_tup_bool, is_tup_tuple, is_tup_list, is_tup_str, is_lst_int, is_lst_bool, is_lst_tuple, is_lst_list, is_lst_str, spIsIntD_eq, isInt_int, spBetD_eq, bet_int, Nat.sub_self, Bool.false_eq_true, if_pos trivial, atI_0, atI_1, atI_2, atI_3, atI_4, atI_5, atI_6, ex_some, cap0, cap1, cap2, cap3, cap4, cap5, cap6, cap7, cap8, cap10, deq_int, iAny, iRan1, iRan2, iRev', iRevR1, iEnuA, iZip', sFor, eLc, wipeR, tTrue, pInG, eSum2, forall_eq, ne_eq, Bool.not_true, Bool.not_false, decide_true, decide_false]
    refine ⟨ws, rfl, h, by omega, ?_⟩
    refine ⟨_, chs_atI hj, ?_⟩
    exact ⟨((j : Int) : Rat), pj ws j, 20, 14, by rw [dR_int], Bd.int (by show _ < 1048576; omega) (by decide), pj_bd h hl j, by decide, trivial, hF⟩
  · rw [rangeD_len]
    have e : (List.range ws.length).map (fun j : Nat => dR (((j : Int) : Rat) * pj ws j)) = dRs ((List.range ws.length).map fun j : Nat => ((j : Int) : Rat) * pj ws j) := rl_eq (fun j => ((j : Int) : Rat) * pj ws j) ws.length
    rw [e]
    refine ⟨_, _, _, rfl, .inl rfl, sumBd_of (b := 34) (m := 3) (fun r hr => ?_) (by rw [List.length_map, List.length_range]; exact hl), by decide, ?_⟩
    · obtain ⟨j, hj, rfl⟩ := List.mem_map.mp hr
      have hj' := List.mem_range.mp hj
      exact (Bd.int (i := (j : Int)) (n := 20) (by show _ < 1048576; omega) (by decide)).mul (pj_bd h hl j)
    · rw [rs_sum]
      have e3 : rs (fun j => ((j : Int) : Rat) * pj ws j) ws.length = mn ws := by
        unfold mn s1
        rw [chs_len]
        rfl
      rw [e3]
      exact q
abbrev s_law_alike : Stmt := topS 43
abbrev N_law_alike : List Str := ["found", "due", "k"]
theorem sc_law_alike : FnScope N_law_alike ["found", "due"] (defScope s_law_alike) := ⟨rfl, rfl, rfl, by decide +kernel, rfl, by decide +kernel, by decide +kernel⟩
theorem has_law_alike (d : Df K mg "_law_alike" s_law_alike ["found", "due"]) (z_isinstance : mg "isinstance" = none) (z_tuple : mg "tuple" = none) (z_list : mg "list" = none) (z_len : mg "len" = none) (z_range : mg "range" = none) (z_str : mg "str" = none) (z_int : mg "int" = none) (z_bool : mg "bool" = none) : ∀ n, HasD P w K mg base T (k + n) "_law_alike" ["found", "due"] (spAlikeD n) := by
  intro n
  induction n with
  | zero =>
    obtain ⟨f, fd, F, m, b⟩ := d.ex
    have no : ∀ d, ¬ D.okD 0 d = true := fun d h => by cases d <;> simp [D.okD] at h
    exact ⟨f, fd, ⟨fun vs H Q E ⟨ds, F, _, _, _, _, _, _, ⟨d, _, h, _⟩, _⟩ => absurd h (no d), fun A outer s H args us vs Q E _ _ _ _ ⟨ds, F, _, _, _, _, _, _, ⟨d, _, h, _⟩, _⟩ => absurd h (no d)⟩, m, F.kp, b⟩
  | succ n ih =>
    have h_law_alike := ih
    refine d.hasD sc_law_alike (fun ds Q E ⟨_, h, _⟩ => by rw [h]; rfl) (fun f cdv A outer s H E hr po => (b_cons (s_if (t_val (d_isi2 (T := "tuple") (U := "list") z_isinstance z_tuple z_list (d_var 1))) (b_cons (s_if (t_w (w_or (t_not (t_val (d_isi2 (T := "tuple") (U := "list") z_isinstance z_tuple z_list (d_var 0)))) (w_or1 (t_cmp (op_neD (hu64 hr)) opd_ne (d_isi (T := "list") z_isinstance z_list (d_var 0)) (d_isi (T := "list") z_isinstance z_list (d_var 1)))))) (b_one (s_ret d_bl)) b_nil)
      (b_cons (s_if (t_cmp (op_neD (hu64 hr)) opd_ne (d_len z_len (d_var 0)) (d_len z_len (d_var 1))) (b_one (s_ret d_bl)) b_nil)
      (b_one (s_ret (d_cmp (op_eqD (hu64 hr)) opd_eq (d_lc (own := [("k", 2)]) rfl sc_law_alike.nd (i_range1 z_range (d_len z_len (d_var 1))) (blkOk_by (N := N_law_alike) (sc := defScope s_law_alike) (by decide +kernel)) (fun _ _ _ _ _ => (g_name 2 sc_law_alike.nd)) (fun _ _ _ _ _ => (ifs_one (t_not (t_val (d_call h_law_alike hr (a_cons (d_ix (d_var 0) (d_var 2)) (a_cons (d_ix (d_var 1) (d_var 2)) a_nil))))))) (fun _ _ _ _ _ => (d_var 2))) (d_lst a_nil)))))) b_nil)
      (b_cons (s_if (t_w (w_or (t_cmp op_isN opd_is (d_var 1) d_non) (w_or1 (t_val (d_isi (T := "str") z_isinstance z_str (d_var 1)))))) (b_one (s_ret (d_and (d_cmp (op_eqD (hu64 hr)) opd_eq (d_var 0) (d_var 1)) (d_one (d_cmp (op_eqD (hu64 hr)) opd_eq (d_isi (T := "str") z_isinstance z_str (d_var 0)) (d_isi (T := "str") z_isinstance z_str (d_var 1))))))) b_nil)
      (b_one (s_ret (d_and (d_isi (T := "int") z_isinstance z_int (d_var 0)) (d_and (d_cmp (op_eqD (hu64 hr)) opd_eq (d_isi (T := "bool") z_isinstance z_bool (d_var 0)) (d_isi (T := "bool") z_isinstance z_bool (d_var 1))) (d_one (d_cmp (op_eqD (hu64 hr)) opd_eq (d_var 0) (d_var 1)))))))))) ?_
    rintro ds Q E ⟨c, rfl, hc, q⟩
    refine ⟨[.va c, .va c, .un], rfl, ?_⟩
    have bb : ∀ a : Bool, deq (.bl a) (.bl a) = true := fun a => by cases a <;> rfl
    have ss : ∀ a : Bool, shp (.bl a) = true := fun a => rfl
    cases c with
    | tup xs =>
      simp only [D.okD, Bool.and_eq_true, decide_eq_true_eq] at hc
      simp only [iRan3, pInD, List.any_cons, List.any_nil, sRaise, eTold, sSeq, sSeqN, sRetO, sTupA, tupGo, sSet, sOwn, sAsg, sPar, sPar3, slOf, sRet, sExpr, sIf, sApp, sPut, sFrz, sAugI, eVar, eVarB, eC, eOp, tOpD, eNeg, eNot, eChain, eAnd, eOr, tV, tN, tA, tO, eIf, aNil, aCons, aStar, eTup, eLst, eLen, eTuple, eList, eAbs, eInt, eGcd, eIsI, eIsI2, eCall, eCallR, gVa, gNil', gCons', gTup', eSlT, eSlL, eRevL, oNone, oSome, e2I, eSum, eMaxL, eMaxT, eAllI, eAnyI, eAllG, eAnyG, eAnyT, eSumG, eTupG, tT, List.isEmpty_cons, List.isEmpty_nil, pI, pI0, pAdd, pCat, pMul, pMulB, pEq, pNe, pIs, pIsNot, pIx, pRepL, List.getElem?_cons_zero, List.getElem?_cons_succ, List.set_cons_zero, List.set_cons_succ, startR, List.map_cons, List.map_nil, List.cons_append, List.nil_append, List.length_cons, List.length_nil, List.replicate_succ, List.replicate_zero, Nat.add_sub_cancel, Nat.reduceAdd, Nat.reduceSub, Nat.reduceLeDiff, if_true, if_false, ite_true, ite_false, reduceIte, true_and, and_true, is_non_int, is_non_bool, is_non_tuple, is_non_list, is_non_str, is_bl_int, is_bl_bool, is_bl_tuple, is_bl_list, is_bl_str, is_int_int, is_int_bool, is_int_tuple, is_int_list, is_int_str, is_str_int, is_str_bool, is_str_tuple, is_str_list, is_str_str, is_tup_int, is_tup_bool, is_tup_tuple, is_tup_list, is_tup_str, is_lst_int, is_lst_bool, is_lst_tuple, is_lst_list, is_lst_str, spIsIntD_eq, isInt_int, spBetD_eq, bet_int, Nat.sub_self, Bool.false_eq_true, if_pos trivial, atI_0, atI_1, atI_2, atI_3, atI_4, atI_5, atI_6, ex_some, cap0, cap1, cap2, cap3, cap4, cap5, cap6, cap7, cap8, cap10, deq_int, iAny, iRan1, iRan2, iRev', iRevR1, iEnuA, iZip', sFor, eLc, wipeR, tTrue, pInG, eSum2, forall_eq, ne_eq, Bool.not_true, Bool.not_false, decide_true, decide_false]
      simp only [bb, ss, shp_int, Bool.not_true, Bool.false_eq_true, if_false, Bool.or_self, Bool.or_true, Bool.or_false, and_self, true_and, decide_true]
      refine ⟨by omega, lc_nat (fun i acc => acc = []) rfl ?_ ?_⟩
      · rintro i e acc F hd rfl hF
        obtain ⟨hi, rfl⟩ := range_at hd
        simp only [iRan3, pInD, List.any_cons, List.any_nil, sRaise, eTold, sSeq, sSeqN, sRetO, sTupA, tupGo, sSet, sOwn, sAsg, sPar, sPar3, slOf, sRet, sExpr, sIf, sApp, sPut, sFrz, sAugI, eVar, eVarB, eC, eOp, tOpD, eNeg, eNot, eChain, eAnd, eOr, tV, tN, tA, tO, eIf, aNil, aCons, aStar, eTup, eLst, eLen, eTuple, eList, eAbs, eInt, eGcd, eIsI, eIsI2, eCall, eCallR, gVa, gNil', gCons', gTup', eSlT, eSlL, eRevL, oNone, oSome, e2I, eSum, eMaxL, eMaxT, eAllI, eAnyI, eAllG, eAnyG, eAnyT, eSumG, eTupG, tT, List.isEmpty_cons, List.isEmpty_nil, pI, pI0, pAdd, pCat, pMul, pMulB, pEq, pNe, pIs, pIsNot, pIx, pRepL, List.getElem?_cons_zero, List.getElem?_cons_succ, List.set_cons_zero, List.set_cons_succ, startR, List.map_cons, List.map_nil, List.cons_append, List.nil_append, List.length_cons, List.length_nil, List.replicate_succ, List.replicate_zero, Nat.add_sub_cancel, Nat.reduceAdd, Nat.reduceSub, Nat.reduceLeDiff, if_true, if_false, ite_true, ite_false, reduceIte, true_and, and_true, is_non_int, is_non_bool, is_non_tuple, is_non_list, is_non_str, is_bl_int, is_bl_bool, is_bl_tuple, is_bl_list, is_bl_str, is_int_int, is_int_bool, is_int_tuple, is_int_list, is_int_str, is_str_int, is_str_bool, is_str_tuple, is_str_list, is_str_str, is_tup_int, is_tup_bool, is_tup_tuple, is_tup_list, is_tup_str, is_lst_int, is_lst_bool, is_lst_tuple, is_lst_list, is_lst_str, spIsIntD_eq, isInt_int, spBetD_eq, bet_int, Nat.sub_self, Bool.false_eq_true, if_pos trivial, atI_0, atI_1, atI_2, atI_3, atI_4, atI_5, atI_6, ex_some, cap0, cap1, cap2, cap3, cap4, cap5, cap6, cap7, cap8, cap10, deq_int, iAny, iRan1, iRan2, iRev', iRevR1, iEnuA, iZip', sFor, eLc, wipeR, tTrue, pInG, eSum2, forall_eq, ne_eq, Bool.not_true, Bool.not_false, decide_true, decide_false]
        have hx : i < xs.length := by omega
        have ex : atI xs (0 + (i : Int)) = some xs[i] := by rw [Int.zero_add]; exact atI_nat (List.getElem?_eq_getElem hx)
        rw [ex]
        refine ⟨_, rfl, _, rfl, _, rfl, okDs_at hc.2 (List.getElem?_eq_getElem hx), ?_⟩
        simp only [Bool.not_true, Bool.false_eq_true, if_false]
        exact hF _ rfl
      · rintro acc rfl
        exact ⟨⟨rfl, rfl⟩, q⟩
    | lst xs =>
      simp only [D.okD, Bool.and_eq_true, decide_eq_true_eq] at hc
      simp only [iRan3, pInD, List.any_cons, List.any_nil, sRaise, eTold, sSeq, sSeqN, sRetO, sTupA, tupGo, sSet, sOwn, sAsg, sPar, sPar3, slOf, sRet, sExpr, sIf, sApp, sPut, sFrz, sAugI, eVar, eVarB, eC, eOp, tOpD, eNeg, eNot, eChain, eAnd, eOr, tV, tN, tA, tO, eIf, aNil, aCons, aStar, eTup, eLst, eLen, eTuple, eList, eAbs, eInt, eGcd, eIsI, eIsI2, eCall, eCallR, gVa, gNil', gCons', gTup', eSlT, eSlL, eRevL, oNone, oSome, e2I, eSum, eMaxL, eMaxT, eAllI, eAnyI, eAllG, eAnyG, eAnyT, eSumG, eTupG, tT, List.isEmpty_cons, List.isEmpty_nil, pI, pI0, pAdd, pCat, pMul, pMulB, pEq, pNe, pIs, pIsNot, pIx, pRepL, List.getElem?_cons_zero, List.getElem?_cons_succ, List.set_cons_zero, List.set_cons_succ, startR, List.map_cons, List.map_nil, List.cons_append, List.nil_append, List.length_cons, List.length_nil, List.replicate_succ, List.replicate_zero, Nat.add_sub_cancel, Nat.reduceAdd, Nat.reduceSub, Nat.reduceLeDiff, if_true, if_false, ite_true, ite_false, reduceIte, true_and, and_true, is_non_int, is_non_bool, is_non_tuple, is_non_list, is_non_str, is_bl_int, is_bl_bool, is_bl_tuple, is_bl_list, is_bl_str, is_int_int, is_int_bool, is_int_tuple, is_int_list, is_int_str, is_str_int, is_str_bool, is_str_tuple, is_str_list, is_str_str, is_tup_int, is_tup_bool, is_tup_tuple, is_tup_list, is_tup_str, is_lst_int, is_lst_bool, is_lst_tuple, is_lst_list, is_lst_str, spIsIntD_eq, isInt_int, spBetD_eq, bet_int, Nat.sub_self, Bool.false_eq_true, if_pos trivial, atI_0, atI_1, atI_2, atI_3, atI_4, atI_5, atI_6, ex_some, cap0, cap1, cap2, cap3, cap4, cap5, cap6, cap7, cap8, cap10, deq_int, iAny, iRan1, iRan2, iRev', iRevR1, iEnuA, iZip', sFor, eLc, wipeR, tTrue, pInG, eSum2, forall_eq, ne_eq, Bool.not_true, Bool.not_false, decide_true, decide_false]
      simp only [bb, ss, shp_int, Bool.not_true, Bool.false_eq_true, if_false, Bool.or_self, Bool.or_true, Bool.or_false, and_self, true_and, decide_true]
      refine ⟨by omega, lc_nat (fun i acc => acc = []) rfl ?_ ?_⟩
      · rintro i e acc F hd rfl hF
        obtain ⟨hi, rfl⟩ := range_at hd
        simp only [iRan3, pInD, List.any_cons, List.any_nil, sRaise, eTold, sSeq, sSeqN, sRetO, sTupA, tupGo, sSet, sOwn, sAsg, sPar, sPar3, slOf, sRet, sExpr, sIf, sApp, sPut, sFrz, sAugI, eVar, eVarB, eC, eOp, tOpD, eNeg, eNot, eChain, eAnd, eOr, tV, tN, tA, tO, eIf, aNil, aCons, aStar, eTup, eLst, eLen, eTuple, eList, eAbs, eInt, eGcd, eIsI, eIsI2, eCall, eCallR, gVa, gNil', gCons', gTup', eSlT, eSlL, eRevL, oNone, oSome, e2I, eSum, eMaxL, eMaxT, eAllI, eAnyI, eAllG, eAnyG, eAnyT, eSumG, eTupG, tT, List.isEmpty_cons, List.isEmpty_nil, pI, pI0, pAdd, pCat, pMul, pMulB, pEq, pNe, pIs, pIsNot, pIx, pRepL, List.getElem?_cons_zero, List.getElem?_cons_succ, List.set_cons_zero, List.set_cons_succ, startR, List.map_cons, List.map_nil, List.cons_append, List.nil_append, List.length_cons, List.length_nil, List.replicate_succ, List.replicate_zero, Nat.add_sub_cancel, Nat.reduceAdd, Nat.reduceSub, Nat.reduceLeDiff, if_true, if_false, ite_true, ite_false, reduceIte, true_and, and_true, is_non_int, is_non_bool, is_non_tuple, is_non_list, is_non_str, is_bl_int, is_bl_bool, is_bl_tuple, is_bl_list, is_bl_str, is_int_int, is_int_bool, is_int_tuple, is_int_list, is_int_str, is_str_int, is_str_bool, is_str_tuple, is_str_list, is_str_str, is_tup_int, is_tup_bool, is_tup_tuple, is_tup_list, is_tup_str, is_lst_int, is_lst_bool, is_lst_tuple, is_lst_list, is_lst_str, spIsIntD_eq, isInt_int, spBetD_eq, bet_int, Nat.sub_self, Bool.false_eq_true, if_pos trivial, atI_0, atI_1, atI_2, atI_3, atI_4, atI_5, atI_6, ex_some, cap0, cap1, cap2, cap3, cap4, cap5, cap6, cap7, cap8, cap10, deq_int, iAny, iRan1, iRan2, iRev', iRevR1, iEnuA, iZip', sFor, eLc, wipeR, tTrue, pInG, eSum2, forall_eq, ne_eq, Bool.not_true, Bool.not_false, decide_true, decide_false]
        have hx : i < xs.length := by omega
        have ex : atI xs (0 + (i : Int)) = some xs[i] := by rw [Int.zero_add]; exact atI_nat (List.getElem?_eq_getElem hx)
        rw [ex]
        refine ⟨_, rfl, _, rfl, _, rfl, okDs_at hc.2 (List.getElem?_eq_getElem hx), ?_⟩
        simp only [Bool.not_true, Bool.false_eq_true, if_false]
        exact hF _ rfl
      · rintro acc rfl
        exact ⟨⟨rfl, rfl⟩, q⟩
    | str s =>
      have hs : shp (.str s) = true := hc
      simp only [iRan3, pInD, List.any_cons, List.any_nil, sRaise, eTold, sSeq, sSeqN, sRetO, sTupA, tupGo, sSet, sOwn, sAsg, sPar, sPar3, slOf, sRet, sExpr, sIf, sApp, sPut, sFrz, sAugI, eVar, eVarB, eC, eOp, tOpD, eNeg, eNot, eChain, eAnd, eOr, tV, tN, tA, tO, eIf, aNil, aCons, aStar, eTup, eLst, eLen, eTuple, eList, eAbs, eInt, eGcd, eIsI, eIsI2, eCall, eCallR, gVa, gNil', gCons', gTup', eSlT, eSlL, eRevL, oNone, oSome, e2I, eSum, eMaxL, eMaxT, eAllI, eAnyI, eAllG, eAnyG, eAnyT, eSumG, eTupG, tT, List.isEmpty_cons, List.isEmpty_nil, pI, pI0, pAdd, pCat, pMul, pMulB, pEq, pNe, pIs, pIsNot, pIx, pRepL, List.getElem?_cons_zero, List.getElem?_cons_succ, List.set_cons_zero, List.set_cons_succ, startR, List.map_cons, List.map_nil, List.cons_append, List.nil_append, List.length_cons, List.length_nil, List.replicate_succ, List.replicate_zero, Nat.add_sub_cancel, Nat.reduceAdd, Nat.reduceSub, Nat.reduceLeDiff, if_true, if_false, ite_true, ite_false, reduceIte, true_and, and_true, is_non_int, is_non_bool, is_non_tuple, is_non_list, is_non_str, is_bl_int, is_bl_bool, is_bl_tuple, is_bl_list, is_bl_str, is_int_int, is_int_bool, is_int_tuple, is_int_list, is_int_str, is_str_int, is_str_bool, is_str_tuple, is_str_list, is_str_str, is_tup_int, is_tup_bool, is_tup_tuple, is_tup_list, is_tup_str, is_lst_int, is_lst_bool, is_lst_tuple, is_lst_list, is_lst_str, spIsIntD_eq, isInt_int, spBetD_eq, bet_int, Nat.sub_self, Bool.false_eq_true, if_pos trivial, atI_0, atI_1, atI_2, atI_3, atI_4, atI_5, atI_6, ex_some, cap0, cap1, cap2, cap3, cap4, cap5, cap6, cap7, cap8, cap10, deq_int, iAny, iRan1, iRan2, iRev', iRevR1, iEnuA, iZip', sFor, eLc, wipeR, tTrue, pInG, eSum2, forall_eq, ne_eq, Bool.not_true, Bool.not_false, decide_true, decide_false]
      simp only [hs, deq_refl, and_self, true_and, if_true]
      rw [if_neg (by decide)]
      split <;> exact ⟨rfl, q⟩
    | non =>
      simp only [iRan3, pInD, List.any_cons, List.any_nil, sRaise, eTold, sSeq, sSeqN, sRetO, sTupA, tupGo, sSet, sOwn, sAsg, sPar, sPar3, slOf, sRet, sExpr, sIf, sApp, sPut, sFrz, sAugI, eVar, eVarB, eC, eOp, tOpD, eNeg, eNot, eChain, eAnd, eOr, tV, tN, tA, tO, eIf, aNil, aCons, aStar, eTup, eLst, eLen, eTuple, eList, eAbs, eInt, eGcd, eIsI, eIsI2, eCall, eCallR, gVa, gNil', gCons', gTup', eSlT, eSlL, eRevL, oNone, oSome, e2I, eSum, eMaxL, eMaxT, eAllI, eAnyI, eAllG, eAnyG, eAnyT, eSumG, eTupG, tT, List.isEmpty_cons, List.isEmpty_nil, pI, pI0, pAdd, pCat, pMul, pMulB, pEq, pNe, pIs, pIsNot, pIx, pRepL, List.getElem?_cons_zero, List.getElem?_cons_succ, List.set_cons_zero, List.set_cons_succ, startR, List.map_cons, List.map_nil, List.cons_append, List.nil_append, List.length_cons, List.length_nil, List.replicate_succ, List.replicate_zero, Nat.add_sub_cancel, Nat.reduceAdd, Nat.reduceSub, Nat.reduceLeDiff, if_true, if_false, ite_true, ite_false, reduceIte, true_and, and_true, is_non_int, is_non_bool, is_non_tuple, is_non_list, is_non_str, is_bl_int, is_bl_bool, is_bl_tuple, is_bl_list, is_bl_str, is_int_int, is_int_bool, is_int_tuple, is_int_list, is_int_str, is_str_int, is_str_bool, is_str_tuple, is_str_list, is_str_str, is_tup_int, is_tup_bool, is_tup_tuple, is_tup_list, is_tup_str, is_lst_int, is_lst_bool, is_lst_tuple, is_lst_list, is_lst_str, spIsIntD_eq, isInt_int, spBetD_eq, bet_int, Nat.sub_self, Bool.false_eq_true, if_pos trivial, atI_0, atI_1, atI_2, atI_3, atI_4, atI_5, atI_6, ex_some, cap0, cap1, cap2, cap3, cap4, cap5, cap6, cap7, cap8, cap10, deq_int, iAny, iRan1, iRan2, iRev', iRevR1, iEnuA, iZip', sFor, eLc, wipeR, tTrue, pInG, eSum2, forall_eq, ne_eq, Bool.not_true, Bool.not_false, decide_true, decide_false]
      exact ⟨⟨rfl, rfl⟩, ⟨rfl, rfl⟩, q⟩
    | bl b =>
      simp only [iRan3, pInD, List.any_cons, List.any_nil, sRaise, eTold, sSeq, sSeqN, sRetO, sTupA, tupGo, sSet, sOwn, sAsg, sPar, sPar3, slOf, sRet, sExpr, sIf, sApp, sPut, sFrz, sAugI, eVar, eVarB, eC, eOp, tOpD, eNeg, eNot, eChain, eAnd, eOr, tV, tN, tA, tO, eIf, aNil, aCons, aStar, eTup, eLst, eLen, eTuple, eList, eAbs, eInt, eGcd, eIsI, eIsI2, eCall, eCallR, gVa, gNil', gCons', gTup', eSlT, eSlL, eRevL, oNone, oSome, e2I, eSum, eMaxL, eMaxT, eAllI, eAnyI, eAllG, eAnyG, eAnyT, eSumG, eTupG, tT, List.isEmpty_cons, List.isEmpty_nil, pI, pI0, pAdd, pCat, pMul, pMulB, pEq, pNe, pIs, pIsNot, pIx, pRepL, List.getElem?_cons_zero, List.getElem?_cons_succ, List.set_cons_zero, List.set_cons_succ, startR, List.map_cons, List.map_nil, List.cons_append, List.nil_append, List.length_cons, List.length_nil, List.replicate_succ, List.replicate_zero, Nat.add_sub_cancel, Nat.reduceAdd, Nat.reduceSub, Nat.reduceLeDiff, if_true, if_false, ite_true, ite_false, reduceIte, true_and, and_true, is_non_int, is_non_bool, is_non_tuple, is_non_list, is_non_str, is_bl_int, is_bl_bool, is_bl_tuple, is_bl_list, is_bl_str, is_int_int, is_int_bool, is_int_tuple, is_int_list, is_int_str, is_str_int, is_str_bool, is_str_tuple, is_str_list, is_str_str, is_tup_int, is_tup_bool, is_tup_tuple, is_tup_list, is_tup_str, is_lst_int, is_lst_bool, is_lst_tuple, is_lst_list, is_lst_str, spIsIntD_eq, isInt_int, spBetD_eq, bet_int, Nat.sub_self, Bool.false_eq_true, if_pos trivial, atI_0, atI_1, atI_2, atI_3, atI_4, atI_5, atI_6, ex_some, cap0, cap1, cap2, cap3, cap4, cap5, cap6, cap7, cap8, cap10, deq_int, iAny, iRan1, iRan2, iRev', iRevR1, iEnuA, iZip', sFor, eLc, wipeR, tTrue, pInG, eSum2, forall_eq, ne_eq, Bool.not_true, Bool.not_false, decide_true, decide_false]
      cases b <;> exact ⟨⟨rfl, rfl⟩, ⟨rfl, rfl⟩, q⟩
    | int i =>
      simp only [iRan3, pInD, List.any_cons, List.any_nil, sRaise, eTold, sSeq, sSeqN, sRetO, sTupA, tupGo, sSet, sOwn, sAsg, sPar, sPar3, slOf, sRet, sExpr, sIf, sApp, sPut, sFrz, sAugI, eVar, eVarB, eC, eOp, tOpD, eNeg, eNot, eChain, eAnd, eOr, tV, tN, tA, tO, eIf, aNil, aCons, aStar, eTup, eLst, eLen, eTuple, eList, eAbs, eInt, eGcd, eIsI, eIsI2, eCall, eCallR, gVa, gNil', gCons', gTup', eSlT, eSlL, eRevL, oNone, oSome, e2I, eSum, eMaxL, eMaxT, eAllI, eAnyI, eAllG, eAnyG, eAnyT, eSumG, eTupG, tT, List.isEmpty_cons, List.isEmpty_nil, pI, pI0, pAdd, pCat, pMul, pMulB, pEq, pNe, pIs, pIsNot, pIx, pRepL, List.getElem?_cons_zero, List.getElem?_cons_succ, List.set_cons_zero, List.set_cons_succ, startR, List.map_cons, List.map_nil, List.cons_append, List.nil_append, List.length_cons, List.length_nil, List.replicate_succ, List.replicate_zero, Nat.add_sub_cancel, Nat.reduceAdd, Nat.reduceSub, Nat.reduceLeDiff, if_true, if_false, ite_true, ite_false, reduceIte, true_and, and_true, is_non_int, is_non_bool, is_non_tuple, is_non_list, is_non_str, is_bl_int, is_bl_bool, is_bl_tuple, is_bl_list, is_bl_str, is_int_int, is_int_bool, is_int_tuple, is_int_list, is_int_str, is_str_int, is_str_bool, is_str_tuple, is_str_list, is_str_str, is_tup_int, is_tup_bool, is_tup_tuple, is_tup_list, is_tup_str, is_lst_int, is_lst_bool, is_lst_tuple, is_lst_list, is_lst_str, spIsIntD_eq, isInt_int, spBetD_eq, bet_int, Nat.sub_self, Bool.false_eq_true, if_pos trivial, atI_0, atI_1, atI_2, atI_3, atI_4, atI_5, atI_6, ex_some, cap0, cap1, cap2, cap3, cap4, cap5, cap6, cap7, cap8, cap10, deq_int, iAny, iRan1, iRan2, iRev', iRevR1, iEnuA, iZip', sFor, eLc, wipeR, tTrue, pInG, eSum2, forall_eq, ne_eq, Bool.not_true, Bool.not_false, decide_true, decide_false]
      simp only [bb, ss, shp_int, and_self, true_and, decide_true]
      exact q
abbrev s_is_filled : Stmt := topS 12
abbrev N_is_filled : List Str := ["value", "low", "high"]
theorem sc_is_filled : FnScope N_is_filled ["value", "low", "high"] (defScope s_is_filled) := ⟨rfl, rfl, rfl, by decide +kernel, rfl, by decide +kernel, by decide +kernel⟩
theorem has_is_filled (d : Df K mg "is_filled" s_is_filled ["value", "low", "high"]) (z_isinstance : mg "isinstance" = none) (z_tuple : mg "tuple" = none) (z_len : mg "len" = none) : HasD P w K mg base T (k + 1) "is_filled" ["value", "low", "high"] spFilledD := by
  refine d.hasD sc_is_filled (fun ds Q E ⟨_, _, _, h, _⟩ => by rw [h]; rfl) (fun f cdv A outer s H E hr po => (b_one (s_ret (d_and (d_isi (T := "tuple") z_isinstance z_tuple (d_var 0)) (d_one (d_chain op_le op_le opd_le opd_le (d_var 1) (d_len z_len (d_var 0)) (d_var 2))))))) ?_
  rintro ds Q E ⟨xs, lo, hi, rfl, h1, h2, q⟩
  refine ⟨[.va (.tup xs), .va (.int lo), .va (.int hi)], rfl, ?_⟩
  simp only [iRan3, pInD, List.any_cons, List.any_nil, sRaise, eTold, sSeq, sSeqN, sRetO, sTupA, tupGo, sSet, sOwn, sAsg, sPar, sPar3, slOf, sRet, sExpr, sIf, sApp, sPut, sFrz, sAugI, eVar, eVarB, eC, eOp, tOpD, eNeg, eNot, eChain, eAnd, eOr, tV, tN, tA, tO, eIf, aNil, aCons, aStar, eTup, eLst, eLen, eTuple, eList, eAbs, eInt, eGcd, eIsI, eIsI2, eCall, eCallR, gVa, gNil', gCons', gTup', eSlT, eSlL, eRevL, oNone, oSome, e2I, eSum, eMaxL, eMaxT, eAllI, eAnyI, eAllG, eAnyG, eAnyT, eSumG, eTupG, tT, List.isEmpty_cons, List.isEmpty_nil, pI, pI0, pAdd, pCat, pMul, pMulB, pEq, pNe, pIs, pIsNot, pIx, pRepL, List.getElem?_cons_zero, List.getElem?_cons_succ, List.set_cons_zero, List.set_cons_succ, startR, List.map_cons, List.map_nil, List.cons_append, List.nil_append, List.length_cons, List.length_nil, List.replicate_succ, List.replicate_zero, Nat.add_sub_cancel, Nat.reduceAdd, Nat.reduceSub, Nat.reduceLeDiff, if_true, if_false, ite_true, ite_false, reduceIte, true_and, and_true, is_non_int, is_non_bool, is_non_tuple, is_non_list, is_non_str, is_bl_int, is_bl_bool, is_bl_tuple, is_bl_list, is_bl_str, is_int_int, is_int_bool, is_int_tuple, is_int_list, is_int_str, is_str_int, is_str_bool, is_str_tuple, is_str_list, is_str_str, is_tup_int, is_tup_bool, is_tup_tuple, is_tup_list, is_tup_str, is_lst_int, is_lst_bool, is_lst_tuple, is_lst_list, is_lst_str, spIsIntD_eq, isInt_int, spBetD_eq, bet_int, Nat.sub_self, Bool.false_eq_true, if_pos trivial, atI_0, atI_1, atI_2, atI_3, atI_4, atI_5, atI_6, ex_some, cap0, cap1, cap2, cap3, cap4, cap5, cap6, cap7, cap8, cap10, deq_int, iAny, iRan1, iRan2, iRev', iRevR1, iEnuA, iZip', sFor, eLc, wipeR, tTrue, pInG, eSum2, forall_eq, ne_eq, Bool.not_true, Bool.not_false, decide_true, decide_false]
  simp only [h1, h2, decide_true]
  exact q
abbrev s_is_integer : Stmt := topS 10
abbrev N_is_integer : List Str := ["value"]
theorem sc_is_integer : FnScope N_is_integer ["value"] (defScope s_is_integer) := ⟨rfl, rfl, rfl, by decide +kernel, rfl, by decide +kernel, by decide +kernel⟩
theorem q_is_integer (d : Df K mg "is_integer" s_is_integer ["value"]) (z_isinstance : mg "isinstance" = none) (z_int : mg "int" = none) (z_bool : mg "bool" = none) : QInteger P w K mg base := by
  obtain ⟨f, fd, F, m, b⟩ := d.ex
  refine ⟨f, m, F.kp, fun M i => ?_⟩
  refine qc_ret (n := 0) (ps := ["value"]) M F rfl b (fun us hl => match us, hl with | [_], _ => rfl) rfl rfl rfl rfl (fun L cdv us D hv hD => ?_)
  cases hv with
  | cons r t =>
    cases t
    have qf : Qf (envOfC "is_integer" (defScope s_is_integer) L f cdv) := ⟨rfl, rfl⟩
    exact qe_and (x := true) (y := true) (qe_isi M qf rfl (qe_loc qf rfl rfl r) rfl (by decide +kernel) z_isinstance z_int rfl rfl (by decide +kernel) (by decide) (by decide) rfl rfl rfl)
      (fun _ => qe_one (qe_not (x := false) (qe_isi M qf rfl (qe_loc qf rfl rfl r) rfl (by decide +kernel) z_isinstance z_bool rfl rfl (by decide +kernel) (by decide) (by decide) rfl rfl rfl)))
theorem has_is_integer (d : Df K mg "is_integer" s_is_integer ["value"]) (z_isinstance : mg "isinstance" = none) (z_int : mg "int" = none) (z_bool : mg "bool" = none) : HasD P w K mg base T (k + 1) "is_integer" ["value"] spIsIntD := by
  refine d.hasD sc_is_integer (fun ds Q E ⟨_, h, _⟩ => by rw [h]; rfl) (fun f cdv A outer s H E hr po => (b_one (s_ret (d_and (d_isi (T := "int") z_isinstance z_int (d_var 0)) (d_one (d_not (d_isi (T := "bool") z_isinstance z_bool (d_var 0)))))))) ?_
  rintro ds Q E ⟨d, rfl, q⟩
  refine ⟨[.va d], rfl, ?_⟩
  simp only [iRan3, pInD, List.any_cons, List.any_nil, sRaise, eTold, sSeq, sSeqN, sRetO, sTupA, tupGo, sSet, sOwn, sAsg, sPar, sPar3, slOf, sRet, sExpr, sIf, sApp, sPut, sFrz, sAugI, eVar, eVarB, eC, eOp, tOpD, eNeg, eNot, eChain, eAnd, eOr, tV, tN, tA, tO, eIf, aNil, aCons, aStar, eTup, eLst, eLen, eTuple, eList, eAbs, eInt, eGcd, eIsI, eIsI2, eCall, eCallR, gVa, gNil', gCons', gTup', eSlT, eSlL, eRevL, oNone, oSome, e2I, eSum, eMaxL, eMaxT, eAllI, eAnyI, eAllG, eAnyG, eAnyT, eSumG, eTupG, tT, List.isEmpty_cons, List.isEmpty_nil, pI, pI0, pAdd, pCat, pMul, pMulB, pEq, pNe, pIs, pIsNot, pIx, pRepL, List.getElem?_cons_zero, List.getElem?_cons_succ, List.set_cons_zero, List.set_cons_succ, startR, List.map_cons, List.map_nil, List.cons_append, List.nil_append, List.length_cons, List.length_nil, List.replicate_succ, List.replicate_zero, Nat.add_sub_cancel, Nat.reduceAdd, Nat.reduceSub, Nat.reduceLeDiff, if_true, if_false, ite_true, ite_false, reduceIte, true_and, and_true, is_non_int, is_non_bool, is_non_tuple, is_non_list, is_non_str, is_bl_int, is_bl_bool, is_bl_tuple, is_bl_list, is_bl_str, is_int_int, is_int_bool, is_int_tuple, is_int_list, is_int_str, is_str_int, is_str_bool, is_str_tuple, is_str_list, is_str_str, is_tup_int, is_tup_bool, is_tup_tuple, is_tup_list, is_tup_str, is_lst_int, is_lst_bool, is_lst_tuple, is_lst_list, is_lst_str, spIsIntD_eq, isInt_int, spBetD_eq, bet_int, Nat.sub_self, Bool.false_eq_true, if_pos trivial, atI_0, atI_1, atI_2, atI_3, atI_4, atI_5, atI_6, ex_some, cap0, cap1, cap2, cap3, cap4, cap5, cap6, cap7, cap8, cap10, deq_int, iAny, iRan1, iRan2, iRev', iRevR1, iEnuA, iZip', sFor, eLc, wipeR, tTrue, pInG, eSum2, forall_eq, ne_eq, Bool.not_true, Bool.not_false, decide_true, decide_false]
  unfold D.isInt at q
  cases h : D.is d "int" <;> cases h2 : D.is d "bool" <;> (rw [h, h2] at q; exact q)
abbrev s_is_between : Stmt := topS 11
abbrev N_is_between : List Str := ["value", "low", "high"]
theorem sc_is_between : FnScope N_is_between ["value", "low", "high"] (defScope s_is_between) := ⟨rfl, rfl, rfl, by decide +kernel, rfl, by decide +kernel, by decide +kernel⟩
theorem q_is_between (d : Df K mg "is_between" s_is_between ["value", "low", "high"]) (q_is_integer : QInteger P w K mg base) : QBetween P w K mg base := by
  obtain ⟨f, fd, F, m, b⟩ := d.ex
  obtain ⟨g, mI, kI, hI⟩ := q_is_integer.ex
  refine ⟨f, m, F.kp, fun M i lo hi => ?_⟩
  refine qc_ret (n := 1) (ps := ["value", "low", "high"]) M F rfl b (fun us hl => match us, hl with | [_, _, _], _ => rfl) rfl rfl rfl rfl (fun L cdv us D hv hD => ?_)
  cases hv with
  | cons r t =>
    cases t with
    | cons r2 t =>
      cases t with
      | cons r3 t =>
        cases t
        have qf : Qf (envOfC "is_between" (defScope s_is_between) L f cdv) := ⟨rfl, rfl⟩
        exact qe_and (x := true) (y := decide (lo ≤ i ∧ i ≤ hi)) (qe_call M qf (hI M i) hD kI mI (qa_cons (qe_loc qf rfl rfl r) qa_nil)) (fun _ => qe_one (qe_le2 (qe_loc qf rfl rfl r2) (qe_loc qf rfl rfl r) (qe_loc qf rfl rfl r3)))
theorem has_is_between (d : Df K mg "is_between" s_is_between ["value", "low", "high"]) (h_is_integer : HasD P w K mg base T k "is_integer" ["value"] spIsIntD) : HasD P w K mg base T (k + 1) "is_between" ["value", "low", "high"] spBetD := by
  refine d.hasD sc_is_between (fun ds Q E ⟨_, _, _, h, _⟩ => by rw [h]; rfl) (fun f cdv A outer s H E hr po => (b_one (s_ret (d_and (d_call h_is_integer hr (a_cons (d_var 0) a_nil)) (d_one (d_chain op_le op_le opd_le opd_le (d_var 1) (d_var 0) (d_var 2))))))) ?_
  rintro ds Q E ⟨d, a, b, rfl, q⟩
  refine ⟨[.va d, .va (.int a), .va (.int b)], rfl, ?_⟩
  cases d with
  | int i =>
    simp only [iRan3, pInD, List.any_cons, List.any_nil, sRaise, eTold, sSeq, sSeqN, sRetO, sTupA, tupGo, sSet, sOwn, sAsg, sPar, sPar3, slOf, sRet, sExpr, sIf, sApp, sPut, sFrz, sAugI, eVar, eVarB, eC, eOp, tOpD, eNeg, eNot, eChain, eAnd, eOr, tV, tN, tA, tO, eIf, aNil, aCons, aStar, eTup, eLst, eLen, eTuple, eList, eAbs, eInt, eGcd, eIsI, eIsI2, eCall, eCallR, gVa, gNil', gCons', gTup', eSlT, eSlL, eRevL, oNone, oSome, e2I, eSum, eMaxL, eMaxT, eAllI, eAnyI, eAllG, eAnyG, eAnyT, eSumG, eTupG, tT, List.isEmpty_cons, List.isEmpty_nil, pI, pI0, pAdd, pCat, pMul, pMulB, pEq, pNe, pIs, pIsNot, pIx, pRepL, List.getElem?_cons_zero, List.getElem?_cons_succ, List.set_cons_zero, List.set_cons_succ, startR, List.map_cons, List.map_nil, List.cons_append, List.nil_append, List.length_cons, List.length_nil, List.replicate_succ, List.replicate_zero, Nat.add_sub_cancel, Nat.reduceAdd, Nat.reduceSub, Nat.reduceLeDiff, if_true, if_false, ite_true, ite_false, reduceIte, true_and, and_true, is_non_int, is_non_bool, is_non_tuple, is_non_list, is_non_str, is_bl_int, is_bl_bool, is_bl_tuple, is_bl_list, is_bl_str, is_int_int, is_int_bool, is_int_tuple, is_int_list, is_int_str, is_str_int, is_str_bool, is_str_tuple, is_str_list, is_str_str, is_tup_int, is_tup_bool, is_tup_tuple, is_tup_list, is_tup_str, is_lst_int, is_lst_bool, is_lst_tuple, is_lst_list, is_lst_str, spIsIntD_eq, isInt_int, spBetD_eq, bet_int, Nat.sub_self, Bool.false_eq_true, if_pos trivial, atI_0, atI_1, atI_2, atI_3, atI_4, atI_5, atI_6, ex_some, cap0, cap1, cap2, cap3, cap4, cap5, cap6, cap7, cap8, cap10, deq_int, iAny, iRan1, iRan2, iRev', iRevR1, iEnuA, iZip', sFor, eLc, wipeR, tTrue, pInG, eSum2, forall_eq, ne_eq, Bool.not_true, Bool.not_false, decide_true, decide_false]
    rw [bet_int] at q
    by_cases c : a ≤ i
    · simp only [c, true_and, decide_true] at q ⊢; exact q
    · simp only [c, false_and, decide_false] at q ⊢; exact q
  | bl b =>
    simp only [iRan3, pInD, List.any_cons, List.any_nil, sRaise, eTold, sSeq, sSeqN, sRetO, sTupA, tupGo, sSet, sOwn, sAsg, sPar, sPar3, slOf, sRet, sExpr, sIf, sApp, sPut, sFrz, sAugI, eVar, eVarB, eC, eOp, tOpD, eNeg, eNot, eChain, eAnd, eOr, tV, tN, tA, tO, eIf, aNil, aCons, aStar, eTup, eLst, eLen, eTuple, eList, eAbs, eInt, eGcd, eIsI, eIsI2, eCall, eCallR, gVa, gNil', gCons', gTup', eSlT, eSlL, eRevL, oNone, oSome, e2I, eSum, eMaxL, eMaxT, eAllI, eAnyI, eAllG, eAnyG, eAnyT, eSumG, eTupG, tT, List.isEmpty_cons, List.isEmpty_nil, pI, pI0, pAdd, pCat, pMul, pMulB, pEq, pNe, pIs, pIsNot, pIx, pRepL, List.getElem?_cons_zero, List.getElem?_cons_succ, List.set_cons_zero, List.set_cons_succ, startR, List.map_cons, List.map_nil, List.cons_append, List.nil_append, List.length_cons, List.length_nil, List.replicate_succ, List.replicate_zero, Nat.add_sub_cancel, Nat.reduceAdd, Nat.reduceSub, Nat.reduceLeDiff, if_true, if_false, ite_true, ite_false, reduceIte, true_and, and_true, is_non_int, is_non_bool, is_non_tuple, is_non_list, is_non_str, is_bl_int, is_bl_bool, is_bl_tuple, is_bl_list, is_bl_str, is_int_int, is_int_bool, is_int_tuple, is_int_list, is_int_str, is_str_int, is_str_bool, is_str_tuple, is_str_list, is_str_str, is_tup_int, is_tup_bool, is_tup_tuple, is_tup_list, is_tup_str, is_lst_int, is_lst_bool, is_lst_tuple, is_lst_list, is_lst_str, spIsIntD_eq, isInt_int, spBetD_eq, bet_int, Nat.sub_self, Bool.false_eq_true, if_pos trivial, atI_0, atI_1, atI_2, atI_3, atI_4, atI_5, atI_6, ex_some, cap0, cap1, cap2, cap3, cap4, cap5, cap6, cap7, cap8, cap10, deq_int, iAny, iRan1, iRan2, iRev', iRevR1, iEnuA, iZip', sFor, eLc, wipeR, tTrue, pInG, eSum2, forall_eq, ne_eq, Bool.not_true, Bool.not_false, decide_true, decide_false]
    exact q
  | _ =>
    simp only [iRan3, pInD, List.any_cons, List.any_nil, sRaise, eTold, sSeq, sSeqN, sRetO, sTupA, tupGo, sSet, sOwn, sAsg, sPar, sPar3, slOf, sRet, sExpr, sIf, sApp, sPut, sFrz, sAugI, eVar, eVarB, eC, eOp, tOpD, eNeg, eNot, eChain, eAnd, eOr, tV, tN, tA, tO, eIf, aNil, aCons, aStar, eTup, eLst, eLen, eTuple, eList, eAbs, eInt, eGcd, eIsI, eIsI2, eCall, eCallR, gVa, gNil', gCons', gTup', eSlT, eSlL, eRevL, oNone, oSome, e2I, eSum, eMaxL, eMaxT, eAllI, eAnyI, eAllG, eAnyG, eAnyT, eSumG, eTupG, tT, List.isEmpty_cons, List.isEmpty_nil, pI, pI0, pAdd, pCat, pMul, pMulB, pEq, pNe, pIs, pIsNot, pIx, pRepL, List.getElem?_cons_zero, List.getElem?_cons_succ, List.set_cons_zero, List.set_cons_succ, startR, List.map_cons, List.map_nil, List.cons_append, List.nil_append, List.length_cons, List.length_nil, List.replicate_succ, List.replicate_zero, Nat.add_sub_cancel, Nat.reduceAdd, Nat.reduceSub, Nat.reduceLeDiff, if_true, if_false, ite_true, ite_false, reduceIte, true_and, and_true, is_non_int, is_non_bool, is_non_tuple, is_non_list, is_non_str, is_bl_int, is_bl_bool, is_bl_tuple, is_bl_list, is_bl_str, is_int_int, is_int_bool, is_int_tuple, is_int_list, is_int_str, is_str_int, is_str_bool, is_str_tuple, is_str_list, is_str_str, is_tup_int, is_tup_bool, is_tup_tuple, is_tup_list, is_tup_str, is_lst_int, is_lst_bool, is_lst_tuple, is_lst_list, is_lst_str, spIsIntD_eq, isInt_int, spBetD_eq, bet_int, Nat.sub_self, Bool.false_eq_true, if_pos trivial, atI_0, atI_1, atI_2, atI_3, atI_4, atI_5, atI_6, ex_some, cap0, cap1, cap2, cap3, cap4, cap5, cap6, cap7, cap8, cap10, deq_int, iAny, iRan1, iRan2, iRev', iRevR1, iEnuA, iZip', sFor, eLc, wipeR, tTrue, pInG, eSum2, forall_eq, ne_eq, Bool.not_true, Bool.not_false, decide_true, decide_false]
    exact q
abbrev s_are_weights : Stmt := topS 24
abbrev N_are_weights : List Str := ["value", "most", "weight"]
theorem sc_are_weights : FnScope N_are_weights ["value", "most"] (defScope s_are_weights) := ⟨rfl, rfl, rfl, by decide +kernel, rfl, by decide +kernel, by decide +kernel⟩
theorem has_are_weights {c PT : Addr} (d : DfG K mg "are_weights" s_are_weights ["value", "most"] c) (TB : GxR.TabB base mg c PT) (hT : PT ∈ T) (hG : GT.q PT = none) (h_is_between : HasD P w K mg base T k "is_between" ["value", "low", "high"] spBetD) (z_isinstance : mg "isinstance" = none) (z_tuple : mg "tuple" = none) (z_len : mg "len" = none) (z_all : mg "all" = none) {t0 : Tok} (m_MOST_WEIGHT_claims : mg "MOST_WEIGHT_claims" = some (.int 1000 t0)) : HasD P w K mg base T (k + 1 + 1) "are_weights" ["value", "most"] spWtsD := by
  have h0_is_between := h_is_between
  refine d.hasD sc_are_weights (fun ds Q E ⟨_, _, h, _⟩ => by rw [h]; rfl) (fun f A outer s H E hr po => (b_cons (s_if (t_w (w_or (t_not (t_val (d_isi (T := "tuple") z_isinstance z_tuple (d_var 0)))) (w_or1 (t_not (t_chain op_le op_le opd_le opd_le d_int (d_len z_len (d_var 0)) (d_var 1)))))) (b_one (s_ret d_bl)) b_nil)
      (b_one (s_ret (d_and (d_allG (own := [("weight", 2)]) hr rfl sc_are_weights.nd z_all TB hT hG rfl (i_any (d_var 0)) (blkOk_by (N := N_are_weights) (sc := defScope s_are_weights) (by decide +kernel)) (fun _ _ _ _ _ _ _ _ => (g_name 2 sc_are_weights.nd)) (fun _ _ _ _ _ _ _ hr => ifs_nil) (fun _ _ _ _ _ _ _ hr => (d_call h0_is_between hr (a_cons (d_var 2) (a_cons d_int (a_cons (d_globI (i := 1000) m_MOST_WEIGHT_claims) a_nil)))))) (d_one (d_cmp op_gt opd_gt (d_ix (d_var 0) (d_neg d_int)) d_int))))))) ?_
  rintro ds Q E ⟨ws, m, rfl, h, hm, q⟩
  refine ⟨[.va (.tup (ws.map D.int)), .va (.int m), .un], rfl, ?_⟩
  simp only [iRan3, pInD, List.any_cons, List.any_nil, sRaise, eTold, sSeq, sSeqN, sRetO, sTupA, tupGo, sSet, sOwn, sAsg, sPar, sPar3, slOf, sRet, sExpr, sIf, sApp, sPut, sFrz, sAugI, eVar, eVarB, eC, eOp, tOpD, eNeg, eNot, eChain, eAnd, eOr, tV, tN, tA, tO, eIf, aNil, aCons, aStar, eTup, eLst, eLen, eTuple, eList, eAbs, eInt, eGcd, eIsI, eIsI2, eCall, eCallR, gVa, gNil', gCons', gTup', eSlT, eSlL, eRevL, oNone, oSome, e2I, eSum, eMaxL, eMaxT, eAllI, eAnyI, eAllG, eAnyG, eAnyT, eSumG, eTupG, tT, List.isEmpty_cons, List.isEmpty_nil, pI, pI0, pAdd, pCat, pMul, pMulB, pEq, pNe, pIs, pIsNot, pIx, pRepL, List.getElem?_cons_zero, List.getElem?_cons_succ, List.set_cons_zero, List.set_cons_succ, startR, List.map_cons, List.map_nil, List.cons_append, List.nil_append, List.length_cons, List.length_nil, List.replicate_succ, List.replicate_zero, Nat.add_sub_cancel, Nat.reduceAdd, Nat.reduceSub, Nat.reduceLeDiff, if_true, if_false, ite_true, ite_false, reduceIte, true_and, and_true, is_non_int, is_non_bool, is_non_tuple, is_non_list, is_non_str, is_bl_int, is_bl_bool, is_bl_tuple, is_bl_list, is_bl_str, is_int_int, is_int_bool, is_int_tuple, is_int_list, is_int_str, is_str_int, is_str_bool, is_str_tuple, is_str_list, is_str_str, is_tup_int, is_tup_bool, is_tup_tuple, is_tup_list, is_tup_str, is_lst_int, is_lst_bool, is_lst_tuple, is_lst_list, is_lst_str, spIsIntD_eq, isInt_int, spBetD_eq, bet_int, Nat.sub_self, Bool.false_eq_true, if_pos trivial, atI_0, atI_1, atI_2, atI_3, atI_4, atI_5, atI_6, ex_some, cap0, cap1, cap2, cap3, cap4, cap5, cap6, cap7, cap8, cap10, deq_int, iAny, iRan1, iRan2, iRev', iRevR1, iEnuA, iZip', sFor, eLc, wipeR, tTrue, pInG, eSum2, forall_eq, ne_eq, Bool.not_true, Bool.not_false, decide_true, decide_false]
  have l1 := h.len
  rw [List.length_map, decide_eq_true (show (1 : Int) ≤ (ws.length : Int) by omega), decide_eq_true hm]
  simp only [Bool.not_true, Bool.false_eq_true, if_false]
  refine allF_true (fun d hd F hF => ?_) ?_
  · obtain ⟨n, hn, rfl⟩ := List.mem_map.mp hd
    have := h.nat n hn
    simp only [iRan3, pInD, List.any_cons, List.any_nil, sRaise, eTold, sSeq, sSeqN, sRetO, sTupA, tupGo, sSet, sOwn, sAsg, sPar, sPar3, slOf, sRet, sExpr, sIf, sApp, sPut, sFrz, sAugI, eVar, eVarB, eC, eOp, tOpD, eNeg, eNot, eChain, eAnd, eOr, tV, tN, tA, tO, eIf, aNil, aCons, aStar, eTup, eLst, eLen, eTuple, eList, eAbs, eInt, eGcd, eIsI, eIsI2, eCall, eCallR, gVa, gNil', gCons', gTup', eSlT, eSlL, eRevL, oNone, oSome, e2I, eSum, eMaxL, eMaxT, eAllI, eAnyI, eAllG, eAnyG, eAnyT, eSumG, eTupG, tT, List.isEmpty_cons, List.isEmpty_nil, pI, pI0, pAdd, pCat, pMul, pMulB, pEq, pNe, pIs, pIsNot, pIx, pRepL, List.getElem?_cons_zero, List.getElem?_cons_succ, List.set_cons_zero, List.set_cons_succ, startR, List.map_cons, List.map_nil, List.cons_append, List.nil_append, List.length_cons, List.length_nil, List.replicate_succ, List.replicate_zero, Nat.add_sub_cancel, Nat.reduceAdd, Nat.reduceSub, Nat.reduceLeDiff, if_true, if_false, ite_true, ite_false, reduceIte, true_and, and_true, is_non_int, is_non_bool, is_non_tuple, is_non_list, is_non_str, is_bl_int, is_bl_bool, is_bl_tuple, is_bl_list, is_bl_str, is_int_int, is_int_bool, is_int_tuple, is_int_list, is_int_str, is_str_int, is_str_bool, is_str_tuple, is_str_list, is_str_str, is_tup_int, is_tup_bool, is_tup_tuple, is_tup_list, is_tup_str, is_lst_int, is_lst_bool, is_lst_tuple, is_lst_list, is_lst_str, spIsIntD_eq, isInt_int, spBetD_eq, bet_int, Nat.sub_self, Bool.false_eq_true, if_pos trivial, atI_0, atI_1, atI_2, atI_3, atI_4, atI_5, atI_6, ex_some, cap0, cap1, cap2, cap3, cap4, cap5, cap6, cap7, cap8, cap10, deq_int, iAny, iRan1, iRan2, iRev', iRevR1, iEnuA, iZip', sFor, eLc, wipeR, tTrue, pInG, eSum2, forall_eq, ne_eq, Bool.not_true, Bool.not_false, decide_true, decide_false]
    exact ⟨true, congrArg D.bl (decide_eq_true (by omega)), hF⟩
  · have e2 := ints_neg (ls := ws) (i := 1) (by omega) (by omega)
    rw [show (-((1 : Nat) : Int)) = -1 from rfl] at e2
    have hp := h.pos
    try simp only [iRan3, pInD, List.any_cons, List.any_nil, sRaise, eTold, sSeq, sSeqN, sRetO, sTupA, tupGo, sSet, sOwn, sAsg, sPar, sPar3, slOf, sRet, sExpr, sIf, sApp, sPut, sFrz, sAugI, eVar, eVarB, eC, eOp, tOpD, eNeg, eNot, eChain, eAnd, eOr, tV, tN, tA, tO, eIf, aNil, aCons, aStar, eTup, eLst, eLen, eTuple, eList, eAbs, eInt, eGcd, eIsI, eIsI2, eCall, eCallR, gVa, gNil', gCons', gTup', eSlT, eSlL, eRevL, oNone, oSome, e2I, eSum, eMaxL, eMaxT, eAllI, eAnyI, eAllG, eAnyG, eAnyT, eSumG, eTupG, tT, List.isEmpty_cons, List.isEmpty_nil, pI, pI0, pAdd, pCat, pMul, pMulB, pEq, pNe, pIs, pIsNot, pIx, pRepL, List.getElem?_cons_zero, List.getElem?_cons_succ, List.set_cons_zero, List.set_cons_succ, startR, List.map_cons, List.map_nil, List.cons_append, List.nil_append, List.length_cons, List.length_nil, List.replicate_succ, List.replicate_zero, Nat.add_sub_cancel, Nat.reduceAdd, Nat.reduceSub, Nat.reduceLeDiff, if_true, if_false, ite_true, ite_false, reduceIte, true_and, and_true, is_non_int, is_non_bool, is_non_tuple, is_non_list, is_non_str, is_bl_int, is_bl_bool, is_bl_tuple, is_bl_list, is_bl_str, is_int_int, is_int_bool, is_int_tuple, is_int_list, is_int_str, is_str_int, is_str_bool, is_str_tuple, is_str_list, is_str_str, is_tup_int, is_tup_bool, is_tup_tuple, is_tup_list, is_tup_str, is_lst_int, is_lst_bool, is_lst_tuple, is_lst_list, is_lst_str, spIsIntD_eq, isInt_int, spBetD_eq, bet_int, Nat.sub_self, Bool.false_eq_true, if_pos trivial, atI_0, atI_1, atI_2, atI_3, atI_4, atI_5, atI_6, ex_some, cap0, cap1, cap2, cap3, cap4, cap5, cap6, cap7, cap8, cap10, deq_int, iAny, iRan1, iRan2, iRev', iRevR1, iEnuA, iZip', sFor, eLc, wipeR, tTrue, pInG, eSum2, forall_eq, ne_eq, Bool.not_true, Bool.not_false, decide_true, decide_false]
    refine ⟨_, e2, ?_⟩
    simp only [pI0, hp, decide_true]
    exact q
abbrev s_is_kind : Stmt := topS 32
abbrev N_is_kind : List Str := ["value"]
theorem sc_is_kind : FnScope N_is_kind ["value"] (defScope s_is_kind) := ⟨rfl, rfl, rfl, by decide +kernel, rfl, by decide +kernel, by decide +kernel⟩
theorem has_is_kind (d : Df K mg "is_kind" s_is_kind ["value"]) (h_is_filled : HasD P w K mg base T k "is_filled" ["value", "low", "high"] spFilledD) (h_is_between : HasD P w K mg base T k "is_between" ["value", "low", "high"] spBetD) (h_are_weights : HasD P w K mg base T k "are_weights" ["value", "most"] spWtsD) {t0 : Tok} (m_MOST_WEIGHT_learning : mg "MOST_WEIGHT_learning" = some (.int 1000 t0)) {t1 : Tok} (m_MOST_ENTRIES : mg "MOST_ENTRIES" = some (.int 13 t1)) : HasD P w K mg base T (k + 1) "is_kind" ["value"] spKindD := by
  refine d.hasD sc_is_kind (fun ds Q E ⟨_, h, _⟩ => by rw [h]; rfl) (fun f cdv A outer s H E hr po => (b_cons (s_if (t_not (t_val (d_call h_is_filled hr (a_cons (d_var 0) (a_cons d_int (a_cons d_int a_nil)))))) (b_one (s_ret d_bl)) b_nil)
      (b_one (s_ret (d_and (d_call h_is_between hr (a_cons (d_ix (d_var 0) d_int) (a_cons d_int (a_cons (d_globI (i := 1000) m_MOST_WEIGHT_learning) a_nil)))) (d_one (d_call h_are_weights hr (a_cons (d_ix (d_var 0) d_int) (a_cons (d_globI (i := 13) m_MOST_ENTRIES) a_nil))))))))) ?_
  rintro ds Q E ⟨c, rfl, h1, h2, h3, h4, q⟩
  refine ⟨[.va (kD c)], rfl, ?_⟩
  simp only [kD]
  simp only [iRan3, pInD, List.any_cons, List.any_nil, sRaise, eTold, sSeq, sSeqN, sRetO, sTupA, tupGo, sSet, sOwn, sAsg, sPar, sPar3, slOf, sRet, sExpr, sIf, sApp, sPut, sFrz, sAugI, eVar, eVarB, eC, eOp, tOpD, eNeg, eNot, eChain, eAnd, eOr, tV, tN, tA, tO, eIf, aNil, aCons, aStar, eTup, eLst, eLen, eTuple, eList, eAbs, eInt, eGcd, eIsI, eIsI2, eCall, eCallR, gVa, gNil', gCons', gTup', eSlT, eSlL, eRevL, oNone, oSome, e2I, eSum, eMaxL, eMaxT, eAllI, eAnyI, eAllG, eAnyG, eAnyT, eSumG, eTupG, tT, List.isEmpty_cons, List.isEmpty_nil, pI, pI0, pAdd, pCat, pMul, pMulB, pEq, pNe, pIs, pIsNot, pIx, pRepL, List.getElem?_cons_zero, List.getElem?_cons_succ, List.set_cons_zero, List.set_cons_succ, startR, List.map_cons, List.map_nil, List.cons_append, List.nil_append, List.length_cons, List.length_nil, List.replicate_succ, List.replicate_zero, Nat.add_sub_cancel, Nat.reduceAdd, Nat.reduceSub, Nat.reduceLeDiff, if_true, if_false, ite_true, ite_false, reduceIte, true_and, and_true, is_non_int, is_non_bool, is_non_tuple, is_non_list, is_non_str, is_bl_int, is_bl_bool, is_bl_tuple, is_bl_list, is_bl_str, is_int_int, is_int_bool, is_int_tuple, is_int_list, is_int_str, is_str_int, is_str_bool, is_str_tuple, is_str_list, is_str_str, is_tup_int, is_tup_bool, is_tup_tuple, is_tup_list, is_tup_str, is_lst_int, is_lst_bool, is_lst_tuple, is_lst_list, is_lst_str, spIsIntD_eq, isInt_int, spBetD_eq, bet_int, Nat.sub_self, Bool.false_eq_true, if_pos trivial, atI_0, atI_1, atI_2, atI_3, atI_4, atI_5, atI_6, ex_some, cap0, cap1, cap2, cap3, cap4, cap5, cap6, cap7, cap8, cap10, deq_int, iAny, iRan1, iRan2, iRev', iRevR1, iEnuA, iZip', sFor, eLc, wipeR, tTrue, pInG, eSum2, forall_eq, ne_eq, Bool.not_true, Bool.not_false, decide_true, decide_false]
  refine ⟨_, 2, 2, rfl, Int.le_refl _, Int.le_refl _, ?_⟩
  simp only [iRan3, pInD, List.any_cons, List.any_nil, sRaise, eTold, sSeq, sSeqN, sRetO, sTupA, tupGo, sSet, sOwn, sAsg, sPar, sPar3, slOf, sRet, sExpr, sIf, sApp, sPut, sFrz, sAugI, eVar, eVarB, eC, eOp, tOpD, eNeg, eNot, eChain, eAnd, eOr, tV, tN, tA, tO, eIf, aNil, aCons, aStar, eTup, eLst, eLen, eTuple, eList, eAbs, eInt, eGcd, eIsI, eIsI2, eCall, eCallR, gVa, gNil', gCons', gTup', eSlT, eSlL, eRevL, oNone, oSome, e2I, eSum, eMaxL, eMaxT, eAllI, eAnyI, eAllG, eAnyG, eAnyT, eSumG, eTupG, tT, List.isEmpty_cons, List.isEmpty_nil, pI, pI0, pAdd, pCat, pMul, pMulB, pEq, pNe, pIs, pIsNot, pIx, pRepL, List.getElem?_cons_zero, List.getElem?_cons_succ, List.set_cons_zero, List.set_cons_succ, startR, List.map_cons, List.map_nil, List.cons_append, List.nil_append, List.length_cons, List.length_nil, List.replicate_succ, List.replicate_zero, Nat.add_sub_cancel, Nat.reduceAdd, Nat.reduceSub, Nat.reduceLeDiff, if_true, if_false, ite_true, ite_false, reduceIte, true_and, and_true, is_non_int, is_non_bool, is_non_tuple, is_non_list, is_non_str, is_bl_int, is_bl_bool, is_bl_tuple, is_bl_list, is_bl_str, is_int_int, is_int_bool, is_int_tuple, is_int_list, is_int_str, is_str_int, is_str_bool, is_str_tuple, is_str_list, is_str_str, is_tup_int, is_tup_bool, is_tup_tuple, is_tup_list, is_tup_str, is_lst_int, is_lst_bool, is_lst_tuple, is_lst_list, is_lst_str, spIsIntD_eq, isInt_int, spBetD_eq, bet_int, Nat.sub_self, Bool.false_eq_true, if_pos trivial, atI_0, atI_1, atI_2, atI_3, atI_4, atI_5, atI_6, ex_some, cap0, cap1, cap2, cap3, cap4, cap5, cap6, cap7, cap8, cap10, deq_int, iAny, iRan1, iRan2, iRev', iRevR1, iEnuA, iZip', sFor, eLc, wipeR, tTrue, pInG, eSum2, forall_eq, ne_eq, Bool.not_true, Bool.not_false, decide_true, decide_false]
  simp only [D.bet, isInt_int, h1, h2, decide_true, Bool.and_self, and_self]
  try simp only [iRan3, pInD, List.any_cons, List.any_nil, sRaise, eTold, sSeq, sSeqN, sRetO, sTupA, tupGo, sSet, sOwn, sAsg, sPar, sPar3, slOf, sRet, sExpr, sIf, sApp, sPut, sFrz, sAugI, eVar, eVarB, eC, eOp, tOpD, eNeg, eNot, eChain, eAnd, eOr, tV, tN, tA, tO, eIf, aNil, aCons, aStar, eTup, eLst, eLen, eTuple, eList, eAbs, eInt, eGcd, eIsI, eIsI2, eCall, eCallR, gVa, gNil', gCons', gTup', eSlT, eSlL, eRevL, oNone, oSome, e2I, eSum, eMaxL, eMaxT, eAllI, eAnyI, eAllG, eAnyG, eAnyT, eSumG, eTupG, tT, List.isEmpty_cons, List.isEmpty_nil, pI, pI0, pAdd, pCat, pMul, pMulB, pEq, pNe, pIs, pIsNot, pIx, pRepL, List.getElem?_cons_zero, List.getElem?_cons_succ, List.set_cons_zero, List.set_cons_succ, startR, List.map_cons, List.map_nil, List.cons_append, List.nil_append, List.length_cons, List.length_nil, List.replicate_succ, List.replicate_zero, Nat.add_sub_cancel, Nat.reduceAdd, Nat.reduceSub, Nat.reduceLeDiff, if_true, if_false, ite_true, ite_false, reduceIte, true_and, and_true, is_non_int, is_non_bool, is_non_tuple, is_non_list, is_non_str, is_bl_int, is_bl_bool, is_bl_tuple, is_bl_list, is_bl_str, is_int_int, is_int_bool, is_int_tuple, is_int_list, is_int_str, is_str_int, is_str_bool, is_str_tuple, is_str_list, is_str_str, is_tup_int, is_tup_bool, is_tup_tuple, is_tup_list, is_tup_str, is_lst_int, is_lst_bool, is_lst_tuple, is_lst_list, is_lst_str, spIsIntD_eq, isInt_int, spBetD_eq, bet_int, Nat.sub_self, Bool.false_eq_true, if_pos trivial, atI_0, atI_1, atI_2, atI_3, atI_4, atI_5, atI_6, ex_some, cap0, cap1, cap2, cap3, cap4, cap5, cap6, cap7, cap8, cap10, deq_int, iAny, iRan1, iRan2, iRev', iRevR1, iEnuA, iZip', sFor, eLc, wipeR, tTrue, pInG, eSum2, forall_eq, ne_eq, Bool.not_true, Bool.not_false, decide_true, decide_false]
  exact ⟨c.2, 13, rfl, h3, by omega, q⟩
abbrev s_check_prior : Stmt := topS 33
abbrev N_check_prior : List Str := ["prior", "index", "pair"]
theorem sc_check_prior : FnScope N_check_prior ["prior"] (defScope s_check_prior) := ⟨rfl, rfl, rfl, by decide +kernel, rfl, by decide +kernel, by decide +kernel⟩
theorem has_check_prior (d : Df K mg "check_prior" s_check_prior ["prior"]) (h_is_filled : HasD P w K mg base T k "is_filled" ["value", "low", "high"] spFilledD) (h_is_kind : HasD P w K mg base T k "is_kind" ["value"] spKindD) {t0 : Tok} (m_MOST_KINDS : mg "MOST_KINDS" = some (.int 5 t0)) (z_enumerate : mg "enumerate" = none) : HasD P w K mg base T (k + 1) "check_prior" ["prior"] (spPriD fun _ => .non) := by
  refine d.hasD sc_check_prior (fun ds Q E ⟨_, h, _⟩ => by rw [h]; rfl) (fun f cdv A outer s H E hr po => (b_cons (s_if (t_not (t_val (d_call h_is_filled hr (a_cons (d_var 0) (a_cons d_int (a_cons (d_globI (i := 5) m_MOST_KINDS) a_nil)))))) (b_one s_never) b_nil)
      (b_one (s_for po rfl (i_enumA z_enumerate (d_var 0)) (g_tup (n := 2) rfl (gs_cons (g_name 1 sc_check_prior.nd) (gs_cons (g_name 2 sc_check_prior.nd) gs_nil))) (b_one (s_if (t_not (t_val (d_call h_is_kind hr (a_cons (d_var 2) a_nil)))) (b_one s_never) b_nil)))))) ?_
  rintro ds Q E ⟨ks, rfl, h, q⟩
  refine ⟨[.va (.tup (ks.map kD)), .un, .un], rfl, ?_⟩
  have h1 := h.lo
  have h2 := h.hi
  simp only [iRan3, pInD, List.any_cons, List.any_nil, sRaise, eTold, sSeq, sSeqN, sRetO, sTupA, tupGo, sSet, sOwn, sAsg, sPar, sPar3, slOf, sRet, sExpr, sIf, sApp, sPut, sFrz, sAugI, eVar, eVarB, eC, eOp, tOpD, eNeg, eNot, eChain, eAnd, eOr, tV, tN, tA, tO, eIf, aNil, aCons, aStar, eTup, eLst, eLen, eTuple, eList, eAbs, eInt, eGcd, eIsI, eIsI2, eCall, eCallR, gVa, gNil', gCons', gTup', eSlT, eSlL, eRevL, oNone, oSome, e2I, eSum, eMaxL, eMaxT, eAllI, eAnyI, eAllG, eAnyG, eAnyT, eSumG, eTupG, tT, List.isEmpty_cons, List.isEmpty_nil, pI, pI0, pAdd, pCat, pMul, pMulB, pEq, pNe, pIs, pIsNot, pIx, pRepL, List.getElem?_cons_zero, List.getElem?_cons_succ, List.set_cons_zero, List.set_cons_succ, startR, List.map_cons, List.map_nil, List.cons_append, List.nil_append, List.length_cons, List.length_nil, List.replicate_succ, List.replicate_zero, Nat.add_sub_cancel, Nat.reduceAdd, Nat.reduceSub, Nat.reduceLeDiff, if_true, if_false, ite_true, ite_false, reduceIte, true_and, and_true, is_non_int, is_non_bool, is_non_tuple, is_non_list, is_non_str, is_bl_int, is_bl_bool, is_bl_tuple, is_bl_list, is_bl_str, is_int_int, is_int_bool, is_int_tuple, is_int_list, is_int_str, is_str_int, is_str_bool, is_str_tuple, is_str_list, is_str_str, is_tup_int, is_tup_bool, is_tup_tuple, is_tup_list, is_tup_str, is_lst_int, is_lst_bool, is_lst_tuple, is_lst_list, is_lst_str, spIsIntD_eq, isInt_int, spBetD_eq, bet_int, Nat.sub_self, Bool.false_eq_true, if_pos trivial, atI_0, atI_1, atI_2, atI_3, atI_4, atI_5, atI_6, ex_some, cap0, cap1, cap2, cap3, cap4, cap5, cap6, cap7, cap8, cap10, deq_int, iAny, iRan1, iRan2, iRev', iRevR1, iEnuA, iZip', sFor, eLc, wipeR, tTrue, pInG, eSum2, forall_eq, ne_eq, Bool.not_true, Bool.not_false, decide_true, decide_false]
  refine ⟨_, 1, 5, rfl, by rw [List.length_map]; omega, by rw [List.length_map]; omega, ?_⟩
  simp only [iRan3, pInD, List.any_cons, List.any_nil, sRaise, eTold, sSeq, sSeqN, sRetO, sTupA, tupGo, sSet, sOwn, sAsg, sPar, sPar3, slOf, sRet, sExpr, sIf, sApp, sPut, sFrz, sAugI, eVar, eVarB, eC, eOp, tOpD, eNeg, eNot, eChain, eAnd, eOr, tV, tN, tA, tO, eIf, aNil, aCons, aStar, eTup, eLst, eLen, eTuple, eList, eAbs, eInt, eGcd, eIsI, eIsI2, eCall, eCallR, gVa, gNil', gCons', gTup', eSlT, eSlL, eRevL, oNone, oSome, e2I, eSum, eMaxL, eMaxT, eAllI, eAnyI, eAllG, eAnyG, eAnyT, eSumG, eTupG, tT, List.isEmpty_cons, List.isEmpty_nil, pI, pI0, pAdd, pCat, pMul, pMulB, pEq, pNe, pIs, pIsNot, pIx, pRepL, List.getElem?_cons_zero, List.getElem?_cons_succ, List.set_cons_zero, List.set_cons_succ, startR, List.map_cons, List.map_nil, List.cons_append, List.nil_append, List.length_cons, List.length_nil, List.replicate_succ, List.replicate_zero, Nat.add_sub_cancel, Nat.reduceAdd, Nat.reduceSub, Nat.reduceLeDiff, if_true, if_false, ite_true, ite_false, reduceIte, true_and, and_true, is_non_int, is_non_bool, is_non_tuple, is_non_list, is_non_str, is_bl_int, is_bl_bool, is_bl_tuple, is_bl_list, is_bl_str, is_int_int, is_int_bool, is_int_tuple, is_int_list, is_int_str, is_str_int, is_str_bool, is_str_tuple, is_str_list, is_str_str, is_tup_int, is_tup_bool, is_tup_tuple, is_tup_list, is_tup_str, is_lst_int, is_lst_bool, is_lst_tuple, is_lst_list, is_lst_str, spIsIntD_eq, isInt_int, spBetD_eq, bet_int, Nat.sub_self, Bool.false_eq_true, if_pos trivial, atI_0, atI_1, atI_2, atI_3, atI_4, atI_5, atI_6, ex_some, cap0, cap1, cap2, cap3, cap4, cap5, cap6, cap7, cap8, cap10, deq_int, iAny, iRan1, iRan2, iRev', iRevR1, iEnuA, iZip', sFor, eLc, wipeR, tTrue, pInG, eSum2, forall_eq, ne_eq, Bool.not_true, Bool.not_false, decide_true, decide_false]
  refine for_nat (fun i ρ => ∃ x1 x2, ρ = [.va (.tup (ks.map kD)), x1, x2]) ⟨_, _, rfl⟩ ?_ ?_
  · rintro i d ρ F hd ⟨x1, x2, rfl⟩ hF
    rw [enumD_at] at hd
    cases ed : (ks.map kD)[i]? with
    | none => rw [ed] at hd; cases hd
    | some c =>
      rw [ed] at hd
      cases hd
      obtain ⟨hi, rfl⟩ := kds_at ed
      have hk := kat_mem hi
      simp only [iRan3, pInD, List.any_cons, List.any_nil, sRaise, eTold, sSeq, sSeqN, sRetO, sTupA, tupGo, sSet, sOwn, sAsg, sPar, sPar3, slOf, sRet, sExpr, sIf, sApp, sPut, sFrz, sAugI, eVar, eVarB, eC, eOp, tOpD, eNeg, eNot, eChain, eAnd, eOr, tV, tN, tA, tO, eIf, aNil, aCons, aStar, eTup, eLst, eLen, eTuple, eList, eAbs, eInt, eGcd, eIsI, eIsI2, eCall, eCallR, gVa, gNil', gCons', gTup', eSlT, eSlL, eRevL, oNone, oSome, e2I, eSum, eMaxL, eMaxT, eAllI, eAnyI, eAllG, eAnyG, eAnyT, eSumG, eTupG, tT, List.isEmpty_cons, List.isEmpty_nil, pI, pI0, pAdd, pCat, pMul, pMulB, pEq, pNe, pIs, pIsNot, pIx, pRepL, List.getElem?_cons_zero, List.getElem?_cons_succ, List.set_cons_zero, List.set_cons_succ, startR, List.map_cons, List.map_nil, List.cons_append, List.nil_append, List.length_cons, List.length_nil, List.replicate_succ, List.replicate_zero, Nat.add_sub_cancel, Nat.reduceAdd, Nat.reduceSub, Nat.reduceLeDiff, if_true, if_false, ite_true, ite_false, reduceIte, true_and, and_true, is_non_int, is_non_bool, is_non_tuple, is_non_list, is_non_str, is_bl_int, is_bl_bool, is_bl_tuple, is_bl_list, is_bl_str, is_int_int, is_int_bool, is_int_tuple, is_int_list, is_int_str, is_str_int, is_str_bool, is_str_tuple, is_str_list, is_str_str, is_tup_int, is_tup_bool, is_tup_tuple, is_tup_list, is_tup_str, is_lst_int, is_lst_bool, is_lst_tuple, is_lst_list, is_lst_str, spIsIntD_eq, isInt_int, spBetD_eq, bet_int, Nat.sub_self, Bool.false_eq_true, if_pos trivial, atI_0, atI_1, atI_2, atI_3, atI_4, atI_5, atI_6, ex_some, cap0, cap1, cap2, cap3, cap4, cap5, cap6, cap7, cap8, cap10, deq_int, iAny, iRan1, iRan2, iRev', iRevR1, iEnuA, iZip', sFor, eLc, wipeR, tTrue, pInG, eSum2, forall_eq, ne_eq, Bool.not_true, Bool.not_false, decide_true, decide_false]
      exact ⟨kat ks i, rfl, (h.w _ hk).1, (h.w _ hk).2, h.ok _ hk, by have := h.len _ hk; omega, hF _ ⟨_, _, rfl⟩⟩
  · rintro ρ ⟨x1, x2, rfl⟩
    exact q
abbrev s_check_seen : Stmt := topS 34
abbrev N_check_seen : List Str := ["seen", "claim"]
theorem sc_check_seen : FnScope N_check_seen ["seen"] (defScope s_check_seen) := ⟨rfl, rfl, rfl, by decide +kernel, rfl, by decide +kernel, by decide +kernel⟩
theorem has_check_seen {c PT : Addr} (d : DfG K mg "check_seen" s_check_seen ["seen"] c) (TB : GxR.TabB base mg c PT) (hT : PT ∈ T) (hG : GT.q PT = none) (h_is_filled : HasD P w K mg base T k "is_filled" ["value", "low", "high"] spFilledD) (h_is_between : HasD P w K mg base T k "is_between" ["value", "low", "high"] spBetD) {t0 : Tok} (m_MOST_SEEN : mg "MOST_SEEN" = some (.int 8 t0)) {t1 : Tok} (m_MOST_ENTRIES : mg "MOST_ENTRIES" = some (.int 13 t1)) (z_all : mg "all" = none) : HasD P w K mg base T (k + 1 + 1) "check_seen" ["seen"] spSeenD := by
  have h0_is_between := h_is_between
  have h_is_filled := h_is_filled.mono (Nat.le_succ k)
  refine d.hasD sc_check_seen (fun ds Q E ⟨_, h, _⟩ => by rw [h]; rfl) (fun f A outer s H E hr po => (b_one (s_if (t_w (w_or (t_not (t_val (d_call h_is_filled hr (a_cons (d_var 0) (a_cons d_int (a_cons (d_globI (i := 8) m_MOST_SEEN) a_nil)))))) (w_or1 (t_not (t_val (d_allG (own := [("claim", 1)]) hr rfl sc_check_seen.nd z_all TB hT hG rfl (i_any (d_var 0)) (blkOk_by (N := N_check_seen) (sc := defScope s_check_seen) (by decide +kernel)) (fun _ _ _ _ _ _ _ _ => (g_name 1 sc_check_seen.nd)) (fun _ _ _ _ _ _ _ hr => ifs_nil) (fun _ _ _ _ _ _ _ hr => (d_call h0_is_between hr (a_cons (d_var 1) (a_cons d_int (a_cons (d_op op_sub opd_sub (d_globI (i := 13) m_MOST_ENTRIES) d_int) a_nil))))))))))) (b_one s_never) b_nil))) ?_
  rintro ds Q E ⟨ss, rfl, hl, hs, q⟩
  refine ⟨[.va (.tup (ss.map D.int)), .un], rfl, ?_⟩
  simp only [iRan3, pInD, List.any_cons, List.any_nil, sRaise, eTold, sSeq, sSeqN, sRetO, sTupA, tupGo, sSet, sOwn, sAsg, sPar, sPar3, slOf, sRet, sExpr, sIf, sApp, sPut, sFrz, sAugI, eVar, eVarB, eC, eOp, tOpD, eNeg, eNot, eChain, eAnd, eOr, tV, tN, tA, tO, eIf, aNil, aCons, aStar, eTup, eLst, eLen, eTuple, eList, eAbs, eInt, eGcd, eIsI, eIsI2, eCall, eCallR, gVa, gNil', gCons', gTup', eSlT, eSlL, eRevL, oNone, oSome, e2I, eSum, eMaxL, eMaxT, eAllI, eAnyI, eAllG, eAnyG, eAnyT, eSumG, eTupG, tT, List.isEmpty_cons, List.isEmpty_nil, pI, pI0, pAdd, pCat, pMul, pMulB, pEq, pNe, pIs, pIsNot, pIx, pRepL, List.getElem?_cons_zero, List.getElem?_cons_succ, List.set_cons_zero, List.set_cons_succ, startR, List.map_cons, List.map_nil, List.cons_append, List.nil_append, List.length_cons, List.length_nil, List.replicate_succ, List.replicate_zero, Nat.add_sub_cancel, Nat.reduceAdd, Nat.reduceSub, Nat.reduceLeDiff, if_true, if_false, ite_true, ite_false, reduceIte, true_and, and_true, is_non_int, is_non_bool, is_non_tuple, is_non_list, is_non_str, is_bl_int, is_bl_bool, is_bl_tuple, is_bl_list, is_bl_str, is_int_int, is_int_bool, is_int_tuple, is_int_list, is_int_str, is_str_int, is_str_bool, is_str_tuple, is_str_list, is_str_str, is_tup_int, is_tup_bool, is_tup_tuple, is_tup_list, is_tup_str, is_lst_int, is_lst_bool, is_lst_tuple, is_lst_list, is_lst_str, spIsIntD_eq, isInt_int, spBetD_eq, bet_int, Nat.sub_self, Bool.false_eq_true, if_pos trivial, atI_0, atI_1, atI_2, atI_3, atI_4, atI_5, atI_6, ex_some, cap0, cap1, cap2, cap3, cap4, cap5, cap6, cap7, cap8, cap10, deq_int, iAny, iRan1, iRan2, iRev', iRevR1, iEnuA, iZip', sFor, eLc, wipeR, tTrue, pInG, eSum2, forall_eq, ne_eq, Bool.not_true, Bool.not_false, decide_true, decide_false]
  refine ⟨_, 0, 8, rfl, by omega, by rw [List.length_map]; omega, ?_⟩
  simp only [iRan3, pInD, List.any_cons, List.any_nil, sRaise, eTold, sSeq, sSeqN, sRetO, sTupA, tupGo, sSet, sOwn, sAsg, sPar, sPar3, slOf, sRet, sExpr, sIf, sApp, sPut, sFrz, sAugI, eVar, eVarB, eC, eOp, tOpD, eNeg, eNot, eChain, eAnd, eOr, tV, tN, tA, tO, eIf, aNil, aCons, aStar, eTup, eLst, eLen, eTuple, eList, eAbs, eInt, eGcd, eIsI, eIsI2, eCall, eCallR, gVa, gNil', gCons', gTup', eSlT, eSlL, eRevL, oNone, oSome, e2I, eSum, eMaxL, eMaxT, eAllI, eAnyI, eAllG, eAnyG, eAnyT, eSumG, eTupG, tT, List.isEmpty_cons, List.isEmpty_nil, pI, pI0, pAdd, pCat, pMul, pMulB, pEq, pNe, pIs, pIsNot, pIx, pRepL, List.getElem?_cons_zero, List.getElem?_cons_succ, List.set_cons_zero, List.set_cons_succ, startR, List.map_cons, List.map_nil, List.cons_append, List.nil_append, List.length_cons, List.length_nil, List.replicate_succ, List.replicate_zero, Nat.add_sub_cancel, Nat.reduceAdd, Nat.reduceSub, Nat.reduceLeDiff, if_true, if_false, ite_true, ite_false, reduceIte, true_and, and_true, is_non_int, is_non_bool, is_non_tuple, is_non_list, is_non_str, is_bl_int, is_bl_bool, is_bl_tuple, is_bl_list, is_bl_str, is_int_int, is_int_bool, is_int_tuple, is_int_list, is_int_str, is_str_int, is_str_bool, is_str_tuple, is_str_list, is_str_str, is_tup_int, is_tup_bool, is_tup_tuple, is_tup_list, is_tup_str, is_lst_int, is_lst_bool, is_lst_tuple, is_lst_list, is_lst_str, spIsIntD_eq, isInt_int, spBetD_eq, bet_int, Nat.sub_self, Bool.false_eq_true, if_pos trivial, atI_0, atI_1, atI_2, atI_3, atI_4, atI_5, atI_6, ex_some, cap0, cap1, cap2, cap3, cap4, cap5, cap6, cap7, cap8, cap10, deq_int, iAny, iRan1, iRan2, iRev', iRevR1, iEnuA, iZip', sFor, eLc, wipeR, tTrue, pInG, eSum2, forall_eq, ne_eq, Bool.not_true, Bool.not_false, decide_true, decide_false]
  refine allF_true (fun d hd F hF => ?_) ?_
  · obtain ⟨n, hn, rfl⟩ := List.mem_map.mp hd
    have := hs n hn
    simp only [iRan3, pInD, List.any_cons, List.any_nil, sRaise, eTold, sSeq, sSeqN, sRetO, sTupA, tupGo, sSet, sOwn, sAsg, sPar, sPar3, slOf, sRet, sExpr, sIf, sApp, sPut, sFrz, sAugI, eVar, eVarB, eC, eOp, tOpD, eNeg, eNot, eChain, eAnd, eOr, tV, tN, tA, tO, eIf, aNil, aCons, aStar, eTup, eLst, eLen, eTuple, eList, eAbs, eInt, eGcd, eIsI, eIsI2, eCall, eCallR, gVa, gNil', gCons', gTup', eSlT, eSlL, eRevL, oNone, oSome, e2I, eSum, eMaxL, eMaxT, eAllI, eAnyI, eAllG, eAnyG, eAnyT, eSumG, eTupG, tT, List.isEmpty_cons, List.isEmpty_nil, pI, pI0, pAdd, pCat, pMul, pMulB, pEq, pNe, pIs, pIsNot, pIx, pRepL, List.getElem?_cons_zero, List.getElem?_cons_succ, List.set_cons_zero, List.set_cons_succ, startR, List.map_cons, List.map_nil, List.cons_append, List.nil_append, List.length_cons, List.length_nil, List.replicate_succ, List.replicate_zero, Nat.add_sub_cancel, Nat.reduceAdd, Nat.reduceSub, Nat.reduceLeDiff, if_true, if_false, ite_true, ite_false, reduceIte, true_and, and_true, is_non_int, is_non_bool, is_non_tuple, is_non_list, is_non_str, is_bl_int, is_bl_bool, is_bl_tuple, is_bl_list, is_bl_str, is_int_int, is_int_bool, is_int_tuple, is_int_list, is_int_str, is_str_int, is_str_bool, is_str_tuple, is_str_list, is_str_str, is_tup_int, is_tup_bool, is_tup_tuple, is_tup_list, is_tup_str, is_lst_int, is_lst_bool, is_lst_tuple, is_lst_list, is_lst_str, spIsIntD_eq, isInt_int, spBetD_eq, bet_int, Nat.sub_self, Bool.false_eq_true, if_pos trivial, atI_0, atI_1, atI_2, atI_3, atI_4, atI_5, atI_6, ex_some, cap0, cap1, cap2, cap3, cap4, cap5, cap6, cap7, cap8, cap10, deq_int, iAny, iRan1, iRan2, iRev', iRevR1, iEnuA, iZip', sFor, eLc, wipeR, tTrue, pInG, eSum2, forall_eq, ne_eq, Bool.not_true, Bool.not_false, decide_true, decide_false]
    exact ⟨true, congrArg D.bl (decide_eq_true (by omega)), hF⟩
  · simp only [iRan3, pInD, List.any_cons, List.any_nil, sRaise, eTold, sSeq, sSeqN, sRetO, sTupA, tupGo, sSet, sOwn, sAsg, sPar, sPar3, slOf, sRet, sExpr, sIf, sApp, sPut, sFrz, sAugI, eVar, eVarB, eC, eOp, tOpD, eNeg, eNot, eChain, eAnd, eOr, tV, tN, tA, tO, eIf, aNil, aCons, aStar, eTup, eLst, eLen, eTuple, eList, eAbs, eInt, eGcd, eIsI, eIsI2, eCall, eCallR, gVa, gNil', gCons', gTup', eSlT, eSlL, eRevL, oNone, oSome, e2I, eSum, eMaxL, eMaxT, eAllI, eAnyI, eAllG, eAnyG, eAnyT, eSumG, eTupG, tT, List.isEmpty_cons, List.isEmpty_nil, pI, pI0, pAdd, pCat, pMul, pMulB, pEq, pNe, pIs, pIsNot, pIx, pRepL, List.getElem?_cons_zero, List.getElem?_cons_succ, List.set_cons_zero, List.set_cons_succ, startR, List.map_cons, List.map_nil, List.cons_append, List.nil_append, List.length_cons, List.length_nil, List.replicate_succ, List.replicate_zero, Nat.add_sub_cancel, Nat.reduceAdd, Nat.reduceSub, Nat.reduceLeDiff, if_true, if_false, ite_true, ite_false, reduceIte, true_and, and_true, is_non_int, is_non_bool, is_non_tuple, is_non_list, is_non_str, is_bl_int, is_bl_bool, is_bl_tuple, is_bl_list, is_bl_str, is_int_int, is_int_bool, is_int_tuple, is_int_list, is_int_str, is_str_int, is_str_bool, is_str_tuple, is_str_list, is_str_str, is_tup_int, is_tup_bool, is_tup_tuple, is_tup_list, is_tup_str, is_lst_int, is_lst_bool, is_lst_tuple, is_lst_list, is_lst_str, spIsIntD_eq, isInt_int, spBetD_eq, bet_int, Nat.sub_self, Bool.false_eq_true, if_pos trivial, atI_0, atI_1, atI_2, atI_3, atI_4, atI_5, atI_6, ex_some, cap0, cap1, cap2, cap3, cap4, cap5, cap6, cap7, cap8, cap10, deq_int, iAny, iRan1, iRan2, iRev', iRevR1, iEnuA, iZip', sFor, eLc, wipeR, tTrue, pInG, eSum2, forall_eq, ne_eq, Bool.not_true, Bool.not_false, decide_true, decide_false]
    exact q
abbrev s_make_ratio : Stmt := topS 13
abbrev N_make_ratio : List Str := ["top", "bottom", "shared"]
theorem sc_make_ratio : FnScope N_make_ratio ["top", "bottom"] (defScope s_make_ratio) := ⟨rfl, rfl, rfl, by decide +kernel, rfl, by decide +kernel, by decide +kernel⟩
theorem has_make_ratio (d : Df K mg "make_ratio" s_make_ratio ["top", "bottom"]) (m_gcd : mg "gcd" = some (.builtin "math.gcd")) : HasD P w K mg base T (k + 1) "make_ratio" ["top", "bottom"] spMakeD := by
  refine d.hasD sc_make_ratio (fun ds Q E ⟨_, _, _, h, _⟩ => by rw [h]; rfl) (fun f cdv A outer s H E hr po => (b_cons (s_set (i := 2) sc_make_ratio.nd (d_gcd m_gcd (d_var 0) (d_var 1)))
      (b_cons (s_if (t_cmp op_lt opd_lt (d_var 1) d_int) (b_one (s_set (i := 2) sc_make_ratio.nd (d_neg (d_var 2)))) b_nil)
      (b_one (s_ret (d_tup (a_cons (d_op op_fdivZ opd_fdiv (d_var 0) (d_var 2)) (a_cons (d_op op_fdivZ opd_fdiv (d_var 1) (d_var 2)) a_nil)))))))) ?_
  rintro ds Q E ⟨t, b, n, rfl, hb, hn, hl, q⟩
  refine ⟨[.va (.int t), .va (.int b), .un], rfl, ?_⟩
  simp only [iRan3, pInD, List.any_cons, List.any_nil, sRaise, eTold, sSeq, sSeqN, sRetO, sTupA, tupGo, sSet, sOwn, sAsg, sPar, sPar3, slOf, sRet, sExpr, sIf, sApp, sPut, sFrz, sAugI, eVar, eVarB, eC, eOp, tOpD, eNeg, eNot, eChain, eAnd, eOr, tV, tN, tA, tO, eIf, aNil, aCons, aStar, eTup, eLst, eLen, eTuple, eList, eAbs, eInt, eGcd, eIsI, eIsI2, eCall, eCallR, gVa, gNil', gCons', gTup', eSlT, eSlL, eRevL, oNone, oSome, e2I, eSum, eMaxL, eMaxT, eAllI, eAnyI, eAllG, eAnyG, eAnyT, eSumG, eTupG, tT, List.isEmpty_cons, List.isEmpty_nil, pI, pI0, pAdd, pCat, pMul, pMulB, pEq, pNe, pIs, pIsNot, pIx, pRepL, List.getElem?_cons_zero, List.getElem?_cons_succ, List.set_cons_zero, List.set_cons_succ, startR, List.map_cons, List.map_nil, List.cons_append, List.nil_append, List.length_cons, List.length_nil, List.replicate_succ, List.replicate_zero, Nat.add_sub_cancel, Nat.reduceAdd, Nat.reduceSub, Nat.reduceLeDiff, if_true, if_false, ite_true, ite_false, reduceIte, true_and, and_true, is_non_int, is_non_bool, is_non_tuple, is_non_list, is_non_str, is_bl_int, is_bl_bool, is_bl_tuple, is_bl_list, is_bl_str, is_int_int, is_int_bool, is_int_tuple, is_int_list, is_int_str, is_str_int, is_str_bool, is_str_tuple, is_str_list, is_str_str, is_tup_int, is_tup_bool, is_tup_tuple, is_tup_list, is_tup_str, is_lst_int, is_lst_bool, is_lst_tuple, is_lst_list, is_lst_str, spIsIntD_eq, isInt_int, spBetD_eq, bet_int, Nat.sub_self, Bool.false_eq_true, if_pos trivial, atI_0, atI_1, atI_2, atI_3, atI_4, atI_5, atI_6, ex_some, cap0, cap1, cap2, cap3, cap4, cap5, cap6, cap7, cap8, cap10, deq_int, iAny, iRan1, iRan2, iRev', iRevR1, iEnuA, iZip', sFor, eLc, wipeR, tTrue, pInG, eSum2, forall_eq, ne_eq, Bool.not_true, Bool.not_false, decide_true, decide_false]
  have hg : ((Nat.gcd t.natAbs b.natAbs : Nat) : Int) ≠ 0 := by
    have : 0 < Nat.gcd t.natAbs b.natAbs := Nat.gcd_pos_of_pos_right _ (Int.natAbs_pos.mpr hb)
    omega
  have hgl : Nat.gcd t.natAbs b.natAbs ≤ b.natAbs := Nat.gcd_le_right _ (Int.natAbs_pos.mpr hb)
  have f1 := fdiv_top (t := t) hb
  have f2 := fdiv_bottom (t := t) hb
  by_cases c : b < 0
  · rw [Int.sign_eq_neg_one_of_neg c, show ∀ z : Int, -1 * z = -z by intro z; omega] at f1 f2
    simp only [c, decide_true, if_true, f1, f2]
    exact ⟨cdivz (by omega) (n := n) (by rw [Int.natAbs_neg]; omega) (by omega), cdivz (by omega) (n := n) (by rw [Int.natAbs_neg]; omega) (by omega), q⟩
  · rw [Int.sign_eq_one_of_pos (by omega), Int.one_mul] at f1 f2
    simp only [c, decide_false, Bool.false_eq_true, if_false, f1, f2]
    exact ⟨cdivz (by omega) (n := n) (by omega) (by omega), cdivz (by omega) (n := n) (by omega) (by omega), q⟩
abbrev s_chances_of : Stmt := topS 26
abbrev N_chances_of : List Str := ["claims", "weight"]
theorem sc_chances_of : FnScope N_chances_of ["claims"] (defScope s_chances_of) := ⟨rfl, rfl, rfl, by decide +kernel, rfl, by decide +kernel, by decide +kernel⟩
theorem has_chances_of (d : Df K mg "chances_of" s_chances_of ["claims"]) (h_make_ratio : HasD P w K mg base T k "make_ratio" ["top", "bottom"] spMakeD) (z_sum : mg "sum" = none) : HasD P w K mg base T (k + 1) "chances_of" ["claims"] spChsD := by
  refine d.hasD sc_chances_of (fun ds Q E ⟨_, h, _⟩ => by rw [h]; rfl) (fun f cdv A outer s H E hr po => (b_one (s_ret (PD.fr (d_lc (own := [("weight", 1)]) rfl sc_chances_of.nd (i_any (d_var 0)) (blkOk_by (N := N_chances_of) (sc := defScope s_chances_of) (by decide +kernel)) (fun _ _ _ _ _ => (g_name 1 sc_chances_of.nd)) (fun _ _ _ _ _ => ifs_nil) (fun _ _ _ _ _ => (d_call h_make_ratio hr (a_cons (d_var 1) (a_cons (d_sumA z_sum (d_var 0)) a_nil))))))))) ?_
  rintro ds Q E ⟨ws, rfl, h, hl, q⟩
  refine ⟨[.va (.tup (ws.map D.int)), .un], rfl, ?_⟩
  simp only [iRan3, pInD, List.any_cons, List.any_nil, sRaise, eTold, sSeq, sSeqN, sRetO, sTupA, tupGo, sSet, sOwn, sAsg, sPar, sPar3, slOf, sRet, sExpr, sIf, sApp, sPut, sFrz, sAugI, eVar, eVarB, eC, eOp, tOpD, eNeg, eNot, eChain, eAnd, eOr, tV, tN, tA, tO, eIf, aNil, aCons, aStar, eTup, eLst, eLen, eTuple, eList, eAbs, eInt, eGcd, eIsI, eIsI2, eCall, eCallR, gVa, gNil', gCons', gTup', eSlT, eSlL, eRevL, oNone, oSome, e2I, eSum, eMaxL, eMaxT, eAllI, eAnyI, eAllG, eAnyG, eAnyT, eSumG, eTupG, tT, List.isEmpty_cons, List.isEmpty_nil, pI, pI0, pAdd, pCat, pMul, pMulB, pEq, pNe, pIs, pIsNot, pIx, pRepL, List.getElem?_cons_zero, List.getElem?_cons_succ, List.set_cons_zero, List.set_cons_succ, startR, List.map_cons, List.map_nil, List.cons_append, List.nil_append, List.length_cons, List.length_nil, List.replicate_succ, List.replicate_zero, Nat.add_sub_cancel, Nat.reduceAdd, Nat.reduceSub, Nat.reduceLeDiff, if_true, if_false, ite_true, ite_false, reduceIte, true_and, and_true, is_non_int, is_non_bool, is_non_tuple, is_non_list, is_non_str, is_bl_int, is_bl_bool, is_bl_tuple, is_bl_list, is_bl_str, is_int_int, is_int_bool, is_int_tuple, is_int_list, is_int_str, is_str_int, is_str_bool, is_str_tuple, is_str_list, is_str_str, is_tup_int, is_tup_bool, is_tup_tuple, is_tup_list, is_tup_str, is_lst_int, is_lst_bool, is_lst_tuple, is_lst_list, is_lst_str, spIsIntD_eq, isInt_int, spBetD_eq, bet_int, Nat.sub_self, Bool.false_eq_true, if_pos trivial, atI_0, atI_1, atI_2, atI_3, atI_4, atI_5, atI_6, ex_some, cap0, cap1, cap2, cap3, cap4, cap5, cap6, cap7, cap8, cap10, deq_int, iAny, iRan1, iRan2, iRev', iRevR1, iEnuA, iZip', sFor, eLc, wipeR, tTrue, pInG, eSum2, forall_eq, ne_eq, Bool.not_true, Bool.not_false, decide_true, decide_false]
  have hp := h.sum_pos
  have hs := s_bd h hl
  refine lc_each D.int (fun n => dR (n /. ws.sum)) (by show _ ≤ 1000000; omega) ?_ ?_
  · intro n hn F hF
    simp only [iRan3, pInD, List.any_cons, List.any_nil, sRaise, eTold, sSeq, sSeqN, sRetO, sTupA, tupGo, sSet, sOwn, sAsg, sPar, sPar3, slOf, sRet, sExpr, sIf, sApp, sPut, sFrz, sAugI, eVar, eVarB, eC, eOp, tOpD, eNeg, eNot, eChain, eAnd, eOr, tV, tN, tA, tO, eIf, aNil, aCons, aStar, eTup, eLst, eLen, eTuple, eList, eAbs, eInt, eGcd, eIsI, eIsI2, eCall, eCallR, gVa, gNil', gCons', gTup', eSlT, eSlL, eRevL, oNone, oSome, e2I, eSum, eMaxL, eMaxT, eAllI, eAnyI, eAllG, eAnyG, eAnyT, eSumG, eTupG, tT, List.isEmpty_cons, List.isEmpty_nil, pI, pI0, pAdd, pCat, pMul, pMulB, pEq, pNe, pIs, pIsNot, pIx, pRepL, List.getElem?_cons_zero, List.getElem?_cons_succ, List.set_cons_zero, List.set_cons_succ, startR, List.map_cons, List.map_nil, List.cons_append, List.nil_append, List.length_cons, List.length_nil, List.replicate_succ, List.replicate_zero, Nat.add_sub_cancel, Nat.reduceAdd, Nat.reduceSub, Nat.reduceLeDiff, if_true, if_false, ite_true, ite_false, reduceIte, true_and, and_true, is_non_int, is_non_bool, is_non_tuple, is_non_list, is_non_str, is_bl_int, is_bl_bool, is_bl_tuple, is_bl_list, is_bl_str, is_int_int, is_int_bool, is_int_tuple, is_int_list, is_int_str, is_str_int, is_str_bool, is_str_tuple, is_str_list, is_str_str, is_tup_int, is_tup_bool, is_tup_tuple, is_tup_list, is_tup_str, is_lst_int, is_lst_bool, is_lst_tuple, is_lst_list, is_lst_str, spIsIntD_eq, isInt_int, spBetD_eq, bet_int, Nat.sub_self, Bool.false_eq_true, if_pos trivial, atI_0, atI_1, atI_2, atI_3, atI_4, atI_5, atI_6, ex_some, cap0, cap1, cap2, cap3, cap4, cap5, cap6, cap7, cap8, cap10, deq_int, iAny, iRan1, iRan2, iRev', iRevR1, iEnuA, iZip', sFor, eLc, wipeR, tTrue, pInG, eSum2, forall_eq, ne_eq, Bool.not_true, Bool.not_false, decide_true, decide_false]
    exact ⟨ws, rfl, n, ws.sum, 14, rfl, by omega, by have := hs.1; show _ < 16384; have : ws.sum.toNat < 16384 := hs.1; omega, by omega, hF⟩
  · have em : ws.map (fun n => dR (n /. ws.sum)) = dRs (chs ws) := by
      unfold dRs chs
      rw [List.map_map]
      rfl
    rw [em]
    exact q
abbrev s_multiplied : Stmt := topS 15
abbrev N_multiplied : List Str := ["one", "other"]
theorem sc_multiplied : FnScope N_multiplied ["one", "other"] (defScope s_multiplied) := ⟨rfl, rfl, rfl, by decide +kernel, rfl, by decide +kernel, by decide +kernel⟩
theorem has_multiplied (d : Df K mg "multiplied" s_multiplied ["one", "other"]) (h_make_ratio : HasD P w K mg base T k "make_ratio" ["top", "bottom"] spMakeD) : HasD P w K mg base T (k + 1) "multiplied" ["one", "other"] spMulD := by
  refine d.hasD sc_multiplied (fun ds Q E ⟨_, _, _, _, h, _⟩ => by rw [h]; rfl) (fun f cdv A outer s H E hr po => (b_one (s_ret (d_call h_make_ratio hr (a_cons (d_op o_mul opd_mul (d_ix (d_var 0) d_int) (d_ix (d_var 1) d_int)) (a_cons (d_op o_mul opd_mul (d_ix (d_var 0) d_int) (d_ix (d_var 1) d_int)) a_nil)))))) ?_
  rintro ds Q E ⟨a, b, n, m, rfl, ba, bb, hl, -, q⟩
  refine ⟨[.va (dR a), .va (dR b)], rfl, ?_⟩
  simp only [dR]
  simp only [iRan3, pInD, List.any_cons, List.any_nil, sRaise, eTold, sSeq, sSeqN, sRetO, sTupA, tupGo, sSet, sOwn, sAsg, sPar, sPar3, slOf, sRet, sExpr, sIf, sApp, sPut, sFrz, sAugI, eVar, eVarB, eC, eOp, tOpD, eNeg, eNot, eChain, eAnd, eOr, tV, tN, tA, tO, eIf, aNil, aCons, aStar, eTup, eLst, eLen, eTuple, eList, eAbs, eInt, eGcd, eIsI, eIsI2, eCall, eCallR, gVa, gNil', gCons', gTup', eSlT, eSlL, eRevL, oNone, oSome, e2I, eSum, eMaxL, eMaxT, eAllI, eAnyI, eAllG, eAnyG, eAnyT, eSumG, eTupG, tT, List.isEmpty_cons, List.isEmpty_nil, pI, pI0, pAdd, pCat, pMul, pMulB, pEq, pNe, pIs, pIsNot, pIx, pRepL, List.getElem?_cons_zero, List.getElem?_cons_succ, List.set_cons_zero, List.set_cons_succ, startR, List.map_cons, List.map_nil, List.cons_append, List.nil_append, List.length_cons, List.length_nil, List.replicate_succ, List.replicate_zero, Nat.add_sub_cancel, Nat.reduceAdd, Nat.reduceSub, Nat.reduceLeDiff, if_true, if_false, ite_true, ite_false, reduceIte, true_and, and_true, is_non_int, is_non_bool, is_non_tuple, is_non_list, is_non_str, is_bl_int, is_bl_bool, is_bl_tuple, is_bl_list, is_bl_str, is_int_int, is_int_bool, is_int_tuple, is_int_list, is_int_str, is_str_int, is_str_bool, is_str_tuple, is_str_list, is_str_str, is_tup_int, is_tup_bool, is_tup_tuple, is_tup_list, is_tup_str, is_lst_int, is_lst_bool, is_lst_tuple, is_lst_list, is_lst_str, spIsIntD_eq, isInt_int, spBetD_eq, bet_int, Nat.sub_self, Bool.false_eq_true, if_pos trivial, atI_0, atI_1, atI_2, atI_3, atI_4, atI_5, atI_6, ex_some, cap0, cap1, cap2, cap3, cap4, cap5, cap6, cap7, cap8, cap10, deq_int, iAny, iRan1, iRan2, iRev', iRevR1, iEnuA, iZip', sFor, eLc, wipeR, tTrue, pInG, eSum2, forall_eq, ne_eq, Bool.not_true, Bool.not_false, decide_true, decide_false]
  refine ⟨cmul (a := n) (b := m) ba.1 bb.1 (by omega), cmul (a := n) (b := m) (by exact ba.2) (by exact bb.2) (by omega), _, _, n + m + 1, rfl, dens_ne a b, (add_parts ba bb).2, by omega, ?_⟩
  rw [mul_eq_divInt]
  exact q
abbrev s_all_multiplied : Stmt := topS 19
abbrev N_all_multiplied : List Str := ["ratios", "found", "ratio"]
theorem sc_all_multiplied : FnScope N_all_multiplied ["ratios"] (defScope s_all_multiplied) := ⟨rfl, rfl, rfl, by decide +kernel, rfl, by decide +kernel, by decide +kernel⟩
theorem has_all_multiplied (d : Df K mg "all_multiplied" s_all_multiplied ["ratios"]) (h_multiplied : HasD P w K mg base T k "multiplied" ["one", "other"] spMulD) {a_ONE : Addr} (m_ONE : mg "ONE" = some (.ref a_ONE)) (t_ONE : ∀ H, ST K H a_ONE [.int 1, .int 1]) : HasD P w K mg base T (k + 1) "all_multiplied" ["ratios"] spProdD := by
  refine d.hasD sc_all_multiplied (fun ds Q E ⟨_, _, h, _⟩ => by rw [h]; rfl) (fun f cdv A outer s H E hr po => (b_cons (s_set (i := 1) sc_all_multiplied.nd (d_globT (js := [1, 1]) m_ONE t_ONE))
      (b_cons (s_for po rfl (i_any (d_var 0)) (g_name 2 sc_all_multiplied.nd) (b_one (s_set (i := 1) sc_all_multiplied.nd (d_call h_multiplied hr (a_cons (d_var 1) (a_cons (d_var 2) a_nil))))))
      (b_one (s_ret (d_var 1)))))) ?_
  rintro ds Q E ⟨rs, n, rfl, ⟨hb, hs⟩, hn, q⟩
  refine ⟨[.va (.lst (dRs rs)), .un, .un], rfl, ?_⟩
  simp only [iRan3, pInD, List.any_cons, List.any_nil, sRaise, eTold, sSeq, sSeqN, sRetO, sTupA, tupGo, sSet, sOwn, sAsg, sPar, sPar3, slOf, sRet, sExpr, sIf, sApp, sPut, sFrz, sAugI, eVar, eVarB, eC, eOp, tOpD, eNeg, eNot, eChain, eAnd, eOr, tV, tN, tA, tO, eIf, aNil, aCons, aStar, eTup, eLst, eLen, eTuple, eList, eAbs, eInt, eGcd, eIsI, eIsI2, eCall, eCallR, gVa, gNil', gCons', gTup', eSlT, eSlL, eRevL, oNone, oSome, e2I, eSum, eMaxL, eMaxT, eAllI, eAnyI, eAllG, eAnyG, eAnyT, eSumG, eTupG, tT, List.isEmpty_cons, List.isEmpty_nil, pI, pI0, pAdd, pCat, pMul, pMulB, pEq, pNe, pIs, pIsNot, pIx, pRepL, List.getElem?_cons_zero, List.getElem?_cons_succ, List.set_cons_zero, List.set_cons_succ, startR, List.map_cons, List.map_nil, List.cons_append, List.nil_append, List.length_cons, List.length_nil, List.replicate_succ, List.replicate_zero, Nat.add_sub_cancel, Nat.reduceAdd, Nat.reduceSub, Nat.reduceLeDiff, if_true, if_false, ite_true, ite_false, reduceIte, true_and, and_true, is_non_int, is_non_bool, is_non_tuple, is_non_list, is_non_str, is_bl_int, is_bl_bool, is_bl_tuple, is_bl_list, is_bl_str, is_int_int, is_int_bool, is_int_tuple, is_int_list, is_int_str, is_str_int, is_str_bool, is_str_tuple, is_str_list, is_str_str, is_tup_int, is_tup_bool, is_tup_tuple, is_tup_list, is_tup_str, is_lst_int, is_lst_bool, is_lst_tuple, is_lst_list, is_lst_str, spIsIntD_eq, isInt_int, spBetD_eq, bet_int, Nat.sub_self, Bool.false_eq_true, if_pos trivial, atI_0, atI_1, atI_2, atI_3, atI_4, atI_5, atI_6, ex_some, cap0, cap1, cap2, cap3, cap4, cap5, cap6, cap7, cap8, cap10, deq_int, iAny, iRan1, iRan2, iRev', iRevR1, iEnuA, iZip', sFor, eLc, wipeR, tTrue, pInG, eSum2, forall_eq, ne_eq, Bool.not_true, Bool.not_false, decide_true, decide_false]
  refine for_nat (fun i ρ => i ≤ rs.length ∧ ∃ x, ρ = [.va (.lst (dRs rs)), .va (dR (prodL (rs.take i))), x]) ⟨Nat.zero_le _, _, rfl⟩ ?_ ?_
  · rintro i d ρ F hd ⟨_, x, rfl⟩ hF
    obtain ⟨r, hr, rfl⟩ := dRs_at hd
    simp only [iRan3, pInD, List.any_cons, List.any_nil, sRaise, eTold, sSeq, sSeqN, sRetO, sTupA, tupGo, sSet, sOwn, sAsg, sPar, sPar3, slOf, sRet, sExpr, sIf, sApp, sPut, sFrz, sAugI, eVar, eVarB, eC, eOp, tOpD, eNeg, eNot, eChain, eAnd, eOr, tV, tN, tA, tO, eIf, aNil, aCons, aStar, eTup, eLst, eLen, eTuple, eList, eAbs, eInt, eGcd, eIsI, eIsI2, eCall, eCallR, gVa, gNil', gCons', gTup', eSlT, eSlL, eRevL, oNone, oSome, e2I, eSum, eMaxL, eMaxT, eAllI, eAnyI, eAllG, eAnyG, eAnyT, eSumG, eTupG, tT, List.isEmpty_cons, List.isEmpty_nil, pI, pI0, pAdd, pCat, pMul, pMulB, pEq, pNe, pIs, pIsNot, pIx, pRepL, List.getElem?_cons_zero, List.getElem?_cons_succ, List.set_cons_zero, List.set_cons_succ, startR, List.map_cons, List.map_nil, List.cons_append, List.nil_append, List.length_cons, List.length_nil, List.replicate_succ, List.replicate_zero, Nat.add_sub_cancel, Nat.reduceAdd, Nat.reduceSub, Nat.reduceLeDiff, if_true, if_false, ite_true, ite_false, reduceIte, true_and, and_true, is_non_int, is_non_bool, is_non_tuple, is_non_list, is_non_str, is_bl_int, is_bl_bool, is_bl_tuple, is_bl_list, is_bl_str, is_int_int, is_int_bool, is_int_tuple, is_int_list, is_int_str, is_str_int, is_str_bool, is_str_tuple, is_str_list, is_str_str, is_tup_int, is_tup_bool, is_tup_tuple, is_tup_list, is_tup_str, is_lst_int, is_lst_bool, is_lst_tuple, is_lst_list, is_lst_str, spIsIntD_eq, isInt_int, spBetD_eq, bet_int, Nat.sub_self, Bool.false_eq_true, if_pos trivial, atI_0, atI_1, atI_2, atI_3, atI_4, atI_5, atI_6, ex_some, cap0, cap1, cap2, cap3, cap4, cap5, cap6, cap7, cap8, cap10, deq_int, iAny, iRan1, iRan2, iRev', iRevR1, iEnuA, iZip', sFor, eLc, wipeR, tTrue, pInG, eSum2, forall_eq, ne_eq, Bool.not_true, Bool.not_false, decide_true, decide_false]
    have hi : i < rs.length := (List.getElem?_eq_some_iff.mp hr).1
    exact ⟨_, _, n, n, rfl, hs i (by omega), hb r (List.mem_of_getElem? hr), by omega, trivial, hF _ ⟨hi, _, by rw [prodL_take hr]⟩⟩
  · rintro ρ ⟨_, x, rfl⟩
    simp only [iRan3, pInD, List.any_cons, List.any_nil, sRaise, eTold, sSeq, sSeqN, sRetO, sTupA, tupGo, sSet, sOwn, sAsg, sPar, sPar3, slOf, sRet, sExpr, sIf, sApp, sPut, sFrz, sAugI, eVar, eVarB, eC, eOp, tOpD, eNeg, eNot, eChain, eAnd, eOr, tV, tN, tA, tO, eIf, aNil, aCons, aStar, eTup, eLst, eLen, eTuple, eList, eAbs, eInt, eGcd, eIsI, eIsI2, eCall, eCallR, gVa, gNil', gCons', gTup', eSlT, eSlL, eRevL, oNone, oSome, e2I, eSum, eMaxL, eMaxT, eAllI, eAnyI, eAllG, eAnyG, eAnyT, eSumG, eTupG, tT, List.isEmpty_cons, List.isEmpty_nil, pI, pI0, pAdd, pCat, pMul, pMulB, pEq, pNe, pIs, pIsNot, pIx, pRepL, List.getElem?_cons_zero, List.getElem?_cons_succ, List.set_cons_zero, List.set_cons_succ, startR, List.map_cons, List.map_nil, List.cons_append, List.nil_append, List.length_cons, List.length_nil, List.replicate_succ, List.replicate_zero, Nat.add_sub_cancel, Nat.reduceAdd, Nat.reduceSub, Nat.reduceLeDiff, if_true, if_false, ite_true, ite_false, reduceIte, true_and, and_true, is_non_int, is_non_bool, is_non_tuple, is_non_list, is_non_str, is_bl_int, is_bl_bool, is_bl_tuple, is_bl_list, is_bl_str, is_int_int, is_int_bool, is_int_tuple, is_int_list, is_int_str, is_str_int, is_str_bool, is_str_tuple, is_str_list, is_str_str, is_tup_int, is_tup_bool, is_tup_tuple, is_tup_list, is_tup_str, is_lst_int, is_lst_bool, is_lst_tuple, is_lst_list, is_lst_str, spIsIntD_eq, isInt_int, spBetD_eq, bet_int, Nat.sub_self, Bool.false_eq_true, if_pos trivial, atI_0, atI_1, atI_2, atI_3, atI_4, atI_5, atI_6, ex_some, cap0, cap1, cap2, cap3, cap4, cap5, cap6, cap7, cap8, cap10, deq_int, iAny, iRan1, iRan2, iRev', iRevR1, iEnuA, iZip', sFor, eLc, wipeR, tTrue, pInG, eSum2, forall_eq, ne_eq, Bool.not_true, Bool.not_false, decide_true, decide_false]
    have e : (dRs rs).length = rs.length := by simp [dRs]
    rw [e, List.take_length]
    exact q
abbrev s_chance_of_row : Stmt := topS 36
abbrev N_chance_of_row : List Str := ["claims", "seen", "chances", "claim"]
theorem sc_chance_of_row : FnScope N_chance_of_row ["claims", "seen"] (defScope s_chance_of_row) := ⟨rfl, rfl, rfl, by decide +kernel, rfl, by decide +kernel, by decide +kernel⟩
theorem has_chance_of_row (d : Df K mg "chance_of_row" s_chance_of_row ["claims", "seen"]) (h_chances_of : HasD P w K mg base T k "chances_of" ["claims"] spChsD) (h_all_multiplied : HasD P w K mg base T k "all_multiplied" ["ratios"] spProdD) {a_ZERO : Addr} (m_ZERO : mg "ZERO" = some (.ref a_ZERO)) (t_ZERO : ∀ H, ST K H a_ZERO [.int 0, .int 1]) (z_len : mg "len" = none) : HasD P w K mg base T (k + 1) "chance_of_row" ["claims", "seen"] spRowSD := by
  refine d.hasD sc_chance_of_row (fun ds Q E ⟨_, _, h, _⟩ => by rw [h]; rfl) (fun f cdv A outer s H E hr po => (b_cons (s_set (i := 2) sc_chance_of_row.nd (d_call h_chances_of hr (a_cons (d_var 0) a_nil)))
      (b_one (s_ret (d_call h_all_multiplied hr (a_cons (PD.fr (d_lc (own := [("claim", 3)]) rfl sc_chance_of_row.nd (i_any (d_var 1)) (blkOk_by (N := N_chance_of_row) (sc := defScope s_chance_of_row) (by decide +kernel)) (fun _ _ _ _ _ => (g_name 3 sc_chance_of_row.nd)) (fun _ _ _ _ _ => ifs_nil) (fun _ _ _ _ _ => (d_if (t_cmp op_lt opd_lt (d_var 3) (d_len z_len (d_var 2))) (d_ix (d_var 2) (d_var 3)) (d_globT (js := [0, 1]) m_ZERO t_ZERO))))) a_nil)))))) ?_
  rintro ds Q E ⟨ws, ss, rfl, h, hl, hs, q⟩
  refine ⟨[.va (.tup (ws.map D.int)), .va (.tup (ss.map D.int)), .un, .un], rfl, ?_⟩
  have sl := hs.len
  simp only [iRan3, pInD, List.any_cons, List.any_nil, sRaise, eTold, sSeq, sSeqN, sRetO, sTupA, tupGo, sSet, sOwn, sAsg, sPar, sPar3, slOf, sRet, sExpr, sIf, sApp, sPut, sFrz, sAugI, eVar, eVarB, eC, eOp, tOpD, eNeg, eNot, eChain, eAnd, eOr, tV, tN, tA, tO, eIf, aNil, aCons, aStar, eTup, eLst, eLen, eTuple, eList, eAbs, eInt, eGcd, eIsI, eIsI2, eCall, eCallR, gVa, gNil', gCons', gTup', eSlT, eSlL, eRevL, oNone, oSome, e2I, eSum, eMaxL, eMaxT, eAllI, eAnyI, eAllG, eAnyG, eAnyT, eSumG, eTupG, tT, List.isEmpty_cons, List.isEmpty_nil, pI, pI0, pAdd, pCat, pMul, pMulB, pEq, pNe, pIs, pIsNot, pIx, pRepL, List.getElem?_cons_zero, List.getElem?_cons_succ, List.set_cons_zero, List.set_cons_succ, startR, List.map_cons, List.map_nil, List.cons_append, List.nil_append, List.length_cons, List.length_nil, List.replicate_succ, List.replicate_zero, Nat.add_sub_cancel, Nat.reduceAdd, Nat.reduceSub, Nat.reduceLeDiff, if_true, if_false, ite_true, ite_false, reduceIte, true_and, and_true, is_non_int, is_non_bool, is_non_tuple, is_non_list, is_non_str, is_bl_int, is_bl_bool, is_bl_tuple, is_bl_list, is_bl_str, is_int_int, is_int_bool, is_int_tuple, is_int_list, is_int_str, is_str_int, is_str_bool, is_str_tuple, is_str_list, is_str_str, is_tup_int, is_tup_bool, is_tup_tuple, is_tup_list, is_tup_str, is_lst_int, is_lst_bool, is_lst_tuple, is_lst_list, is_lst_str, spIsIntD_eq, isInt_int, spBetD_eq, bet_int, Nat.sub_self, Bool.false_eq_true, if_pos trivial, atI_0, atI_1, atI_2, atI_3, atI_4, atI_5, atI_6, ex_some, cap0, cap1, cap2, cap3, cap4, cap5, cap6, cap7, cap8, cap10, deq_int, iAny, iRan1, iRan2, iRev', iRevR1, iEnuA, iZip', sFor, eLc, wipeR, tTrue, pInG, eSum2, forall_eq, ne_eq, Bool.not_true, Bool.not_false, decide_true, decide_false]
  refine ⟨ws, rfl, h, by omega, ?_⟩
  refine lc_each D.int (fun n => dR (pj ws n.toNat)) (by show _ ≤ 1000000; omega) ?_ ?_
  · intro n hn F hF
    have hb := hs.at' n hn
    obtain ⟨j, rfl⟩ : ∃ j : Nat, n = (j : Int) := ⟨n.toNat, by omega⟩
    rw [Int.toNat_natCast] at hF
    simp only [iRan3, pInD, List.any_cons, List.any_nil, sRaise, eTold, sSeq, sSeqN, sRetO, sTupA, tupGo, sSet, sOwn, sAsg, sPar, sPar3, slOf, sRet, sExpr, sIf, sApp, sPut, sFrz, sAugI, eVar, eVarB, eC, eOp, tOpD, eNeg, eNot, eChain, eAnd, eOr, tV, tN, tA, tO, eIf, aNil, aCons, aStar, eTup, eLst, eLen, eTuple, eList, eAbs, eInt, eGcd, eIsI, eIsI2, eCall, eCallR, gVa, gNil', gCons', gTup', eSlT, eSlL, eRevL, oNone, oSome, e2I, eSum, eMaxL, eMaxT, eAllI, eAnyI, eAllG, eAnyG, eAnyT, eSumG, eTupG, tT, List.isEmpty_cons, List.isEmpty_nil, pI, pI0, pAdd, pCat, pMul, pMulB, pEq, pNe, pIs, pIsNot, pIx, pRepL, List.getElem?_cons_zero, List.getElem?_cons_succ, List.set_cons_zero, List.set_cons_succ, startR, List.map_cons, List.map_nil, List.cons_append, List.nil_append, List.length_cons, List.length_nil, List.replicate_succ, List.replicate_zero, Nat.add_sub_cancel, Nat.reduceAdd, Nat.reduceSub, Nat.reduceLeDiff, if_true, if_false, ite_true, ite_false, reduceIte, true_and, and_true, is_non_int, is_non_bool, is_non_tuple, is_non_list, is_non_str, is_bl_int, is_bl_bool, is_bl_tuple, is_bl_list, is_bl_str, is_int_int, is_int_bool, is_int_tuple, is_int_list, is_int_str, is_str_int, is_str_bool, is_str_tuple, is_str_list, is_str_str, is_tup_int, is_tup_bool, is_tup_tuple, is_tup_list, is_tup_str, is_lst_int, is_lst_bool, is_lst_tuple, is_lst_list, is_lst_str, spIsIntD_eq, isInt_int, spBetD_eq, bet_int, Nat.sub_self, Bool.false_eq_true, if_pos trivial, atI_0, atI_1, atI_2, atI_3, atI_4, atI_5, atI_6, ex_some, cap0, cap1, cap2, cap3, cap4, cap5, cap6, cap7, cap8, cap10, deq_int, iAny, iRan1, iRan2, iRev', iRevR1, iEnuA, iZip', sFor, eLc, wipeR, tTrue, pInG, eSum2, forall_eq, ne_eq, Bool.not_true, Bool.not_false, decide_true, decide_false]
    rw [dRs_len2, chs_len]
    by_cases c : j < ws.length
    · rw [decide_eq_true (by omega)]
      simp only [if_true]
      exact ⟨_, chs_atI c, hF⟩
    · rw [decide_eq_false (by omega)]
      simp only [Bool.false_eq_true, if_false]
      rw [pj_ge (by omega)] at hF
      exact hF
  · have e : ss.map (fun n => dR (pj ws n.toNat)) = dRs (psL ws ss) := by unfold psL dRs; rw [List.map_map]; rfl
    rw [e]
    exact ⟨_, 57, rfl, ps_bd h hl hs, by decide, q⟩
abbrev s_plus : Stmt := topS 14
abbrev N_plus : List Str := ["one", "other"]
theorem sc_plus : FnScope N_plus ["one", "other"] (defScope s_plus) := ⟨rfl, rfl, rfl, by decide +kernel, rfl, by decide +kernel, by decide +kernel⟩
theorem has_plus (d : Df K mg "plus" s_plus ["one", "other"]) (h_make_ratio : HasD P w K mg base T k "make_ratio" ["top", "bottom"] spMakeD) : HasD P w K mg base T (k + 1) "plus" ["one", "other"] spPlusD := by
  refine d.hasD sc_plus (fun ds Q E ⟨_, _, _, _, h, _⟩ => by rw [h]; rfl) (fun f cdv A outer s H E hr po => (b_one (s_ret (d_call h_make_ratio hr (a_cons (d_op o_add opd_add (d_op o_mul opd_mul (d_ix (d_var 0) d_int) (d_ix (d_var 1) d_int)) (d_op o_mul opd_mul (d_ix (d_var 1) d_int) (d_ix (d_var 0) d_int))) (a_cons (d_op o_mul opd_mul (d_ix (d_var 0) d_int) (d_ix (d_var 1) d_int)) a_nil)))))) ?_
  rintro ds Q E ⟨a, b, n, m, rfl, ba, bb, hl, -, q⟩
  refine ⟨[.va (dR a), .va (dR b)], rfl, ?_⟩
  simp only [dR]
  simp only [iRan3, pInD, List.any_cons, List.any_nil, sRaise, eTold, sSeq, sSeqN, sRetO, sTupA, tupGo, sSet, sOwn, sAsg, sPar, sPar3, slOf, sRet, sExpr, sIf, sApp, sPut, sFrz, sAugI, eVar, eVarB, eC, eOp, tOpD, eNeg, eNot, eChain, eAnd, eOr, tV, tN, tA, tO, eIf, aNil, aCons, aStar, eTup, eLst, eLen, eTuple, eList, eAbs, eInt, eGcd, eIsI, eIsI2, eCall, eCallR, gVa, gNil', gCons', gTup', eSlT, eSlL, eRevL, oNone, oSome, e2I, eSum, eMaxL, eMaxT, eAllI, eAnyI, eAllG, eAnyG, eAnyT, eSumG, eTupG, tT, List.isEmpty_cons, List.isEmpty_nil, pI, pI0, pAdd, pCat, pMul, pMulB, pEq, pNe, pIs, pIsNot, pIx, pRepL, List.getElem?_cons_zero, List.getElem?_cons_succ, List.set_cons_zero, List.set_cons_succ, startR, List.map_cons, List.map_nil, List.cons_append, List.nil_append, List.length_cons, List.length_nil, List.replicate_succ, List.replicate_zero, Nat.add_sub_cancel, Nat.reduceAdd, Nat.reduceSub, Nat.reduceLeDiff, if_true, if_false, ite_true, ite_false, reduceIte, true_and, and_true, is_non_int, is_non_bool, is_non_tuple, is_non_list, is_non_str, is_bl_int, is_bl_bool, is_bl_tuple, is_bl_list, is_bl_str, is_int_int, is_int_bool, is_int_tuple, is_int_list, is_int_str, is_str_int, is_str_bool, is_str_tuple, is_str_list, is_str_str, is_tup_int, is_tup_bool, is_tup_tuple, is_tup_list, is_tup_str, is_lst_int, is_lst_bool, is_lst_tuple, is_lst_list, is_lst_str, spIsIntD_eq, isInt_int, spBetD_eq, bet_int, Nat.sub_self, Bool.false_eq_true, if_pos trivial, atI_0, atI_1, atI_2, atI_3, atI_4, atI_5, atI_6, ex_some, cap0, cap1, cap2, cap3, cap4, cap5, cap6, cap7, cap8, cap10, deq_int, iAny, iRan1, iRan2, iRev', iRevR1, iEnuA, iZip', sFor, eLc, wipeR, tTrue, pInG, eSum2, forall_eq, ne_eq, Bool.not_true, Bool.not_false, decide_true, decide_false]
  refine ⟨cmul (a := n) (b := m) ba.1 (by exact bb.2) (by omega), cmul (a := m) (b := n) bb.1 (by exact ba.2) (by omega), cmul (a := n) (b := m) (by exact ba.2) (by exact bb.2) (by omega), _, _, n + m + 1, rfl, dens_ne a b, (add_parts ba bb).2, by omega, ?_⟩
  rw [add_eq_divInt]
  exact q
abbrev s_total : Stmt := topS 17
abbrev N_total : List Str := ["ratios", "found", "ratio"]
theorem sc_total : FnScope N_total ["ratios"] (defScope s_total) := ⟨rfl, rfl, rfl, by decide +kernel, rfl, by decide +kernel, by decide +kernel⟩
theorem has_total (d : Df K mg "total" s_total ["ratios"]) (h_plus : HasD P w K mg base T k "plus" ["one", "other"] spPlusD) {a_ZERO : Addr} (m_ZERO : mg "ZERO" = some (.ref a_ZERO)) (t_ZERO : ∀ H, ST K H a_ZERO [.int 0, .int 1]) : HasD P w K mg base T (k + 1) "total" ["ratios"] spTotalD := by
  refine d.hasD sc_total (fun ds Q E ⟨_, _, _, h, _⟩ => by rw [h]; rfl) (fun f cdv A outer s H E hr po => (b_cons (s_set (i := 1) sc_total.nd (d_globT (js := [0, 1]) m_ZERO t_ZERO))
      (b_cons (s_for po rfl (i_any (d_var 0)) (g_name 2 sc_total.nd) (b_one (s_set (i := 1) sc_total.nd (d_call h_plus hr (a_cons (d_var 1) (a_cons (d_var 2) a_nil))))))
      (b_one (s_ret (d_var 1)))))) ?_
  rintro ds Q E ⟨rs, n, c, rfl, hc, ⟨hb, hs⟩, hn, q⟩
  refine ⟨[.va c, .un, .un], rfl, ?_⟩
  rcases hc with rfl | rfl
  all_goals
    simp only [iRan3, pInD, List.any_cons, List.any_nil, sRaise, eTold, sSeq, sSeqN, sRetO, sTupA, tupGo, sSet, sOwn, sAsg, sPar, sPar3, slOf, sRet, sExpr, sIf, sApp, sPut, sFrz, sAugI, eVar, eVarB, eC, eOp, tOpD, eNeg, eNot, eChain, eAnd, eOr, tV, tN, tA, tO, eIf, aNil, aCons, aStar, eTup, eLst, eLen, eTuple, eList, eAbs, eInt, eGcd, eIsI, eIsI2, eCall, eCallR, gVa, gNil', gCons', gTup', eSlT, eSlL, eRevL, oNone, oSome, e2I, eSum, eMaxL, eMaxT, eAllI, eAnyI, eAllG, eAnyG, eAnyT, eSumG, eTupG, tT, List.isEmpty_cons, List.isEmpty_nil, pI, pI0, pAdd, pCat, pMul, pMulB, pEq, pNe, pIs, pIsNot, pIx, pRepL, List.getElem?_cons_zero, List.getElem?_cons_succ, List.set_cons_zero, List.set_cons_succ, startR, List.map_cons, List.map_nil, List.cons_append, List.nil_append, List.length_cons, List.length_nil, List.replicate_succ, List.replicate_zero, Nat.add_sub_cancel, Nat.reduceAdd, Nat.reduceSub, Nat.reduceLeDiff, if_true, if_false, ite_true, ite_false, reduceIte, true_and, and_true, is_non_int, is_non_bool, is_non_tuple, is_non_list, is_non_str, is_bl_int, is_bl_bool, is_bl_tuple, is_bl_list, is_bl_str, is_int_int, is_int_bool, is_int_tuple, is_int_list, is_int_str, is_str_int, is_str_bool, is_str_tuple, is_str_list, is_str_str, is_tup_int, is_tup_bool, is_tup_tuple, is_tup_list, is_tup_str, is_lst_int, is_lst_bool, is_lst_tuple, is_lst_list, is_lst_str, spIsIntD_eq, isInt_int, spBetD_eq, bet_int, Nat.sub_self, Bool.false_eq_true, if_pos trivial, atI_0, atI_1, atI_2, atI_3, atI_4, atI_5, atI_6, ex_some, cap0, cap1, cap2, cap3, cap4, cap5, cap6, cap7, cap8, cap10, deq_int, iAny, iRan1, iRan2, iRev', iRevR1, iEnuA, iZip', sFor, eLc, wipeR, tTrue, pInG, eSum2, forall_eq, ne_eq, Bool.not_true, Bool.not_false, decide_true, decide_false]
    refine for_nat (fun i ρ => ∃ x, ρ = [.va _, .va (dR (rs.take i).sum), x]) ⟨_, rfl⟩ ?_ ?_
    · rintro i d ρ F hd ⟨x, rfl⟩ hF
      obtain ⟨r, hr, rfl⟩ := dRs_at hd
      simp only [iRan3, pInD, List.any_cons, List.any_nil, sRaise, eTold, sSeq, sSeqN, sRetO, sTupA, tupGo, sSet, sOwn, sAsg, sPar, sPar3, slOf, sRet, sExpr, sIf, sApp, sPut, sFrz, sAugI, eVar, eVarB, eC, eOp, tOpD, eNeg, eNot, eChain, eAnd, eOr, tV, tN, tA, tO, eIf, aNil, aCons, aStar, eTup, eLst, eLen, eTuple, eList, eAbs, eInt, eGcd, eIsI, eIsI2, eCall, eCallR, gVa, gNil', gCons', gTup', eSlT, eSlL, eRevL, oNone, oSome, e2I, eSum, eMaxL, eMaxT, eAllI, eAnyI, eAllG, eAnyG, eAnyT, eSumG, eTupG, tT, List.isEmpty_cons, List.isEmpty_nil, pI, pI0, pAdd, pCat, pMul, pMulB, pEq, pNe, pIs, pIsNot, pIx, pRepL, List.getElem?_cons_zero, List.getElem?_cons_succ, List.set_cons_zero, List.set_cons_succ, startR, List.map_cons, List.map_nil, List.cons_append, List.nil_append, List.length_cons, List.length_nil, List.replicate_succ, List.replicate_zero, Nat.add_sub_cancel, Nat.reduceAdd, Nat.reduceSub, Nat.reduceLeDiff, if_true, if_false, ite_true, ite_false, reduceIte, true_and, and_true, is_non_int, is_non_bool, is_non_tuple, is_non_list, is_non_str, is_bl_int, is_bl_bool, is_bl_tuple, is_bl_list, is_bl_str, is_int_int, is_int_bool, is_int_tuple, is_int_list, is_int_str, is_str_int, is_str_bool, is_str_tuple, is_str_list, is_str_str, is_tup_int, is_tup_bool, is_tup_tuple, is_tup_list, is_tup_str, is_lst_int, is_lst_bool, is_lst_tuple, is_lst_list, is_lst_str, spIsIntD_eq, isInt_int, spBetD_eq, bet_int, Nat.sub_self, Bool.false_eq_true, if_pos trivial, atI_0, atI_1, atI_2, atI_3, atI_4, atI_5, atI_6, ex_some, cap0, cap1, cap2, cap3, cap4, cap5, cap6, cap7, cap8, cap10, deq_int, iAny, iRan1, iRan2, iRev', iRevR1, iEnuA, iZip', sFor, eLc, wipeR, tTrue, pInG, eSum2, forall_eq, ne_eq, Bool.not_true, Bool.not_false, decide_true, decide_false]
      have hi : i < rs.length := (List.getElem?_eq_some_iff.mp hr).1
      exact ⟨_, _, n, n, rfl, hs i (by omega), hb r (List.mem_of_getElem? hr), by omega, trivial, hF _ ⟨_, by rw [take_succ_sum hr]⟩⟩
    · rintro ρ ⟨x, rfl⟩
      simp only [iRan3, pInD, List.any_cons, List.any_nil, sRaise, eTold, sSeq, sSeqN, sRetO, sTupA, tupGo, sSet, sOwn, sAsg, sPar, sPar3, slOf, sRet, sExpr, sIf, sApp, sPut, sFrz, sAugI, eVar, eVarB, eC, eOp, tOpD, eNeg, eNot, eChain, eAnd, eOr, tV, tN, tA, tO, eIf, aNil, aCons, aStar, eTup, eLst, eLen, eTuple, eList, eAbs, eInt, eGcd, eIsI, eIsI2, eCall, eCallR, gVa, gNil', gCons', gTup', eSlT, eSlL, eRevL, oNone, oSome, e2I, eSum, eMaxL, eMaxT, eAllI, eAnyI, eAllG, eAnyG, eAnyT, eSumG, eTupG, tT, List.isEmpty_cons, List.isEmpty_nil, pI, pI0, pAdd, pCat, pMul, pMulB, pEq, pNe, pIs, pIsNot, pIx, pRepL, List.getElem?_cons_zero, List.getElem?_cons_succ, List.set_cons_zero, List.set_cons_succ, startR, List.map_cons, List.map_nil, List.cons_append, List.nil_append, List.length_cons, List.length_nil, List.replicate_succ, List.replicate_zero, Nat.add_sub_cancel, Nat.reduceAdd, Nat.reduceSub, Nat.reduceLeDiff, if_true, if_false, ite_true, ite_false, reduceIte, true_and, and_true, is_non_int, is_non_bool, is_non_tuple, is_non_list, is_non_str, is_bl_int, is_bl_bool, is_bl_tuple, is_bl_list, is_bl_str, is_int_int, is_int_bool, is_int_tuple, is_int_list, is_int_str, is_str_int, is_str_bool, is_str_tuple, is_str_list, is_str_str, is_tup_int, is_tup_bool, is_tup_tuple, is_tup_list, is_tup_str, is_lst_int, is_lst_bool, is_lst_tuple, is_lst_list, is_lst_str, spIsIntD_eq, isInt_int, spBetD_eq, bet_int, Nat.sub_self, Bool.false_eq_true, if_pos trivial, atI_0, atI_1, atI_2, atI_3, atI_4, atI_5, atI_6, ex_some, cap0, cap1, cap2, cap3, cap4, cap5, cap6, cap7, cap8, cap10, deq_int, iAny, iRan1, iRan2, iRev', iRevR1, iEnuA, iZip', sFor, eLc, wipeR, tTrue, pInG, eSum2, forall_eq, ne_eq, Bool.not_true, Bool.not_false, decide_true, decide_false]
      have e : (dRs rs).length = rs.length := by simp [dRs]
      rw [e, List.take_length]
      exact q
abbrev s_divided : Stmt := topS 16
abbrev N_divided : List Str := ["one", "other"]
theorem sc_divided : FnScope N_divided ["one", "other"] (defScope s_divided) := ⟨rfl, rfl, rfl, by decide +kernel, rfl, by decide +kernel, by decide +kernel⟩
theorem has_divided (d : Df K mg "divided" s_divided ["one", "other"]) (h_make_ratio : HasD P w K mg base T k "make_ratio" ["top", "bottom"] spMakeD) : HasD P w K mg base T (k + 1) "divided" ["one", "other"] spDivD := by
  refine d.hasD sc_divided (fun ds Q E ⟨_, _, _, _, h, _⟩ => by rw [h]; rfl) (fun f cdv A outer s H E hr po => (b_one (s_ret (d_call h_make_ratio hr (a_cons (d_op o_mul opd_mul (d_ix (d_var 0) d_int) (d_ix (d_var 1) d_int)) (a_cons (d_op o_mul opd_mul (d_ix (d_var 0) d_int) (d_ix (d_var 1) d_int)) a_nil)))))) ?_
  rintro ds Q E ⟨a, b, n, m, rfl, ba, bb, hl, hb, q⟩
  refine ⟨[.va (dR a), .va (dR b)], rfl, ?_⟩
  simp only [dR]
  simp only [iRan3, pInD, List.any_cons, List.any_nil, sRaise, eTold, sSeq, sSeqN, sRetO, sTupA, tupGo, sSet, sOwn, sAsg, sPar, sPar3, slOf, sRet, sExpr, sIf, sApp, sPut, sFrz, sAugI, eVar, eVarB, eC, eOp, tOpD, eNeg, eNot, eChain, eAnd, eOr, tV, tN, tA, tO, eIf, aNil, aCons, aStar, eTup, eLst, eLen, eTuple, eList, eAbs, eInt, eGcd, eIsI, eIsI2, eCall, eCallR, gVa, gNil', gCons', gTup', eSlT, eSlL, eRevL, oNone, oSome, e2I, eSum, eMaxL, eMaxT, eAllI, eAnyI, eAllG, eAnyG, eAnyT, eSumG, eTupG, tT, List.isEmpty_cons, List.isEmpty_nil, pI, pI0, pAdd, pCat, pMul, pMulB, pEq, pNe, pIs, pIsNot, pIx, pRepL, List.getElem?_cons_zero, List.getElem?_cons_succ, List.set_cons_zero, List.set_cons_succ, startR, List.map_cons, List.map_nil, List.cons_append, List.nil_append, List.length_cons, List.length_nil, List.replicate_succ, List.replicate_zero, Nat.add_sub_cancel, Nat.reduceAdd, Nat.reduceSub, Nat.reduceLeDiff, if_true, if_false, ite_true, ite_false, reduceIte, true_and, and_true, is_non_int, is_non_bool, is_non_tuple, is_non_list, is_non_str, is_bl_int, is_bl_bool, is_bl_tuple, is_bl_list, is_bl_str, is_int_int, is_int_bool, is_int_tuple, is_int_list, is_int_str, is_str_int, is_str_bool, is_str_tuple, is_str_list, is_str_str, is_tup_int, is_tup_bool, is_tup_tuple, is_tup_list, is_tup_str, is_lst_int, is_lst_bool, is_lst_tuple, is_lst_list, is_lst_str, spIsIntD_eq, isInt_int, spBetD_eq, bet_int, Nat.sub_self, Bool.false_eq_true, if_pos trivial, atI_0, atI_1, atI_2, atI_3, atI_4, atI_5, atI_6, ex_some, cap0, cap1, cap2, cap3, cap4, cap5, cap6, cap7, cap8, cap10, deq_int, iAny, iRan1, iRan2, iRev', iRevR1, iEnuA, iZip', sFor, eLc, wipeR, tTrue, pInG, eSum2, forall_eq, ne_eq, Bool.not_true, Bool.not_false, decide_true, decide_false]
  refine ⟨cmul (a := n) (b := m) ba.1 (by exact bb.2) (by omega), cmul (a := n) (b := m) (by exact ba.2) bb.1 (by omega), _, _, n + m, rfl, Int.mul_ne_zero (den_ne a) (num_ne hb), (div_parts ba bb).2, by omega, ?_⟩
  rw [div_eq_divInt]
  exact q
abbrev s_learnt : Stmt := topS 37
abbrev N_learnt : List Str := ["prior", "seen", "parts", "whole", "weight", "claims", "part"]
theorem sc_learnt : FnScope N_learnt ["prior", "seen"] (defScope s_learnt) := ⟨rfl, rfl, rfl, by decide +kernel, rfl, by decide +kernel, by decide +kernel⟩
theorem has_learnt (d : Df K mg "learnt" s_learnt ["prior", "seen"]) (h_check_prior : HasD P w K mg base T k "check_prior" ["prior"] (spPriD fun _ => .non)) (h_check_seen : HasD P w K mg base T k "check_seen" ["seen"] spSeenD) (h_chance_of_row : HasD P w K mg base T k "chance_of_row" ["claims", "seen"] spRowSD) (h_multiplied : HasD P w K mg base T k "multiplied" ["one", "other"] spMulD) (h_total : HasD P w K mg base T k "total" ["ratios"] spTotalD) (h_divided : HasD P w K mg base T k "divided" ["one", "other"] spDivD) {a_ZERO : Addr} (m_ZERO : mg "ZERO" = some (.ref a_ZERO)) (t_ZERO : ∀ H, ST K H a_ZERO [.int 0, .int 1]) (e_NeverSeen : ErrC K mg "NeverSeen") : HasD P w K mg base T (k + 1) "learnt" ["prior", "seen"] (spSnD fun ks ss => .lst (rl (kd ks ss) ks.length)) := by
  refine d.hasD sc_learnt (fun ds Q E ⟨_, _, h, _⟩ => by rw [h]; rfl) (fun f cdv A outer s H E hr po => (b_cons (s_expr (d_call h_check_prior hr (a_cons (d_var 0) a_nil)))
      (b_cons (s_expr (d_call h_check_seen hr (a_cons (d_var 1) a_nil)))
      (b_cons (s_lc (i := 2) (own := [("weight", 4), ("claims", 5)]) rfl sc_learnt.nd (i_any (d_var 0)) (blkOk_by (N := N_learnt) (sc := defScope s_learnt) (by decide +kernel)) (fun _ _ _ _ _ => (g_tup (n := 2) rfl (gs_cons (g_name 4 sc_learnt.nd) (gs_cons (g_name 5 sc_learnt.nd) gs_nil)))) (fun _ _ _ _ _ => ifs_nil) (fun _ _ _ _ _ => (d_call h_multiplied hr (a_cons (d_tup (a_cons (d_var 4) (a_cons d_int a_nil))) (a_cons (d_call h_chance_of_row hr (a_cons (d_var 5) (a_cons (d_var 1) a_nil))) a_nil)))))
      (b_cons (s_frz 2 (s_set (i := 3) sc_learnt.nd (d_call h_total hr (a_cons (d_var 2) a_nil))))
      (b_cons (s_if (t_cmp (op_eqD (hu64 hr)) opd_eq (d_var 3) (d_globT (js := [0, 1]) m_ZERO t_ZERO)) (b_one (s_raise e_NeverSeen)) b_nil)
      (b_one (s_frz 2 (s_ret (PD.fr (d_lc (own := [("part", 6)]) rfl sc_learnt.nd (i_any (d_var 2)) (blkOk_by (N := N_learnt) (sc := defScope s_learnt) (by decide +kernel)) (fun _ _ _ _ _ => (g_name 6 sc_learnt.nd)) (fun _ _ _ _ _ => ifs_nil) (fun _ _ _ _ _ => (d_call h_divided hr (a_cons (d_var 6) (a_cons (d_var 3) a_nil))))))))))))))) ?_
  rintro ds Q E ⟨ks, ss, rfl, h, hs, qx, q⟩
  refine ⟨[.va (.tup (ks.map kD)), .va (.tup (ss.map D.int)), .un, .un, .un, .un, .un], rfl, ?_⟩
  have h1 := h.lo
  have h2 := h.hi
  have sl := hs.len
  simp only [iRan3, pInD, List.any_cons, List.any_nil, sRaise, eTold, sSeq, sSeqN, sRetO, sTupA, tupGo, sSet, sOwn, sAsg, sPar, sPar3, slOf, sRet, sExpr, sIf, sApp, sPut, sFrz, sAugI, eVar, eVarB, eC, eOp, tOpD, eNeg, eNot, eChain, eAnd, eOr, tV, tN, tA, tO, eIf, aNil, aCons, aStar, eTup, eLst, eLen, eTuple, eList, eAbs, eInt, eGcd, eIsI, eIsI2, eCall, eCallR, gVa, gNil', gCons', gTup', eSlT, eSlL, eRevL, oNone, oSome, e2I, eSum, eMaxL, eMaxT, eAllI, eAnyI, eAllG, eAnyG, eAnyT, eSumG, eTupG, tT, List.isEmpty_cons, List.isEmpty_nil, pI, pI0, pAdd, pCat, pMul, pMulB, pEq, pNe, pIs, pIsNot, pIx, pRepL, List.getElem?_cons_zero, List.getElem?_cons_succ, List.set_cons_zero, List.set_cons_succ, startR, List.map_cons, List.map_nil, List.cons_append, List.nil_append, List.length_cons, List.length_nil, List.replicate_succ, List.replicate_zero, Nat.add_sub_cancel, Nat.reduceAdd, Nat.reduceSub, Nat.reduceLeDiff, if_true, if_false, ite_true, ite_false, reduceIte, true_and, and_true, is_non_int, is_non_bool, is_non_tuple, is_non_list, is_non_str, is_bl_int, is_bl_bool, is_bl_tuple, is_bl_list, is_bl_str, is_int_int, is_int_bool, is_int_tuple, is_int_list, is_int_str, is_str_int, is_str_bool, is_str_tuple, is_str_list, is_str_str, is_tup_int, is_tup_bool, is_tup_tuple, is_tup_list, is_tup_str, is_lst_int, is_lst_bool, is_lst_tuple, is_lst_list, is_lst_str, spIsIntD_eq, isInt_int, spBetD_eq, bet_int, Nat.sub_self, Bool.false_eq_true, if_pos trivial, atI_0, atI_1, atI_2, atI_3, atI_4, atI_5, atI_6, ex_some, cap0, cap1, cap2, cap3, cap4, cap5, cap6, cap7, cap8, cap10, deq_int, iAny, iRan1, iRan2, iRev', iRevR1, iEnuA, iZip', sFor, eLc, wipeR, tTrue, pInG, eSum2, forall_eq, ne_eq, Bool.not_true, Bool.not_false, decide_true, decide_false]
  refine ⟨ks, rfl, h, ?_⟩
  refine ⟨ss, rfl, by omega, hs.at', ?_⟩
  refine lc_map (fun i => dR (kb ks ss i)) (by rw [List.length_map]; show _ ≤ 1000000; omega) ?_ ?_
  · intro i d F hd hF
    obtain ⟨hi, rfl⟩ := kds_at hd
    have hw := h.w _ (kat_mem hi)
    simp only [kD]
    simp only [iRan3, pInD, List.any_cons, List.any_nil, sRaise, eTold, sSeq, sSeqN, sRetO, sTupA, tupGo, sSet, sOwn, sAsg, sPar, sPar3, slOf, sRet, sExpr, sIf, sApp, sPut, sFrz, sAugI, eVar, eVarB, eC, eOp, tOpD, eNeg, eNot, eChain, eAnd, eOr, tV, tN, tA, tO, eIf, aNil, aCons, aStar, eTup, eLst, eLen, eTuple, eList, eAbs, eInt, eGcd, eIsI, eIsI2, eCall, eCallR, gVa, gNil', gCons', gTup', eSlT, eSlL, eRevL, oNone, oSome, e2I, eSum, eMaxL, eMaxT, eAllI, eAnyI, eAllG, eAnyG, eAnyT, eSumG, eTupG, tT, List.isEmpty_cons, List.isEmpty_nil, pI, pI0, pAdd, pCat, pMul, pMulB, pEq, pNe, pIs, pIsNot, pIx, pRepL, List.getElem?_cons_zero, List.getElem?_cons_succ, List.set_cons_zero, List.set_cons_succ, startR, List.map_cons, List.map_nil, List.cons_append, List.nil_append, List.length_cons, List.length_nil, List.replicate_succ, List.replicate_zero, Nat.add_sub_cancel, Nat.reduceAdd, Nat.reduceSub, Nat.reduceLeDiff, if_true, if_false, ite_true, ite_false, reduceIte, true_and, and_true, is_non_int, is_non_bool, is_non_tuple, is_non_list, is_non_str, is_bl_int, is_bl_bool, is_bl_tuple, is_bl_list, is_bl_str, is_int_int, is_int_bool, is_int_tuple, is_int_list, is_int_str, is_str_int, is_str_bool, is_str_tuple, is_str_list, is_str_str, is_tup_int, is_tup_bool, is_tup_tuple, is_tup_list, is_tup_str, is_lst_int, is_lst_bool, is_lst_tuple, is_lst_list, is_lst_str, spIsIntD_eq, isInt_int, spBetD_eq, bet_int, Nat.sub_self, Bool.false_eq_true, if_pos trivial, atI_0, atI_1, atI_2, atI_3, atI_4, atI_5, atI_6, ex_some, cap0, cap1, cap2, cap3, cap4, cap5, cap6, cap7, cap8, cap10, deq_int, iAny, iRan1, iRan2, iRev', iRevR1, iEnuA, iZip', sFor, eLc, wipeR, tTrue, pInG, eSum2, forall_eq, ne_eq, Bool.not_true, Bool.not_false, decide_true, decide_false]
    refine ⟨(kat ks i).2, ss, rfl, h.ok _ (kat_mem hi), h.len _ (kat_mem hi), hs, ?_⟩
    exact ⟨((kat ks i).1 : Rat), pr (kat ks i).2 ss, 10, 57, by rw [dR_int], Bd.int (by show _ < 1024; omega) (by decide), pr_bd (h.ok _ (kat_mem hi)) (h.len _ (kat_mem hi)) hs, by decide, trivial, hF⟩
  rw [List.length_map]
  have e0 : (List.range ks.length).map (fun i => dR (kb ks ss i)) = dRs ((List.range ks.length).map (kb ks ss)) := rl_eq (kb ks ss) ks.length
  rw [e0]
  simp only [iRan3, pInD, List.any_cons, List.any_nil, sRaise, eTold, sSeq, sSeqN, sRetO, sTupA, tupGo, sSet, sOwn, sAsg, sPar, sPar3, slOf, sRet, sExpr, sIf, sApp, sPut, sFrz, sAugI, eVar, eVarB, eC, eOp, tOpD, eNeg, eNot, eChain, eAnd, eOr, tV, tN, tA, tO, eIf, aNil, aCons, aStar, eTup, eLst, eLen, eTuple, eList, eAbs, eInt, eGcd, eIsI, eIsI2, eCall, eCallR, gVa, gNil', gCons', gTup', eSlT, eSlL, eRevL, oNone, oSome, e2I, eSum, eMaxL, eMaxT, eAllI, eAnyI, eAllG, eAnyG, eAnyT, eSumG, eTupG, tT, List.isEmpty_cons, List.isEmpty_nil, pI, pI0, pAdd, pCat, pMul, pMulB, pEq, pNe, pIs, pIsNot, pIx, pRepL, List.getElem?_cons_zero, List.getElem?_cons_succ, List.set_cons_zero, List.set_cons_succ, startR, List.map_cons, List.map_nil, List.cons_append, List.nil_append, List.length_cons, List.length_nil, List.replicate_succ, List.replicate_zero, Nat.add_sub_cancel, Nat.reduceAdd, Nat.reduceSub, Nat.reduceLeDiff, if_true, if_false, ite_true, ite_false, reduceIte, true_and, and_true, is_non_int, is_non_bool, is_non_tuple, is_non_list, is_non_str, is_bl_int, is_bl_bool, is_bl_tuple, is_bl_list, is_bl_str, is_int_int, is_int_bool, is_int_tuple, is_int_list, is_int_str, is_str_int, is_str_bool, is_str_tuple, is_str_list, is_str_str, is_tup_int, is_tup_bool, is_tup_tuple, is_tup_list, is_tup_str, is_lst_int, is_lst_bool, is_lst_tuple, is_lst_list, is_lst_str, spIsIntD_eq, isInt_int, spBetD_eq, bet_int, Nat.sub_self, Bool.false_eq_true, if_pos trivial, atI_0, atI_1, atI_2, atI_3, atI_4, atI_5, atI_6, ex_some, cap0, cap1, cap2, cap3, cap4, cap5, cap6, cap7, cap8, cap10, deq_int, iAny, iRan1, iRan2, iRev', iRevR1, iEnuA, iZip', sFor, eLc, wipeR, tTrue, pInG, eSum2, forall_eq, ne_eq, Bool.not_true, Bool.not_false, decide_true, decide_false]
  refine ⟨_, _, _, rfl, .inl rfl, sumBd_of (b := 67) (m := 3) (fun r hr => ?_) (by rw [List.length_map, List.length_range]; exact h2), by decide, ?_⟩
  · obtain ⟨i, hi, rfl⟩ := List.mem_map.mp hr
    exact kb_bd h hs (List.mem_range.mp hi)
  rw [rs_sum]
  have eU : rs (kb ks ss) ks.length = kU ks ss := rfl
  rw [eU]
  have dq := deq_R (a := kU ks ss) (b := 0)
  have e00 : dR 0 = .tup [.int 0, .int 1] := rfl
  rw [e00] at dq
  refine ⟨⟨rfl, rfl⟩, ?_⟩
  rw [dq]
  by_cases c : kU ks ss = 0
  · rw [decide_eq_true c]
    simp only [if_true]
    try simp only [iRan3, pInD, List.any_cons, List.any_nil, sRaise, eTold, sSeq, sSeqN, sRetO, sTupA, tupGo, sSet, sOwn, sAsg, sPar, sPar3, slOf, sRet, sExpr, sIf, sApp, sPut, sFrz, sAugI, eVar, eVarB, eC, eOp, tOpD, eNeg, eNot, eChain, eAnd, eOr, tV, tN, tA, tO, eIf, aNil, aCons, aStar, eTup, eLst, eLen, eTuple, eList, eAbs, eInt, eGcd, eIsI, eIsI2, eCall, eCallR, gVa, gNil', gCons', gTup', eSlT, eSlL, eRevL, oNone, oSome, e2I, eSum, eMaxL, eMaxT, eAllI, eAnyI, eAllG, eAnyG, eAnyT, eSumG, eTupG, tT, List.isEmpty_cons, List.isEmpty_nil, pI, pI0, pAdd, pCat, pMul, pMulB, pEq, pNe, pIs, pIsNot, pIx, pRepL, List.getElem?_cons_zero, List.getElem?_cons_succ, List.set_cons_zero, List.set_cons_succ, startR, List.map_cons, List.map_nil, List.cons_append, List.nil_append, List.length_cons, List.length_nil, List.replicate_succ, List.replicate_zero, Nat.add_sub_cancel, Nat.reduceAdd, Nat.reduceSub, Nat.reduceLeDiff, if_true, if_false, ite_true, ite_false, reduceIte, true_and, and_true, is_non_int, is_non_bool, is_non_tuple, is_non_list, is_non_str, is_bl_int, is_bl_bool, is_bl_tuple, is_bl_list, is_bl_str, is_int_int, is_int_bool, is_int_tuple, is_int_list, is_int_str, is_str_int, is_str_bool, is_str_tuple, is_str_list, is_str_str, is_tup_int, is_tup_bool, is_tup_tuple, is_tup_list, is_tup_str, is_lst_int, is_lst_bool, is_lst_tuple, is_lst_list, is_lst_str, spIsIntD_eq, isInt_int, spBetD_eq, bet_int, Nat.sub_self, Bool.false_eq_true, if_pos trivial, atI_0, atI_1, atI_2, atI_3, atI_4, atI_5, atI_6, ex_some, cap0, cap1, cap2, cap3, cap4, cap5, cap6, cap7, cap8, cap10, deq_int, iAny, iRan1, iRan2, iRev', iRevR1, iEnuA, iZip', sFor, eLc, wipeR, tTrue, pInG, eSum2, forall_eq, ne_eq, Bool.not_true, Bool.not_false, decide_true, decide_false]
    exact qx ((kU_zero h).mp c)
  · rw [decide_eq_false c]
    simp only [Bool.false_eq_true, if_false]
    have q' := q fun e => c ((kU_zero h).mpr e)
    try simp only [iRan3, pInD, List.any_cons, List.any_nil, sRaise, eTold, sSeq, sSeqN, sRetO, sTupA, tupGo, sSet, sOwn, sAsg, sPar, sPar3, slOf, sRet, sExpr, sIf, sApp, sPut, sFrz, sAugI, eVar, eVarB, eC, eOp, tOpD, eNeg, eNot, eChain, eAnd, eOr, tV, tN, tA, tO, eIf, aNil, aCons, aStar, eTup, eLst, eLen, eTuple, eList, eAbs, eInt, eGcd, eIsI, eIsI2, eCall, eCallR, gVa, gNil', gCons', gTup', eSlT, eSlL, eRevL, oNone, oSome, e2I, eSum, eMaxL, eMaxT, eAllI, eAnyI, eAllG, eAnyG, eAnyT, eSumG, eTupG, tT, List.isEmpty_cons, List.isEmpty_nil, pI, pI0, pAdd, pCat, pMul, pMulB, pEq, pNe, pIs, pIsNot, pIx, pRepL, List.getElem?_cons_zero, List.getElem?_cons_succ, List.set_cons_zero, List.set_cons_succ, startR, List.map_cons, List.map_nil, List.cons_append, List.nil_append, List.length_cons, List.length_nil, List.replicate_succ, List.replicate_zero, Nat.add_sub_cancel, Nat.reduceAdd, Nat.reduceSub, Nat.reduceLeDiff, if_true, if_false, ite_true, ite_false, reduceIte, true_and, and_true, is_non_int, is_non_bool, is_non_tuple, is_non_list, is_non_str, is_bl_int, is_bl_bool, is_bl_tuple, is_bl_list, is_bl_str, is_int_int, is_int_bool, is_int_tuple, is_int_list, is_int_str, is_str_int, is_str_bool, is_str_tuple, is_str_list, is_str_str, is_tup_int, is_tup_bool, is_tup_tuple, is_tup_list, is_tup_str, is_lst_int, is_lst_bool, is_lst_tuple, is_lst_list, is_lst_str, spIsIntD_eq, isInt_int, spBetD_eq, bet_int, Nat.sub_self, Bool.false_eq_true, if_pos trivial, atI_0, atI_1, atI_2, atI_3, atI_4, atI_5, atI_6, ex_some, cap0, cap1, cap2, cap3, cap4, cap5, cap6, cap7, cap8, cap10, deq_int, iAny, iRan1, iRan2, iRev', iRevR1, iEnuA, iZip', sFor, eLc, wipeR, tTrue, pInG, eSum2, forall_eq, ne_eq, Bool.not_true, Bool.not_false, decide_true, decide_false]
    rw [← e0]
    have el : (rl (kb ks ss) ks.length) = (List.range ks.length).map (fun i => dR (kb ks ss i)) := rfl
    rw [← el]
    refine lc_map (fun i => dR (kd ks ss i)) (by rw [rl_len]; show _ ≤ 1000000; omega) ?_ ?_
    · intro i d F hd hF
      obtain ⟨hi, rfl⟩ := rl_at hd
      simp only [iRan3, pInD, List.any_cons, List.any_nil, sRaise, eTold, sSeq, sSeqN, sRetO, sTupA, tupGo, sSet, sOwn, sAsg, sPar, sPar3, slOf, sRet, sExpr, sIf, sApp, sPut, sFrz, sAugI, eVar, eVarB, eC, eOp, tOpD, eNeg, eNot, eChain, eAnd, eOr, tV, tN, tA, tO, eIf, aNil, aCons, aStar, eTup, eLst, eLen, eTuple, eList, eAbs, eInt, eGcd, eIsI, eIsI2, eCall, eCallR, gVa, gNil', gCons', gTup', eSlT, eSlL, eRevL, oNone, oSome, e2I, eSum, eMaxL, eMaxT, eAllI, eAnyI, eAllG, eAnyG, eAnyT, eSumG, eTupG, tT, List.isEmpty_cons, List.isEmpty_nil, pI, pI0, pAdd, pCat, pMul, pMulB, pEq, pNe, pIs, pIsNot, pIx, pRepL, List.getElem?_cons_zero, List.getElem?_cons_succ, List.set_cons_zero, List.set_cons_succ, startR, List.map_cons, List.map_nil, List.cons_append, List.nil_append, List.length_cons, List.length_nil, List.replicate_succ, List.replicate_zero, Nat.add_sub_cancel, Nat.reduceAdd, Nat.reduceSub, Nat.reduceLeDiff, if_true, if_false, ite_true, ite_false, reduceIte, true_and, and_true, is_non_int, is_non_bool, is_non_tuple, is_non_list, is_non_str, is_bl_int, is_bl_bool, is_bl_tuple, is_bl_list, is_bl_str, is_int_int, is_int_bool, is_int_tuple, is_int_list, is_int_str, is_str_int, is_str_bool, is_str_tuple, is_str_list, is_str_str, is_tup_int, is_tup_bool, is_tup_tuple, is_tup_list, is_tup_str, is_lst_int, is_lst_bool, is_lst_tuple, is_lst_list, is_lst_str, spIsIntD_eq, isInt_int, spBetD_eq, bet_int, Nat.sub_self, Bool.false_eq_true, if_pos trivial, atI_0, atI_1, atI_2, atI_3, atI_4, atI_5, atI_6, ex_some, cap0, cap1, cap2, cap3, cap4, cap5, cap6, cap7, cap8, cap10, deq_int, iAny, iRan1, iRan2, iRev', iRevR1, iEnuA, iZip', sFor, eLc, wipeR, tTrue, pInG, eSum2, forall_eq, ne_eq, Bool.not_true, Bool.not_false, decide_true, decide_false]
      exact ⟨_, _, 67, 205, rfl, kb_bd h hs hi, kU_bd h hs, by decide, c, by dsimp only; rw [kd_eq h hi]; exact hF⟩
    · rw [rl_len]
      exact q'
abbrev s_kinds_after : Stmt := topS 38
abbrev N_kinds_after : List Str := ["prior", "seen"]
theorem sc_kinds_after : FnScope N_kinds_after ["prior", "seen"] (defScope s_kinds_after) := ⟨rfl, rfl, rfl, by decide +kernel, rfl, by decide +kernel, by decide +kernel⟩
theorem has_kinds_after (d : Df K mg "kinds_after" s_kinds_after ["prior", "seen"]) (h_learnt : HasD P w K mg base T k "learnt" ["prior", "seen"] (spSnD fun ks ss => .lst (rl (kd ks ss) ks.length))) (z_tuple : mg "tuple" = none) : HasD P w K mg base T (k + 1) "kinds_after" ["prior", "seen"] (spSnD fun ks ss => .tup (rl (kd ks ss) ks.length)) := by
  refine d.hasD sc_kinds_after (fun ds Q E ⟨_, _, h, _⟩ => by rw [h]; rfl) (fun f cdv A outer s H E hr po => (b_one (s_ret (d_tuple z_tuple (d_call h_learnt hr (a_cons (d_var 0) (a_cons (d_var 1) a_nil))))))) ?_
  rintro ds Q E ⟨ks, ss, rfl, h, hs, qx, q⟩
  refine ⟨[.va (.tup (ks.map kD)), .va (.tup (ss.map D.int))], rfl, ?_⟩
  have h2 := h.hi
  simp only [iRan3, pInD, List.any_cons, List.any_nil, sRaise, eTold, sSeq, sSeqN, sRetO, sTupA, tupGo, sSet, sOwn, sAsg, sPar, sPar3, slOf, sRet, sExpr, sIf, sApp, sPut, sFrz, sAugI, eVar, eVarB, eC, eOp, tOpD, eNeg, eNot, eChain, eAnd, eOr, tV, tN, tA, tO, eIf, aNil, aCons, aStar, eTup, eLst, eLen, eTuple, eList, eAbs, eInt, eGcd, eIsI, eIsI2, eCall, eCallR, gVa, gNil', gCons', gTup', eSlT, eSlL, eRevL, oNone, oSome, e2I, eSum, eMaxL, eMaxT, eAllI, eAnyI, eAllG, eAnyG, eAnyT, eSumG, eTupG, tT, List.isEmpty_cons, List.isEmpty_nil, pI, pI0, pAdd, pCat, pMul, pMulB, pEq, pNe, pIs, pIsNot, pIx, pRepL, List.getElem?_cons_zero, List.getElem?_cons_succ, List.set_cons_zero, List.set_cons_succ, startR, List.map_cons, List.map_nil, List.cons_append, List.nil_append, List.length_cons, List.length_nil, List.replicate_succ, List.replicate_zero, Nat.add_sub_cancel, Nat.reduceAdd, Nat.reduceSub, Nat.reduceLeDiff, if_true, if_false, ite_true, ite_false, reduceIte, true_and, and_true, is_non_int, is_non_bool, is_non_tuple, is_non_list, is_non_str, is_bl_int, is_bl_bool, is_bl_tuple, is_bl_list, is_bl_str, is_int_int, is_int_bool, is_int_tuple, is_int_list, is_int_str, is_str_int, is_str_bool, is_str_tuple, is_str_list, is_str_str, is_tup_int, is_tup_bool, is_tup_tuple, is_tup_list, is_tup_str, is_lst_int, is_lst_bool, is_lst_tuple, is_lst_list, is_lst_str, spIsIntD_eq, isInt_int, spBetD_eq, bet_int, Nat.sub_self, Bool.false_eq_true, if_pos trivial, atI_0, atI_1, atI_2, atI_3, atI_4, atI_5, atI_6, ex_some, cap0, cap1, cap2, cap3, cap4, cap5, cap6, cap7, cap8, cap10, deq_int, iAny, iRan1, iRan2, iRev', iRevR1, iEnuA, iZip', sFor, eLc, wipeR, tTrue, pInG, eSum2, forall_eq, ne_eq, Bool.not_true, Bool.not_false, decide_true, decide_false]
  exact ⟨ks, ss, rfl, h, hs, qx, q⟩
abbrev s_check_claims : Stmt := topS 25
abbrev N_check_claims : List Str := ["claims"]
theorem sc_check_claims : FnScope N_check_claims ["claims"] (defScope s_check_claims) := ⟨rfl, rfl, rfl, by decide +kernel, rfl, by decide +kernel, by decide +kernel⟩
theorem has_check_claims (d : Df K mg "check_claims" s_check_claims ["claims"]) (h_are_weights : HasD P w K mg base T k "are_weights" ["value", "most"] spWtsD) {t0 : Tok} (m_MOST_ENTRIES : mg "MOST_ENTRIES" = some (.int 13 t0)) : HasD P w K mg base T (k + 1) "check_claims" ["claims"] spCheckClmD := by
  refine d.hasD sc_check_claims (fun ds Q E ⟨_, h, _⟩ => by rw [h]; rfl) (fun f cdv A outer s H E hr po => (b_one (s_if (t_not (t_val (d_call h_are_weights hr (a_cons (d_var 0) (a_cons (d_globI (i := 13) m_MOST_ENTRIES) a_nil))))) (b_one s_never) b_nil))) ?_
  rintro ds Q E ⟨ws, rfl, h, hl, q⟩
  refine ⟨[.va (.tup (ws.map D.int))], rfl, ?_⟩
  simp only [iRan3, pInD, List.any_cons, List.any_nil, sRaise, eTold, sSeq, sSeqN, sRetO, sTupA, tupGo, sSet, sOwn, sAsg, sPar, sPar3, slOf, sRet, sExpr, sIf, sApp, sPut, sFrz, sAugI, eVar, eVarB, eC, eOp, tOpD, eNeg, eNot, eChain, eAnd, eOr, tV, tN, tA, tO, eIf, aNil, aCons, aStar, eTup, eLst, eLen, eTuple, eList, eAbs, eInt, eGcd, eIsI, eIsI2, eCall, eCallR, gVa, gNil', gCons', gTup', eSlT, eSlL, eRevL, oNone, oSome, e2I, eSum, eMaxL, eMaxT, eAllI, eAnyI, eAllG, eAnyG, eAnyT, eSumG, eTupG, tT, List.isEmpty_cons, List.isEmpty_nil, pI, pI0, pAdd, pCat, pMul, pMulB, pEq, pNe, pIs, pIsNot, pIx, pRepL, List.getElem?_cons_zero, List.getElem?_cons_succ, List.set_cons_zero, List.set_cons_succ, startR, List.map_cons, List.map_nil, List.cons_append, List.nil_append, List.length_cons, List.length_nil, List.replicate_succ, List.replicate_zero, Nat.add_sub_cancel, Nat.reduceAdd, Nat.reduceSub, Nat.reduceLeDiff, if_true, if_false, ite_true, ite_false, reduceIte, true_and, and_true, is_non_int, is_non_bool, is_non_tuple, is_non_list, is_non_str, is_bl_int, is_bl_bool, is_bl_tuple, is_bl_list, is_bl_str, is_int_int, is_int_bool, is_int_tuple, is_int_list, is_int_str, is_str_int, is_str_bool, is_str_tuple, is_str_list, is_str_str, is_tup_int, is_tup_bool, is_tup_tuple, is_tup_list, is_tup_str, is_lst_int, is_lst_bool, is_lst_tuple, is_lst_list, is_lst_str, spIsIntD_eq, isInt_int, spBetD_eq, bet_int, Nat.sub_self, Bool.false_eq_true, if_pos trivial, atI_0, atI_1, atI_2, atI_3, atI_4, atI_5, atI_6, ex_some, cap0, cap1, cap2, cap3, cap4, cap5, cap6, cap7, cap8, cap10, deq_int, iAny, iRan1, iRan2, iRev', iRevR1, iEnuA, iZip', sFor, eLc, wipeR, tTrue, pInG, eSum2, forall_eq, ne_eq, Bool.not_true, Bool.not_false, decide_true, decide_false]
  exact ⟨ws, _, rfl, h, by omega, q⟩
abbrev s_sum_above : Stmt := topS 20
abbrev N_sum_above : List Str := ["values", "edge", "index", "value"]
theorem sc_sum_above : FnScope N_sum_above ["values", "edge"] (defScope s_sum_above) := ⟨rfl, rfl, rfl, by decide +kernel, rfl, by decide +kernel, by decide +kernel⟩
theorem has_sum_above (d : Df K mg "sum_above" s_sum_above ["values", "edge"]) (h_total : HasD P w K mg base T k "total" ["ratios"] spTotalD) (h_multiplied : HasD P w K mg base T k "multiplied" ["one", "other"] spMulD) (z_enumerate : mg "enumerate" = none) : HasD P w K mg base T (k + 1) "sum_above" ["values", "edge"] spSumAboveD := by
  refine d.hasD sc_sum_above (fun ds Q E ⟨_, _, _, _, h, _⟩ => by rw [h]; rfl) (fun f cdv A outer s H E hr po => (b_one (s_ret (d_call h_total hr (a_cons (PD.fr (d_lc (own := [("index", 2), ("value", 3)]) rfl sc_sum_above.nd (i_enumA z_enumerate (d_var 0)) (blkOk_by (N := N_sum_above) (sc := defScope s_sum_above) (by decide +kernel)) (fun _ _ _ _ _ => (g_tup (n := 2) rfl (gs_cons (g_name 2 sc_sum_above.nd) (gs_cons (g_name 3 sc_sum_above.nd) gs_nil)))) (fun _ _ _ _ _ => (ifs_one (t_cmp op_gt opd_gt (d_var 2) (d_var 1)))) (fun _ _ _ _ _ => (d_call h_multiplied hr (a_cons (d_tup (a_cons (d_op op_sub opd_sub (d_var 2) (d_var 1)) (a_cons d_int a_nil))) (a_cons (d_var 3) a_nil)))))) a_nil))))) ?_
  rintro ds Q E ⟨rs, e, n, m, rfl, hl, he, hb, hn, hs, hm, q⟩
  refine ⟨[.va (.lst (dRs rs)), .va (.int e), .un, .un], rfl, ?_⟩
  simp only [iRan3, pInD, List.any_cons, List.any_nil, sRaise, eTold, sSeq, sSeqN, sRetO, sTupA, tupGo, sSet, sOwn, sAsg, sPar, sPar3, slOf, sRet, sExpr, sIf, sApp, sPut, sFrz, sAugI, eVar, eVarB, eC, eOp, tOpD, eNeg, eNot, eChain, eAnd, eOr, tV, tN, tA, tO, eIf, aNil, aCons, aStar, eTup, eLst, eLen, eTuple, eList, eAbs, eInt, eGcd, eIsI, eIsI2, eCall, eCallR, gVa, gNil', gCons', gTup', eSlT, eSlL, eRevL, oNone, oSome, e2I, eSum, eMaxL, eMaxT, eAllI, eAnyI, eAllG, eAnyG, eAnyT, eSumG, eTupG, tT, List.isEmpty_cons, List.isEmpty_nil, pI, pI0, pAdd, pCat, pMul, pMulB, pEq, pNe, pIs, pIsNot, pIx, pRepL, List.getElem?_cons_zero, List.getElem?_cons_succ, List.set_cons_zero, List.set_cons_succ, startR, List.map_cons, List.map_nil, List.cons_append, List.nil_append, List.length_cons, List.length_nil, List.replicate_succ, List.replicate_zero, Nat.add_sub_cancel, Nat.reduceAdd, Nat.reduceSub, Nat.reduceLeDiff, if_true, if_false, ite_true, ite_false, reduceIte, true_and, and_true, is_non_int, is_non_bool, is_non_tuple, is_non_list, is_non_str, is_bl_int, is_bl_bool, is_bl_tuple, is_bl_list, is_bl_str, is_int_int, is_int_bool, is_int_tuple, is_int_list, is_int_str, is_str_int, is_str_bool, is_str_tuple, is_str_list, is_str_str, is_tup_int, is_tup_bool, is_tup_tuple, is_tup_list, is_tup_str, is_lst_int, is_lst_bool, is_lst_tuple, is_lst_list, is_lst_str, spIsIntD_eq, isInt_int, spBetD_eq, bet_int, Nat.sub_self, Bool.false_eq_true, if_pos trivial, atI_0, atI_1, atI_2, atI_3, atI_4, atI_5, atI_6, ex_some, cap0, cap1, cap2, cap3, cap4, cap5, cap6, cap7, cap8, cap10, deq_int, iAny, iRan1, iRan2, iRev', iRevR1, iEnuA, iZip', sFor, eLc, wipeR, tTrue, pInG, eSum2, forall_eq, ne_eq, Bool.not_true, Bool.not_false, decide_true, decide_false]
  refine lc_nat (fun i acc => i ≤ rs.length ∧ acc = dRs (aboveF e 0 (rs.take i))) ⟨Nat.zero_le _, rfl⟩ ?_ ?_
  · rintro i d acc F hd ⟨hi, rfl⟩ hF
    rw [enumD_at] at hd
    cases ed : (dRs rs)[i]? with
    | none => rw [ed] at hd; cases hd
    | some c =>
      rw [ed] at hd
      cases hd
      obtain ⟨r, hr, rfl⟩ := dRs_at ed
      have hlt := (List.getElem?_eq_some_iff.mp hr).1
      have e0 : rs[i] = r := (List.getElem?_eq_some_iff.mp hr).2
      have ea := aboveF_app e 0 (rs.take i) r
      rw [List.length_take, Nat.min_eq_left (by omega), Nat.zero_add] at ea
      have et : rs.take (i + 1) = rs.take i ++ [r] := by rw [List.take_succ_eq_append_getElem hlt, e0]
      have len : (dRs (aboveF e 0 (rs.take i))).length ≤ 1000 := by
        have : ∀ (k : Nat) (xs : List Rat), (aboveF e k xs).length ≤ xs.length := fun k xs => by
          induction xs generalizing k with
          | nil => exact Nat.le_refl _
          | cons x xs ih =>
            simp only [aboveF]
            split
            · simp only [List.length_cons]; have := ih (k + 1); omega
            · simp only [List.length_cons]; have := ih (k + 1); omega
        have h2 := this 0 (rs.take i)
        rw [List.length_take] at h2
        unfold dRs
        rw [List.length_map]
        omega
      simp only [iRan3, pInD, List.any_cons, List.any_nil, sRaise, eTold, sSeq, sSeqN, sRetO, sTupA, tupGo, sSet, sOwn, sAsg, sPar, sPar3, slOf, sRet, sExpr, sIf, sApp, sPut, sFrz, sAugI, eVar, eVarB, eC, eOp, tOpD, eNeg, eNot, eChain, eAnd, eOr, tV, tN, tA, tO, eIf, aNil, aCons, aStar, eTup, eLst, eLen, eTuple, eList, eAbs, eInt, eGcd, eIsI, eIsI2, eCall, eCallR, gVa, gNil', gCons', gTup', eSlT, eSlL, eRevL, oNone, oSome, e2I, eSum, eMaxL, eMaxT, eAllI, eAnyI, eAllG, eAnyG, eAnyT, eSumG, eTupG, tT, List.isEmpty_cons, List.isEmpty_nil, pI, pI0, pAdd, pCat, pMul, pMulB, pEq, pNe, pIs, pIsNot, pIx, pRepL, List.getElem?_cons_zero, List.getElem?_cons_succ, List.set_cons_zero, List.set_cons_succ, startR, List.map_cons, List.map_nil, List.cons_append, List.nil_append, List.length_cons, List.length_nil, List.replicate_succ, List.replicate_zero, Nat.add_sub_cancel, Nat.reduceAdd, Nat.reduceSub, Nat.reduceLeDiff, if_true, if_false, ite_true, ite_false, reduceIte, true_and, and_true, is_non_int, is_non_bool, is_non_tuple, is_non_list, is_non_str, is_bl_int, is_bl_bool, is_bl_tuple, is_bl_list, is_bl_str, is_int_int, is_int_bool, is_int_tuple, is_int_list, is_int_str, is_str_int, is_str_bool, is_str_tuple, is_str_list, is_str_str, is_tup_int, is_tup_bool, is_tup_tuple, is_tup_list, is_tup_str, is_lst_int, is_lst_bool, is_lst_tuple, is_lst_list, is_lst_str, spIsIntD_eq, isInt_int, spBetD_eq, bet_int, Nat.sub_self, Bool.false_eq_true, if_pos trivial, atI_0, atI_1, atI_2, atI_3, atI_4, atI_5, atI_6, ex_some, cap0, cap1, cap2, cap3, cap4, cap5, cap6, cap7, cap8, cap10, deq_int, iAny, iRan1, iRan2, iRev', iRevR1, iEnuA, iZip', sFor, eLc, wipeR, tTrue, pInG, eSum2, forall_eq, ne_eq, Bool.not_true, Bool.not_false, decide_true, decide_false]
      by_cases c : e < ((0 + i : Nat) : Int)
      · simp only [c, decide_true, if_true]
        refine ⟨_, r, 20, n, by rw [dR_int], Bd.int (by show _ < 1048576; omega) (by decide), hb r (List.mem_of_getElem? hr), by omega, trivial, by show _ ≤ 1000000; omega, hF _ ⟨hlt, ?_⟩⟩
        rw [et, ea, if_pos (by omega)]
        simp only [dRs, List.map_append, List.map_cons, List.map_nil, Nat.zero_add]
      · simp only [c, decide_false, Bool.false_eq_true, if_false]
        refine hF _ ⟨hlt, ?_⟩
        rw [et, ea, if_neg (by omega), List.append_nil]
  · rintro acc ⟨_, rfl⟩
    rw [enumD_len]
    have el : (dRs rs).length = rs.length := by simp [dRs]
    rw [el, List.take_length]
    exact ⟨_, m, _, rfl, .inl rfl, hs, hm, q⟩
abbrev s_mean_claim : Stmt := topS 27
abbrev N_mean_claim : List Str := ["claims"]
theorem sc_mean_claim : FnScope N_mean_claim ["claims"] (defScope s_mean_claim) := ⟨rfl, rfl, rfl, by decide +kernel, rfl, by decide +kernel, by decide +kernel⟩
theorem has_mean_claim (d : Df K mg "mean_claim" s_mean_claim ["claims"]) (h_check_claims : HasD P w K mg base T k "check_claims" ["claims"] spCheckClmD) (h_chances_of : HasD P w K mg base T k "chances_of" ["claims"] spChsD) (h_sum_above : HasD P w K mg base T k "sum_above" ["values", "edge"] spSumAboveD) : HasD P w K mg base T (k + 1) "mean_claim" ["claims"] spMeanClmD := by
  refine d.hasD sc_mean_claim (fun ds Q E ⟨_, h, _⟩ => by rw [h]; rfl) (fun f cdv A outer s H E hr po => (b_cons (s_expr (d_call h_check_claims hr (a_cons (d_var 0) a_nil)))
      (b_one (s_ret (d_call h_sum_above hr (a_cons (d_call h_chances_of hr (a_cons (d_var 0) a_nil)) (a_cons d_int a_nil))))))) ?_
  rintro ds Q E ⟨ws, rfl, h, hl, q⟩
  refine ⟨[.va (.tup (ws.map D.int))], rfl, ?_⟩
  simp only [iRan3, pInD, List.any_cons, List.any_nil, sRaise, eTold, sSeq, sSeqN, sRetO, sTupA, tupGo, sSet, sOwn, sAsg, sPar, sPar3, slOf, sRet, sExpr, sIf, sApp, sPut, sFrz, sAugI, eVar, eVarB, eC, eOp, tOpD, eNeg, eNot, eChain, eAnd, eOr, tV, tN, tA, tO, eIf, aNil, aCons, aStar, eTup, eLst, eLen, eTuple, eList, eAbs, eInt, eGcd, eIsI, eIsI2, eCall, eCallR, gVa, gNil', gCons', gTup', eSlT, eSlL, eRevL, oNone, oSome, e2I, eSum, eMaxL, eMaxT, eAllI, eAnyI, eAllG, eAnyG, eAnyT, eSumG, eTupG, tT, List.isEmpty_cons, List.isEmpty_nil, pI, pI0, pAdd, pCat, pMul, pMulB, pEq, pNe, pIs, pIsNot, pIx, pRepL, List.getElem?_cons_zero, List.getElem?_cons_succ, List.set_cons_zero, List.set_cons_succ, startR, List.map_cons, List.map_nil, List.cons_append, List.nil_append, List.length_cons, List.length_nil, List.replicate_succ, List.replicate_zero, Nat.add_sub_cancel, Nat.reduceAdd, Nat.reduceSub, Nat.reduceLeDiff, if_true, if_false, ite_true, ite_false, reduceIte, true_and, and_true, is_non_int, is_non_bool, is_non_tuple, is_non_list, is_non_str, is_bl_int, is_bl_bool, is_bl_tuple, is_bl_list, is_bl_str, is_int_int, is_int_bool, is_int_tuple, is_int_list, is_int_str, is_str_int, is_str_bool, is_str_tuple, is_str_list, is_str_str, is_tup_int, is_tup_bool, is_tup_tuple, is_tup_list, is_tup_str, is_lst_int, is_lst_bool, is_lst_tuple, is_lst_list, is_lst_str, spIsIntD_eq, isInt_int, spBetD_eq, bet_int, Nat.sub_self, Bool.false_eq_true, if_pos trivial, atI_0, atI_1, atI_2, atI_3, atI_4, atI_5, atI_6, ex_some, cap0, cap1, cap2, cap3, cap4, cap5, cap6, cap7, cap8, cap10, deq_int, iAny, iRan1, iRan2, iRev', iRevR1, iEnuA, iZip', sFor, eLc, wipeR, tTrue, pInG, eSum2, forall_eq, ne_eq, Bool.not_true, Bool.not_false, decide_true, decide_false]
  refine ⟨ws, rfl, h, hl, ws, rfl, h, hl, ?_⟩
  have lc := chs_len ws
  refine ⟨chs ws, 0, 14, (20 + 14 + 1) * 13 + 1, rfl, by omega, by decide, chs_mem h hl, by omega, above_bd (chs_mem h hl) (by omega) (by decide), by omega, ?_⟩
  rw [above_s1]
  exact q
abbrev s_means_of : Stmt := topS 35
abbrev N_means_of : List Str := ["prior", "_", "claims"]
theorem sc_means_of : FnScope N_means_of ["prior"] (defScope s_means_of) := ⟨rfl, rfl, rfl, by decide +kernel, rfl, by decide +kernel, by decide +kernel⟩
theorem has_means_of (d : Df K mg "means_of" s_means_of ["prior"]) (h_mean_claim : HasD P w K mg base T k "mean_claim" ["claims"] spMeanClmD) : HasD P w K mg base T (k + 1) "means_of" ["prior"] (spPriD fun ks => .lst (rl (km ks) ks.length)) := by
  refine d.hasD sc_means_of (fun ds Q E ⟨_, h, _⟩ => by rw [h]; rfl) (fun f cdv A outer s H E hr po => (b_one (s_ret (PD.fr (d_lc (own := [("_", 1), ("claims", 2)]) rfl sc_means_of.nd (i_any (d_var 0)) (blkOk_by (N := N_means_of) (sc := defScope s_means_of) (by decide +kernel)) (fun _ _ _ _ _ => (g_tup (n := 2) rfl (gs_cons (g_name 1 sc_means_of.nd) (gs_cons (g_name 2 sc_means_of.nd) gs_nil)))) (fun _ _ _ _ _ => ifs_nil) (fun _ _ _ _ _ => (d_call h_mean_claim hr (a_cons (d_var 2) a_nil)))))))) ?_
  rintro ds Q E ⟨ks, rfl, h, q⟩
  refine ⟨[.va (.tup (ks.map kD)), .un, .un], rfl, ?_⟩
  have h2 := h.hi
  simp only [iRan3, pInD, List.any_cons, List.any_nil, sRaise, eTold, sSeq, sSeqN, sRetO, sTupA, tupGo, sSet, sOwn, sAsg, sPar, sPar3, slOf, sRet, sExpr, sIf, sApp, sPut, sFrz, sAugI, eVar, eVarB, eC, eOp, tOpD, eNeg, eNot, eChain, eAnd, eOr, tV, tN, tA, tO, eIf, aNil, aCons, aStar, eTup, eLst, eLen, eTuple, eList, eAbs, eInt, eGcd, eIsI, eIsI2, eCall, eCallR, gVa, gNil', gCons', gTup', eSlT, eSlL, eRevL, oNone, oSome, e2I, eSum, eMaxL, eMaxT, eAllI, eAnyI, eAllG, eAnyG, eAnyT, eSumG, eTupG, tT, List.isEmpty_cons, List.isEmpty_nil, pI, pI0, pAdd, pCat, pMul, pMulB, pEq, pNe, pIs, pIsNot, pIx, pRepL, List.getElem?_cons_zero, List.getElem?_cons_succ, List.set_cons_zero, List.set_cons_succ, startR, List.map_cons, List.map_nil, List.cons_append, List.nil_append, List.length_cons, List.length_nil, List.replicate_succ, List.replicate_zero, Nat.add_sub_cancel, Nat.reduceAdd, Nat.reduceSub, Nat.reduceLeDiff, if_true, if_false, ite_true, ite_false, reduceIte, true_and, and_true, is_non_int, is_non_bool, is_non_tuple, is_non_list, is_non_str, is_bl_int, is_bl_bool, is_bl_tuple, is_bl_list, is_bl_str, is_int_int, is_int_bool, is_int_tuple, is_int_list, is_int_str, is_str_int, is_str_bool, is_str_tuple, is_str_list, is_str_str, is_tup_int, is_tup_bool, is_tup_tuple, is_tup_list, is_tup_str, is_lst_int, is_lst_bool, is_lst_tuple, is_lst_list, is_lst_str, spIsIntD_eq, isInt_int, spBetD_eq, bet_int, Nat.sub_self, Bool.false_eq_true, if_pos trivial, atI_0, atI_1, atI_2, atI_3, atI_4, atI_5, atI_6, ex_some, cap0, cap1, cap2, cap3, cap4, cap5, cap6, cap7, cap8, cap10, deq_int, iAny, iRan1, iRan2, iRev', iRevR1, iEnuA, iZip', sFor, eLc, wipeR, tTrue, pInG, eSum2, forall_eq, ne_eq, Bool.not_true, Bool.not_false, decide_true, decide_false]
  refine lc_each kD (fun c => dR (mn c.2)) (by show _ ≤ 1000000; omega) ?_ ?_
  · intro c hc F hF
    simp only [kD]
    simp only [iRan3, pInD, List.any_cons, List.any_nil, sRaise, eTold, sSeq, sSeqN, sRetO, sTupA, tupGo, sSet, sOwn, sAsg, sPar, sPar3, slOf, sRet, sExpr, sIf, sApp, sPut, sFrz, sAugI, eVar, eVarB, eC, eOp, tOpD, eNeg, eNot, eChain, eAnd, eOr, tV, tN, tA, tO, eIf, aNil, aCons, aStar, eTup, eLst, eLen, eTuple, eList, eAbs, eInt, eGcd, eIsI, eIsI2, eCall, eCallR, gVa, gNil', gCons', gTup', eSlT, eSlL, eRevL, oNone, oSome, e2I, eSum, eMaxL, eMaxT, eAllI, eAnyI, eAllG, eAnyG, eAnyT, eSumG, eTupG, tT, List.isEmpty_cons, List.isEmpty_nil, pI, pI0, pAdd, pCat, pMul, pMulB, pEq, pNe, pIs, pIsNot, pIx, pRepL, List.getElem?_cons_zero, List.getElem?_cons_succ, List.set_cons_zero, List.set_cons_succ, startR, List.map_cons, List.map_nil, List.cons_append, List.nil_append, List.length_cons, List.length_nil, List.replicate_succ, List.replicate_zero, Nat.add_sub_cancel, Nat.reduceAdd, Nat.reduceSub, Nat.reduceLeDiff, if_true, if_false, ite_true, ite_false, reduceIte, true_and, and_true, is_non_int, is_non_bool, is_non_tuple, is_non_list, is_non_str, is_bl_int, is_bl_bool, is_bl_tuple, is_bl_list, is_bl_str, is_int_int, is_int_bool, is_int_tuple, is_int_list, is_int_str, is_str_int, is_str_bool, is_str_tuple, is_str_list, is_str_str, is_tup_int, is_tup_bool, is_tup_tuple, is_tup_list, is_tup_str, is_lst_int, is_lst_bool, is_lst_tuple, is_lst_list, is_lst_str, spIsIntD_eq, isInt_int, spBetD_eq, bet_int, Nat.sub_self, Bool.false_eq_true, if_pos trivial, atI_0, atI_1, atI_2, atI_3, atI_4, atI_5, atI_6, ex_some, cap0, cap1, cap2, cap3, cap4, cap5, cap6, cap7, cap8, cap10, deq_int, iAny, iRan1, iRan2, iRev', iRevR1, iEnuA, iZip', sFor, eLc, wipeR, tTrue, pInG, eSum2, forall_eq, ne_eq, Bool.not_true, Bool.not_false, decide_true, decide_false]
    exact ⟨c.2, rfl, h.ok c hc, by have := h.len c hc; omega, hF⟩
  · have e : ks.map (fun c => dR (mn c.2)) = rl (km ks) ks.length := map_kat (fun c => dR (mn c.2)) ks
    rw [e]
    exact q
abbrev s_mixed : Stmt := topS 18
abbrev N_mixed : List Str := ["parts", "values", "part", "value"]
theorem sc_mixed : FnScope N_mixed ["parts", "values"] (defScope s_mixed) := ⟨rfl, rfl, rfl, by decide +kernel, rfl, by decide +kernel, by decide +kernel⟩
theorem has_mixed (d : Df K mg "mixed" s_mixed ["parts", "values"]) (h_multiplied : HasD P w K mg base T k "multiplied" ["one", "other"] spMulD) (h_total : HasD P w K mg base T k "total" ["ratios"] spTotalD) (z_zip : mg "zip" = none) : HasD P w K mg base T (k + 1) "mixed" ["parts", "values"] spMixD := by
  refine d.hasD sc_mixed (fun ds Q E ⟨_, _, _, _, _, h, _⟩ => by rw [h]; rfl) (fun f cdv A outer s H E hr po => (b_one (s_ret (d_call h_total hr (a_cons (PD.fr (d_lc (own := [("part", 2), ("value", 3)]) rfl sc_mixed.nd (i_zip z_zip (d_var 0) (d_var 1)) (blkOk_by (N := N_mixed) (sc := defScope s_mixed) (by decide +kernel)) (fun _ _ _ _ _ => (g_tup (n := 2) rfl (gs_cons (g_name 2 sc_mixed.nd) (gs_cons (g_name 3 sc_mixed.nd) gs_nil)))) (fun _ _ _ _ _ => ifs_nil) (fun _ _ _ _ _ => (d_call h_multiplied hr (a_cons (d_var 2) (a_cons (d_var 3) a_nil)))))) a_nil))))) ?_
  rintro ds Q E ⟨p, v, n, a, b, rfl, hn, ha, hb, hl, hab, q⟩
  refine ⟨[.va (.lst (rl p n)), .va (.lst (rl v n)), .un, .un], rfl, ?_⟩
  simp only [iRan3, pInD, List.any_cons, List.any_nil, sRaise, eTold, sSeq, sSeqN, sRetO, sTupA, tupGo, sSet, sOwn, sAsg, sPar, sPar3, slOf, sRet, sExpr, sIf, sApp, sPut, sFrz, sAugI, eVar, eVarB, eC, eOp, tOpD, eNeg, eNot, eChain, eAnd, eOr, tV, tN, tA, tO, eIf, aNil, aCons, aStar, eTup, eLst, eLen, eTuple, eList, eAbs, eInt, eGcd, eIsI, eIsI2, eCall, eCallR, gVa, gNil', gCons', gTup', eSlT, eSlL, eRevL, oNone, oSome, e2I, eSum, eMaxL, eMaxT, eAllI, eAnyI, eAllG, eAnyG, eAnyT, eSumG, eTupG, tT, List.isEmpty_cons, List.isEmpty_nil, pI, pI0, pAdd, pCat, pMul, pMulB, pEq, pNe, pIs, pIsNot, pIx, pRepL, List.getElem?_cons_zero, List.getElem?_cons_succ, List.set_cons_zero, List.set_cons_succ, startR, List.map_cons, List.map_nil, List.cons_append, List.nil_append, List.length_cons, List.length_nil, List.replicate_succ, List.replicate_zero, Nat.add_sub_cancel, Nat.reduceAdd, Nat.reduceSub, Nat.reduceLeDiff, if_true, if_false, ite_true, ite_false, reduceIte, true_and, and_true, is_non_int, is_non_bool, is_non_tuple, is_non_list, is_non_str, is_bl_int, is_bl_bool, is_bl_tuple, is_bl_list, is_bl_str, is_int_int, is_int_bool, is_int_tuple, is_int_list, is_int_str, is_str_int, is_str_bool, is_str_tuple, is_str_list, is_str_str, is_tup_int, is_tup_bool, is_tup_tuple, is_tup_list, is_tup_str, is_lst_int, is_lst_bool, is_lst_tuple, is_lst_list, is_lst_str, spIsIntD_eq, isInt_int, spBetD_eq, bet_int, Nat.sub_self, Bool.false_eq_true, if_pos trivial, atI_0, atI_1, atI_2, atI_3, atI_4, atI_5, atI_6, ex_some, cap0, cap1, cap2, cap3, cap4, cap5, cap6, cap7, cap8, cap10, deq_int, iAny, iRan1, iRan2, iRev', iRevR1, iEnuA, iZip', sFor, eLc, wipeR, tTrue, pInG, eSum2, forall_eq, ne_eq, Bool.not_true, Bool.not_false, decide_true, decide_false]
  have lz : (zipD (rl p n) (rl v n)).length = n := by rw [zipD_len, rl_len, rl_len, Nat.min_self]
  refine lc_map (fun i => dR (p i * v i)) (by rw [lz]; show _ ≤ 1000000; omega) ?_ ?_
  · intro i d F hd hF
    obtain ⟨hi, rfl⟩ := zip_rl hd
    simp only [iRan3, pInD, List.any_cons, List.any_nil, sRaise, eTold, sSeq, sSeqN, sRetO, sTupA, tupGo, sSet, sOwn, sAsg, sPar, sPar3, slOf, sRet, sExpr, sIf, sApp, sPut, sFrz, sAugI, eVar, eVarB, eC, eOp, tOpD, eNeg, eNot, eChain, eAnd, eOr, tV, tN, tA, tO, eIf, aNil, aCons, aStar, eTup, eLst, eLen, eTuple, eList, eAbs, eInt, eGcd, eIsI, eIsI2, eCall, eCallR, gVa, gNil', gCons', gTup', eSlT, eSlL, eRevL, oNone, oSome, e2I, eSum, eMaxL, eMaxT, eAllI, eAnyI, eAllG, eAnyG, eAnyT, eSumG, eTupG, tT, List.isEmpty_cons, List.isEmpty_nil, pI, pI0, pAdd, pCat, pMul, pMulB, pEq, pNe, pIs, pIsNot, pIx, pRepL, List.getElem?_cons_zero, List.getElem?_cons_succ, List.set_cons_zero, List.set_cons_succ, startR, List.map_cons, List.map_nil, List.cons_append, List.nil_append, List.length_cons, List.length_nil, List.replicate_succ, List.replicate_zero, Nat.add_sub_cancel, Nat.reduceAdd, Nat.reduceSub, Nat.reduceLeDiff, if_true, if_false, ite_true, ite_false, reduceIte, true_and, and_true, is_non_int, is_non_bool, is_non_tuple, is_non_list, is_non_str, is_bl_int, is_bl_bool, is_bl_tuple, is_bl_list, is_bl_str, is_int_int, is_int_bool, is_int_tuple, is_int_list, is_int_str, is_str_int, is_str_bool, is_str_tuple, is_str_list, is_str_str, is_tup_int, is_tup_bool, is_tup_tuple, is_tup_list, is_tup_str, is_lst_int, is_lst_bool, is_lst_tuple, is_lst_list, is_lst_str, spIsIntD_eq, isInt_int, spBetD_eq, bet_int, Nat.sub_self, Bool.false_eq_true, if_pos trivial, atI_0, atI_1, atI_2, atI_3, atI_4, atI_5, atI_6, ex_some, cap0, cap1, cap2, cap3, cap4, cap5, cap6, cap7, cap8, cap10, deq_int, iAny, iRan1, iRan2, iRev', iRevR1, iEnuA, iZip', sFor, eLc, wipeR, tTrue, pInG, eSum2, forall_eq, ne_eq, Bool.not_true, Bool.not_false, decide_true, decide_false]
    exact ⟨_, _, a, b, rfl, ha i hi, hb i hi, hab, trivial, hF⟩
  · rw [lz]
    have e : (List.range n).map (fun i => dR (p i * v i)) = dRs ((List.range n).map fun i => p i * v i) := rl_eq (fun i => p i * v i) n
    rw [e]
    refine ⟨_, _, _, rfl, .inl rfl, sumBd_of (b := a + b) (m := n) (fun r hr => ?_) (by rw [List.length_map, List.length_range]; exact Nat.le_refl _), hl, ?_⟩
    · obtain ⟨i, hi, rfl⟩ := List.mem_map.mp hr
      have hi' := List.mem_range.mp hi
      exact (ha i hi').mul (hb i hi')
    · rw [rs_sum]
      exact q
abbrev s_expected_after : Stmt := topS 39
abbrev N_expected_after : List Str := ["prior", "seen"]
theorem sc_expected_after : FnScope N_expected_after ["prior", "seen"] (defScope s_expected_after) := ⟨rfl, rfl, rfl, by decide +kernel, rfl, by decide +kernel, by decide +kernel⟩
theorem has_expected_after (d : Df K mg "expected_after" s_expected_after ["prior", "seen"]) (h_learnt : HasD P w K mg base T k "learnt" ["prior", "seen"] (spSnD fun ks ss => .lst (rl (kd ks ss) ks.length))) (h_means_of : HasD P w K mg base T k "means_of" ["prior"] (spPriD fun ks => .lst (rl (km ks) ks.length))) (h_mixed : HasD P w K mg base T k "mixed" ["parts", "values"] spMixD) : HasD P w K mg base T (k + 1) "expected_after" ["prior", "seen"] (spSnD fun ks ss => dR (kE ks ss)) := by
  refine d.hasD sc_expected_after (fun ds Q E ⟨_, _, h, _⟩ => by rw [h]; rfl) (fun f cdv A outer s H E hr po => (b_one (s_ret (d_call h_mixed hr (a_cons (d_call h_learnt hr (a_cons (d_var 0) (a_cons (d_var 1) a_nil))) (a_cons (d_call h_means_of hr (a_cons (d_var 0) a_nil)) a_nil)))))) ?_
  rintro ds Q E ⟨ks, ss, rfl, h, hs, qx, q⟩
  refine ⟨[.va (.tup (ks.map kD)), .va (.tup (ss.map D.int))], rfl, ?_⟩
  have h2 := h.hi
  simp only [iRan3, pInD, List.any_cons, List.any_nil, sRaise, eTold, sSeq, sSeqN, sRetO, sTupA, tupGo, sSet, sOwn, sAsg, sPar, sPar3, slOf, sRet, sExpr, sIf, sApp, sPut, sFrz, sAugI, eVar, eVarB, eC, eOp, tOpD, eNeg, eNot, eChain, eAnd, eOr, tV, tN, tA, tO, eIf, aNil, aCons, aStar, eTup, eLst, eLen, eTuple, eList, eAbs, eInt, eGcd, eIsI, eIsI2, eCall, eCallR, gVa, gNil', gCons', gTup', eSlT, eSlL, eRevL, oNone, oSome, e2I, eSum, eMaxL, eMaxT, eAllI, eAnyI, eAllG, eAnyG, eAnyT, eSumG, eTupG, tT, List.isEmpty_cons, List.isEmpty_nil, pI, pI0, pAdd, pCat, pMul, pMulB, pEq, pNe, pIs, pIsNot, pIx, pRepL, List.getElem?_cons_zero, List.getElem?_cons_succ, List.set_cons_zero, List.set_cons_succ, startR, List.map_cons, List.map_nil, List.cons_append, List.nil_append, List.length_cons, List.length_nil, List.replicate_succ, List.replicate_zero, Nat.add_sub_cancel, Nat.reduceAdd, Nat.reduceSub, Nat.reduceLeDiff, if_true, if_false, ite_true, ite_false, reduceIte, true_and, and_true, is_non_int, is_non_bool, is_non_tuple, is_non_list, is_non_str, is_bl_int, is_bl_bool, is_bl_tuple, is_bl_list, is_bl_str, is_int_int, is_int_bool, is_int_tuple, is_int_list, is_int_str, is_str_int, is_str_bool, is_str_tuple, is_str_list, is_str_str, is_tup_int, is_tup_bool, is_tup_tuple, is_tup_list, is_tup_str, is_lst_int, is_lst_bool, is_lst_tuple, is_lst_list, is_lst_str, spIsIntD_eq, isInt_int, spBetD_eq, bet_int, Nat.sub_self, Bool.false_eq_true, if_pos trivial, atI_0, atI_1, atI_2, atI_3, atI_4, atI_5, atI_6, ex_some, cap0, cap1, cap2, cap3, cap4, cap5, cap6, cap7, cap8, cap10, deq_int, iAny, iRan1, iRan2, iRev', iRevR1, iEnuA, iZip', sFor, eLc, wipeR, tTrue, pInG, eSum2, forall_eq, ne_eq, Bool.not_true, Bool.not_false, decide_true, decide_false]
  refine ⟨ks, ss, rfl, h, hs, qx, fun c => ?_⟩
  refine ⟨ks, rfl, h, ?_⟩
  exact ⟨kd ks ss, km ks, ks.length, 288, 15, rfl, by omega, fun i hi => kd_bd h hs c hi, fun i hi => km_bd h hi, by omega, by decide, q c⟩
abbrev s_law : Stmt := topS 56
abbrev N_law : List Str := ["script", "row", "some", "whole", "told", "due", "mean", "prior", "seen", "k", "one"]
theorem sc_law : FnScope N_law ["script"] (defScope s_law) := ⟨rfl, rfl, rfl, by decide +kernel, rfl, by decide +kernel, by decide +kernel⟩
theorem ok_law {f : Addr} {fd : FuncData} {cc PT : Addr} (F : Fn K "law" s_law f fd) (hcc : fd.code = .ref cc) (TB : GxR.TabB base mg cc PT) (hT : PT ∈ T) (hL : GT.q PT = some ("law.<locals>.<lambda>" : Str)) (h_law_told : HasTold P w K mg base T k s_law_told) (h_law_prior : HasR P w K mg base T k "_law_prior" ["row"] spPriDrawD) (h_law_taken : HasR P w K mg base T k "_law_taken" ["row", "many"] spTakenD) (h_law_kinds : HasD P w K mg base T k "_law_kinds" ["prior", "seen"] (spAllSD fun ks ss => .lst (rl (ka ks ss) ks.length))) (h_law_mean : HasD P w K mg base T k "_law_mean" ["claims"] spMn3D) (h_law_sum : HasD P w K mg base T k "_law_sum" ["some"] spTotalD) (h_law_by : HasD P w K mg base T k "_law_by" ["one", "other"] spMulD) (h_law_ratio : HasD P w K mg base T k "_law_ratio" ["top", "bottom"] spMakeD) (h_law_alike : HasD P w K mg base T k "_law_alike" ["found", "due"] (spAlikeD 5)) (h_kinds_after : HasD P w K mg base T k "kinds_after" ["prior", "seen"] (spSnD fun ks ss => .tup (rl (kd ks ss) ks.length))) (h_expected_after : HasD P w K mg base T k "expected_after" ["prior", "seen"] (spSnD fun ks ss => dR (kE ks ss)))
    (u_NeverSeen : ErrT K mg "NeverSeen" "LifeError" "NeverSeen" true) (z_tuple : mg "tuple" = none) (z_len : mg "len" = none) (z_range : mg "range" = none) (z_isinstance : mg "isinstance" = none) : FnOk P w K mg base CX0 (k + 2 + 1) f fd ["script"] (spLawT K T) := by
  obtain ⟨C, C0, C1, mC, m0, m1, hC, hm, hk⟩ := u_NeverSeen.ex
  have hx := told_one (s1 := "never") (s2 := "other") mC hC hm hk
  have h0_kinds_after := h_kinds_after
  have h0_expected_after := h_expected_after
  replace h_law_prior := h_law_prior.mono (Nat.le_add_right k 2)
  replace h_law_taken := h_law_taken.mono (Nat.le_add_right k 2)
  replace h_law_kinds := h_law_kinds.mono (Nat.le_add_right k 2)
  replace h_law_mean := h_law_mean.mono (Nat.le_add_right k 2)
  replace h_law_sum := h_law_sum.mono (Nat.le_add_right k 2)
  replace h_law_by := h_law_by.mono (Nat.le_add_right k 2)
  replace h_law_ratio := h_law_ratio.mono (Nat.le_add_right k 2)
  replace h_law_alike := h_law_alike.mono (Nat.le_add_right k 2)
  refine law_okG (c := 3463) F hcc sc_law rfl ⟨by decide, by decide⟩ (by decide) (fun A outer s H E => (ps_set (i := 1) sc_law.nd rfl (.inr rfl) (pe_lst (pa_cons (pv 0) (pa_cons pe_int (pa_cons pe_int (pa_cons pe_int pa_nil))))))) (fun Sc a A outer s H E hr po => (b_cons (s_set (i := 7) sc_law.nd (d_callR (i := 1) h_law_prior hr a_nil))
      (b_cons (s_set (i := 8) sc_law.nd (d_tuple z_tuple (d_lc (own := [("k", 9)]) rfl sc_law.nd (i_range1 z_range (d_callR (i := 1) h_law_taken hr (a_cons d_int a_nil))) (blkOk_by (N := N_law) (sc := defScope s_law) (by decide +kernel)) (fun _ _ _ _ _ => (g_name 9 sc_law.nd)) (fun _ _ _ _ _ => ifs_nil) (fun _ _ _ _ _ => (d_callR (i := 1) h_law_taken hr (a_cons d_int a_nil))))))
      (b_cons (s_set (i := 2) sc_law.nd (d_call h_law_kinds hr (a_cons (d_var 7) (a_cons (d_var 8) a_nil))))
      (b_cons (s_set (i := 3) sc_law.nd (d_call h_law_sum hr (a_cons (d_var 2) a_nil)))
      (b_cons (s_if (t_cmp (op_eqD (hu64 hr)) opd_eq (d_var 3) (d_tup (a_cons d_int (a_cons d_int a_nil)))) (b_cons (s_own (i := 4) sc_law.nd (d_lst (a_cons (d_told h_law_told.d sc_law_told rfl (Or.inl rfl) (fun _ _ _ => told_is rfl m0 rfl m1 rfl z_isinstance rfl rfl (by decide)) hx TB rfl hT hL (fun h => nomatch h) hr (LamX.lamS_by (show LamX.lamSB (defScope s_law) _ = true by decide +kernel)) rfl (fun _ _ _ _ _ => rfl) (fun _ _ _ _ _ _ _ hr => (d_call h0_kinds_after hr (a_cons (d_var 7) (a_cons (d_var 8) a_nil))))) a_nil)))
      (b_cons (s_app (i := 4) (d_told h_law_told.d sc_law_told rfl (Or.inl rfl) (fun _ _ _ => told_is rfl m0 rfl m1 rfl z_isinstance rfl rfl (by decide)) hx TB rfl hT hL (fun h => nomatch h) hr (LamX.lamS_by (show LamX.lamSB (defScope s_law) _ = true by decide +kernel)) rfl (fun _ _ _ _ _ => rfl) (fun _ _ _ _ _ _ _ hr => (d_call h0_expected_after hr (a_cons (d_var 7) (a_cons (d_var 8) a_nil))))))
      (b_one (s_ret (d_cmp (op_eqD (hu64 hr)) opd_eq (d_varB 4) (d_op op_rep opd_repL (d_lst (a_cons d_str a_nil)) d_int)))))) b_nil)
      (b_cons (s_own (i := 5) sc_law.nd (d_lc (own := [("one", 10)]) rfl sc_law.nd (i_any (d_var 2)) (blkOk_by (N := N_law) (sc := defScope s_law) (by decide +kernel)) (fun _ _ _ _ _ => (g_name 10 sc_law.nd)) (fun _ _ _ _ _ => ifs_nil) (fun _ _ _ _ _ => (d_call h_law_ratio hr (a_cons (d_op o_mul opd_mul (d_ix (d_var 10) d_int) (d_ix (d_var 3) d_int)) (a_cons (d_op o_mul opd_mul (d_ix (d_var 10) d_int) (d_ix (d_var 3) d_int)) a_nil))))))
      (b_cons (s_if (t_not (t_val (d_call h_law_alike hr (a_cons (d_told h_law_told.d sc_law_told rfl (Or.inl rfl) (fun _ _ _ => told_is rfl m0 rfl m1 rfl z_isinstance rfl rfl (by decide)) hx TB rfl hT hL (fun h => nomatch h) hr (LamX.lamS_by (show LamX.lamSB (defScope s_law) _ = true by decide +kernel)) rfl (fun _ _ _ _ _ => rfl) (fun _ _ _ _ _ _ _ hr => (d_call h0_kinds_after hr (a_cons (d_var 7) (a_cons (d_var 8) a_nil))))) (a_cons (d_tuple z_tuple (d_varB 5)) a_nil))))) (b_one (s_ret d_bl)) b_nil)
      (b_cons (s_set (i := 6) sc_law.nd (d_call h_law_sum hr (a_cons (PD.fr (d_lc (own := [("k", 9)]) rfl sc_law.nd (i_range1 z_range (d_len z_len (d_var 7))) (blkOk_by (N := N_law) (sc := defScope s_law) (by decide +kernel)) (fun _ _ _ _ _ => (g_name 9 sc_law.nd)) (fun _ _ _ _ _ => ifs_nil) (fun _ _ _ _ _ => (d_call h_law_by hr (a_cons (d_ix (d_varB 5) (d_var 9)) (a_cons (d_call h_law_mean hr (a_cons (d_ix (d_ix (d_var 7) (d_var 9)) d_int) a_nil)) a_nil)))))) a_nil)))
      (b_one (s_ret (d_call h_law_alike hr (a_cons (d_told h_law_told.d sc_law_told rfl (Or.inl rfl) (fun _ _ _ => told_is rfl m0 rfl m1 rfl z_isinstance rfl rfl (by decide)) hx TB rfl hT hL (fun h => nomatch h) hr (LamX.lamS_by (show LamX.lamSB (defScope s_law) _ = true by decide +kernel)) rfl (fun _ _ _ _ _ => rfl) (fun _ _ _ _ _ _ _ hr => (d_call h0_expected_after hr (a_cons (d_var 7) (a_cons (d_var 8) a_nil))))) (a_cons (d_var 6) a_nil)))))))))))))) ?_
  refine ⟨[.un, .ro, .un, .un, .un, .un, .un, .un, .un, .un, .un], rfl, ?_⟩
  simp only [iRan3, pInD, List.any_cons, List.any_nil, sRaise, eTold, sSeq, sSeqN, sRetO, sTupA, tupGo, sSet, sOwn, sAsg, sPar, sPar3, slOf, sRet, sExpr, sIf, sApp, sPut, sFrz, sAugI, eVar, eVarB, eC, eOp, tOpD, eNeg, eNot, eChain, eAnd, eOr, tV, tN, tA, tO, aNil, aCons, aStar, eTup, eLst, eLen, eTuple, eList, eAbs, eInt, eGcd, eIsI, eIsI2, eCall, eCallR, gVa, gNil', gCons', gTup', eSlT, eSlL, eRevL, oNone, oSome, e2I, eSum, eMaxL, eMaxT, eAllI, eAnyI, eAllG, eAnyG, eAnyT, eSumG, eTupG, tT, List.isEmpty_cons, List.isEmpty_nil, pI, pI0, pAdd, pCat, pMul, pMulB, pEq, pNe, pIs, pIsNot, pIx, pRepL, List.getElem?_cons_zero, List.getElem?_cons_succ, List.set_cons_zero, List.set_cons_succ, startR, List.map_cons, List.map_nil, List.cons_append, List.nil_append, List.length_cons, List.length_nil, List.replicate_succ, List.replicate_zero, Nat.add_sub_cancel, Nat.reduceAdd, Nat.reduceSub, Nat.reduceLeDiff, if_true, if_false, ite_true, ite_false, reduceIte, true_and, and_true, is_non_int, is_non_bool, is_non_tuple, is_non_list, is_non_str, is_bl_int, is_bl_bool, is_bl_tuple, is_bl_list, is_bl_str, is_int_int, is_int_bool, is_int_tuple, is_int_list, is_int_str, is_str_int, is_str_bool, is_str_tuple, is_str_list, is_str_str, is_tup_int, is_tup_bool, is_tup_tuple, is_tup_list, is_tup_str, is_lst_int, is_lst_bool, is_lst_tuple, is_lst_list, is_lst_str, spIsIntD_eq, isInt_int, spBetD_eq, bet_int, Nat.sub_self, Bool.false_eq_true, if_pos trivial, atI_0, atI_1, atI_2, atI_3, atI_4, atI_5, atI_6, ex_some, cap0, cap1, cap2, cap3, cap4, cap5, cap6, cap7, cap8, cap10, deq_int, iAny, iRan1, iRan2, iRev', iRevR1, iEnuA, iZip', sFor, eLc, wipeR, tTrue, pInG, eSum2, forall_eq, ne_eq, Bool.not_true, Bool.not_false, decide_true, decide_false]
  refine ⟨rfl, fun ks h => ?_⟩
  try simp only [iRan3, pInD, List.any_cons, List.any_nil, sRaise, eTold, sSeq, sSeqN, sRetO, sTupA, tupGo, sSet, sOwn, sAsg, sPar, sPar3, slOf, sRet, sExpr, sIf, sApp, sPut, sFrz, sAugI, eVar, eVarB, eC, eOp, tOpD, eNeg, eNot, eChain, eAnd, eOr, tV, tN, tA, tO, aNil, aCons, aStar, eTup, eLst, eLen, eTuple, eList, eAbs, eInt, eGcd, eIsI, eIsI2, eCall, eCallR, gVa, gNil', gCons', gTup', eSlT, eSlL, eRevL, oNone, oSome, e2I, eSum, eMaxL, eMaxT, eAllI, eAnyI, eAllG, eAnyG, eAnyT, eSumG, eTupG, tT, List.isEmpty_cons, List.isEmpty_nil, pI, pI0, pAdd, pCat, pMul, pMulB, pEq, pNe, pIs, pIsNot, pIx, pRepL, List.getElem?_cons_zero, List.getElem?_cons_succ, List.set_cons_zero, List.set_cons_succ, startR, List.map_cons, List.map_nil, List.cons_append, List.nil_append, List.length_cons, List.length_nil, List.replicate_succ, List.replicate_zero, Nat.add_sub_cancel, Nat.reduceAdd, Nat.reduceSub, Nat.reduceLeDiff, if_true, if_false, ite_true, ite_false, reduceIte, true_and, and_true, is_non_int, is_non_bool, is_non_tuple, is_non_list, is_non_str, is_bl_int, is_bl_bool, is_bl_tuple, is_bl_list, is_bl_str, is_int_int, is_int_bool, is_int_tuple, is_int_list, is_int_str, is_str_int, is_str_bool, is_str_tuple, is_str_list, is_str_str, is_tup_int, is_tup_bool, is_tup_tuple, is_tup_list, is_tup_str, is_lst_int, is_lst_bool, is_lst_tuple, is_lst_list, is_lst_str, spIsIntD_eq, isInt_int, spBetD_eq, bet_int, Nat.sub_self, Bool.false_eq_true, if_pos trivial, atI_0, atI_1, atI_2, atI_3, atI_4, atI_5, atI_6, ex_some, cap0, cap1, cap2, cap3, cap4, cap5, cap6, cap7, cap8, cap10, deq_int, iAny, iRan1, iRan2, iRev', iRevR1, iEnuA, iZip', sFor, eLc, wipeR, tTrue, pInG, eSum2, forall_eq, ne_eq, Bool.not_true, Bool.not_false, decide_true, decide_false]
  have h1 := h.lo
  have h2 := h.hi
  refine ⟨4, rfl, by decide, by decide, fun y' y0 y1 => ?_⟩
  obtain ⟨y, rfl⟩ : ∃ n : Nat, y' = (n : Int) := ⟨y'.toNat, by omega⟩
  have hy : y ≤ 3 := by omega
  try simp only [iRan3, pInD, List.any_cons, List.any_nil, sRaise, eTold, sSeq, sSeqN, sRetO, sTupA, tupGo, sSet, sOwn, sAsg, sPar, sPar3, slOf, sRet, sExpr, sIf, sApp, sPut, sFrz, sAugI, eVar, eVarB, eC, eOp, tOpD, eNeg, eNot, eChain, eAnd, eOr, tV, tN, tA, tO, aNil, aCons, aStar, eTup, eLst, eLen, eTuple, eList, eAbs, eInt, eGcd, eIsI, eIsI2, eCall, eCallR, gVa, gNil', gCons', gTup', eSlT, eSlL, eRevL, oNone, oSome, e2I, eSum, eMaxL, eMaxT, eAllI, eAnyI, eAllG, eAnyG, eAnyT, eSumG, eTupG, tT, List.isEmpty_cons, List.isEmpty_nil, pI, pI0, pAdd, pCat, pMul, pMulB, pEq, pNe, pIs, pIsNot, pIx, pRepL, List.getElem?_cons_zero, List.getElem?_cons_succ, List.set_cons_zero, List.set_cons_succ, startR, List.map_cons, List.map_nil, List.cons_append, List.nil_append, List.length_cons, List.length_nil, List.replicate_succ, List.replicate_zero, Nat.add_sub_cancel, Nat.reduceAdd, Nat.reduceSub, Nat.reduceLeDiff, if_true, if_false, ite_true, ite_false, reduceIte, true_and, and_true, is_non_int, is_non_bool, is_non_tuple, is_non_list, is_non_str, is_bl_int, is_bl_bool, is_bl_tuple, is_bl_list, is_bl_str, is_int_int, is_int_bool, is_int_tuple, is_int_list, is_int_str, is_str_int, is_str_bool, is_str_tuple, is_str_list, is_str_str, is_tup_int, is_tup_bool, is_tup_tuple, is_tup_list, is_tup_str, is_lst_int, is_lst_bool, is_lst_tuple, is_lst_list, is_lst_str, spIsIntD_eq, isInt_int, spBetD_eq, bet_int, Nat.sub_self, Bool.false_eq_true, if_pos trivial, atI_0, atI_1, atI_2, atI_3, atI_4, atI_5, atI_6, ex_some, cap0, cap1, cap2, cap3, cap4, cap5, cap6, cap7, cap8, cap10, deq_int, iAny, iRan1, iRan2, iRev', iRevR1, iEnuA, iZip', sFor, eLc, wipeR, tTrue, pInG, eSum2, forall_eq, ne_eq, Bool.not_true, Bool.not_false, decide_true, decide_false]
  refine ⟨by omega, ?_⟩
  refine lc_any (fun _ z => ∃ n : Int, z = .int n ∧ (0 ≤ n ∧ n ≤ 12)) (by rw [rangeD_len]; show _ ≤ 1000000; omega) ?_ ?_
  · intro i d F hd hF
    simp only [iRan3, pInD, List.any_cons, List.any_nil, sRaise, eTold, sSeq, sSeqN, sRetO, sTupA, tupGo, sSet, sOwn, sAsg, sPar, sPar3, slOf, sRet, sExpr, sIf, sApp, sPut, sFrz, sAugI, eVar, eVarB, eC, eOp, tOpD, eNeg, eNot, eChain, eAnd, eOr, tV, tN, tA, tO, eIf, aNil, aCons, aStar, eTup, eLst, eLen, eTuple, eList, eAbs, eInt, eGcd, eIsI, eIsI2, eCall, eCallR, gVa, gNil', gCons', gTup', eSlT, eSlL, eRevL, oNone, oSome, e2I, eSum, eMaxL, eMaxT, eAllI, eAnyI, eAllG, eAnyG, eAnyT, eSumG, eTupG, tT, List.isEmpty_cons, List.isEmpty_nil, pI, pI0, pAdd, pCat, pMul, pMulB, pEq, pNe, pIs, pIsNot, pIx, pRepL, List.getElem?_cons_zero, List.getElem?_cons_succ, List.set_cons_zero, List.set_cons_succ, startR, List.map_cons, List.map_nil, List.cons_append, List.nil_append, List.length_cons, List.length_nil, List.replicate_succ, List.replicate_zero, Nat.add_sub_cancel, Nat.reduceAdd, Nat.reduceSub, Nat.reduceLeDiff, if_true, if_false, ite_true, ite_false, reduceIte, true_and, and_true, is_non_int, is_non_bool, is_non_tuple, is_non_list, is_non_str, is_bl_int, is_bl_bool, is_bl_tuple, is_bl_list, is_bl_str, is_int_int, is_int_bool, is_int_tuple, is_int_list, is_int_str, is_str_int, is_str_bool, is_str_tuple, is_str_list, is_str_str, is_tup_int, is_tup_bool, is_tup_tuple, is_tup_list, is_tup_str, is_lst_int, is_lst_bool, is_lst_tuple, is_lst_list, is_lst_str, spIsIntD_eq, isInt_int, spBetD_eq, bet_int, Nat.sub_self, Bool.false_eq_true, if_pos trivial, atI_0, atI_1, atI_2, atI_3, atI_4, atI_5, atI_6, ex_some, cap0, cap1, cap2, cap3, cap4, cap5, cap6, cap7, cap8, cap10, deq_int, iAny, iRan1, iRan2, iRev', iRevR1, iEnuA, iZip', sFor, eLc, wipeR, tTrue, pInG, eSum2, forall_eq, ne_eq, Bool.not_true, Bool.not_false, decide_true, decide_false]
    exact ⟨4, rfl, by decide, by decide, fun v v0 v1 => hF _ ⟨_, rfl, by omega, by omega⟩⟩
  intro xs hl hx
  rw [rangeD_len] at hl
  obtain ⟨ss, rfl, hs⟩ := ints_of hx
  rw [List.length_map] at hl
  have hS : SnOk ss := ⟨by omega, hs⟩
  try simp only [iRan3, pInD, List.any_cons, List.any_nil, sRaise, eTold, sSeq, sSeqN, sRetO, sTupA, tupGo, sSet, sOwn, sAsg, sPar, sPar3, slOf, sRet, sExpr, sIf, sApp, sPut, sFrz, sAugI, eVar, eVarB, eC, eOp, tOpD, eNeg, eNot, eChain, eAnd, eOr, tV, tN, tA, tO, aNil, aCons, aStar, eTup, eLst, eLen, eTuple, eList, eAbs, eInt, eGcd, eIsI, eIsI2, eCall, eCallR, gVa, gNil', gCons', gTup', eSlT, eSlL, eRevL, oNone, oSome, e2I, eSum, eMaxL, eMaxT, eAllI, eAnyI, eAllG, eAnyG, eAnyT, eSumG, eTupG, tT, List.isEmpty_cons, List.isEmpty_nil, pI, pI0, pAdd, pCat, pMul, pMulB, pEq, pNe, pIs, pIsNot, pIx, pRepL, List.getElem?_cons_zero, List.getElem?_cons_succ, List.set_cons_zero, List.set_cons_succ, startR, List.map_cons, List.map_nil, List.cons_append, List.nil_append, List.length_cons, List.length_nil, List.replicate_succ, List.replicate_zero, Nat.add_sub_cancel, Nat.reduceAdd, Nat.reduceSub, Nat.reduceLeDiff, if_true, if_false, ite_true, ite_false, reduceIte, true_and, and_true, is_non_int, is_non_bool, is_non_tuple, is_non_list, is_non_str, is_bl_int, is_bl_bool, is_bl_tuple, is_bl_list, is_bl_str, is_int_int, is_int_bool, is_int_tuple, is_int_list, is_int_str, is_str_int, is_str_bool, is_str_tuple, is_str_list, is_str_str, is_tup_int, is_tup_bool, is_tup_tuple, is_tup_list, is_tup_str, is_lst_int, is_lst_bool, is_lst_tuple, is_lst_list, is_lst_str, spIsIntD_eq, isInt_int, spBetD_eq, bet_int, Nat.sub_self, Bool.false_eq_true, if_pos trivial, atI_0, atI_1, atI_2, atI_3, atI_4, atI_5, atI_6, ex_some, cap0, cap1, cap2, cap3, cap4, cap5, cap6, cap7, cap8, cap10, deq_int, iAny, iRan1, iRan2, iRev', iRevR1, iEnuA, iZip', sFor, eLc, wipeR, tTrue, pInG, eSum2, forall_eq, ne_eq, Bool.not_true, Bool.not_false, decide_true, decide_false]
  refine ⟨ks, ss, rfl, h, hS, ?_⟩
  try simp only [iRan3, pInD, List.any_cons, List.any_nil, sRaise, eTold, sSeq, sSeqN, sRetO, sTupA, tupGo, sSet, sOwn, sAsg, sPar, sPar3, slOf, sRet, sExpr, sIf, sApp, sPut, sFrz, sAugI, eVar, eVarB, eC, eOp, tOpD, eNeg, eNot, eChain, eAnd, eOr, tV, tN, tA, tO, aNil, aCons, aStar, eTup, eLst, eLen, eTuple, eList, eAbs, eInt, eGcd, eIsI, eIsI2, eCall, eCallR, gVa, gNil', gCons', gTup', eSlT, eSlL, eRevL, oNone, oSome, e2I, eSum, eMaxL, eMaxT, eAllI, eAnyI, eAllG, eAnyG, eAnyT, eSumG, eTupG, tT, List.isEmpty_cons, List.isEmpty_nil, pI, pI0, pAdd, pCat, pMul, pMulB, pEq, pNe, pIs, pIsNot, pIx, pRepL, List.getElem?_cons_zero, List.getElem?_cons_succ, List.set_cons_zero, List.set_cons_succ, startR, List.map_cons, List.map_nil, List.cons_append, List.nil_append, List.length_cons, List.length_nil, List.replicate_succ, List.replicate_zero, Nat.add_sub_cancel, Nat.reduceAdd, Nat.reduceSub, Nat.reduceLeDiff, if_true, if_false, ite_true, ite_false, reduceIte, true_and, and_true, is_non_int, is_non_bool, is_non_tuple, is_non_list, is_non_str, is_bl_int, is_bl_bool, is_bl_tuple, is_bl_list, is_bl_str, is_int_int, is_int_bool, is_int_tuple, is_int_list, is_int_str, is_str_int, is_str_bool, is_str_tuple, is_str_list, is_str_str, is_tup_int, is_tup_bool, is_tup_tuple, is_tup_list, is_tup_str, is_lst_int, is_lst_bool, is_lst_tuple, is_lst_list, is_lst_str, spIsIntD_eq, isInt_int, spBetD_eq, bet_int, Nat.sub_self, Bool.false_eq_true, if_pos trivial, atI_0, atI_1, atI_2, atI_3, atI_4, atI_5, atI_6, ex_some, cap0, cap1, cap2, cap3, cap4, cap5, cap6, cap7, cap8, cap10, deq_int, iAny, iRan1, iRan2, iRev', iRevR1, iEnuA, iZip', sFor, eLc, wipeR, tTrue, pInG, eSum2, forall_eq, ne_eq, Bool.not_true, Bool.not_false, decide_true, decide_false]
  have e0 : rl (ka ks ss) ks.length = dRs ((List.range ks.length).map (ka ks ss)) := rl_eq _ _
  refine ⟨_, _, _, by rw [e0], .inl rfl, sumBd_of (b := 71) (m := 3) (fun r hr => ?_) (by rw [List.length_map, List.length_range]; exact h2), by decide, ?_⟩
  · obtain ⟨i, hi, rfl⟩ := List.mem_map.mp hr
    exact ka_bd h hS (List.mem_range.mp hi)
  rw [rs_sum]
  have eT : rs (ka ks ss) ks.length = kT ks ss := rfl
  rw [eT]
  try simp only [iRan3, pInD, List.any_cons, List.any_nil, sRaise, eTold, sSeq, sSeqN, sRetO, sTupA, tupGo, sSet, sOwn, sAsg, sPar, sPar3, slOf, sRet, sExpr, sIf, sApp, sPut, sFrz, sAugI, eVar, eVarB, eC, eOp, tOpD, eNeg, eNot, eChain, eAnd, eOr, tV, tN, tA, tO, aNil, aCons, aStar, eTup, eLst, eLen, eTuple, eList, eAbs, eInt, eGcd, eIsI, eIsI2, eCall, eCallR, gVa, gNil', gCons', gTup', eSlT, eSlL, eRevL, oNone, oSome, e2I, eSum, eMaxL, eMaxT, eAllI, eAnyI, eAllG, eAnyG, eAnyT, eSumG, eTupG, tT, List.isEmpty_cons, List.isEmpty_nil, pI, pI0, pAdd, pCat, pMul, pMulB, pEq, pNe, pIs, pIsNot, pIx, pRepL, List.getElem?_cons_zero, List.getElem?_cons_succ, List.set_cons_zero, List.set_cons_succ, startR, List.map_cons, List.map_nil, List.cons_append, List.nil_append, List.length_cons, List.length_nil, List.replicate_succ, List.replicate_zero, Nat.add_sub_cancel, Nat.reduceAdd, Nat.reduceSub, Nat.reduceLeDiff, if_true, if_false, ite_true, ite_false, reduceIte, true_and, and_true, is_non_int, is_non_bool, is_non_tuple, is_non_list, is_non_str, is_bl_int, is_bl_bool, is_bl_tuple, is_bl_list, is_bl_str, is_int_int, is_int_bool, is_int_tuple, is_int_list, is_int_str, is_str_int, is_str_bool, is_str_tuple, is_str_list, is_str_str, is_tup_int, is_tup_bool, is_tup_tuple, is_tup_list, is_tup_str, is_lst_int, is_lst_bool, is_lst_tuple, is_lst_list, is_lst_str, spIsIntD_eq, isInt_int, spBetD_eq, bet_int, Nat.sub_self, Bool.false_eq_true, if_pos trivial, atI_0, atI_1, atI_2, atI_3, atI_4, atI_5, atI_6, ex_some, cap0, cap1, cap2, cap3, cap4, cap5, cap6, cap7, cap8, cap10, deq_int, iAny, iRan1, iRan2, iRev', iRevR1, iEnuA, iZip', sFor, eLc, wipeR, tTrue, pInG, eSum2, forall_eq, ne_eq, Bool.not_true, Bool.not_false, decide_true, decide_false]
  have dq := deq_R (a := kT ks ss) (b := 0)
  have e00 : dR 0 = .tup [.int 0, .int 1] := rfl
  rw [e00] at dq
  refine ⟨⟨rfl, rfl⟩, ?_⟩
  rw [dq]
  by_cases c : kT ks ss = 0
  · rw [decide_eq_true c]
    simp only [if_true]
    refine ⟨ks, ss, rfl, h, hS, fun _ => ⟨rfl, ?_⟩, fun n => absurd c n⟩
    refine ⟨ks, ss, rfl, h, hS, fun _ => ⟨rfl, ?_⟩, fun n => absurd c n⟩
    exact ⟨⟨by decide, by decide, by show _ ≤ 1000000; decide⟩, ⟨by decide +kernel, by decide +kernel⟩, congrArg D.bl (deq_refl _)⟩
  · rw [decide_eq_false c]
    simp only [Bool.false_eq_true, if_false]
    try simp only [iRan3, pInD, List.any_cons, List.any_nil, sRaise, eTold, sSeq, sSeqN, sRetO, sTupA, tupGo, sSet, sOwn, sAsg, sPar, sPar3, slOf, sRet, sExpr, sIf, sApp, sPut, sFrz, sAugI, eVar, eVarB, eC, eOp, tOpD, eNeg, eNot, eChain, eAnd, eOr, tV, tN, tA, tO, aNil, aCons, aStar, eTup, eLst, eLen, eTuple, eList, eAbs, eInt, eGcd, eIsI, eIsI2, eCall, eCallR, gVa, gNil', gCons', gTup', eSlT, eSlL, eRevL, oNone, oSome, e2I, eSum, eMaxL, eMaxT, eAllI, eAnyI, eAllG, eAnyG, eAnyT, eSumG, eTupG, tT, List.isEmpty_cons, List.isEmpty_nil, pI, pI0, pAdd, pCat, pMul, pMulB, pEq, pNe, pIs, pIsNot, pIx, pRepL, List.getElem?_cons_zero, List.getElem?_cons_succ, List.set_cons_zero, List.set_cons_succ, startR, List.map_cons, List.map_nil, List.cons_append, List.nil_append, List.length_cons, List.length_nil, List.replicate_succ, List.replicate_zero, Nat.add_sub_cancel, Nat.reduceAdd, Nat.reduceSub, Nat.reduceLeDiff, if_true, if_false, ite_true, ite_false, reduceIte, true_and, and_true, is_non_int, is_non_bool, is_non_tuple, is_non_list, is_non_str, is_bl_int, is_bl_bool, is_bl_tuple, is_bl_list, is_bl_str, is_int_int, is_int_bool, is_int_tuple, is_int_list, is_int_str, is_str_int, is_str_bool, is_str_tuple, is_str_list, is_str_str, is_tup_int, is_tup_bool, is_tup_tuple, is_tup_list, is_tup_str, is_lst_int, is_lst_bool, is_lst_tuple, is_lst_list, is_lst_str, spIsIntD_eq, isInt_int, spBetD_eq, bet_int, Nat.sub_self, Bool.false_eq_true, if_pos trivial, atI_0, atI_1, atI_2, atI_3, atI_4, atI_5, atI_6, ex_some, cap0, cap1, cap2, cap3, cap4, cap5, cap6, cap7, cap8, cap10, deq_int, iAny, iRan1, iRan2, iRev', iRevR1, iEnuA, iZip', sFor, eLc, wipeR, tTrue, pInG, eSum2, forall_eq, ne_eq, Bool.not_true, Bool.not_false, decide_true, decide_false]
    refine lc_map (fun i => dR (kd ks ss i)) (by rw [rl_len]; show _ ≤ 1000000; omega) ?_ ?_
    · intro i d F hd hF
      obtain ⟨hi, rfl⟩ := rl_at hd
      have b1 := ka_bd h hS hi
      have b2 := kT_bd h hS
      unfold kd at hF
      generalize ka ks ss i = A1 at *
      generalize kT ks ss = T1 at *
      simp only [dR]
      simp only [iRan3, pInD, List.any_cons, List.any_nil, sRaise, eTold, sSeq, sSeqN, sRetO, sTupA, tupGo, sSet, sOwn, sAsg, sPar, sPar3, slOf, sRet, sExpr, sIf, sApp, sPut, sFrz, sAugI, eVar, eVarB, eC, eOp, tOpD, eNeg, eNot, eChain, eAnd, eOr, tV, tN, tA, tO, eIf, aNil, aCons, aStar, eTup, eLst, eLen, eTuple, eList, eAbs, eInt, eGcd, eIsI, eIsI2, eCall, eCallR, gVa, gNil', gCons', gTup', eSlT, eSlL, eRevL, oNone, oSome, e2I, eSum, eMaxL, eMaxT, eAllI, eAnyI, eAllG, eAnyG, eAnyT, eSumG, eTupG, tT, List.isEmpty_cons, List.isEmpty_nil, pI, pI0, pAdd, pCat, pMul, pMulB, pEq, pNe, pIs, pIsNot, pIx, pRepL, List.getElem?_cons_zero, List.getElem?_cons_succ, List.set_cons_zero, List.set_cons_succ, startR, List.map_cons, List.map_nil, List.cons_append, List.nil_append, List.length_cons, List.length_nil, List.replicate_succ, List.replicate_zero, Nat.add_sub_cancel, Nat.reduceAdd, Nat.reduceSub, Nat.reduceLeDiff, if_true, if_false, ite_true, ite_false, reduceIte, true_and, and_true, is_non_int, is_non_bool, is_non_tuple, is_non_list, is_non_str, is_bl_int, is_bl_bool, is_bl_tuple, is_bl_list, is_bl_str, is_int_int, is_int_bool, is_int_tuple, is_int_list, is_int_str, is_str_int, is_str_bool, is_str_tuple, is_str_list, is_str_str, is_tup_int, is_tup_bool, is_tup_tuple, is_tup_list, is_tup_str, is_lst_int, is_lst_bool, is_lst_tuple, is_lst_list, is_lst_str, spIsIntD_eq, isInt_int, spBetD_eq, bet_int, Nat.sub_self, Bool.false_eq_true, if_pos trivial, atI_0, atI_1, atI_2, atI_3, atI_4, atI_5, atI_6, ex_some, cap0, cap1, cap2, cap3, cap4, cap5, cap6, cap7, cap8, cap10, deq_int, iAny, iRan1, iRan2, iRev', iRevR1, iEnuA, iZip', sFor, eLc, wipeR, tTrue, pInG, eSum2, forall_eq, ne_eq, Bool.not_true, Bool.not_false, decide_true, decide_false]
      refine ⟨cmul (a := 71) (b := 217) b1.1 (by exact b2.2) (by decide), cmul (a := 71) (b := 217) (by exact b1.2) b2.1 (by decide), _, _, 71 + 217, rfl, Int.mul_ne_zero (den_ne A1) (num_ne c), (div_parts b1 b2).2, by decide, ?_⟩
      rw [div_eq_divInt]
      exact hF
    rw [rl_len]
    have e1 : (List.range ks.length).map (fun i => dR (kd ks ss i)) = rl (kd ks ss) ks.length := rfl
    rw [e1]
    dsimp only
    refine ⟨ks, ss, rfl, h, hS, fun n => absurd n c, fun _ => ?_⟩
    refine ⟨.tup (rl (kd ks ss) ks.length), rfl, by rw [rl_eq]; exact okD_Rs (by simp; omega), ?_⟩
    try simp only [iRan3, pInD, List.any_cons, List.any_nil, sRaise, eTold, sSeq, sSeqN, sRetO, sTupA, tupGo, sSet, sOwn, sAsg, sPar, sPar3, slOf, sRet, sExpr, sIf, sApp, sPut, sFrz, sAugI, eVar, eVarB, eC, eOp, tOpD, eNeg, eNot, eChain, eAnd, eOr, tV, tN, tA, tO, aNil, aCons, aStar, eTup, eLst, eLen, eTuple, eList, eAbs, eInt, eGcd, eIsI, eIsI2, eCall, eCallR, gVa, gNil', gCons', gTup', eSlT, eSlL, eRevL, oNone, oSome, e2I, eSum, eMaxL, eMaxT, eAllI, eAnyI, eAllG, eAnyG, eAnyT, eSumG, eTupG, tT, List.isEmpty_cons, List.isEmpty_nil, pI, pI0, pAdd, pCat, pMul, pMulB, pEq, pNe, pIs, pIsNot, pIx, pRepL, List.getElem?_cons_zero, List.getElem?_cons_succ, List.set_cons_zero, List.set_cons_succ, startR, List.map_cons, List.map_nil, List.cons_append, List.nil_append, List.length_cons, List.length_nil, List.replicate_succ, List.replicate_zero, Nat.add_sub_cancel, Nat.reduceAdd, Nat.reduceSub, Nat.reduceLeDiff, if_true, if_false, ite_true, ite_false, reduceIte, true_and, and_true, is_non_int, is_non_bool, is_non_tuple, is_non_list, is_non_str, is_bl_int, is_bl_bool, is_bl_tuple, is_bl_list, is_bl_str, is_int_int, is_int_bool, is_int_tuple, is_int_list, is_int_str, is_str_int, is_str_bool, is_str_tuple, is_str_list, is_str_str, is_tup_int, is_tup_bool, is_tup_tuple, is_tup_list, is_tup_str, is_lst_int, is_lst_bool, is_lst_tuple, is_lst_list, is_lst_str, spIsIntD_eq, isInt_int, spBetD_eq, bet_int, Nat.sub_self, Bool.false_eq_true, if_pos trivial, atI_0, atI_1, atI_2, atI_3, atI_4, atI_5, atI_6, ex_some, cap0, cap1, cap2, cap3, cap4, cap5, cap6, cap7, cap8, cap10, deq_int, iAny, iRan1, iRan2, iRev', iRevR1, iEnuA, iZip', sFor, eLc, wipeR, tTrue, pInG, eSum2, forall_eq, ne_eq, Bool.not_true, Bool.not_false, decide_true, decide_false]
    rw [List.length_map]
    refine ⟨by omega, ?_⟩
    rw [Int.toNat_natCast]
    refine lc_map (fun i => dR (kd ks ss i * km ks i)) (by rw [rangeD_len]; show _ ≤ 1000000; omega) ?_ ?_
    · intro i d F hd hF
      obtain ⟨hi, rfl⟩ := range_at hd
      rw [Int.zero_add]
      simp only [iRan3, pInD, List.any_cons, List.any_nil, sRaise, eTold, sSeq, sSeqN, sRetO, sTupA, tupGo, sSet, sOwn, sAsg, sPar, sPar3, slOf, sRet, sExpr, sIf, sApp, sPut, sFrz, sAugI, eVar, eVarB, eC, eOp, tOpD, eNeg, eNot, eChain, eAnd, eOr, tV, tN, tA, tO, eIf, aNil, aCons, aStar, eTup, eLst, eLen, eTuple, eList, eAbs, eInt, eGcd, eIsI, eIsI2, eCall, eCallR, gVa, gNil', gCons', gTup', eSlT, eSlL, eRevL, oNone, oSome, e2I, eSum, eMaxL, eMaxT, eAllI, eAnyI, eAllG, eAnyG, eAnyT, eSumG, eTupG, tT, List.isEmpty_cons, List.isEmpty_nil, pI, pI0, pAdd, pCat, pMul, pMulB, pEq, pNe, pIs, pIsNot, pIx, pRepL, List.getElem?_cons_zero, List.getElem?_cons_succ, List.set_cons_zero, List.set_cons_succ, startR, List.map_cons, List.map_nil, List.cons_append, List.nil_append, List.length_cons, List.length_nil, List.replicate_succ, List.replicate_zero, Nat.add_sub_cancel, Nat.reduceAdd, Nat.reduceSub, Nat.reduceLeDiff, if_true, if_false, ite_true, ite_false, reduceIte, true_and, and_true, is_non_int, is_non_bool, is_non_tuple, is_non_list, is_non_str, is_bl_int, is_bl_bool, is_bl_tuple, is_bl_list, is_bl_str, is_int_int, is_int_bool, is_int_tuple, is_int_list, is_int_str, is_str_int, is_str_bool, is_str_tuple, is_str_list, is_str_str, is_tup_int, is_tup_bool, is_tup_tuple, is_tup_list, is_tup_str, is_lst_int, is_lst_bool, is_lst_tuple, is_lst_list, is_lst_str, spIsIntD_eq, isInt_int, spBetD_eq, bet_int, Nat.sub_self, Bool.false_eq_true, if_pos trivial, atI_0, atI_1, atI_2, atI_3, atI_4, atI_5, atI_6, ex_some, cap0, cap1, cap2, cap3, cap4, cap5, cap6, cap7, cap8, cap10, deq_int, iAny, iRan1, iRan2, iRev', iRevR1, iEnuA, iZip', sFor, eLc, wipeR, tTrue, pInG, eSum2, forall_eq, ne_eq, Bool.not_true, Bool.not_false, decide_true, decide_false]
      refine ⟨_, atI_nat (rl_get hi), _, atI_nat (kds_get hi), ?_⟩
      simp only [kD]
      simp only [iRan3, pInD, List.any_cons, List.any_nil, sRaise, eTold, sSeq, sSeqN, sRetO, sTupA, tupGo, sSet, sOwn, sAsg, sPar, sPar3, slOf, sRet, sExpr, sIf, sApp, sPut, sFrz, sAugI, eVar, eVarB, eC, eOp, tOpD, eNeg, eNot, eChain, eAnd, eOr, tV, tN, tA, tO, eIf, aNil, aCons, aStar, eTup, eLst, eLen, eTuple, eList, eAbs, eInt, eGcd, eIsI, eIsI2, eCall, eCallR, gVa, gNil', gCons', gTup', eSlT, eSlL, eRevL, oNone, oSome, e2I, eSum, eMaxL, eMaxT, eAllI, eAnyI, eAllG, eAnyG, eAnyT, eSumG, eTupG, tT, List.isEmpty_cons, List.isEmpty_nil, pI, pI0, pAdd, pCat, pMul, pMulB, pEq, pNe, pIs, pIsNot, pIx, pRepL, List.getElem?_cons_zero, List.getElem?_cons_succ, List.set_cons_zero, List.set_cons_succ, startR, List.map_cons, List.map_nil, List.cons_append, List.nil_append, List.length_cons, List.length_nil, List.replicate_succ, List.replicate_zero, Nat.add_sub_cancel, Nat.reduceAdd, Nat.reduceSub, Nat.reduceLeDiff, if_true, if_false, ite_true, ite_false, reduceIte, true_and, and_true, is_non_int, is_non_bool, is_non_tuple, is_non_list, is_non_str, is_bl_int, is_bl_bool, is_bl_tuple, is_bl_list, is_bl_str, is_int_int, is_int_bool, is_int_tuple, is_int_list, is_int_str, is_str_int, is_str_bool, is_str_tuple, is_str_list, is_str_str, is_tup_int, is_tup_bool, is_tup_tuple, is_tup_list, is_tup_str, is_lst_int, is_lst_bool, is_lst_tuple, is_lst_list, is_lst_str, spIsIntD_eq, isInt_int, spBetD_eq, bet_int, Nat.sub_self, Bool.false_eq_true, if_pos trivial, atI_0, atI_1, atI_2, atI_3, atI_4, atI_5, atI_6, ex_some, cap0, cap1, cap2, cap3, cap4, cap5, cap6, cap7, cap8, cap10, deq_int, iAny, iRan1, iRan2, iRev', iRevR1, iEnuA, iZip', sFor, eLc, wipeR, tTrue, pInG, eSum2, forall_eq, ne_eq, Bool.not_true, Bool.not_false, decide_true, decide_false]
      refine ⟨(kat ks i).2, rfl, h.ok _ (kat_mem hi), h.len _ (kat_mem hi), ?_⟩
      exact ⟨_, _, 288, 15, rfl, kd_bd h hS c hi, km_bd h hi, by decide, trivial, hF⟩
    rw [rangeD_len]
    have e2 : (List.range ks.length).map (fun i => dR (kd ks ss i * km ks i)) = dRs ((List.range ks.length).map fun i => kd ks ss i * km ks i) := rl_eq (fun i => kd ks ss i * km ks i) ks.length
    rw [e2]
    try simp only [iRan3, pInD, List.any_cons, List.any_nil, sRaise, eTold, sSeq, sSeqN, sRetO, sTupA, tupGo, sSet, sOwn, sAsg, sPar, sPar3, slOf, sRet, sExpr, sIf, sApp, sPut, sFrz, sAugI, eVar, eVarB, eC, eOp, tOpD, eNeg, eNot, eChain, eAnd, eOr, tV, tN, tA, tO, aNil, aCons, aStar, eTup, eLst, eLen, eTuple, eList, eAbs, eInt, eGcd, eIsI, eIsI2, eCall, eCallR, gVa, gNil', gCons', gTup', eSlT, eSlL, eRevL, oNone, oSome, e2I, eSum, eMaxL, eMaxT, eAllI, eAnyI, eAllG, eAnyG, eAnyT, eSumG, eTupG, tT, List.isEmpty_cons, List.isEmpty_nil, pI, pI0, pAdd, pCat, pMul, pMulB, pEq, pNe, pIs, pIsNot, pIx, pRepL, List.getElem?_cons_zero, List.getElem?_cons_succ, List.set_cons_zero, List.set_cons_succ, startR, List.map_cons, List.map_nil, List.cons_append, List.nil_append, List.length_cons, List.length_nil, List.replicate_succ, List.replicate_zero, Nat.add_sub_cancel, Nat.reduceAdd, Nat.reduceSub, Nat.reduceLeDiff, if_true, if_false, ite_true, ite_false, reduceIte, true_and, and_true, is_non_int, is_non_bool, is_non_tuple, is_non_list, is_non_str, is_bl_int, is_bl_bool, is_bl_tuple, is_bl_list, is_bl_str, is_int_int, is_int_bool, is_int_tuple, is_int_list, is_int_str, is_str_int, is_str_bool, is_str_tuple, is_str_list, is_str_str, is_tup_int, is_tup_bool, is_tup_tuple, is_tup_list, is_tup_str, is_lst_int, is_lst_bool, is_lst_tuple, is_lst_list, is_lst_str, spIsIntD_eq, isInt_int, spBetD_eq, bet_int, Nat.sub_self, Bool.false_eq_true, if_pos trivial, atI_0, atI_1, atI_2, atI_3, atI_4, atI_5, atI_6, ex_some, cap0, cap1, cap2, cap3, cap4, cap5, cap6, cap7, cap8, cap10, deq_int, iAny, iRan1, iRan2, iRev', iRevR1, iEnuA, iZip', sFor, eLc, wipeR, tTrue, pInG, eSum2, forall_eq, ne_eq, Bool.not_true, Bool.not_false, decide_true, decide_false]
    refine ⟨_, _, _, rfl, .inl rfl, sumBd_of (b := 303) (m := 3) (fun r hr => ?_) (by rw [List.length_map, List.length_range]; exact h2), by decide, ?_⟩
    · obtain ⟨i, hi, rfl⟩ := List.mem_map.mp hr
      exact (kd_bd h hS c (List.mem_range.mp hi)).mul (km_bd h (List.mem_range.mp hi))
    rw [rs_sum]
    have eE : rs (fun i => kd ks ss i * km ks i) ks.length = kE ks ss := rfl
    rw [eE]
    refine ⟨ks, ss, rfl, h, hS, fun n => absurd n c, fun _ => ?_⟩
    exact ⟨dR (kE ks ss), rfl, rfl, rfl⟩
end
def loose0 : List Str := ["LifeError", "BadClaims", "BadPrior", "BadSeen", "NeverSeen", "ZERO", "ONE", "is_integer", "is_between", "is_filled", "make_ratio", "plus", "multiplied", "divided", "total", "mixed", "all_multiplied", "sum_above", "MOST_ENTRIES", "MOST_WEIGHT_claims", "are_weights", "check_claims", "chances_of", "mean_claim", "MOST_KINDS", "MOST_WEIGHT_learning", "MOST_SEEN", "is_kind", "check_prior", "check_seen"]
def loose1 : List Str := ["means_of", "chance_of_row", "learnt", "kinds_after", "expected_after", "_law_taken", "_law_pick", "_law_alike", "_law_ratio", "_law_plus", "_law_by", "_law_sum", "_law_claims", "_law_chances", "_law_fold", "_law_prior", "_law_kinds", "_law_mean", "_law_rows", "_law_told"]
def loose : List Str := loose0 ++ loose1
def fa0 : List He.Fa := [.glo "_law_told", .glo "_law_taken", .glo "_law_pick", .glo "_law_claims", .glo "_law_prior", .glo "_law_ratio", .glo "_law_by", .glo "_law_chances", .glo "_law_kinds", .glo "_law_plus", .glo "_law_sum", .glo "_law_mean", .glo "_law_alike", .glo "is_filled", .glo "is_integer", .glo "is_between", .glo "are_weights", .glo "is_kind", .glo "check_prior", .glo "check_seen", .glo "make_ratio", .glo "chances_of", .glo "multiplied", .glo "all_multiplied", .glo "chance_of_row", .glo "plus", .glo "total", .glo "divided", .glo "learnt", .glo "kinds_after"]
def fa1 : List He.Fa := [.glo "check_claims", .glo "sum_above", .glo "mean_claim", .glo "means_of", .glo "mixed", .glo "expected_after", .glo "law", .free "abs", .free "all", .free "bool", .free "enumerate", .free "int", .free "isinstance", .free "len", .free "list", .free "range", .free "str", .free "sum", .free "tuple", .free "zip", .int "MOST_ENTRIES" 13, .int "MOST_KINDS" 5, .int "MOST_SEEN" 8, .int "MOST_WEIGHT_claims" 1000, .int "MOST_WEIGHT_learning" 1000]
def fal : List He.Fa := fa0 ++ fa1
def fn0 : List He.DefD := [DD "_law_told" s_law_told, DD "_law_taken" s_law_taken, DD "_law_pick" s_law_pick, DD "_law_claims" s_law_claims, DD "_law_prior" s_law_prior, DD "_law_ratio" s_law_ratio, DD "_law_by" s_law_by, DD "_law_chances" s_law_chances, DD "_law_kinds" s_law_kinds, DD "_law_plus" s_law_plus, DD "_law_sum" s_law_sum, DD "_law_mean" s_law_mean, DD "_law_alike" s_law_alike, DD "is_filled" s_is_filled, DD "is_integer" s_is_integer, DD "is_between" s_is_between, DD "are_weights" s_are_weights, DD "is_kind" s_is_kind, DD "check_prior" s_check_prior, DD "check_seen" s_check_seen]
def fn1 : List He.DefD := [DD "make_ratio" s_make_ratio, DD "chances_of" s_chances_of, DD "multiplied" s_multiplied, DD "all_multiplied" s_all_multiplied, DD "chance_of_row" s_chance_of_row, DD "plus" s_plus, DD "total" s_total, DD "divided" s_divided, DD "learnt" s_learnt, DD "kinds_after" s_kinds_after, DD "check_claims" s_check_claims, DD "sum_above" s_sum_above, DD "mean_claim" s_mean_claim, DD "means_of" s_means_of, DD "mixed" s_mixed, DD "expected_after" s_expected_after, DD "law" s_law]
def fnl : List He.DefD := fn0 ++ fn1
def tfl : List He.Defn := [("are_weights", none), ("check_seen", none), ("law", none)]
def bll : List (Str × String) := [("gcd", "math.gcd")]
def tpl : List (Str × List Int) := [("ONE", [1, 1]), ("ZERO", [0, 1])]
def erl : List Str := ["NeverSeen"]
def etl : List (Str × Str × Str × Bool) := [("NeverSeen", "LifeError", "NeverSeen", true)]
def gll : List Str := ["are_weights", "check_seen"]
abbrev Rw : PySem.W.OpenRow := PySem.W.OpenLaw.row PySem.Challenge.rw_actuarium_k63_whole_kinds_learned
abbrev hkk : PySem.W.Hook := He.hookX 4 fal fnl [] tfl (exB2 bll tpl erl etl gll)
def ob (s : PySem.W.SharedT) : He.AlX := He.obsX 4 fal fnl [] tfl (exB2 bll tpl erl etl gll) (HandSHeadRun.getT s)
theorem ob_eq (s : PySem.W.SharedT) : ob s = hkk.obs s.abs := He.obsX_eq (HandSHeadRun.getT_eq s)
theorem run (w : World) : HandSHeadRun.RunEqI Rw (PySem.W.view Rw.prog [0, 56]) hkk ob 4000 loose w := by
  unfold HandSHeadRun.RunEqI
  kernel_rfl
theorem all_mk {w : World} {K : PySem.W.Frag} {h : Heap} {mg : Str → Option Value} {fa : Addr} (X : K.In h) (G : h.Ns mainGlobals mg) (hfa : mg "law" = some (.ref fa)) (c : He.SaysX fal fnl [] tfl (exB2 bll tpl erl etl gll) w h K) : LamX.LawAtS PySem.Challenge.rw_actuarium_k63_whole_kinds_learned w K CX0 11 63 "script" mg fa h := by
  letI : GT := gtLaw K
  obtain ⟨cm, ce, cu, cg⟩ := exB2_ok c.more
  have c1 := c.t.d
  have bm : (∀ (doc : Unit), True) := fun _ => trivial
  have D_law_told : Df K mg "_law_told" s_law_told ["work"] := df_of X G c1 0 0 rfl rfl (fun _ _ _ _ _ _ us hl => match us, hl with | [_], _ => rfl)
  have D_law_taken : Df K mg "_law_taken" s_law_taken ["row", "many"] := df_of X G c1 1 1 rfl rfl (fun _ _ _ _ _ _ us hl => match us, hl with | [_, _], _ => rfl)
  have D_law_pick : Df K mg "_law_pick" s_law_pick ["row", "things"] := df_of X G c1 2 2 rfl rfl (fun _ _ _ _ _ _ us hl => match us, hl with | [_, _], _ => rfl)
  have D_law_claims : Df K mg "_law_claims" s_law_claims ["row", "most"] := df_of X G c1 3 3 rfl rfl (fun _ _ _ _ _ _ us hl => match us, hl with | [_, _], _ => rfl)
  have D_law_prior : Df K mg "_law_prior" s_law_prior ["row"] := df_of X G c1 4 4 rfl rfl (fun _ _ _ _ _ _ us hl => match us, hl with | [_], _ => rfl)
  have D_law_ratio : Df K mg "_law_ratio" s_law_ratio ["top", "bottom"] := df_of X G c1 5 5 rfl rfl (fun _ _ _ _ _ _ us hl => match us, hl with | [_, _], _ => rfl)
  have D_law_by : Df K mg "_law_by" s_law_by ["one", "other"] := df_of X G c1 6 6 rfl rfl (fun _ _ _ _ _ _ us hl => match us, hl with | [_, _], _ => rfl)
  have D_law_chances : Df K mg "_law_chances" s_law_chances ["claims"] := df_of X G c1 7 7 rfl rfl (fun _ _ _ _ _ _ us hl => match us, hl with | [_], _ => rfl)
  have D_law_kinds : Df K mg "_law_kinds" s_law_kinds ["prior", "seen"] := df_of X G c1 8 8 rfl rfl (fun _ _ _ _ _ _ us hl => match us, hl with | [_, _], _ => rfl)
  have D_law_plus : Df K mg "_law_plus" s_law_plus ["one", "other"] := df_of X G c1 9 9 rfl rfl (fun _ _ _ _ _ _ us hl => match us, hl with | [_, _], _ => rfl)
  have D_law_sum : Df K mg "_law_sum" s_law_sum ["some"] := df_of X G c1 10 10 rfl rfl (fun _ _ _ _ _ _ us hl => match us, hl with | [_], _ => rfl)
  have D_law_mean : Df K mg "_law_mean" s_law_mean ["claims"] := df_of X G c1 11 11 rfl rfl (fun _ _ _ _ _ _ us hl => match us, hl with | [_], _ => rfl)
  have D_law_alike : Df K mg "_law_alike" s_law_alike ["found", "due"] := df_of X G c1 12 12 rfl rfl (fun _ _ _ _ _ _ us hl => match us, hl with | [_, _], _ => rfl)
  have D_is_filled : Df K mg "is_filled" s_is_filled ["value", "low", "high"] := df_of X G c1 13 13 rfl rfl (fun _ _ _ _ _ _ us hl => match us, hl with | [_, _, _], _ => rfl)
  have D_is_integer : Df K mg "is_integer" s_is_integer ["value"] := df_of X G c1 14 14 rfl rfl (fun _ _ _ _ _ _ us hl => match us, hl with | [_], _ => rfl)
  have D_is_between : Df K mg "is_between" s_is_between ["value", "low", "high"] := df_of X G c1 15 15 rfl rfl (fun _ _ _ _ _ _ us hl => match us, hl with | [_, _, _], _ => rfl)
  have D_are_weights : DfG K mg "are_weights" s_are_weights ["value", "most"] (He.cT K ("are_weights", none)).1 := dfG_of X G c1 16 16 rfl rfl (fun _ _ _ _ _ _ us hl => match us, hl with | [_, _], _ => rfl)
  have D_is_kind : Df K mg "is_kind" s_is_kind ["value"] := df_of X G c1 17 17 rfl rfl (fun _ _ _ _ _ _ us hl => match us, hl with | [_], _ => rfl)
  have D_check_prior : Df K mg "check_prior" s_check_prior ["prior"] := df_of X G c1 18 18 rfl rfl (fun _ _ _ _ _ _ us hl => match us, hl with | [_], _ => rfl)
  have D_check_seen : DfG K mg "check_seen" s_check_seen ["seen"] (He.cT K ("check_seen", none)).1 := dfG_of X G c1 19 19 rfl rfl (fun _ _ _ _ _ _ us hl => match us, hl with | [_], _ => rfl)
  have D_make_ratio : Df K mg "make_ratio" s_make_ratio ["top", "bottom"] := df_of X G c1 20 20 rfl rfl (fun _ _ _ _ _ _ us hl => match us, hl with | [_, _], _ => rfl)
  have D_chances_of : Df K mg "chances_of" s_chances_of ["claims"] := df_of X G c1 21 21 rfl rfl (fun _ _ _ _ _ _ us hl => match us, hl with | [_], _ => rfl)
  have D_multiplied : Df K mg "multiplied" s_multiplied ["one", "other"] := df_of X G c1 22 22 rfl rfl (fun _ _ _ _ _ _ us hl => match us, hl with | [_, _], _ => rfl)
  have D_all_multiplied : Df K mg "all_multiplied" s_all_multiplied ["ratios"] := df_of X G c1 23 23 rfl rfl (fun _ _ _ _ _ _ us hl => match us, hl with | [_], _ => rfl)
  have D_chance_of_row : Df K mg "chance_of_row" s_chance_of_row ["claims", "seen"] := df_of X G c1 24 24 rfl rfl (fun _ _ _ _ _ _ us hl => match us, hl with | [_, _], _ => rfl)
  have D_plus : Df K mg "plus" s_plus ["one", "other"] := df_of X G c1 25 25 rfl rfl (fun _ _ _ _ _ _ us hl => match us, hl with | [_, _], _ => rfl)
  have D_total : Df K mg "total" s_total ["ratios"] := df_of X G c1 26 26 rfl rfl (fun _ _ _ _ _ _ us hl => match us, hl with | [_], _ => rfl)
  have D_divided : Df K mg "divided" s_divided ["one", "other"] := df_of X G c1 27 27 rfl rfl (fun _ _ _ _ _ _ us hl => match us, hl with | [_, _], _ => rfl)
  have D_learnt : Df K mg "learnt" s_learnt ["prior", "seen"] := df_of X G c1 28 28 rfl rfl (fun _ _ _ _ _ _ us hl => match us, hl with | [_, _], _ => rfl)
  have D_kinds_after : Df K mg "kinds_after" s_kinds_after ["prior", "seen"] := df_of X G c1 29 29 rfl rfl (fun _ _ _ _ _ _ us hl => match us, hl with | [_, _], _ => rfl)
  have D_check_claims : Df K mg "check_claims" s_check_claims ["claims"] := df_of X G c1 30 30 rfl rfl (fun _ _ _ _ _ _ us hl => match us, hl with | [_], _ => rfl)
  have D_sum_above : Df K mg "sum_above" s_sum_above ["values", "edge"] := df_of X G c1 31 31 rfl rfl (fun _ _ _ _ _ _ us hl => match us, hl with | [_, _], _ => rfl)
  have D_mean_claim : Df K mg "mean_claim" s_mean_claim ["claims"] := df_of X G c1 32 32 rfl rfl (fun _ _ _ _ _ _ us hl => match us, hl with | [_], _ => rfl)
  have D_means_of : Df K mg "means_of" s_means_of ["prior"] := df_of X G c1 33 33 rfl rfl (fun _ _ _ _ _ _ us hl => match us, hl with | [_], _ => rfl)
  have D_mixed : Df K mg "mixed" s_mixed ["parts", "values"] := df_of X G c1 34 34 rfl rfl (fun _ _ _ _ _ _ us hl => match us, hl with | [_, _], _ => rfl)
  have D_expected_after : Df K mg "expected_after" s_expected_after ["prior", "seen"] := df_of X G c1 35 35 rfl rfl (fun _ _ _ _ _ _ us hl => match us, hl with | [_, _], _ => rfl)
  have z_abs : mg "abs" = none := He.free_ok X G (c1.fact 37 (f := .free "abs") rfl)
  have z_all : mg "all" = none := He.free_ok X G (c1.fact 38 (f := .free "all") rfl)
  have z_bool : mg "bool" = none := He.free_ok X G (c1.fact 39 (f := .free "bool") rfl)
  have z_enumerate : mg "enumerate" = none := He.free_ok X G (c1.fact 40 (f := .free "enumerate") rfl)
  have z_int : mg "int" = none := He.free_ok X G (c1.fact 41 (f := .free "int") rfl)
  have z_isinstance : mg "isinstance" = none := He.free_ok X G (c1.fact 42 (f := .free "isinstance") rfl)
  have z_len : mg "len" = none := He.free_ok X G (c1.fact 43 (f := .free "len") rfl)
  have z_list : mg "list" = none := He.free_ok X G (c1.fact 44 (f := .free "list") rfl)
  have z_range : mg "range" = none := He.free_ok X G (c1.fact 45 (f := .free "range") rfl)
  have z_str : mg "str" = none := He.free_ok X G (c1.fact 46 (f := .free "str") rfl)
  have z_sum : mg "sum" = none := He.free_ok X G (c1.fact 47 (f := .free "sum") rfl)
  have z_tuple : mg "tuple" = none := He.free_ok X G (c1.fact 48 (f := .free "tuple") rfl)
  have z_zip : mg "zip" = none := He.free_ok X G (c1.fact 49 (f := .free "zip") rfl)
  obtain ⟨tk_MOST_ENTRIES, m_MOST_ENTRIES⟩ := He.int_ok X G (c1.fact 50 (f := .int "MOST_ENTRIES" 13) rfl)
  obtain ⟨tk_MOST_KINDS, m_MOST_KINDS⟩ := He.int_ok X G (c1.fact 51 (f := .int "MOST_KINDS" 5) rfl)
  obtain ⟨tk_MOST_SEEN, m_MOST_SEEN⟩ := He.int_ok X G (c1.fact 52 (f := .int "MOST_SEEN" 8) rfl)
  obtain ⟨tk_MOST_WEIGHT_claims, m_MOST_WEIGHT_claims⟩ := He.int_ok X G (c1.fact 53 (f := .int "MOST_WEIGHT_claims" 1000) rfl)
  obtain ⟨tk_MOST_WEIGHT_learning, m_MOST_WEIGHT_learning⟩ := He.int_ok X G (c1.fact 54 (f := .int "MOST_WEIGHT_learning" 1000) rfl)
  obtain ⟨a_ONE, m_ONE, t_ONE⟩ := tup_of X G cm (x := "ONE") (js := [1, 1]) (by simp [tpl])
  obtain ⟨a_ZERO, m_ZERO, t_ZERO⟩ := tup_of X G cm (x := "ZERO") (js := [0, 1]) (by simp [tpl])
  have m_gcd : mg "gcd" = some (.builtin "math.gcd") := blt_of X G cm (x := "gcd") (id := "math.gcd") (by simp [bll])
  have e_NeverSeen : ErrC K mg "NeverSeen" := errB_ok X G (ce _ (by simp [erl]))
  have u_NeverSeen : ErrT K mg "NeverSeen" "LifeError" "NeverSeen" true := errtB_ok X G (cu ("NeverSeen", "LifeError", "NeverSeen", true) (by simp [etl]))
  obtain ⟨fd, F⟩ := c1.def_ 36 (d := DD "law" s_law) rfl
  have e := hfa.symm.trans (He.glo_ok X G (c1.fact 36 (f := .glo "law") rfl))
  have e2 : fa = He.ga K "law" := by
    have := Option.some.inj e
    injection this
  subst e2
  have hb := FunD.bindsA (ps := ["script"]) F fun _ _ _ _ _ _ us hl => match us, hl with | [_], _ => rfl
  refine ⟨fd, tfl.map (He.cT K), spLawT K (tfl.map fun p => (He.cT K p).2), ?_, ?_, ?_, fun s u => hb s [u] rfl, ?_, ?_⟩
  · intro p hp
    obtain ⟨x, hx, rfl⟩ := List.mem_map.mp hp
    exact c.empty x hx
  · intro p hp
    obtain ⟨x, hx, rfl⟩ := List.mem_map.mp hp
    exact c.out x hx
  · intro p hp
    obtain ⟨x, hx, rfl⟩ := List.mem_map.mp hp
    exact PySem.W.codeHd_of_K X (c.hd x hx)
  · intro H a ns hl hbit hT hS
    refine ⟨a, ns, rfl, hS, hl, fun p hp => ?_, fun _ => rfl⟩
    obtain ⟨x, hx, rfl⟩ := List.mem_map.mp hp
    exact TabOk.mk (fun _ => ⟨#[], hT _ (List.mem_map.mpr ⟨x, hx, rfl⟩), trivial⟩) fun q e => LamX.TabS.nil (hT _ (List.mem_map.mpr ⟨x, hx, rfl⟩))
  intro base KB GB TB
  have TB_are_weights : GxR.TabB base mg (He.cT K ("are_weights", none)).1 (He.cT K ("are_weights", none)).2 := let z := TB _ (List.mem_map.mpr ⟨("are_weights", none), by simp [tfl], rfl⟩)
    ⟨z.code, z.bm, z.gP⟩
  have TB_check_seen : GxR.TabB base mg (He.cT K ("check_seen", none)).1 (He.cT K ("check_seen", none)).2 := let z := TB _ (List.mem_map.mpr ⟨("check_seen", none), by simp [tfl], rfl⟩)
    ⟨z.code, z.bm, z.gP⟩
  have TB_law : GxR.TabB base mg (He.cT K ("law", none)).1 (He.cT K ("law", none)).2 := let z := TB _ (List.mem_map.mpr ⟨("law", none), by simp [tfl], rfl⟩)
    ⟨z.code, z.bm, z.gP⟩
  have h_law_told := has_law_told (P := PySem.Challenge.rw_actuarium_k63_whole_kinds_learned.prog) (w := w) (base := base) (k := 0) (d := D_law_told) (T := tfl.map fun p => (He.cT K p).2) 
  have h_law_taken := has_law_taken (P := PySem.Challenge.rw_actuarium_k63_whole_kinds_learned.prog) (w := w) (base := base) (k := 0) (d := D_law_taken) (T := tfl.map fun p => (He.cT K p).2) (z_int := z_int) (z_len := z_len)
  have h_law_pick := has_law_pick (P := PySem.Challenge.rw_actuarium_k63_whole_kinds_learned.prog) (w := w) (base := base) (k := 1) (d := D_law_pick) (T := tfl.map fun p => (He.cT K p).2) (h_law_taken := h_law_taken.mono (by decide)) (z_len := z_len)
  have h_law_claims := has_law_claims (P := PySem.Challenge.rw_actuarium_k63_whole_kinds_learned.prog) (w := w) (base := base) (k := 2) (d := D_law_claims) (T := tfl.map fun p => (He.cT K p).2) (h_law_pick := h_law_pick.mono (by decide)) (h_law_taken := h_law_taken.mono (by decide)) (z_range := z_range) (z_tuple := z_tuple)
  have h_law_prior := has_law_prior (P := PySem.Challenge.rw_actuarium_k63_whole_kinds_learned.prog) (w := w) (base := base) (k := 3) (d := D_law_prior) (T := tfl.map fun p => (He.cT K p).2) (h_law_taken := h_law_taken.mono (by decide)) (h_law_pick := h_law_pick.mono (by decide)) (h_law_claims := h_law_claims.mono (by decide)) (z_range := z_range) (z_tuple := z_tuple)
  have h_law_ratio := has_law_ratio (P := PySem.Challenge.rw_actuarium_k63_whole_kinds_learned.prog) (w := w) (base := base) (k := 0) (d := D_law_ratio) (T := tfl.map fun p => (He.cT K p).2) (z_abs := z_abs) (z_int := z_int)
  have h_law_by := has_law_by (P := PySem.Challenge.rw_actuarium_k63_whole_kinds_learned.prog) (w := w) (base := base) (k := 1) (d := D_law_by) (T := tfl.map fun p => (He.cT K p).2) (h_law_ratio := h_law_ratio.mono (by decide))
  have h_law_chances := has_law_chances (P := PySem.Challenge.rw_actuarium_k63_whole_kinds_learned.prog) (w := w) (base := base) (k := 1) (d := D_law_chances) (T := tfl.map fun p => (He.cT K p).2) (h_law_ratio := h_law_ratio.mono (by decide)) (z_sum := z_sum)
  have h_law_kinds := has_law_kinds (P := PySem.Challenge.rw_actuarium_k63_whole_kinds_learned.prog) (w := w) (base := base) (k := 2) (d := D_law_kinds) (T := tfl.map fun p => (He.cT K p).2) (h_law_ratio := h_law_ratio.mono (by decide)) (h_law_by := h_law_by.mono (by decide)) (h_law_chances := h_law_chances.mono (by decide)) (z_sum := z_sum) (z_len := z_len)
  have h_law_plus := has_law_plus (P := PySem.Challenge.rw_actuarium_k63_whole_kinds_learned.prog) (w := w) (base := base) (k := 1) (d := D_law_plus) (T := tfl.map fun p => (He.cT K p).2) (h_law_ratio := h_law_ratio.mono (by decide))
  have h_law_sum := has_law_sum (P := PySem.Challenge.rw_actuarium_k63_whole_kinds_learned.prog) (w := w) (base := base) (k := 2) (d := D_law_sum) (T := tfl.map fun p => (He.cT K p).2) (h_law_plus := h_law_plus.mono (by decide))
  have h_law_mean := has_law_mean (P := PySem.Challenge.rw_actuarium_k63_whole_kinds_learned.prog) (w := w) (base := base) (k := 3) (d := D_law_mean) (T := tfl.map fun p => (He.cT K p).2) (h_law_by := h_law_by.mono (by decide)) (h_law_chances := h_law_chances.mono (by decide)) (h_law_sum := h_law_sum.mono (by decide)) (z_range := z_range) (z_len := z_len)
  have h_law_alike := has_law_alike (P := PySem.Challenge.rw_actuarium_k63_whole_kinds_learned.prog) (w := w) (base := base) (T := tfl.map fun p => (He.cT K p).2) (k := 1) (d := D_law_alike) (z_isinstance := z_isinstance) (z_tuple := z_tuple) (z_list := z_list) (z_len := z_len) (z_range := z_range) (z_str := z_str) (z_int := z_int) (z_bool := z_bool) 5
  have h_is_filled := has_is_filled (P := PySem.Challenge.rw_actuarium_k63_whole_kinds_learned.prog) (w := w) (base := base) (k := 0) (d := D_is_filled) (T := tfl.map fun p => (He.cT K p).2) (z_isinstance := z_isinstance) (z_tuple := z_tuple) (z_len := z_len)
  have h_is_integer := has_is_integer (P := PySem.Challenge.rw_actuarium_k63_whole_kinds_learned.prog) (w := w) (base := base) (k := 0) (d := D_is_integer) (T := tfl.map fun p => (He.cT K p).2) (z_isinstance := z_isinstance) (z_int := z_int) (z_bool := z_bool)
  have q_is_integer := q_is_integer (P := PySem.Challenge.rw_actuarium_k63_whole_kinds_learned.prog) (w := w) (base := base) (d := D_is_integer) (z_isinstance := z_isinstance) (z_int := z_int) (z_bool := z_bool)
  have h_is_between := has_is_between (P := PySem.Challenge.rw_actuarium_k63_whole_kinds_learned.prog) (w := w) (base := base) (k := 1) (d := D_is_between) (T := tfl.map fun p => (He.cT K p).2) (h_is_integer := h_is_integer.mono (by decide))
  have q_is_between := q_is_between (P := PySem.Challenge.rw_actuarium_k63_whole_kinds_learned.prog) (w := w) (base := base) (d := D_is_between) (q_is_integer := q_is_integer)
  have h_are_weights := has_are_weights (P := PySem.Challenge.rw_actuarium_k63_whole_kinds_learned.prog) (w := w) (base := base) (k := 2) (d := D_are_weights) (T := tfl.map fun p => (He.cT K p).2) (TB := TB_are_weights) (hT := List.mem_map.mpr ⟨("are_weights", none), by simp [tfl], rfl⟩) (hG := if_neg (cg _ (by simp [gll]))) (h_is_between := h_is_between.mono (by decide)) (z_isinstance := z_isinstance) (z_tuple := z_tuple) (z_len := z_len) (z_all := z_all) (m_MOST_WEIGHT_claims := m_MOST_WEIGHT_claims)
  have h_is_kind := has_is_kind (P := PySem.Challenge.rw_actuarium_k63_whole_kinds_learned.prog) (w := w) (base := base) (k := 4) (d := D_is_kind) (T := tfl.map fun p => (He.cT K p).2) (h_is_filled := h_is_filled.mono (by decide)) (h_is_between := h_is_between.mono (by decide)) (h_are_weights := h_are_weights.mono (by decide)) (m_MOST_WEIGHT_learning := m_MOST_WEIGHT_learning) (m_MOST_ENTRIES := m_MOST_ENTRIES)
  have h_check_prior := has_check_prior (P := PySem.Challenge.rw_actuarium_k63_whole_kinds_learned.prog) (w := w) (base := base) (k := 5) (d := D_check_prior) (T := tfl.map fun p => (He.cT K p).2) (h_is_filled := h_is_filled.mono (by decide)) (h_is_kind := h_is_kind.mono (by decide)) (m_MOST_KINDS := m_MOST_KINDS) (z_enumerate := z_enumerate)
  have h_check_seen := has_check_seen (P := PySem.Challenge.rw_actuarium_k63_whole_kinds_learned.prog) (w := w) (base := base) (k := 2) (d := D_check_seen) (T := tfl.map fun p => (He.cT K p).2) (TB := TB_check_seen) (hT := List.mem_map.mpr ⟨("check_seen", none), by simp [tfl], rfl⟩) (hG := if_neg (cg _ (by simp [gll]))) (h_is_filled := h_is_filled.mono (by decide)) (h_is_between := h_is_between.mono (by decide)) (m_MOST_SEEN := m_MOST_SEEN) (m_MOST_ENTRIES := m_MOST_ENTRIES) (z_all := z_all)
  have h_make_ratio := has_make_ratio (P := PySem.Challenge.rw_actuarium_k63_whole_kinds_learned.prog) (w := w) (base := base) (k := 0) (d := D_make_ratio) (T := tfl.map fun p => (He.cT K p).2) (m_gcd := m_gcd)
  have h_chances_of := has_chances_of (P := PySem.Challenge.rw_actuarium_k63_whole_kinds_learned.prog) (w := w) (base := base) (k := 1) (d := D_chances_of) (T := tfl.map fun p => (He.cT K p).2) (h_make_ratio := h_make_ratio.mono (by decide)) (z_sum := z_sum)
  have h_multiplied := has_multiplied (P := PySem.Challenge.rw_actuarium_k63_whole_kinds_learned.prog) (w := w) (base := base) (k := 1) (d := D_multiplied) (T := tfl.map fun p => (He.cT K p).2) (h_make_ratio := h_make_ratio.mono (by decide))
  have h_all_multiplied := has_all_multiplied (P := PySem.Challenge.rw_actuarium_k63_whole_kinds_learned.prog) (w := w) (base := base) (k := 2) (d := D_all_multiplied) (T := tfl.map fun p => (He.cT K p).2) (h_multiplied := h_multiplied.mono (by decide)) (m_ONE := m_ONE) (t_ONE := t_ONE)
  have h_chance_of_row := has_chance_of_row (P := PySem.Challenge.rw_actuarium_k63_whole_kinds_learned.prog) (w := w) (base := base) (k := 3) (d := D_chance_of_row) (T := tfl.map fun p => (He.cT K p).2) (h_chances_of := h_chances_of.mono (by decide)) (h_all_multiplied := h_all_multiplied.mono (by decide)) (m_ZERO := m_ZERO) (t_ZERO := t_ZERO) (z_len := z_len)
  have h_plus := has_plus (P := PySem.Challenge.rw_actuarium_k63_whole_kinds_learned.prog) (w := w) (base := base) (k := 1) (d := D_plus) (T := tfl.map fun p => (He.cT K p).2) (h_make_ratio := h_make_ratio.mono (by decide))
  have h_total := has_total (P := PySem.Challenge.rw_actuarium_k63_whole_kinds_learned.prog) (w := w) (base := base) (k := 2) (d := D_total) (T := tfl.map fun p => (He.cT K p).2) (h_plus := h_plus.mono (by decide)) (m_ZERO := m_ZERO) (t_ZERO := t_ZERO)
  have h_divided := has_divided (P := PySem.Challenge.rw_actuarium_k63_whole_kinds_learned.prog) (w := w) (base := base) (k := 1) (d := D_divided) (T := tfl.map fun p => (He.cT K p).2) (h_make_ratio := h_make_ratio.mono (by decide))
  have h_learnt := has_learnt (P := PySem.Challenge.rw_actuarium_k63_whole_kinds_learned.prog) (w := w) (base := base) (k := 6) (d := D_learnt) (T := tfl.map fun p => (He.cT K p).2) (h_check_prior := h_check_prior.mono (by decide)) (h_check_seen := h_check_seen.mono (by decide)) (h_chance_of_row := h_chance_of_row.mono (by decide)) (h_multiplied := h_multiplied.mono (by decide)) (h_total := h_total.mono (by decide)) (h_divided := h_divided.mono (by decide)) (m_ZERO := m_ZERO) (t_ZERO := t_ZERO) (e_NeverSeen := e_NeverSeen)
  have h_kinds_after := has_kinds_after (P := PySem.Challenge.rw_actuarium_k63_whole_kinds_learned.prog) (w := w) (base := base) (k := 7) (d := D_kinds_after) (T := tfl.map fun p => (He.cT K p).2) (h_learnt := h_learnt.mono (by decide)) (z_tuple := z_tuple)
  have h_check_claims := has_check_claims (P := PySem.Challenge.rw_actuarium_k63_whole_kinds_learned.prog) (w := w) (base := base) (k := 4) (d := D_check_claims) (T := tfl.map fun p => (He.cT K p).2) (h_are_weights := h_are_weights.mono (by decide)) (m_MOST_ENTRIES := m_MOST_ENTRIES)
  have h_sum_above := has_sum_above (P := PySem.Challenge.rw_actuarium_k63_whole_kinds_learned.prog) (w := w) (base := base) (k := 3) (d := D_sum_above) (T := tfl.map fun p => (He.cT K p).2) (h_total := h_total.mono (by decide)) (h_multiplied := h_multiplied.mono (by decide)) (z_enumerate := z_enumerate)
  have h_mean_claim := has_mean_claim (P := PySem.Challenge.rw_actuarium_k63_whole_kinds_learned.prog) (w := w) (base := base) (k := 5) (d := D_mean_claim) (T := tfl.map fun p => (He.cT K p).2) (h_check_claims := h_check_claims.mono (by decide)) (h_chances_of := h_chances_of.mono (by decide)) (h_sum_above := h_sum_above.mono (by decide))
  have h_means_of := has_means_of (P := PySem.Challenge.rw_actuarium_k63_whole_kinds_learned.prog) (w := w) (base := base) (k := 6) (d := D_means_of) (T := tfl.map fun p => (He.cT K p).2) (h_mean_claim := h_mean_claim.mono (by decide))
  have h_mixed := has_mixed (P := PySem.Challenge.rw_actuarium_k63_whole_kinds_learned.prog) (w := w) (base := base) (k := 3) (d := D_mixed) (T := tfl.map fun p => (He.cT K p).2) (h_multiplied := h_multiplied.mono (by decide)) (h_total := h_total.mono (by decide)) (z_zip := z_zip)
  have h_expected_after := has_expected_after (P := PySem.Challenge.rw_actuarium_k63_whole_kinds_learned.prog) (w := w) (base := base) (k := 7) (d := D_expected_after) (T := tfl.map fun p => (He.cT K p).2) (h_learnt := h_learnt.mono (by decide)) (h_means_of := h_means_of.mono (by decide)) (h_mixed := h_mixed.mono (by decide))
  exact ok_law (P := PySem.Challenge.rw_actuarium_k63_whole_kinds_learned.prog) (w := w) (base := base) (k := 8) F (T := tfl.map fun p => (He.cT K p).2) (hcc := fn_code (x := "law") (st := s_law) F) (TB := TB_law) (hT := List.mem_map.mpr ⟨("law", none), by simp [tfl], rfl⟩) (hL := if_pos rfl) (h_law_told := h_law_told.mono (by decide)) (h_law_prior := h_law_prior.mono (by decide)) (h_law_taken := h_law_taken.mono (by decide)) (h_law_kinds := h_law_kinds.mono (by decide)) (h_law_mean := h_law_mean.mono (by decide)) (h_law_sum := h_law_sum.mono (by decide)) (h_law_by := h_law_by.mono (by decide)) (h_law_ratio := h_law_ratio.mono (by decide)) (h_law_alike := h_law_alike.mono (by decide)) (h_kinds_after := h_kinds_after.mono (by decide)) (h_expected_after := h_expected_after.mono (by decide)) (u_NeverSeen := u_NeverSeen) (z_tuple := z_tuple) (z_len := z_len) (z_range := z_range) (z_isinstance := z_isinstance)
end Act
open PySem PySem.W PyProof.Rows
set_option maxHeartbeats 0 in
theorem PySem.Challenge.cw_actuarium_k63_whole_kinds_learned_holds : PySem.Challenge.rw_actuarium_k63_whole_kinds_learned.Holds := by
  w_on; o_law
  refine HandSHeadRun.head_imp (r := OpenLaw.row PySem.Challenge.rw_actuarium_k63_whole_kinds_learned) (q := view (OpenLaw.row PySem.Challenge.rw_actuarium_k63_whole_kinds_learned).prog [0, 56]) (H := Act.hkk) (ob := Act.ob) (M := 4000) (loose := Act.loose) (d := HandSHeadRun.topDef (OpenLaw.row PySem.Challenge.rw_actuarium_k63_whole_kinds_learned).prog 56) (kwd := []) Act.ob_eq
    Act.run (by kernel_rfl) (by kernel_rfl) (by kernel_rfl) (by rfl) (by first | assumption | decide +kernel) (by decide +kernel) ⟨rfl, rfl, rfl, rfl, rfl, by decide +kernel⟩ ?hw ?hc
  case hw => w_witness2
  case hc =>
    refine LamX.walk_ofTsE (l := PySem.Challenge.rw_actuarium_k63_whole_kinds_learned) (n := 63) (k := 11) (x := "script") (CX := fun _ => L2.CX0) rfl (by decide) (by kernel_rfl) ⟨rfl, by decide, by decide⟩ ?F (fun _ _ _ _ _ z => z)
    intro w mg fa h Y G hmg0
    obtain ⟨K, KX, c⟩ := Y
    have hmg : mg ("law" : PySem.Str) = some (.ref fa) := by
      have e : (HandSHeadRun.topDef (OpenLaw.row PySem.Challenge.rw_actuarium_k63_whole_kinds_learned).prog 56).name = ("law" : PySem.Str) := by kernel_rfl
      rw [← e]
      exact hmg0
    exact ⟨K, KX, Act.all_mk KX G hmg c⟩
