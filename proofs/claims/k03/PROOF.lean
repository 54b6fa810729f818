import PyProof.Rows.All
import Wide.All
import OpenK.AllK
import Wide.FinOn
import KE.KOpsOwn
import HandS.ForMost
import HandS.Exc
import HandS.ExcOwn
import HandS.WordsExc
import HandS.IsInst
import HandS.Defaults
import HandS.Wide
import HandS.Gcd
import HandS.Lambda
import HandS.ExcInit
import HandS.ExcField
import HandS.Flow
import HandS.Rev
import HandS.HeadHook4
import HandS.HeadWalk
import HandS.NoneIn
import KE.KStateDown
import HandS.Head0
import HandS.Head1
import HandS.Head2
import HandS.Head3
import HandS.ExcValue
import HandS.ExcIs
import HandS.TryMany
import HandS.Small
import PyProof.ReprRoads
import KE.KExcIs
import HandS.Style
import PySem.Challenge.RW_hingeworks_k03_errors
set_option Elab.async false
set_option linter.all false
set_option maxRecDepth 100000
set_option maxHeartbeats 4000000
section
/-! Ratios as rationals; Euclid. -/
namespace HwM
theorem fdiv_exact {a g : Int} (h : g ∣ a) : a.fdiv g = a / g := Int.fdiv_eq_ediv_of_dvd h
/-- the top of the lowest terms, by floor division -/
theorem num_fdiv {t b : Int} (hb : b ≠ 0) : t.fdiv (if b < 0 then -((Nat.gcd t.natAbs b.natAbs : Nat) : Int) else ((Nat.gcd t.natAbs b.natAbs : Nat) : Int)) = (Rat.divInt t b).num := by
  have hg : ((Nat.gcd t.natAbs b.natAbs : Nat) : Int) ∣ t := Int.ofNat_dvd_left.mpr (Nat.gcd_dvd_left _ _)
  have e : (b.gcd t : Nat) = Nat.gcd t.natAbs b.natAbs := by unfold Int.gcd; exact Nat.gcd_comm _ _
  rw [Rat.num_divInt, e]
  split
  · rename_i h
    rw [fdiv_exact (Int.neg_dvd.mpr hg), Int.sign_eq_neg_one_of_neg h, Int.ediv_neg, Int.neg_one_mul, Int.neg_ediv_of_dvd hg]
  · rename_i h
    rw [fdiv_exact hg, Int.sign_eq_one_of_pos (by omega), Int.one_mul]
theorem den_fdiv {t b : Int} (hb : b ≠ 0) : b.fdiv (if b < 0 then -((Nat.gcd t.natAbs b.natAbs : Nat) : Int) else ((Nat.gcd t.natAbs b.natAbs : Nat) : Int)) = ((Rat.divInt t b).den : Int) := by
  have hg : ((Nat.gcd t.natAbs b.natAbs : Nat) : Int) ∣ b := Int.ofNat_dvd_left.mpr (Nat.gcd_dvd_right _ _)
  have e : (b.gcd t : Nat) = Nat.gcd t.natAbs b.natAbs := by unfold Int.gcd; exact Nat.gcd_comm _ _
  rw [Rat.den_divInt, e, if_neg hb, Int.natCast_ediv]
  split
  · rename_i h
    rw [fdiv_exact (Int.neg_dvd.mpr hg), Int.ediv_neg]
    have : (b.natAbs : Int) = -b := by omega
    rw [this, Int.neg_ediv_of_dvd hg]
  · rename_i h
    rw [fdiv_exact hg]
    have : (b.natAbs : Int) = b := by omega
    rw [this]
theorem gcd_ne {t b : Int} (hb : b ≠ 0) : (if b < 0 then -((Nat.gcd t.natAbs b.natAbs : Nat) : Int) else ((Nat.gcd t.natAbs b.natAbs : Nat) : Int)) ≠ 0 := by
  have : 0 < Nat.gcd t.natAbs b.natAbs := Nat.gcd_pos_of_pos_right _ (by omega)
  split <;> omega
theorem gcd_le {t b : Int} (hb : b ≠ 0) : (if b < 0 then -((Nat.gcd t.natAbs b.natAbs : Nat) : Int) else ((Nat.gcd t.natAbs b.natAbs : Nat) : Int)).natAbs ≤ b.natAbs := by
  have : Nat.gcd t.natAbs b.natAbs ≤ b.natAbs := Nat.gcd_le_right _ (by omega)
  split <;> omega
theorem fdiv_le (a : Int) {b : Int} (hb : 0 < b) : (a.fdiv b).natAbs ≤ a.natAbs := by
  rw [Int.fdiv_eq_ediv_of_nonneg _ (by omega)]
  have h1 := Int.mul_ediv_add_emod a b
  have h2 := Int.emod_nonneg a (b := b) (by omega)
  have h3 := Int.emod_lt_of_pos a hb
  by_cases h : 0 ≤ a
  · have := Int.ediv_le_self b h
    have := Int.ediv_nonneg h (show 0 ≤ b by omega)
    omega
  · have h4 : a ≤ a / b := by
      rw [Int.le_ediv_iff_mul_le hb]
      have : a * b ≤ a * 1 := Int.mul_le_mul_of_nonpos_left (by omega) (by omega)
      omega
    have h5 : a / b < 0 := Int.ediv_neg_of_neg_of_pos (by omega) hb
    omega
theorem log2_lt {n k : Nat} (hk : 0 < k) (h : n < 2 ^ k) : n.log2 < k := by
  by_cases z : n = 0
  · subst z; simpa using hk
  · exact (Nat.log2_lt z).mpr h
/-! sizes -/
/-- both parts are below 2 ^ n -/
def Bd (n : Nat) (q : Rat) : Prop := q.num.natAbs < 2 ^ n ∧ q.den < 2 ^ n
theorem Bd.mono {m n : Nat} {q : Rat} (h : Bd m q) (hn : m ≤ n) : Bd n q :=
  ⟨Nat.lt_of_lt_of_le h.1 (Nat.pow_le_pow_right (by decide) hn), Nat.lt_of_lt_of_le h.2 (Nat.pow_le_pow_right (by decide) hn)⟩
theorem mul_lt {a b m n : Nat} (ha : a < 2 ^ m) (hb : b < 2 ^ n) : a * b < 2 ^ (m + n) := by
  rw [Nat.pow_add]; exact Nat.mul_lt_mul'' ha hb
theorem add_lt {a b n : Nat} (ha : a < 2 ^ n) (hb : b < 2 ^ n) : a + b < 2 ^ (n + 1) := by
  rw [Nat.pow_succ]; omega
theorem lt_mono {a m n : Nat} (h : a < 2 ^ m) (hn : m ≤ n) : a < 2 ^ n := Nat.lt_of_lt_of_le h (Nat.pow_le_pow_right (by decide) hn)
theorem divInt_bd {t b : Int} {n : Nat} (hn : 0 < n) (ht : t.natAbs < 2 ^ n) (hb : b.natAbs < 2 ^ n) : Bd n (Rat.divInt t b) := by
  refine ⟨?_, ?_⟩
  · rw [Rat.num_divInt]
    refine Nat.lt_of_le_of_lt ?_ ht
    refine Nat.le_trans (Int.natAbs_ediv_le_natAbs _ _) ?_
    rw [Int.natAbs_mul]
    have : b.sign.natAbs ≤ 1 := by
      rcases Int.lt_trichotomy b 0 with h | h | h
      · rw [Int.sign_eq_neg_one_of_neg h]; decide
      · subst h; decide
      · rw [Int.sign_eq_one_of_pos h]; decide
    calc b.sign.natAbs * t.natAbs ≤ 1 * t.natAbs := Nat.mul_le_mul_right _ this
      _ = t.natAbs := Nat.one_mul _
  · rw [Rat.den_divInt]
    split
    · exact Nat.one_lt_two_pow (by omega)
    · exact Nat.lt_of_le_of_lt (Nat.div_le_self _ _) hb
theorem num_add_bd {q r : Rat} {m n : Nat} (hq : Bd m q) (hr : Bd n r) : (q.num * r.den + r.num * q.den).natAbs < 2 ^ (m + n + 1) := by
  refine Nat.lt_of_le_of_lt (Int.natAbs_add_le _ _) ?_
  rw [Int.natAbs_mul, Int.natAbs_mul]
  refine add_lt ?_ ?_
  · exact mul_lt hq.1 (by simpa using hr.2)
  · rw [Nat.mul_comm]; exact mul_lt (by simpa using hq.2) hr.1
theorem num_sub_bd {q r : Rat} {m n : Nat} (hq : Bd m q) (hr : Bd n r) : (q.num * r.den - r.num * q.den).natAbs < 2 ^ (m + n + 1) := by
  refine Nat.lt_of_le_of_lt (Int.natAbs_sub_le _ _) ?_
  rw [Int.natAbs_mul, Int.natAbs_mul]
  refine add_lt ?_ ?_
  · exact mul_lt hq.1 (by simpa using hr.2)
  · rw [Nat.mul_comm]; exact mul_lt (by simpa using hq.2) hr.1
theorem den_bd {q r : Rat} {m n : Nat} (hq : Bd m q) (hr : Bd n r) : ((q.den : Int) * r.den).natAbs < 2 ^ (m + n) := by
  rw [Int.natAbs_mul]; exact mul_lt (by simpa using hq.2) (by simpa using hr.2)
theorem num_mul_bd {q r : Rat} {m n : Nat} (hq : Bd m q) (hr : Bd n r) : (q.num * r.num).natAbs < 2 ^ (m + n) := by
  rw [Int.natAbs_mul]; exact mul_lt hq.1 hr.1
theorem den_ne (q : Rat) : (q.den : Int) ≠ 0 := by have := q.den_pos; omega
theorem dens_ne (q r : Rat) : (q.den : Int) * r.den ≠ 0 := Int.mul_ne_zero (den_ne q) (den_ne r)
theorem add_eq (q r : Rat) : Rat.divInt (q.num * r.den + r.num * q.den) ((q.den : Int) * r.den) = q + r := by
  rw [Rat.add_def', ← Rat.divInt_ofNat]; norm_cast
theorem sub_eq (q r : Rat) : Rat.divInt (q.num * r.den - r.num * q.den) ((q.den : Int) * r.den) = q - r := by
  rw [Rat.sub_def', ← Rat.divInt_ofNat]; norm_cast
theorem mul_eq (q r : Rat) : Rat.divInt (q.num * r.num) ((q.den : Int) * r.den) = q * r := by
  rw [Rat.mul_def', ← Rat.divInt_ofNat]; norm_cast
theorem div_eq (q r : Rat) : Rat.divInt (q.num * r.den) ((q.den : Int) * r.num) = q / r := by
  rw [Rat.div_def, Rat.inv_def, ← Rat.divInt_mul_divInt, Rat.num_divInt_den]
theorem neg_eq (q : Rat) : Rat.divInt (-q.num) (q.den : Int) = -q := by
  rw [← Rat.neg_divInt, Rat.num_divInt_den]
theorem self_eq (q : Rat) : Rat.divInt q.num (q.den : Int) = q := Rat.num_divInt_den q
theorem scale_eq (q : Rat) {k : Int} (hk : k ≠ 0) : Rat.divInt (q.num * k) ((q.den : Int) * k) = q := by
  rw [Rat.divInt_mul_right hk, Rat.num_divInt_den]
theorem int_eq (i : Int) : Rat.divInt i 1 = (i : Rat) := by
  have := Rat.num_divInt_den (i : Rat)
  simpa using this
theorem add_bd {q r : Rat} {m n : Nat} (hq : Bd m q) (hr : Bd n r) : Bd (m + n + 1) (q + r) := by
  rw [← add_eq]; exact divInt_bd (by omega) (num_add_bd hq hr) (lt_mono (den_bd hq hr) (by omega))
theorem sub_bd {q r : Rat} {m n : Nat} (hq : Bd m q) (hr : Bd n r) : Bd (m + n + 1) (q - r) := by
  rw [← sub_eq]; exact divInt_bd (by omega) (num_sub_bd hq hr) (lt_mono (den_bd hq hr) (by omega))
theorem mul_bd {q r : Rat} {m n : Nat} (h0 : 0 < m + n) (hq : Bd m q) (hr : Bd n r) : Bd (m + n) (q * r) := by
  rw [← mul_eq]; exact divInt_bd h0 (num_mul_bd hq hr) (den_bd hq hr)
theorem neg_bd {q : Rat} {n : Nat} (hq : Bd n q) : Bd n (-q) := ⟨by simpa using hq.1, hq.2⟩
theorem int_bd {i : Int} {n : Nat} (hn : 0 < n) (h : i.natAbs < 2 ^ n) : Bd n (i : Rat) := ⟨by simpa using h, by simpa using Nat.one_lt_two_pow (by omega)⟩
/-! signs -/
theorem sign_num (q : Rat) : (q.num < 0 ↔ q < 0) ∧ (0 < q.num ↔ 0 < q) := by
  constructor
  · rw [Rat.lt_iff]; simp
  · rw [Rat.lt_iff]; simp
/-- -1, 0, 1 -/
def cmp (q r : Rat) : Int := if q < r then -1 else if r < q then 1 else 0
theorem gap_neg (q r : Rat) : q.num * r.den - r.num * q.den < 0 ↔ q < r := by rw [Rat.lt_iff]; omega
theorem gap_pos (q r : Rat) : 0 < q.num * r.den - r.num * q.den ↔ r < q := by rw [Rat.lt_iff]; omega
theorem cmp_lt (q r : Rat) : cmp q r < 0 ↔ q < r := by
  unfold cmp
  split
  · simp [*]
  · split <;> simp [*]
theorem cmp_le (q r : Rat) : cmp q r ≤ 0 ↔ q ≤ r := by
  unfold cmp
  split
  · rename_i h; simp [Rat.le_of_lt h]
  · rename_i h
    split
    · rename_i h2; simp [Rat.not_le.mpr h2]
    · rename_i h2; simp [Rat.not_lt.mp h2]
theorem cmp_zero (q r : Rat) : cmp q r = 0 ↔ q = r := by
  unfold cmp
  split
  · rename_i h; simp [Rat.ne_of_lt h]
  · rename_i h
    split
    · rename_i h2; simp [Rat.ne_of_gt h2]
    · rename_i h2; simp [Rat.le_antisymm (Rat.not_lt.mp h2) (Rat.not_lt.mp h)]
theorem cmp_sub (q r : Rat) : cmp (q - r) 0 = cmp q r := by
  have h1 : (q - r < 0) ↔ q < r := by
    rw [Rat.lt_iff_sub_pos, Rat.lt_iff_sub_pos q r]
    have : (0 : Rat) - (q - r) = r - q := by grind
    rw [this]
  have h2 : (0 < q - r) ↔ r < q := by rw [Rat.lt_iff_sub_pos r q]
  unfold cmp
  simp [h1, h2]
/-! Euclid's laps -/
theorem lap {x y : Int} {i n : Nat} (h0 : 0 ≤ x) (hy : 0 < y) (hyn : y.natAbs < 2 ^ n) (hi : i = 0 ∨ (y < x ∧ x.natAbs * y.natAbs * 2 ^ i < 2 ^ (2 * n + 2))) :
    x % y < y ∧ 0 ≤ x % y ∧ (x % y).natAbs < 2 ^ n ∧ y.natAbs * (x % y).natAbs * 2 ^ (i + 1) < 2 ^ (2 * n + 2) := by
  have a := Int.emod_nonneg x (show y ≠ 0 by omega)
  have b := Int.emod_lt_of_pos x hy
  have hr : (x % y).natAbs < 2 ^ n := by omega
  refine ⟨b, a, hr, ?_⟩
  rcases hi with rfl | ⟨h1, h2⟩
  · have := mul_lt hyn hr
    have e : 2 ^ (2 * n + 2) = 2 ^ (n + n) * 4 := by rw [show 2 * n + 2 = (n + n) + 2 by omega, Nat.pow_add]
    rw [e]
    simp only [Nat.zero_add, Nat.pow_one]
    omega
  · have hx : 2 * (x % y) < x := by
      have e := Int.mul_ediv_add_emod x y
      have q : 1 ≤ x / y := (Int.le_ediv_iff_mul_le hy).mpr (by omega)
      have : y * 1 ≤ y * (x / y) := Int.mul_le_mul_of_nonneg_left q (by omega)
      omega
    have h3 : 2 * (x % y).natAbs ≤ x.natAbs := by omega
    refine Nat.lt_of_le_of_lt ?_ h2
    calc y.natAbs * (x % y).natAbs * 2 ^ (i + 1) = y.natAbs * (2 * (x % y).natAbs) * 2 ^ i := by rw [Nat.pow_succ]; grind
      _ ≤ y.natAbs * x.natAbs * 2 ^ i := Nat.mul_le_mul_right _ (Nat.mul_le_mul_left _ h3)
      _ = x.natAbs * y.natAbs * 2 ^ i := by rw [Nat.mul_comm y.natAbs]
theorem laps_end {x y : Int} {n : Nat} (h0 : 0 ≤ y) (hy : y < x) (h : x.natAbs * y.natAbs * 2 ^ n < 2 ^ n) : y = 0 := by
  have : x.natAbs * y.natAbs < 1 := by
    have h2 : x.natAbs * y.natAbs * 2 ^ n < 1 * 2 ^ n := by simpa using h
    exact Nat.lt_of_mul_lt_mul_right h2
  have h3 : x.natAbs * y.natAbs = 0 := by omega
  rcases Nat.mul_eq_zero.mp h3 with e | e <;> omega
theorem gcd_step {x y : Int} (h0 : 0 ≤ x) (hy : 0 < y) : Nat.gcd y.natAbs (x % y).natAbs = Nat.gcd x.natAbs y.natAbs := by
  have e : (x % y).natAbs = x.natAbs % y.natAbs := by
    have := Int.natAbs_emod_of_nonneg h0 y
    exact this
  rw [e, Nat.gcd_comm y.natAbs, ← Nat.gcd_rec, Nat.gcd_comm]
end HwM
end

section
/-! Operators of an own class. -/
namespace Hw
open PySem PySem.W PySem.Calls PyProof.Rows

section
variable {prog : Program} {w : World} {A : Around} {E : Value → Shared → Prop} {s : Shared} {K : Frag} {x y C L f : Addr} {h₀ : Heap} {m : Str → Option Value} {ox oy : Obj} {od ody : Option Obj}
/-- a + b, both of the same own class -/
theorem bin_same {op : Operator} {Q : Value → Shared → Prop} (F : Fr h₀ L s.heap m) (X₀ : K.In h₀) (I : InstAt s.heap x ox C od) (J : InstAt s.heap y oy C ody) (hc : selfFirst K C = true)
    (hs : findIn K (.ref C) (PySem.dunder op.info.2) = some (some (.ref f))) (hf : isFn K (.ref f) = true)
    (h : wpAny (model prog w) A (call (.ref f) [.ref x, .ref y]) (PySem.W.CmpBack Q) E s) : wpAny (model prog w) A (binaryOp op (.ref x) (.ref y)) Q E s := by
  have X := X₀.keeps F.keep
  obtain ⟨cd, rest, hcd, hm⟩ := ksp_first hc
  rcases hi : op.info with ⟨sym, nm'⟩
  rw [hi] at hs
  dsimp only at hs
  have one := ksp_try X I hs hf h
  obtain ⟨hh, g, d, tt, os⟩ := s
  have L1 : Looks (model prog w) hh (typeOf (.ref x)) (.ref C) := I.type
  have L2 : Looks (model prog w) hh (typeOf (.ref y)) (.ref C) := J.type
  have L3 : Looks (model prog w) hh (fillsNumberSlot (.ref C) nm') true := fills_K X hcd hm hs
  have heq : (Value.ref C == Value.ref C) = true := by simp
  simp only [binaryOp, hi]
  refine wpAny_holding (wpAny_bind ?_)
  unfold binaryOp1
  refine wpAny_bind (L1.at (wpAny_bind (L2.at (wpAny_bind (L3.at ?_)))))
  simp only [heq, if_true]
  repeat ((fail_if_success (with_reducible show wpAny _ _ (tryMethod _ _ _) _ _ _)); lk)
  refine wpAny_mono one (fun r s' hr' => ?_) fun _ _ e => e
  obtain ⟨v, rfl, hq⟩ := hr'
  repeat ((fail_if_success (with_reducible show wpAny _ _ (tryMethod _ _ _) _ _ _)); lk)
  exact hq
end
end Hw

namespace L2
open PySem PySem.Spec PyProof.Rows
/-- what an own class must have for its operators -/
structure OpC (K : PySem.W.Frag) (C : Addr) (op : Operator) (f : Addr) : Prop where
  first : PySem.W.selfFirst K C = true
  at_ : PySem.W.findIn K (.ref C) (PySem.dunder op.info.2) = some (some (.ref f))
  fn : PySem.W.isFn K (.ref f) = true
  refl : PySem.W.findIn K (.ref C) (dunderR op.info.2) = some none
theorem cmpBack_of {X : Cx} {pins : List (Addr × Obj)} {σ : St} {Q : VK} {u : Value} {s : Shared} (h : EP X pins σ Q u s) : PySem.W.CmpBack (EP X pins σ Q) u s := by
  obtain ⟨v, H, I, r, q⟩ := id h
  cases v with
  | non => cases (show u = Value.none from r); exact h
  | bl b => cases (show u = Value.bool b from r); exact h
  | int i => obtain ⟨t, e⟩ := (show ∃ t, u = Value.int i t from r); cases e; exact h
  | str x => obtain ⟨t, e⟩ := (show ∃ t, u = Value.str x t from r); cases e; exact h
  | byt b => obtain ⟨t, e⟩ := (show ∃ t, u = Value.bytes b t from r); cases e; exact h
  | flt b => obtain ⟨t, e⟩ := (show ∃ t, u = Value.float b t from r); cases e; exact h
  | ref a => cases (show u = Value.ref a from r); exact h
  | ty n => cases (show u = Value.type n from r); exact h
/-- an instance at a -/
def Inst (H : Hp) (C : Addr) (x : V) : Prop := ∃ a dx fs, x = .ref a ∧ H a = some (.ins C dx fs)
def rOwn (C : Addr) (sp : Sp) (E : XK) : R2 := fun x y H Q => Inst H C x ∧ ((∃ i, y = .int i) ∨ Inst H C y) ∧ sp [x, y] H Q E
section
variable {X : Cx} {CX : CXT} {k : Nat} {f C : Addr} {fd : FuncData} {ps : List Str} {sp : Sp} {E : XK} {op : Operator}
theorem op_own (c : OpC X.K C op f) (F : FnOk X.prog X.w X.K X.mg X.base CX k f fd ps sp) (hr : Room k X.A) (hb : Binds X.K fd ps []) (hx : Passes CX X E)
    {fo ro : Option Value} (h1 : PySem.W.findIn X.K (.type "int") (PySem.dunder op.info.2) = some fo) (h2 : PySem.W.findIn X.K (.type "int") (dunderR op.info.2) = some ro) (hsub : PySem.W.subIn X.K (.type "int") (.ref C) = some false) :
    OpR X (binaryOp op) (rOwn C sp E) := by
  intro pins s σ H x y u v Q I rx ry h
  obtain ⟨⟨a, dx, fs, ex, ha⟩, hy, hs⟩ := h
  subst ex
  obtain rfl : u = Value.ref a := rx
  obtain ⟨mA, O, _⟩ := ins_get I.hok ha
  obtain ⟨od, J, _⟩ := O.look
  obtain ⟨m, fr⟩ := I.fr
  have run : wpAny (model X.prog X.w) X.A (call (.ref f) [Value.ref a, v]) (PySem.W.CmpBack (EP X pins σ Q)) X.xe s :=
    wpAny_mono (run_fn (vs := [.ref a, y]) (us := [.ref a, v]) F hr hb .nil hx I (.cons rfl (.cons ry .nil)) (by simpa using hs)) (fun _ _ z => cmpBack_of z) fun _ _ z => z
  rcases hy with ⟨i, rfl⟩ | ⟨b, dy, gs, rfl, hb'⟩
  · obtain ⟨t, rfl⟩ := (show ∃ t, v = Value.int i t from ry)
    exact PySem.W.ksp_binT fr I.ok.mod.kin J rfl c.first c.at_ c.fn c.refl (.inl rfl) h1 h2 hsub run
  · obtain rfl : v = Value.ref b := ry
    obtain ⟨mB, O2, _⟩ := ins_get I.hok hb'
    obtain ⟨od2, J2, _⟩ := O2.look
    exact Hw.bin_same fr I.ok.mod.kin J J2 c.first c.at_ c.fn run
/-- -a -/
def rOwn1 (C : Addr) (sp : Sp) (E : XK) : V → Hp → VK → Prop := fun x H Q => Inst H C x ∧ sp [x] H Q E
theorem un_own (hs : PySem.W.findIn X.K (.ref C) "__neg__" = some (some (.ref f))) (hf : PySem.W.isFn X.K (.ref f) = true) (F : FnOk X.prog X.w X.K X.mg X.base CX k f fd ps sp) (hr : Room k X.A) (hb : Binds X.K fd ps []) (hx : Passes CX X E) :
    UnR X (unaryOp .USub) (rOwn1 C sp E) := by
  intro pins s σ H x u Q I rx h
  obtain ⟨⟨a, dx, fs, ex, ha⟩, hs'⟩ := h
  subst ex
  obtain rfl : u = Value.ref a := rx
  obtain ⟨mA, O, _⟩ := ins_get I.hok ha
  obtain ⟨od, J, _⟩ := O.look
  obtain ⟨m, fr⟩ := I.fr
  exact PySem.W.ksp_neg fr I.ok.mod.kin J hs hf (run_fn (vs := [.ref a]) (us := [.ref a]) F hr hb .nil hx I (.cons rfl .nil) (by simpa using hs'))
/-- a == b by an own __eq__, b any value whose type is known -/
def rOwnEq (K : PySem.W.Frag) (C : Addr) (sp : Sp) (E : XK) : R2 := fun x y H Q => Inst H C x ∧ (∃ t, TyX K H y t ∧ PySem.W.notFirst K C t = true) ∧ sp [x, y] H Q E
theorem typ_of {pins : List (Addr × Obj)} {σ : St} {H : Hp} {s : Shared} {x : V} {u t : Value} (I : Inv X pins σ H s) (rx : RelV x u) (ty : TyX X.K H x t) : PySem.W.Looks (model X.prog X.w) s.heap (typeOf u) t := by
  obtain ⟨P, Z, p, _⟩ := kit_of I rx ty
  exact Z.ty _ _ I.kIn p
theorem op_ownEq (hs : PySem.W.findIn X.K (.ref C) "__eq__" = some (some (.ref f))) (hf : PySem.W.isFn X.K (.ref f) = true) (F : FnOk X.prog X.w X.K X.mg X.base CX k f fd ps sp) (hr : Room k X.A) (hb : Binds X.K fd ps []) (hx : Passes CX X E) :
    OpR X (compareOp .Eq) (rOwnEq X.K C sp E) := by
  intro pins s σ H x y u v Q I rx ry h
  obtain ⟨⟨a, dx, fs, ex, ha⟩, ⟨t, ty, nf⟩, hs'⟩ := h
  subst ex
  obtain rfl : u = Value.ref a := rx
  obtain ⟨mA, O, _⟩ := ins_get I.hok ha
  obtain ⟨od, J, _⟩ := O.look
  obtain ⟨m, fr⟩ := I.fr
  show wpAny (model X.prog X.w) X.A (richCompare .Eq (.ref a) v) (EP X pins σ Q) X.xe s
  refine PySem.W.cmp_K (op := .Eq) hr.units0 fr I.ok.mod.kin J (typ_of I ry ty) nf hs hf ?_
  exact wpAny_mono (run_fn (vs := [.ref a, y]) (us := [.ref a, v]) F hr hb .nil hx I (.cons rfl (.cons ry .nil)) (by simpa using hs')) (fun _ _ z => cmpBack_of z) fun _ _ z => z
end
end L2
end

section
/-! Calls by name, in short. -/
namespace L2
open PySem PySem.Spec PyProof.Rows
/-- a def of the text, as it stands behind the top -/
abbrev FD (K : PySem.W.Frag) (st : Stmt) (x qual : Str) (f : Addr) (fd : FuncData) : Prop := FunD K x qual (defArgs st) (defBody st) (defScope st) [] [] f fd
section
variable {P : Program} {w : World} {K : PySem.W.Frag} {mg : Str → Option Value} {base : Heap} {x qual : Str} {params : Arguments} {body : List Stmt} {scope : Scope} {dvs : List V} {kws : List (Str × V)} {f : Addr} {fd : FuncData}
/-- a def that lets no exception out -/
theorem FunD.ok0 {N ps : List Str} {k : Nat} {sp : Sp} (F : FunD K x qual params body scope dvs kws f fd) (S : FnScope N ps scope) (len : ∀ vs H Q E, sp vs H Q E → vs.length = ps.length)
    (hbody : ∀ (cdv : Value) (A : Around) (outer : List Env) (s : Shared) (H : Hp) (vs : List V) (Q : VK) (E : XK), Room k (A.deeper (envOfC qual scope s.heap.objs.size f cdv)) → sp vs H Q E →
      ∃ t, PSs (cxOf (L2.CX P w) P w K mg base N qual scope f cdv A outer s H E).nox body t ∧ t { nx := fun _ H' => Q .non H', rt := Q } (start N vs) H) : FnOk P w K mg base (L2.CX P w) (k + 1) f fd ps sp :=
  FunD.ok F S len fun cdv A outer s H vs Q E hr hsp => let ⟨t, h, q⟩ := hbody cdv A outer s H vs Q E hr hsp; ⟨t, h.nox, q⟩
theorem FunD.okX {N ps : List Str} {k : Nat} {sp : Sp} (F : FunD K x qual params body scope dvs kws f fd) (S : FnScope N ps scope) (len : ∀ vs H Q E, sp vs H Q E → vs.length = ps.length)
    (hbody : ∀ (cdv : Value) (A : Around) (outer : List Env) (s : Shared) (H : Hp) (vs : List V) (Q : VK) (E : XK), Room k (A.deeper (envOfC qual scope s.heap.objs.size f cdv)) → sp vs H Q E →
      ∃ t, PSs (cxOf (L2.CX P w) P w K mg base N qual scope f cdv A outer s H E) body t ∧ t { nx := fun _ H' => Q .non H', rt := Q } (start N vs) H) : FnOk P w K mg base (L2.CX P w) (k + 1) f fd ps sp :=
  FunD.ok F S len hbody
end
/-- a def that stands at the module's name x and keeps the promise sp -/
structure Gf (P : Program) (w : World) (K : PySem.W.Frag) (mg : Str → Option Value) (base : Heap) (x : Str) (k : Nat) (ps : List Str) (sp : Sp) : Prop where
  ex : ∃ (f : Addr) (fd : FuncData), mg x = some (.ref f) ∧ PySem.W.keepIn K (.ref f) = true ∧ Binds K fd ps [] ∧ FnOk P w K mg base (L2.CX P w) k f fd ps sp
/-- a method of the class at C -/
structure Mf (P : Program) (w : World) (K : PySem.W.Frag) (mg : Str → Option Value) (base : Heap) (C : Addr) (m : Str) (k : Nat) (ps : List Str) (sp : Sp) : Prop where
  cl : Cls K C
  ex : ∃ (f : Addr) (fd : FuncData), Meth K C m f ∧ Binds K fd ps [] ∧ FnOk P w K mg base (L2.CX P w) k f fd ps sp
/-- a class whose __init__ keeps sp; dvs: the defaults that are filled in -/
structure Kf (P : Program) (w : World) (K : PySem.W.Frag) (mg : Str → Option Value) (base : Heap) (x : Str) (C : Addr) (k : Nat) (ps : List Str) (dvs : List V) (sp : Sp) : Prop where
  ex : ∃ (f : Addr) (fd : FuncData) (ds : List Value), mg x = some (.ref C) ∧ Mk K C f ∧ Binds K fd ps ds ∧ Vals dvs ds ∧ FnOk P w K mg base (L2.CX P w) k f fd ps sp
section
variable {X : Cx} {j k : Nat} {x m : Str} {C : Addr} {ps : List Str} {dvs : List V} {sp : Sp} {E : XK} {e o : Expr} {es : List Expr} {t : TA} {ta : TE} {p pos apos : Pos}
theorem pe_g (c : Gf X.prog X.w X.K X.mg X.base x k ps sp) (hr : Room j X.A) (hk : k ≤ j) (hx : Passes (L2.CX X.prog X.w) X E) (hg : Gl X x) (ha : PA X (e :: es) t) (hdb : (x == ("__debug__" : Str)) = false := by decide)
    (he : starEach (e :: es) X.env = (false, eval e X.env) :: starEach es X.env := by rfl) (hpl : (backTo pos (starEach es X.env)).any (·.1) = false := by rfl) : PE X (.Call (.Name x p) (e :: es) [] pos) (tCall sp [] E t) := by
  obtain ⟨f, fd, h1, h2, h3, h4⟩ := c.ex
  exact pe_call h4 (hr.mono hk) hg h1 h2 h3 .nil hx ha hdb he hpl
theorem pe_g0 (c : Gf X.prog X.w X.K X.mg X.base x k ps sp) (hr : Room j X.A) (hk : k ≤ j) (hx : Passes (L2.CX X.prog X.w) X E) (hg : Gl X x) (hdb : (x == ("__debug__" : Str)) = false := by decide) : PE X (.Call (.Name x p) [] [] pos) (tCall sp [] E tNil) := by
  obtain ⟨f, fd, h1, h2, h3, h4⟩ := c.ex
  exact pe_call0 h4 (hr.mono hk) hg h1 h2 h3 .nil hx hdb
theorem pe_m {pl : Sem Bool} (c : Mf X.prog X.w X.K X.mg X.base C m k ps sp) (hr : Room j X.A) (hk : k ≤ j) (hx : Passes (L2.CX X.prog X.w) X E) (he : PE X o ta) (ha : PA X (e :: es) t)
    (hst : starEach (e :: es) X.env = (false, eval e X.env) :: starEach es X.env := by rfl) (hpl : (backTo pos (starEach es X.env)).any (·.1) = false := by rfl)
    (ht : eval (.Call (.Attribute o m apos) (e :: es) [] pos) X.env = (do
      let ov ← eval o X.env
      standAt apos.atName
      let (f, first) ← holding [ov] (getMethod ov m pl)
      callWith pos f first (backTo pos (starEach (e :: es) X.env)) (backToKw pos (keywordEach [] X.env))) := by rfl) :
    PE X (.Call (.Attribute o m apos) (e :: es) [] pos) (tMeth C m sp [] E ta t) := by
  obtain ⟨f, fd, h1, h2, h3⟩ := c.ex
  exact pe_meth he c.cl h1 h3 (hr.mono hk) h2 .nil hx ha hst hpl ht
theorem pe_k (c : Kf X.prog X.w X.K X.mg X.base x C k ps dvs sp) (hr : Room j X.A) (hk : k + 1 ≤ j) (hx : Passes (L2.CX X.prog X.w) X E) (hg : Gl X x) (ha : PA X (e :: es) t) (hdb : (x == ("__debug__" : Str)) = false := by decide)
    (he : starEach (e :: es) X.env = (false, eval e X.env) :: starEach es X.env := by rfl) (hpl : (backTo pos (starEach es X.env)).any (·.1) = false := by rfl) : PE X (.Call (.Name x p) (e :: es) [] pos) (tMake C sp dvs E t) := by
  obtain ⟨f, fd, ds, h1, h2, h3, h4, h5⟩ := c.ex
  exact pe_make h2 h5 (hr.mono hk) hg h1 h3 h4 hx ha hdb he hpl
theorem cxOf_K {CX : CXT} {P : Program} {w : World} {K : PySem.W.Frag} {mg : Str → Option Value} {base : Heap} {N : List Str} {q : Str} {sc : Scope} {f : Addr} {cd : Value} {A : Around} {o : List Env} {s : Shared} {H : Hp} {E : XK} : (cxOf CX P w K mg base N q sc f cd A o s H E).K = K := rfl
/-- a tuple (top, bottom) -/
def qv (q : Rat) : List V := [.int q.num, .int (q.den : Int)]
theorem at0 {q : Rat} {v : V} : atI (qv q) 0 = some v ↔ v = .int q.num := by
  have e : atI (qv q) ((0 : Nat) : Int) = some (.int q.num) := atI_nat rfl
  have e2 : atI (qv q) 0 = some (.int q.num) := e
  rw [e2]
  exact ⟨fun z => (Option.some.inj z).symm, fun z => by rw [z]⟩
theorem at1 {q : Rat} {v : V} : atI (qv q) 1 = some v ↔ v = .int (q.den : Int) := by
  have e : atI (qv q) ((1 : Nat) : Int) = some (.int (q.den : Int)) := atI_nat rfl
  have e2 : atI (qv q) 1 = some (.int (q.den : Int)) := e
  rw [e2]
  exact ⟨fun z => (Option.some.inj z).symm, fun z => by rw [z]⟩
def rIxTH : R2 := fun x y H Q => ∃ p xs i v, x = .ref p ∧ y = .int i ∧ H p = some (.tup xs) ∧ atI xs i = some v ∧ Q v H
def rIxLH : R2 := fun x y H Q => ∃ p xs i v, x = .ref p ∧ y = .int i ∧ H p = some (.lst xs) ∧ atI xs i = some v ∧ Q v H
theorem ix_tupH {X : Cx} : IxR X rIxTH := fun va sl pins s σ H x y v u Q I rx ry h hs => by
  obtain ⟨p, xs, i, z, e1, e2, e3, e4, q⟩ := h
  exact ix_tup va sl pins s σ H x y v u Q I rx ry ⟨p, xs, i, z, e1, e2, SqT.of e3, e4, q⟩ hs
theorem ix_listH {X : Cx} : IxR X rIxLH := fun va sl pins s σ H x y v u Q I rx ry h hs => by
  obtain ⟨p, xs, i, z, e1, e2, e3, e4, q⟩ := h
  exact ix_list va sl pins s σ H x y v u Q I rx ry ⟨p, xs, i, z, e1, e2, SqL.of e3, e4, q⟩ hs
theorem call_isiE {X : Cx} {K : PySem.W.Frag} (h : X.K = K) : CallR X (.builtin "isinstance") (rIsi K) := by subst h; exact call_isi
theorem ne_nil {K : PySem.W.Frag} {H : Hp} {a b : Addr} {Q : VK} (ha : H a = some (.lst [])) (hb : H b = some (.lst [])) (k : Q (.bl false) H) : rNeD K (.ref a) (.ref b) H Q :=
  ⟨.list [], .list [], .lst (SqL.of ha) .nil, .lst (SqL.of hb) .nil, by rfl, by rfl, k⟩
theorem eq_pair {K : PySem.W.Frag} {H : Hp} {a b : Addr} {t1 b1 t2 b2 : Int} {Q : VK} (ha : H a = some (.tup [.int t1, .int b1])) (hb : H b = some (.tup [.int t2, .int b2])) (k : Q (.bl (decide (t1 = t2 ∧ b1 = b2))) H) : rEqD K (.ref a) (.ref b) H Q := by
  refine ⟨.tuple [.int t1, .int b1], .tuple [.int t2, .int b2], .tup (SqT.of ha) (.cons (.int _) (.cons (.int _) .nil)), .tup (SqT.of hb) (.cons (.int _) (.cons (.int _) .nil)), by rfl, by rfl, ?_⟩
  have e : PyData.eqv (.tuple [.int t1, .int b1]) (.tuple [.int t2, .int b2]) = decide (t1 = t2 ∧ b1 = b2) := by
    simp [PyData.eqv, PyData.eqvAll, Bool.beq_eq_decide_eq]
  rw [e]
  exact k
section
variable {K : PySem.W.Frag} {H : Hp} {R : Bool → Prop} {i : Int} {c : Bool}
theorem isi_ii (h : R true) : ∃ x x1, ClsV (.ty "int") x1 ∧ TyX K H (.int i) x ∧ ∃ b, PySem.W.kitOne K x x1 = some b ∧ R b := ⟨.type "int", .type "int", .ty _, .base (.int i), true, kit_ty (by decide +kernel), h⟩
theorem isi_ib (h : R false) : ∃ x x1, ClsV (.ty "bool") x1 ∧ TyX K H (.int i) x ∧ ∃ b, PySem.W.kitOne K x x1 = some b ∧ R b := ⟨.type "int", .type "bool", .ty _, .base (.int i), false, kit_ty (by decide +kernel), h⟩
theorem isi_bb (h : R true) : ∃ x x1, ClsV (.ty "bool") x1 ∧ TyX K H (.bl c) x ∧ ∃ b, PySem.W.kitOne K x x1 = some b ∧ R b := ⟨.type "bool", .type "bool", .ty _, .base (.bl c), true, kit_ty (by decide +kernel), h⟩
end
theorem eq_bl3 {K : PySem.W.Frag} {H : Hp} {a b : Addr} {x y z : Bool} {Q : VK} (ha : H a = some (.lst [.bl x, .bl y, .bl z])) (hb : H b = some (.lst [.bl x, .bl y, .bl z])) (k : Q (.bl true) H) : rEqD K (.ref a) (.ref b) H Q := by
  refine ⟨.list [.bool x, .bool y, .bool z], .list [.bool x, .bool y, .bool z], .lst (SqL.of ha) (.cons (.bl _) (.cons (.bl _) (.cons (.bl _) .nil))), .lst (SqL.of hb) (.cons (.bl _) (.cons (.bl _) (.cons (.bl _) .nil))), by rfl, by rfl, ?_⟩
  have e : PyData.eqv (.list [.bool x, .bool y, .bool z]) (.list [.bool x, .bool y, .bool z]) = true := by simp [PyData.eqv, PyData.eqvAll]
  rw [e]
  exact k
def gTupH (n : Nat) (t : TGs) : TG := fun v σ H Q => ∃ a xs, v = .ref a ∧ H a = some (.tup xs) ∧ xs.length = n ∧ t xs σ H Q
theorem pg_tupH {X : Cx} {es : List Expr} {k : Nat} {t : TGs} {n : Nat} {pos : Pos} (hc : X.calm = true) (h : PGs X es t)
    (hn : (assignEach es X.env).length = n := by rfl) (hst : (assignEach es X.env).findIdx? (·.1) = none := by rfl) : PG X (.Tuple es k pos) (gTupH n t) :=
  ⟨fun pins s σ H v u Q I r hw => by
    obtain ⟨a, xs, e1, e2, e3, e4⟩ := hw
    exact (pg_tup (pos := pos) (k := k) hc h hn hst).run pins s σ H v u Q I r ⟨a, xs, e1, SqT.of e2, e3, e4⟩⟩
theorem line_le {n : Nat} (h : n ≤ 1000) : n ≤ sizeLine := Nat.le_trans h (by decide)
theorem scal_ii {i j : Int} : scal (.int i) (.int j) = true := rfl
theorem scal_bb {i j : Bool} : scal (.bl i) (.bl j) = true := rfl
theorem scal_ss {i j : Str} : scal (.str i) (.str j) = true := rfl
theorem same_new {H : Hp} {p : Addr} {o : HO} (h : H p = none) : Same H (upd H p o) := fun b u e => by rw [upd_ne (ne_of_none e h)]; exact e
theorem seqL_same {K : PySem.W.Frag} {H H' : Hp} {a : Addr} {xs : List V} (e : Same H H') (h : SqL K H a xs) : SqL K H' a xs := e.seq h
theorem seqT_same {K : PySem.W.Frag} {H H' : Hp} {a : Addr} {xs : List V} (e : Same H H') (h : SqT K H a xs) : SqT K H' a xs :=
  h.elim (fun h => .inl (h.elim (fun h => .inl (e _ _ h)) fun ⟨o, h⟩ => .inr ⟨o, e _ _ h⟩)) fun h => .inr h
theorem upd_get {H : Hp} {p : Addr} {o u : HO} (h : H p = none) {b : Addr} (e : H b = some u) : upd H p o b = some u := by rw [upd_ne (ne_of_none e h)]; exact e
/-- floor division by any divisor below 2 ^ 9000 in size, not 0 -/
def CDivX (_ j : Int) : Prop := j ≠ 0 ∧ j.natAbs.log2 < 9000
theorem op_fdivX : OpR X (binaryOp .FloorDiv) (rI CDivX fun i j => .int (i.fdiv j)) := opI fun i j _ _ _ _ _ hc q => floordiv_int hc.1 q (.inl (PyProof.noPylong_of_log2 hc.2))
end

/-- an operator of the own class at C -/
structure Of (P : Program) (w : World) (K : PySem.W.Frag) (mg : Str → Option Value) (base : Heap) (C : Addr) (op : Operator) (k : Nat) (sp : Sp) : Prop where
  ex : ∃ (f : Addr) (fd : FuncData) (ps : List Str) (fo ro : Option Value), OpC K C op f ∧ Binds K fd ps [] ∧ FnOk P w K mg base (L2.CX P w) k f fd ps sp ∧
    PySem.W.findIn K (.type "int") (PySem.dunder op.info.2) = some fo ∧ PySem.W.findIn K (.type "int") (dunderR op.info.2) = some ro ∧ PySem.W.subIn K (.type "int") (.ref C) = some false
/-- -x of the own class at C -/
structure Nf (P : Program) (w : World) (K : PySem.W.Frag) (mg : Str → Option Value) (base : Heap) (C : Addr) (k : Nat) (sp : Sp) : Prop where
  ex : ∃ (f : Addr) (fd : FuncData) (ps : List Str), PySem.W.findIn K (.ref C) "__neg__" = some (some (.ref f)) ∧ PySem.W.isFn K (.ref f) = true ∧ Binds K fd ps [] ∧ FnOk P w K mg base (L2.CX P w) k f fd ps sp
/-- == of the own class at C -/
structure Ef (P : Program) (w : World) (K : PySem.W.Frag) (mg : Str → Option Value) (base : Heap) (C : Addr) (k : Nat) (sp : Sp) : Prop where
  ex : ∃ (f : Addr) (fd : FuncData) (ps : List Str), PySem.W.findIn K (.ref C) "__eq__" = some (some (.ref f)) ∧ PySem.W.isFn K (.ref f) = true ∧ Binds K fd ps [] ∧ FnOk P w K mg base (L2.CX P w) k f fd ps sp
/-- an own exception class at C, its __init__ keeps sp -/
structure Xf (P : Program) (w : World) (K : PySem.W.Frag) (mg : Str → Option Value) (base : Heap) (x : Str) (C : Addr) (k : Nat) (sp : Sp) : Prop where
  ex : ∃ (f : Addr) (fd : FuncData) (ps : List Str), mg x = some (.ref C) ∧ OexC K C ∧ PySem.W.findIn K (.ref C) "__init__" = some (some (.ref f)) ∧ PySem.W.typeIn K (.ref f) = some (.type "function") ∧ Binds K fd ps [] ∧ FnOk P w K mg base (L2.CX P w) k f fd ps sp
section
variable {X : Cx} {j k : Nat} {x : Str} {C : Addr} {sp : Sp} {E : XK} {op : Operator} {e : Expr} {es : List Expr} {t : TA} {p pos pos2 : Pos} {W : WX}
theorem op_o (c : Of X.prog X.w X.K X.mg X.base C op k sp) (hr : Room j X.A) (hk : k ≤ j) (hx : Passes (L2.CX X.prog X.w) X E) : OpR X (binaryOp op) (rOwn C sp E) := by
  obtain ⟨f, fd, ps, fo, ro, h1, h2, h3, h4, h5, h6⟩ := c.ex
  exact op_own h1 h3 (hr.mono hk) h2 hx h4 h5 h6
theorem un_o (c : Nf X.prog X.w X.K X.mg X.base C k sp) (hr : Room j X.A) (hk : k ≤ j) (hx : Passes (L2.CX X.prog X.w) X E) : UnR X (unaryOp .USub) (rOwn1 C sp E) := by
  obtain ⟨f, fd, ps, h1, h2, h3, h4⟩ := c.ex
  exact un_own h1 h2 h4 (hr.mono hk) h3 hx
theorem eq_o (c : Ef X.prog X.w X.K X.mg X.base C k sp) (hr : Room j X.A) (hk : k ≤ j) (hx : Passes (L2.CX X.prog X.w) X E) : OpR X (compareOp .Eq) (rOwnEq X.K C sp E) := by
  obtain ⟨f, fd, ps, h1, h2, h3, h4⟩ := c.ex
  exact op_ownEq h1 h2 h4 (hr.mono hk) h3 hx
theorem ps_raiseX (c : Xf X.prog X.w X.K X.mg X.base x C k sp) (hr : Room j X.A) (hk : k + 1 ≤ j) (hc : X.calm = true) (tk : Takes X W) (hg : Gl X x) (ha : PA X (e :: es) t)
    (hdb : (x == ("__debug__" : Str)) = false := by decide) (he : starEach (e :: es) X.env = (false, eval e X.env) :: starEach es X.env := by rfl) (hpl : (backTo pos (starEach es X.env)).any (·.1) = false := by rfl) :
    PS X (.Raise (some (.Call (.Name x p) (e :: es) [] pos)) none pos2) (fun _ σ H => tMkO C sp [] t σ H fun cls d H' => W cls d σ H') := by
  obtain ⟨f, fd, ps, h1, h2, h3, h4, h5, h6⟩ := c.ex
  exact ps_raise hc tk (pmk_oex h2 h3 h4 h6 (hr.mono hk) h5 .nil passL hg h1 ha hdb he hpl)
theorem passX (hs : X.stack = X.env :: X.outer) (hf : X.env.frame = some X.env.locals) (hex : X.ex = []) {E₁ : Value → Shared → Prop}
    (hx : X.xe = fun e s' => wpAny (model X.prog X.w) X.A (leaving X.env e) (fun _ s'' => CX X.prog X.w X.outer X.H_0 X.s_0 E e s'') E₁ s') : Passes (L2.CX X.prog X.w) X E :=
  passes_call (takes_of hs hf hex hx) fun _ _ _ _ z => z
end
/-! ### own exceptions with fields -/
/-- __init__(self, a, b): self.a = a; self.b = b -/
def spX2 (C : Addr) (f1 f2 : Str) : Sp := fun vs H Q _ => ∃ (a : Addr) (x y : V), vs = [.ref a, x, y] ∧ H a = some (exo a C none) ∧
  ∀ d, H d = none → d ≠ a → Q .non (upd (upd (upd H d (exd d [(f1, x)])) a (exo a C (some d))) d (exd d [(f2, y), (f1, x)]))
def spX1 (C : Addr) (f1 : Str) : Sp := fun vs H Q _ => ∃ (a : Addr) (x : V), vs = [.ref a, x] ∧ H a = some (exo a C none) ∧
  ∀ d, H d = none → d ≠ a → Q .non (upd (upd H d (exd d [(f1, x)])) a (exo a C (some d)))
theorem x2_made {H1 : Hp} {a d C : Addr} {f1 f2 : Str} {x y : V} {Q : XK} (ha : H1 a = none) (hd : H1 d = none) (hda : d ≠ a)
    (k : ∀ H', Same H1 H' → H' d = some (.xd [(f2, y), (f1, x)]) → Q (.ref C) (some d) H') :
    ∃ (d' : Addr), (upd (upd (upd (upd H1 a (exo a C none)) d (exd d [(f1, x)])) a (exo a C (some d))) d (exd d [(f2, y), (f1, x)])) a = some (exo a C (some d')) ∧ ∃ (fs : List (Str × V)),
      (upd (upd (upd (upd H1 a (exo a C none)) d (exd d [(f1, x)])) a (exo a C (some d))) d (exd d [(f2, y), (f1, x)])) d' = some (exd d' fs) ∧ H1 d' = none ∧
      Q (.ref C) (some d') (upd (del (upd (upd (upd (upd H1 a (exo a C none)) d (exd d [(f1, x)])) a (exo a C (some d))) d (exd d [(f2, y), (f1, x)])) a) d' (.xd fs)) := by
  refine ⟨d, by rw [upd_ne hda.symm, upd_same], _, upd_same, hd, k _ (fun b o e => ?_) upd_same⟩
  have n1 := ne_of_none e ha
  have n2 := ne_of_none e hd
  rw [upd_ne n2, del_ne n1, upd_ne n2, upd_ne n1, upd_ne n2, upd_ne n1]
  exact e
theorem x1_made {H1 : Hp} {a d C : Addr} {f1 : Str} {x : V} {Q : XK} (ha : H1 a = none) (hd : H1 d = none) (hda : d ≠ a)
    (k : ∀ H', Same H1 H' → H' d = some (.xd [(f1, x)]) → Q (.ref C) (some d) H') :
    ∃ (d' : Addr), (upd (upd (upd H1 a (exo a C none)) d (exd d [(f1, x)])) a (exo a C (some d))) a = some (exo a C (some d')) ∧ ∃ (fs : List (Str × V)),
      (upd (upd (upd H1 a (exo a C none)) d (exd d [(f1, x)])) a (exo a C (some d))) d' = some (exd d' fs) ∧ H1 d' = none ∧
      Q (.ref C) (some d') (upd (del (upd (upd (upd H1 a (exo a C none)) d (exd d [(f1, x)])) a (exo a C (some d))) a) d' (.xd fs)) := by
  refine ⟨d, upd_same, _, by rw [upd_ne hda, upd_same], hd, k _ (fun b o e => ?_) upd_same⟩
  have n1 := ne_of_none e ha
  have n2 := ne_of_none e hd
  rw [upd_ne n2, del_ne n1, upd_ne n1, upd_ne n2, upd_ne n1]
  exact e
end L2
end

section
/-! Lambdas handed to a def of the text; the tables of code objects beside a thing that changes. -/
namespace L2
open PySem PySem.Spec PyProof.Rows LamX
section
variable {P : Program} {w : World} {K : PySem.W.Frag} {mg : Str → Option Value} {base : Heap} {x qual : Str} {params : Arguments} {body : List Stmt} {scope : Scope} {dvs : List V} {kws : List (Str × V)} {f : Addr} {fd : FuncData}
/-- a def that lets no exception out, its code object named -/
theorem FunD.okC {N ps : List Str} {k : Nat} {sp : Sp} (F : FunD K x qual params body scope dvs kws f fd) (S : FnScope N ps scope) (len : ∀ vs H Q E, sp vs H Q E → vs.length = ps.length)
    (hbody : ∀ (A : Around) (outer : List Env) (s : Shared) (H : Hp) (vs : List V) (Q : VK) (E : XK), Room k (A.deeper (envOfC qual scope s.heap.objs.size f fd.code)) → sp vs H Q E →
      ∃ t, PSs (cxOf (L2.CX P w) P w K mg base N qual scope f fd.code A outer s H E).nox body t ∧ t { nx := fun _ H' => Q .non H', rt := Q } (start N vs) H) : FnOk P w K mg base (L2.CX P w) (k + 1) f fd ps sp := by
  obtain ⟨oc, od, dV, kV, doc, pm, an, cdv, ct, osl, rfl, lk, hcd, _, _⟩ := F.ex
  exact fn_of lk hcd S len fun A outer s H vs Q E hr hsp => let ⟨t, h, q⟩ := hbody A outer s H vs Q E hr hsp; ⟨t, h.nox, q⟩
end
section
variable {X : Cx}
/-- x(lambda: body), x a def of the text -/
theorem pe_lamF {T : List (Addr × Str)} {TT : (XK → Hp → VK → Prop) → Hp → VK → Prop} {x a : Str} {g c P : Addr} {fdg : FuncData} {k : Nat} {pg : Arguments} {bg : List Stmt} {sg : Scope} {Ng : List Str}
    {params : Arguments} {body : Expr} {scope : Scope} {t : XK → TE} {p lpos pos : Pos} (F : FunD X.K x x pg bg sg [] [] g fdg) (bB : Binds X.K fdg [a] []) (hg : Gl X x) (hm : X.mg x = some (.ref g)) (Sg : FnScope Ng [a] sg) (hNg : Ng[0]? = some a) (hva : Vis sg a)
    (hG : ∀ cdg : Value, GivesTo X Ng x sg g cdg bg a (X.env.qual ++ "<lambda>") TT)
    (TB : TabB X.base X.mg c P) (hcode : X.env.code = .ref c) (hmT : (P, X.env.qual ++ "<lambda>") ∈ T) (hu : ∀ p ∈ T, p.1 = P → p.2 = X.env.qual ++ "<lambda>") (hr : Room (k + 2) X.A) (L : LamS X.env.scope scope) (hdef : defaultsOf params X.env = ([], []))
    (hbind : ∀ (q : Str) (cl : List (Str × Addr)) (pm cv ctv : Value), bindArgs (PySem.W.kla_fn "<lambda>" q params body scope cl pm cv ctv) ⟨[], []⟩ = pure [])
    (hbody : ∀ (A : Around) (outer : List Env) (s : Shared) (H : Hp) (E : XK) (f c' : Addr), Room k (A.deeper (lamEnv X scope s.heap.objs.size f c')) → PE (lamCx X A outer s H E scope f c') body (t E))
    (hdb : (x == ("__debug__" : Str)) = false := by decide) (hd : (a == ("__debug__" : Str)) = false := by decide) (hcd : (a == ("__classdict__" : Str)) = false := by decide) :
    PE X (.Call (.Name x p) [.Lambda params body scope lpos] [] pos) (tLam T TT t) := by
  obtain ⟨oc, od, dV, kV, doc, pm, an, cdv, ct, osl, rfl, lk, hcg, _, _⟩ := F.ex
  exact pe_lamcall hg hm F.kp lk hcg bB Sg hNg hva (hG cdv) TB hcode hmT hu hr L hdef hbind hbody hdb hd hcd
end
/-- at a raise, all slots are there -/
theorem takes_len {X : Cx} {W : WX} (t : Takes X W) : Takes X (fun cls d σ H => σ.length = X.N.length → W cls d σ H) := fun e s1 h => by
  obtain ⟨a, B, sI, pins, σ', H', cls, d, e1, J, r1, r2, r3, r4, r5, r6, z⟩ := h
  exact t e s1 ⟨a, B, sI, pins, σ', H', cls, d, e1, J, r1, r2, r3, r4, r5, r6, z J.len⟩
theorem Room.u200 {k : Nat} {A : Around} (r : Room k A) : A.units + 200 < cLine := by have := r.un; omega
theorem mem1 {P : Addr} {q : Str} : ∀ p ∈ [(P, q)], p.1 = P → p.2 = q := fun p hp _ => by rw [List.mem_singleton.mp hp]
abbrev qL : Str := ("law" : Str) ++ ".<locals>." ++ "<lambda>"
/-- the tables, the heap changed at p only, which is neither a table nor a code object -/
theorem tabS_at {H H' : Hp} {T p : Addr} {q : Str} {o : HO} (t : TabS H T q) (hp : H p = some o) (h1 : ∀ ps, o ≠ .tbl ps) (h2 : ∀ c, o ≠ CodeO c q) (e : ∀ b u, b ≠ p → H b = some u → H' b = some u) : TabS H' T q := by
  obtain ⟨ps, e1, e2, e3⟩ := t
  refine ⟨ps, e _ _ (fun z => ?_) e1, e2, fun pos cv hc => ?_⟩
  · rw [z, hp] at e1
    exact h1 _ (Option.some.inj e1)
  · obtain ⟨c, r1, r2⟩ := e3 pos cv hc
    refine ⟨c, r1, e _ _ (fun z => ?_) r2⟩
    rw [z, hp] at r2
    exact h2 _ (Option.some.inj r2)
theorem tabs_at {T : List (Addr × Str)} {H H' : Hp} {p : Addr} {o : HO} (t : Tabs T H) (hp : H p = some o) (h1 : ∀ ps, o ≠ .tbl ps) (h2 : ∀ c q, o ≠ CodeO c q) (e : ∀ b u, b ≠ p → H b = some u → H' b = some u) : Tabs T H' :=
  fun z hz => tabS_at (t z hz) hp h1 (fun c => h2 c _) e
theorem ne_bls {K : PySem.W.Frag} {H : Hp} {a b : Addr} {Q : VK} (bs : List Bool) (ha : H a = some (.lst (bs.map V.bl))) (hb : H b = some (.lst (bs.map V.bl))) (sh : SeqAt.shaped (.list (bs.map PyData.bool)) = true) (k : Q (.bl false) H) : rNeD K (.ref a) (.ref b) H Q := by
  have d : ∀ (l : List Bool), DpAll K H (l.map V.bl) (l.map PyData.bool) := fun l => by
    induction l with
    | nil => exact .nil
    | cons x l ih => exact .cons (.bl x) ih
  refine ⟨.list (bs.map .bool), .list (bs.map .bool), .lst (SqL.of ha) (d bs), .lst (SqL.of hb) (d bs), sh, sh, ?_⟩
  have e : ∀ l : List Bool, PyData.eqvAll (l.map PyData.bool) (l.map PyData.bool) = true := fun l => by
    induction l with
    | nil => rfl
    | cons x l ih => simp [PyData.eqvAll, PyData.eqv, ih]
  have e2 : PyData.eqv (.list (bs.map PyData.bool)) (.list (bs.map PyData.bool)) = true := by simp [PyData.eqv, e]
  rw [e2]
  exact k
/-- what is asked of an own exception class whose fields are read -/
structure XrC (K : PySem.W.Frag) (C : Addr) (f1 f2 : Str) : Prop where
  T : XfC K C
  n1 : PySem.W.findIn K (.ref C) f1 = some none
  n2 : PySem.W.findIn K (.ref C) f2 = some none
  me : PySem.W.exmOne K (.ref C) (.ref C) = some true
/-- calls; only the exception with these two fields is wished -/
def TBot (CB : Addr) (f1 f2 : Str) (v1 v2 : V) : (XK → Hp → VK → Prop) → Hp → VK → Prop := fun tl H Q =>
  tl (fun cls d H' => cls = .ref CB ∧ ∃ dd, d = some dd ∧ H' dd = some (.xd [(f2, v2), (f1, v1)]) ∧ ∀ H'', Same H' H'' → Q (.bl true) H'') H fun _ H' => Q (.bl false) H'
theorem eq_sn {K : PySem.W.Frag} {H : Hp} {a b : Addr} {i j : Str} {m n : Int} {Q : VK} (ha : H a = some (.tup [.str i, .int m])) (hb : H b = some (.tup [.str j, .int n])) (si : SeqAt.shaped (.tuple [.str i, .int m]) = true) (sj : SeqAt.shaped (.tuple [.str j, .int n]) = true) (k : Q (.bl (decide (i = j ∧ m = n))) H) : rEqD K (.ref a) (.ref b) H Q := by
  refine ⟨.tuple [.str i, .int m], .tuple [.str j, .int n], .tup (SqT.of ha) (.cons (.str _) (.cons (.int _) .nil)), .tup (SqT.of hb) (.cons (.str _) (.cons (.int _) .nil)), si, sj, ?_⟩
  have e : PyData.eqv (.tuple [.str i, .int m]) (.tuple [.str j, .int n]) = decide (i = j ∧ m = n) := by
    simp [PyData.eqv, PyData.eqvAll, Bool.beq_eq_decide_eq]
  rw [e]
  exact k
end L2
end

section
/-! What the head's facts are asked beside the library's: exceptions with an __init__, operators. -/
namespace HwH
open PySem PySem.Spec PyProof.Rows L2 He
def oexB (K : PySem.W.Frag) (C : Addr) : Bool := (match K.lookup C with
  | some ⟨.type ty, _, .cls cd, sl⟩ => decide (ty = "type") && (cd.hasDict && (!cd.hasDel && ((match cd.mro with
    | .ref c :: bm => decide (c = C) && PySem.HandSPX.refsVE bm
    | _ => false) && (match sl.toList with
    | [_, _, _, _, some (.builtin nid), _] => decide (nid = "ValueError.__new__")
    | _ => false))))
  | _ => false) && (eqO (PySem.W.findIn K (.ref C) "__setattr__") (some (some (.builtin "object.__setattr__"))) && (decide (PySem.W.subIn K (.ref C) (.type "BaseException") = some true) && (decide (PySem.W.typeIn K (.ref C) = some (.type "type")) && PySem.W.keepIn K (.ref C))))
theorem oexB_ok {K : PySem.W.Frag} {C : Addr} (h : oexB K C = true) : OexC K C := by
  obtain ⟨h1, h⟩ := ba h
  obtain ⟨h2, h⟩ := ba h
  obtain ⟨h3, h⟩ := ba h
  obtain ⟨h4, h5⟩ := ba h
  refine ⟨?_, eqO_ok h2, of_decide_eq_true h3, of_decide_eq_true h4, h5⟩
  cases q : K.lookup C with
  | none =>
    rw [q] at h1
    cases h1
  | some o =>
    obtain ⟨oc, od, dt, sl⟩ := o
    rw [q] at h1
    cases oc with
    | type ty =>
      cases dt with
      | cls cd =>
        obtain ⟨nm, bs, mro, ns, qn, hd, sn, sub, ab, col, hdel⟩ := cd
        obtain ⟨g1, h1⟩ := ba h1
        obtain ⟨g2, h1⟩ := ba h1
        obtain ⟨g3, h1⟩ := ba h1
        obtain ⟨g4, g5⟩ := ba h1
        obtain ⟨sl⟩ := sl
        have e1 : ty = "type" := of_decide_eq_true g1
        have e2 : hd = true := g2
        have e3 : hdel = false := by
          have : (!hdel) = true := g3
          simpa using this
        subst e1 e2 e3
        match mro, g4 with
        | .ref c :: bm, g4 =>
          obtain ⟨g6, g7⟩ := ba g4
          have e4 : c = C := of_decide_eq_true g6
          subst e4
          match sl, g5 with
          | [k0, k1, k2, k3, some (.builtin nid), k5], g5 =>
            have e5 : nid = "ValueError.__new__" := of_decide_eq_true g5
            subst e5
            exact ⟨nm, qn, ns, bs, bm, sn, sub, ab, col, od, k0, k1, k2, k3, k5, rfl, g7⟩
      | _ => cases h1
    | _ => cases h1
def opB (K : PySem.W.Frag) (C : Addr) (op : Operator) : Bool := PySem.W.selfFirst K C && (eqO (PySem.W.findIn K (.ref C) (PySem.dunder op.info.2)) (some (some (.ref (ma K C (PySem.dunder op.info.2))))) && (PySem.W.isFn K (.ref (ma K C (PySem.dunder op.info.2))) && (eqO (PySem.W.findIn K (.ref C) (dunderR op.info.2)) (some none) &&
  ((PySem.W.findIn K (.type "int") (PySem.dunder op.info.2)).isSome && ((PySem.W.findIn K (.type "int") (dunderR op.info.2)).isSome && decide (PySem.W.subIn K (.type "int") (.ref C) = some false))))))
theorem opB_ok {K : PySem.W.Frag} {C : Addr} {op : Operator} (h : opB K C op = true) : OpC K C op (ma K C (PySem.dunder op.info.2)) ∧ ∃ fo ro, PySem.W.findIn K (.type "int") (PySem.dunder op.info.2) = some fo ∧ PySem.W.findIn K (.type "int") (dunderR op.info.2) = some ro ∧ PySem.W.subIn K (.type "int") (.ref C) = some false := by
  obtain ⟨h1, h⟩ := ba h
  obtain ⟨h2, h⟩ := ba h
  obtain ⟨h3, h⟩ := ba h
  obtain ⟨h4, h⟩ := ba h
  obtain ⟨h5, h⟩ := ba h
  obtain ⟨h6, h7⟩ := ba h
  obtain ⟨fo, e5⟩ := Option.isSome_iff_exists.mp h5
  obtain ⟨ro, e6⟩ := Option.isSome_iff_exists.mp h6
  exact ⟨⟨h1, eqO_ok h2, h3, eqO_ok h4⟩, fo, ro, e5, e6, of_decide_eq_true h7⟩
/-- a method that is reached through a special name -/
def spcB (K : PySem.W.Frag) (C : Addr) (m : Str) : Bool := eqO (PySem.W.findIn K (.ref C) m) (some (some (.ref (ma K C m)))) && PySem.W.isFn K (.ref (ma K C m))
theorem spcB_ok {K : PySem.W.Frag} {C : Addr} {m : Str} (h : spcB K C m = true) : PySem.W.findIn K (.ref C) m = some (some (.ref (ma K C m))) ∧ PySem.W.isFn K (.ref (ma K C m)) = true := by
  obtain ⟨h1, h2⟩ := ba h
  exact ⟨eqO_ok h1, h2⟩
def iniB (K : PySem.W.Frag) (C : Addr) : Bool := eqO (PySem.W.findIn K (.ref C) "__init__") (some (some (.ref (ma K C "__init__")))) && decide (PySem.W.typeIn K (.ref (ma K C "__init__")) = some (.type "function"))
theorem iniB_ok {K : PySem.W.Frag} {C : Addr} (h : iniB K C = true) : PySem.W.findIn K (.ref C) "__init__" = some (some (.ref (ma K C "__init__"))) ∧ PySem.W.typeIn K (.ref (ma K C "__init__")) = some (.type "function") := by
  obtain ⟨h1, h2⟩ := ba h
  exact ⟨eqO_ok h1, of_decide_eq_true h2⟩
def xrB (K : PySem.W.Frag) (C : Addr) (f1 f2 : Str) : Bool := xfB K C && (eqO (PySem.W.findIn K (.ref C) f1) (some none) && (eqO (PySem.W.findIn K (.ref C) f2) (some none) && decide (PySem.W.exmOne K (.ref C) (.ref C) = some true)))
theorem xrB_ok {K : PySem.W.Frag} {C : Addr} {f1 f2 : Str} (h : xrB K C f1 f2 = true) : XrC K C f1 f2 := by
  obtain ⟨h1, h⟩ := ba h
  obtain ⟨h2, h⟩ := ba h
  obtain ⟨h3, h4⟩ := ba h
  exact ⟨xfB_ok h1, eqO_ok h2, eqO_ok h3, of_decide_eq_true h4⟩
def bfunB (K : PySem.W.Frag) (x : Str) (id : String) : Bool := eqO (PySem.W.nsIn K mainGlobals x) (some (some (.builtin id)))
theorem bfunB_ok {K : PySem.W.Frag} {h : Heap} {mg : Str → Option Value} (X : K.In h) (G : h.Ns mainGlobals mg) {x : Str} {id : String} (c : bfunB K x id = true) : mg x = some (.builtin id) := PySem.W.mg_of X G (eqO_ok c)
/-- a def's code object, its table -/
theorem code_of {K : PySem.W.Frag} {p : Defn} {x qual : Str} {params : Arguments} {body : List Stmt} {scope : Scope} {dvs : List V} {kws : List (Str × V)} {fd : FuncData} (F : FunD K x qual params body scope dvs kws (fAd K p) fd) : fd.code = .ref (codeOf K p) := by
  obtain ⟨oc, od, dV, kV, doc, pm, an, cdv, ct, osl, rfl, lk, hcd, _, _⟩ := F.ex
  obtain ⟨c, rfl⟩ := codeIn_ref hcd
  rw [codeOf_eq lk rfl]
end HwH
end

section
/-! Own exceptions as values; texts of data by repr. -/
namespace L2
open PySem PySem.Spec PyProof.Rows LamX
section
variable {X : Cx}
/-! ### isinstance of own exceptions -/
/-- what a class of exceptions must say, for isinstance and for fields -/
structure EvC (K : PySem.W.Frag) (C : Addr) : Prop where
  T : XfC K C
  ha : PySem.W.findIn K (.ref C) "__class__" = some (some (.builtin "object.__class__"))
  hn : PySem.W.specialIn K (.builtin "object.__class__") "__get__" = some (some (.builtin "getset_descriptor.__get__"))
  ht : PySem.W.takesIn K (.builtin "object.__class__") = some true
  hm : PySem.W.mroIn K C (.type "object") = some true
theorem EvC.kit {K : PySem.W.Frag} {C x : Addr} {ox : Obj} {od : Option Obj} (c : EvC K C) : PySem.W.KitX K (.ref x) (.ref C) (fun h => PySem.W.InstAt h x ox C od) :=
  PySem.W.kitx_exc (by obtain ⟨cd, e, _⟩ := PySem.W.any_some c.T.hdC; rw [e]; rfl) c.T.ga c.T.gg c.T.exC c.ha c.hn c.ht c.hm
/-- an exception held at a, of class C, with these fields -/
def ExV (H : Hp) (C : Addr) (x : V) (fs : List (Str × V)) : Prop := ∃ a, x = .ref a ∧ ((fs = [] ∧ H a = some (exo a C none)) ∨ ∃ d, H a = some (exo a C (some d)) ∧ H d = some (exd d fs))
def rIsX (K : PySem.W.Frag) : List V → Hp → VK → Prop := fun xs H Q => ∃ (x c : V) (C : Addr) (fs : List (Str × V)) (u : Value) (b : Bool), xs = [x, c] ∧ ExV H C x fs ∧ EvC K C ∧ ClsV c u ∧ PySem.W.kitOne K (.ref C) u = some b ∧ Q (.bl b) H
theorem inst_of {pins : List (Addr × Obj)} {σ : L2.St} {H : Hp} {s : Shared} {C a : Addr} {fs : List (Str × V)} (I : Inv X pins σ H s) (h : (fs = [] ∧ H a = some (exo a C none)) ∨ ∃ d, H a = some (exo a C (some d)) ∧ H d = some (exd d fs)) :
    ∃ ox od, PySem.W.InstAt s.heap a ox C od ∧ (od.isSome = true → ∃ d o, od = some o ∧ H d = some (exd d fs) ∧ s.heap.get? d = some o) := by
  rcases h with ⟨_, h⟩ | ⟨d, h, hd⟩
  · obtain ⟨t, ho⟩ := exo_at I.hok h
    exact ⟨_, none, ⟨ho, rfl, rfl, trivial⟩, fun z => by cases z⟩
  · obtain ⟨t, ho⟩ := exo_at I.hok h
    obtain ⟨mA, hns, rel⟩ := exd_at I.hok hd
    obtain ⟨o, es, ep, e1, e2, e3⟩ := hns
    exact ⟨_, some o, ⟨ho, rfl, rfl, e1⟩, fun _ => ⟨d, o, rfl, hd, e1⟩⟩
theorem call_isX {K : PySem.W.Frag} (hK : X.K = K) : CallR X (.builtin "isinstance") (rIsX K) := by
  subst hK
  intro pins s σ H xs us Q I r h
  obtain ⟨x, c, C, fs, cv, b, rfl, ⟨a, rfl, hx⟩, hc, hv, hk, q⟩ := h
  obtain ⟨u1, u2, rfl, r1, r2⟩ := r.two
  obtain rfl : u1 = Value.ref a := r1
  obtain ⟨ox, od, J, _⟩ := inst_of I hx
  have e2 : u2 = cv := by
    cases hv with
    | _ => first | exact r2 | exact r2.symm | (cases r2; rfl)
  subst e2
  exact PySem.W.kia_one hc.kit I.kIn J hk (fun z => nomatch z) fun tk => ⟨.bl b, H, I.kept (t' := tk) fun _ _ z => z, rfl, q⟩
/-! ### fields -/
def tXv (K : PySem.W.Frag) (te : TE) (n : Str) : TE := fun σ H Q => te σ H fun x H1 => ∃ (C : Addr) (fs : List (Str × V)) (v : V), ExV H1 C x fs ∧ EvC K C ∧ PySem.W.findIn K (.ref C) n = some none ∧ fs.lookup n = some v ∧ Q v H1
theorem pe_xv {K : PySem.W.Frag} {e : Expr} {te : TE} {pos : Pos} {n : Str} (hK : X.K = K) (he : PE X e te) (hb : attributeBase e n X.env (eval e X.env) = eval e X.env := by rfl) : PE X (.Attribute e n pos) (tXv K te n) := by
  subst hK
  refine ⟨fun pins s σ H Q I h => attr_of hb (thn (he.run pins s σ H _ I h) fun u s1 hh => ?_)⟩
  obtain ⟨x, H1, I1, rx, C, fs, v, ⟨a, rfl, hx⟩, hc, hno, l, q⟩ := hh
  obtain rfl : u = Value.ref a := rx
  rcases hx with ⟨rfl, _⟩ | ⟨d, hx, hd⟩
  · cases l
  obtain ⟨t, ho⟩ := exo_at I1.hok hx
  obtain ⟨mA, hns, rel⟩ := exd_at I1.hok hd
  obtain ⟨oD, es, ep, e1, e2, e3⟩ := id hns
  obtain ⟨od, hod, hl⟩ := lookIn_ns ⟨_, es, ep, e1, e2, e3⟩
  have hod' : oD = od := by rw [e1] at hod; exact Option.some.inj hod
  obtain ⟨w', hw, rw'⟩ := RelO.some_of (v := v) (o := mA n) (by rw [← l]; exact rel n)
  have J : PySem.W.InstAt s1.heap a _ C (some od) := ⟨ho, rfl, rfl, hod⟩
  exact HandSPX.exc_get I1.kIn J hc.T.ga hc.T.gg hc.T.exC (PySem.W.findObj_own hc.T.hdC hno rfl (by rw [hl, hw])) (handed_of rw') ⟨v, H1, I1.tok _, rw', q⟩
/-! ### making one -/
def tMkV (C : Addr) (sp : Sp) (ta : TA) : TE := fun σ H Q => ta σ H fun vs H1 => vs.length ≤ 1000 ∧ ∀ a, H1 a = none → sp (.ref a :: vs) (upd H1 a (exo a C none)) (fun v H2 => v = .non ∧ Q (.ref a) H2) (fun _ _ _ => False)
theorem pe_mkV {j k : Nat} {x : Str} {C : Addr} {sp : Sp} {e : Expr} {es : List Expr} {ta : TA} {p pos : Pos} (c : Xf X.prog X.w X.K X.mg X.base x C k sp) (hr : Room j X.A) (hk : k + 1 ≤ j) (hx : Passes (L2.CX X.prog X.w) X (fun _ _ _ => False)) (hg : Gl X x) (ha : PA X (e :: es) ta)
    (hdb : (x == ("__debug__" : Str)) = false := by decide) (he : starEach (e :: es) X.env = (false, eval e X.env) :: starEach es X.env := by rfl) (hpl : (backTo pos (starEach es X.env)).any (·.1) = false := by rfl) :
    PE X (.Call (.Name x p) (e :: es) [] pos) (tMkV C sp ta) := by
  obtain ⟨fI, fd, ps, hm, T, iC, tI, hb, F1⟩ := c.ex
  refine ⟨fun pins s σ H Q I h => ?_⟩
  obtain ⟨nm, qn, N, bs, bm, sn, sub, ab, col, dd, k0, k1, k2, k3, k5, hC, hbm⟩ := T.cls
  refine wpAny_Call_Name_kw (ld_glob I hg hm ?_ hdb)
  refine PySem.W.callWith_K (h₀ := X.base) I.ok.mod.kin T.kC (thn (ha.run pos pins s σ H _ I h) fun us s1 hh => ?_) he hpl
  obtain ⟨vs, H1, I1, r1, hz, q1⟩ := hh
  refine ⟨I1.kIn, ?_⟩
  show wpAny _ _ (call (.ref C) us) _ _ _
  obtain ⟨hp, g, dr, tk, os⟩ := s1
  have at_ : ((hp.push (PySem.W.kdv_tup us)).push (PySem.HandSPX.excO C hp.objs.size)).get? (hp.objs.size + 1) = some (PySem.HandSPX.excO C hp.objs.size) := by heap_get
  have new : H1 (hp.objs.size + 1) = none := I1.hok.fresh (Nat.le_succ _)
  have hq := q1 (hp.objs.size + 1) new
  have I2 := I1.laid (t' := tk) (a := hp.objs.size + 1) (o := exo (hp.objs.size + 1) C none) (h' := (hp.push (PySem.W.kdv_tup us)).push (PySem.HandSPX.excO C hp.objs.size)) (fun b o z => Heap.get?_push_of_some _ (Heap.get?_push_of_some _ z)) (Nat.le_succ _) (exo_ok at_)
  have r2 : Vals (V.ref (hp.objs.size + 1) :: vs) (Value.ref (hp.objs.size + 1) :: us) := .cons rfl r1
  have lens : (Value.ref (hp.objs.size + 1) :: us ++ []).length = ps.length := by
    rw [List.append_nil, ← r2.length]
    exact F1.len _ _ _ _ hq
  have hus : us.length ≤ sizeLine := by
    rw [← Paired.length r1]
    exact line_le hz
  refine wpAny_call (PySem.HandSPX.call_own F.excBase_ValueError (fun Y => PySem.HandSPX.refsVE_contains Y bm hbm) (I1.kIn _ _ hC) (PySem.W.looks_findIn I1.kIn iC) (fun self => PySem.W.bind_fn I1.kIn self tI) hus
    (codeAny_mono (F1.run _ X.stack _ _ ⟨Value.ref (hp.objs.size + 1) :: us, []⟩ (Value.ref (hp.objs.size + 1) :: us) _ _ (fun _ _ _ => False) ((hr.mono hk).make C us []) (I2.env0.make C us []) (by have := hb _ (Value.ref (hp.objs.size + 1) :: us) I2.kIn lens; simpa using this) r2 hq) fun r s' out => ?_))
  cases r with
  | error er => exact hx pins σ _ _ er s' I2 out
  | ok fl =>
    cases fl with
    | next => exact False.elim out
    | brk => exact False.elim out
    | cont => exact False.elim out
    | ret u =>
      obtain ⟨v, H2, os2, bare2, un2, hok2, rv, ev, q2⟩ := out
      subst ev
      exact ⟨rv, .ref (hp.objs.size + 1), H2, I2.call' (ch := []) os2 un2 hok2 bare2 (fun b z => absurd z (by simp)), rfl, q2⟩
end
end L2
namespace L2
open PySem PySem.Spec PyProof.Rows LamX
section
variable {X : Cx}
/-! ### classes without an own __init__ -/
abbrev veB : List Value := [.type "ValueError", .type "Exception", .type "BaseException", .type "object"]
theorem pe_mk0 {C : Addr} {x : Str} {p pos : Pos} (ok : PySem.W.excIn X.K C veB "ValueError.__new__" = true) (gC : X.mg x = some (.ref C)) (kC : PySem.W.keepIn X.K (.ref C) = true) (hg : Gl X x) (hdb : (x == ("__debug__" : Str)) = false := by decide) :
    PE X (.Call (.Name x p) [] [] pos) (fun _ H Q => ∀ a, H a = none → Q (.ref a) (upd H a (exo a C none))) := by
  refine ⟨fun pins s σ H Q I h => wpAny_Call_Name_kw (ld_glob I hg gC (PySem.W.callWith_K0 I.kIn kC ?_) hdb)⟩
  obtain ⟨bm, N, nm, qn, bs, hdct, sn, sub, ab, col, dd, k0, k1, k2, k3, k5, mN, hC, hN, hni, T⟩ := exc_obj I.kIn ok
  refine wpAny_call_exc_subT F.excBase_ValueError T hC hN hni (fun h' a mk => ?_) (Nat.zero_le _)
  have fresh := I.hok.gone mk.new
  obtain ⟨t, there, _, _⟩ := mk.there
  exact ⟨.ref a, upd H a (exo a C none), I.laidN mk.keeps mk.new fresh (exo_ok there), rfl, h a fresh⟩
theorem pmk_0 {C : Addr} {x : Str} {p pos : Pos} (ok : PySem.W.excIn X.K C veB "ValueError.__new__" = true) (gC : X.mg x = some (.ref C)) (kC : PySem.W.keepIn X.K (.ref C) = true) (r : Raises X (.ref C)) (hg : Gl X x) (hdb : (x == ("__debug__" : Str)) = false := by decide) :
    PMk X (.Call (.Name x p) [] [] pos) (fun _ H Q => Q (.ref C) none H) := by
  intro pins s σ H Q I h
  refine wpAny_Call_Name_kw (ld_glob I hg gC (PySem.W.callWith_K0 I.kIn kC ?_) hdb)
  obtain ⟨bm, N, nm, qn, bs, hdct, sn, sub, ab, col, dd, k0, k1, k2, k3, k5, mN, hC, hN, hni, T⟩ := exc_obj I.kIn ok
  exact wpAny_call_exc_subT F.excBase_ValueError T hC hN hni (fun h' a mk => mk_of I mk r h (I.hok.gone mk.new)) (Nat.zero_le _)
/-! ### several except clauses, with names or without -/
abbrev HdA : Type := Option Nat × Value × (Addr → Value → Option Addr → TS)
/-- what follows a suite whose exception has a name in slot i -/
def dropS (i : Nat) (D : Ends) : Ends := { nx := fun τ G => D.nx (τ.set i none) G, rt := D.rt, bk := fun τ G => D.bk (τ.set i none) G, ct := fun τ G => D.ct (τ.set i none) G }
def wAll (K : PySem.W.Frag) (Wo : WX) (D : Ends) : List HdA → WX
  | [] => Wo
  | (none, c, ts) :: r => fun kl dd τ G => ∃ b, PySem.W.exmOne K kl c = some b ∧ (b = true → ∀ e, G e = none → ts e kl dd D τ G) ∧ (b = false → wAll K Wo D r kl dd τ G)
  | (some i, c, ts) :: r => fun kl dd τ G => ∃ b, PySem.W.exmOne K kl c = some b ∧ (b = true → ∀ e, G e = none → ts e kl dd (dropS i D) (τ.set i (some (.ref e))) G) ∧ (b = false → wAll K Wo D r kl dd τ G)
inductive HdsA (X : Cx) : List ExceptHandler → List HdA → Prop
  | nil : HdsA X [] []
  | plain {x : Str} {c : Value} {ts : Addr → Value → Option Addr → TS} {b₀ : Stmt} {suite : List Stmt} {np pos' : Pos} {hds : List ExceptHandler} {l : List HdA} (hc : Names X x c)
      (hsu : ∀ (e : Addr) (oe : Obj) (kl : Value) (dd : Option Addr) (pn : List (Addr × Obj)), Zc kl dd oe → (∃ vs, oe.data = .fields vs) → PSs (X.suite e ((e, oe) :: pn)) (b₀ :: suite) (ts e kl dd)) (r : HdsA X hds l) :
      HdsA X (.ExceptHandler (some (.Name x np)) none (b₀ :: suite) pos' :: hds) ((none, c, ts) :: l)
  | named {x n : Str} {i : Nat} {c : Value} {ts : Addr → Value → Option Addr → TS} {b₀ : Stmt} {suite : List Stmt} {np pos' : Pos} {hds : List ExceptHandler} {l : List HdA} (hi : X.N[i]? = some n) (hln : X.env.kindOf n = some .local) (hc : Names X x c)
      (hsu : ∀ (e : Addr) (oe : Obj) (kl : Value) (dd : Option Addr) (pn : List (Addr × Obj)), Zc kl dd oe → (∃ vs, oe.data = .fields vs) → PSs (X.suite e ((e, oe) :: pn)) (b₀ :: suite) (ts e kl dd)) (r : HdsA X hds l) :
      HdsA X (.ExceptHandler (some (.Name x np)) (some n) (b₀ :: suite) pos' :: hds) ((some i, c, ts) :: l)
variable {body : List Stmt} {h₀ : ExceptHandler} {hds : List ExceptHandler} {l : List HdA} {pos : Pos} {tb : WX → TS} {Wo : WX}
theorem ps_try_all (hs : X.stack = X.env :: X.outer) (hf : X.env.frame = some X.env.locals) (hN : X.N.Nodup) (tk : Takes X Wo)
    (hb : ∀ (W : WX) (pn : List (Addr × Obj)) (xe : Value → Shared → Prop), Takes (X.tr pn xe) W → PassesOwn (model X.prog X.w) X.A X.env xe → PSs (X.tr pn xe) body (tb W))
    (hh : HdsA X (h₀ :: hds) l) : PS X (.Try body (h₀ :: hds) [] [] pos) (fun D τ G => tb (wAll X.K Wo D l) D τ G) := by
  refine ⟨fun pins s σ H D I h => ?_⟩
  have good := I.ok
  have stk : X.A.frames = some (X.env :: X.outer) := by rw [good.frames, hs]
  refine wpAny_Try_except (wpAny_mono ((hb (wAll X.K Wo D l) (X.pn ++ pins) (fun u r1 => wpAny (model X.prog X.w) X.A (noteFrame u X.env) (fun _ r2 => wpAny (model X.prog X.w) X.A (setFlight u none) (fun _ r3 =>
    wpAny (model X.prog X.w) X.A (handleBy u X.env (h₀ :: hds)) (SP X pins D) X.xe r3) X.xe r2) X.xe r1) (fun u s1 air => ?_) PassesOwn.looking).run [] s σ H D (I.toTry _) h) (fun fl s1 out => ?_) (fun u s1 z => z))
  · obtain ⟨ea, Bo, s0, pins0, τ, G, kl, dd, rfl, J0, b1, u1, sk, n1, o1, g1, wz⟩ := air
    have J : Inv X pins τ G s0 := J0.ofTry good
    rw [hs] at sk
    show wpAny (model X.prog X.w) X.A (noteFrame (.ref ea) X.env) _ _ _
    refine Sky.land Zc.steady stk hf sk fun g3 f3 up3 => ?_
    have J3 : Inv X pins τ G { s1 with heap := g3 } := J.landed b1 f3.1 (u1.trans up3) o1 g1
    obtain ⟨o3, vs3, at3, z3, dt3⟩ := f3.there
    have off : ∀ {g : Heap} {o : Obj} {vs : Array Value}, g.FunFrames Bo (X.env :: X.outer) → g.get? ea = some o → o.data = .fields vs → ea ∉ frs (X.env :: X.outer) := fun {g o vs} ff y dy m => by
      obtain ⟨_, o', y', nf⟩ := ff.mem m
      rw [y] at y'
      cases y'
      exact nf _ dy
    have out3 := off f3.2.2.1 at3 dt3
    have nL : ea ≠ X.env.locals := fun z => out3 (List.mem_filterMap.mpr ⟨X.env, List.mem_cons_self, by rw [hf, z]⟩)
    have nF : ea ∉ X.fs := fun m => by
      obtain ⟨y, my, q⟩ := List.mem_filterMap.mp m
      exact out3 (List.mem_filterMap.mpr ⟨y, List.mem_cons_of_mem _ my, q⟩)
    have S3 := J3.suite at3 dt3 n1 nL nF
    have names : ∀ {x : Str} {c : Value} {np : Pos} {Q : Value → Shared → Prop} {E : Value → Shared → Prop}, Names X x c → Q c { s1 with heap := g3 } → wpAny (model X.prog X.w) (X.A.mark (some (.ref ea))) (eval (.Name x np) X.env) Q E { s1 with heap := g3 } := fun {x c np Q E} hc q => by
      obtain ⟨hg, hdb, hm | ⟨hm, hv, hn⟩⟩ := hc
      · exact ld_glob (X := X.suite ea ((ea, o3) :: (X.pn ++ pins))) S3 hg hm q hdb
      · exact ld_blt (X := X.suite ea ((ea, o3) :: (X.pn ++ pins))) S3 hg hm hv q hn hdb
    have kind : PySem.W.Looks (model X.prog X.w) g3 (typeOf (.ref ea)) kl := fun A Q E r k q => wpAny_typeOf_ref (k _ _ at3) (by rw [z3.1]; exact q)
    have go : ∀ {hs' : List ExceptHandler} {l' : List HdA}, HdsA X hs' l' → wAll X.K Wo D l' kl dd τ G → wpAny (model X.prog X.w) X.A (handleBy (.ref ea) X.env hs') (SP X pins D) X.xe { s1 with heap := g3 } := by
      intro hs' l' hk
      induction hk with
      | nil =>
        intro wz
        refine wpAny_handleBy_nil ?_
        obtain ⟨k1, k2, k3, oe, vs, T, oT, ts', y1, y2, y3, y4, y5⟩ := id f3
        unfold PySem.passOn
        refine wpAny_bind (wpAny_field y1 y3 y4 ?_)
        rw [if_neg (show ¬ ((Value.ref T == Value.none) = true) from by simp)]
        have on : wpAny (model X.prog X.w) X.A (setFlight (.ref ea) X.env.frame) (fun _ r4 => wpAny (model X.prog X.w) X.A (throw (.ref ea) : Sem Flow) (SP X pins D) X.xe r4) X.xe { s1 with heap := g3 } := by
          rw [hf]
          refine HandSPX.setFlight_upZ f3 fun g4 hold up4 => wpAny_throw (tk _ _ ?_)
          exact ⟨ea, Bo, s0, pins, τ, G, kl, dd, rfl, J, b1, (u1.trans up3).trans up4, .inr (.inr (by rw [hs]; exact hold)), n1, o1, g1, wz⟩
        first
          | exact wpAny_bind (wpAny_pure (wpAny_bind on))
          | exact wpAny_bind on
      | @plain x c ts b₀ suite np pos' hds2 l2 hc hsu r ih =>
        intro wz
        obtain ⟨b, hit, yes, no⟩ := wz
        refine wpAny_handleBy_cons (codeAny_handlers_test (names hc ((PySem.W.exm_one (M := model X.prog X.w) J3.kIn kind hit).here ?_))) (by intro q; cases q)
        cases b with
        | false => exact ih (no rfl)
        | true =>
          refine codeAny_handlers_suite (HandSPX.lands_againZ f3 fun g4 f4 up4 => ?_)
          have J4 : Inv X pins τ G { s1 with heap := g4 } := J.landed b1 f4.1 ((u1.trans up3).trans up4) o1 g1
          obtain ⟨o4, vs4, at4, z4, dt4⟩ := f4.there
          refine wpAny_mono ((hsu ea o4 kl dd (X.pn ++ pins) z4 ⟨_, dt4⟩).run [] _ τ G _ (J4.suite at4 dt4 n1 nL nF) (yes rfl ea n1)) (fun fl r6 o => ?_) (fun _ _ z => False.elim z)
          cases fl with
          | next => obtain ⟨τ6, G6, S6, q6⟩ := o; exact ⟨_, _, S6.unsuite good, q6⟩
          | brk => obtain ⟨τ6, G6, S6, q6⟩ := o; exact ⟨_, _, S6.unsuite good, q6⟩
          | cont => obtain ⟨τ6, G6, S6, q6⟩ := o; exact ⟨_, _, S6.unsuite good, q6⟩
          | ret u => obtain ⟨v6, τ6, G6, S6, r6, q6⟩ := o; exact ⟨_, _, _, S6.unsuite good, r6, q6⟩
      | @named x n i c ts b₀ suite np pos' hds2 l2 hi hln hc hsu r ih =>
        intro wz
        obtain ⟨b, hit, yes, no⟩ := wz
        refine wpAny_handleBy_cons (codeAny_handlers_test (names hc ((PySem.W.exm_one (M := model X.prog X.w) J3.kIn kind hit).here ?_))) (by intro q; cases q)
        cases b with
        | false => exact ih (no rfl)
        | true =>
          refine codeAny_handlers_suite_as (HandSPX.lands_againZ f3 fun g4 f4 up4 => ?_)
          have J4 : Inv X pins τ G { s1 with heap := g4 } := J.landed b1 f4.1 ((u1.trans up3).trans up4) o1 g1
          obtain ⟨o4, vs4, at4, z4, dt4⟩ := f4.there
          refine store_ok (X := X.suite ea ((ea, o4) :: (X.pn ++ pins))) (v := .ref ea) (J4.suite at4 dt4 n1 nL nF) hN hi (.inl hln) rfl (fun r5 S5 => ?_) (.inr hln)
          refine wpAny_mono ((hsu ea o4 kl dd (X.pn ++ pins) z4 ⟨_, dt4⟩).run [] r5 _ G _ S5 (yes rfl ea n1)) (fun fl r6 o => ?_) (fun _ _ z => False.elim z)
          cases fl with
          | next => obtain ⟨τ6, G6, S6, q6⟩ := o; exact gone_ok (S6.unsuite good) hN hi hln fun r7 J7 => ⟨_, _, J7, q6⟩
          | brk => obtain ⟨τ6, G6, S6, q6⟩ := o; exact gone_ok (S6.unsuite good) hN hi hln fun r7 J7 => ⟨_, _, J7, q6⟩
          | cont => obtain ⟨τ6, G6, S6, q6⟩ := o; exact gone_ok (S6.unsuite good) hN hi hln fun r7 J7 => ⟨_, _, J7, q6⟩
          | ret u => obtain ⟨v6, τ6, G6, S6, r6, q6⟩ := o; exact gone_ok (S6.unsuite good) hN hi hln fun r7 J7 => ⟨_, _, _, J7, r6, q6⟩
    exact go hh wz
  · cases fl with
    | next => obtain ⟨τ, G, J, q⟩ := out; exact wpAny_execs_nil ⟨τ, G, J.ofTry good, q⟩
    | brk => obtain ⟨τ, G, J, q⟩ := out; exact ⟨τ, G, J.ofTry good, q⟩
    | cont => obtain ⟨τ, G, J, q⟩ := out; exact ⟨τ, G, J.ofTry good, q⟩
    | ret u => obtain ⟨v, τ, G, J, r, q⟩ := out; exact ⟨v, τ, G, J.ofTry good, r, q⟩
end
end L2
namespace L2
open PySem PySem.Spec PyProof.Rows LamX
section
variable {X : Cx}
/-- isinstance(e, c), e what the suite caught -/
def rIsC (K : PySem.W.Frag) (a : Addr) (cls : Value) (d : Option Addr) : List V → Hp → VK → Prop := fun xs H Q => ∃ (c : V) (D : Addr) (u : Value) (b : Bool), xs = [.ref a, c] ∧ cls = .ref D ∧ EvC K D ∧ ClsV c u ∧ PySem.W.kitOne K (.ref D) u = some b ∧ (d = none ∨ ∃ dd fs, d = some dd ∧ H dd = some (.xd fs)) ∧ Q (.bl b) H
theorem call_isC {a : Addr} {oe : Obj} {cls : Value} {d : Option Addr} {pn : List (Addr × Obj)} (hz : Zc cls d oe) (hf : ∃ vs, oe.data = .fields vs) : CallR (X.suite a ((a, oe) :: pn)) (.builtin "isinstance") (rIsC X.K a cls d) := by
  intro pins s σ H xs us Q I r h
  obtain ⟨c, D, cv, b, rfl, rfl, hc, hv, hk, hd, q⟩ := h
  obtain ⟨u1, u2, rfl, r1, r2⟩ := r.two
  obtain rfl : u1 = Value.ref a := r1
  have e2 : u2 = cv := by
    cases hv with
    | _ => first | exact r2 | exact r2.symm | (cases r2; rfl)
  subst e2
  obtain ⟨here, _⟩ := I.pin (a, oe) (List.mem_append.mpr (.inl List.mem_cons_self))
  obtain ⟨vs, dat⟩ := hf
  have nc : PySem.W.notCls oe := by unfold PySem.W.notCls; rw [dat] <;> rfl
  have J : ∃ od, PySem.W.InstAt s.heap a oe D od := by
    rcases hd with rfl | ⟨dd, fs, rfl, hx⟩
    · exact ⟨none, here, hz.1, nc, by rw [hz.2]; trivial⟩
    · have z : ObjOk X.prog X.w H s.heap dd (.xd fs) := I.hok dd _ hx
      obtain ⟨mA, ⟨o, es, ep, e1, e3⟩, _⟩ := z
      exact ⟨some o, here, hz.1, nc, by rw [hz.2]; exact e1⟩
  obtain ⟨od, J⟩ := J
  exact PySem.W.kia_one hc.kit I.kIn J hk (fun z => nomatch z) fun tk => ⟨.bl b, H, I.kept (t' := tk) fun _ _ z => z, rfl, q⟩
end
end L2
end

section
/-! Defs that ask for repr of lists: what surrounds them holds no repr that runs. -/
namespace L2
open PySem PySem.Spec PyProof.Rows LamX
/-- as FnOk, where no repr runs around -/
structure FnG (P : Program) (w : World) (K : PySem.W.Frag) (mg : Str → Option Value) (base : Heap) (CX : CXT) (k : Nat) (f : Addr) (fd : FuncData) (ps : List Str) (sp : Sp) : Prop where
  len : ∀ vs H Q E, sp vs H Q E → vs.length = ps.length
  run : ∀ (A : Around) (outer : List Env) (s : Shared) (H : Hp) (args : Args) (us : List Value) (vs : List V) (Q : VK) (E : XK), Room k A → A.guards = some [] → Env0 P w K mg base A outer s H →
    BindsTo s fd args (ps.zip us) → Vals vs us → sp vs H Q E → codeAny (model P w) A (.call (.ref f) args) (CR CX outer P w H s Q E) s
section
variable {P : Program} {w : World} {K : PySem.W.Frag} {mg : Str → Option Value} {base : Heap} {x qual : Str} {params : Arguments} {body : List Stmt} {scope : Scope} {dvs : List V} {kws : List (Str × V)} {f : Addr} {fd : FuncData}
theorem FnOk.toG {CX : CXT} {k : Nat} {ps : List Str} {sp : Sp} (F : FnOk P w K mg base CX k f fd ps sp) : FnG P w K mg base CX k f fd ps sp := ⟨F.len, fun A outer s H args us vs Q E hr _ => F.run A outer s H args us vs Q E hr⟩
theorem FunD.okG {N ps : List Str} {k : Nat} {sp : Sp} (F : FunD K x qual params body scope dvs kws f fd) (S : FnScope N ps scope) (len : ∀ vs H Q E, sp vs H Q E → vs.length = ps.length)
    (hbody : ∀ (A : Around) (outer : List Env) (s : Shared) (H : Hp) (vs : List V) (Q : VK) (E : XK), Room k (A.deeper (envOfC qual scope s.heap.objs.size f fd.code)) → (A.deeper (envOfC qual scope s.heap.objs.size f fd.code)).guards = some [] → sp vs H Q E →
      ∃ t, PSs (cxOf (L2.CX P w) P w K mg base N qual scope f fd.code A outer s H E).nox body t ∧ t { nx := fun _ H' => Q .non H', rt := Q } (start N vs) H) : FnG P w K mg base (L2.CX P w) (k + 1) f fd ps sp := by
  obtain ⟨oc, od, dV, kV, doc, pm, an, cdv, ct, osl, rfl, lk, hcd, _, _⟩ := F.ex
  refine ⟨len, fun A outer s H args us vs Q E hr hg e0 hb r h => ?_⟩
  refine LamX.run_ofS lk hcd S hr e0 hb r (len _ _ _ _ h) fun hr' => ?_
  obtain ⟨t, p, q⟩ := hbody A outer s H vs Q E hr' hg h
  exact ⟨t, p.nox, q⟩
end
/-- a def at the module's name x, called where no repr runs -/
structure Gg (P : Program) (w : World) (K : PySem.W.Frag) (mg : Str → Option Value) (base : Heap) (x : Str) (k : Nat) (ps : List Str) (sp : Sp) : Prop where
  ex : ∃ (f : Addr) (fd : FuncData), mg x = some (.ref f) ∧ PySem.W.keepIn K (.ref f) = true ∧ Binds K fd ps [] ∧ FnG P w K mg base (L2.CX P w) k f fd ps sp
section
variable {X : Cx} {j k : Nat} {x : Str} {ps : List Str} {sp : Sp} {E : XK} {e : Expr} {es : List Expr} {t : TA} {p pos : Pos}
theorem pe_gg (c : Gg X.prog X.w X.K X.mg X.base x k ps sp) (hr : Room j X.A) (hgd : X.A.guards = some []) (hk : k ≤ j) (hx : Passes (L2.CX X.prog X.w) X E) (hg : Gl X x) (ha : PA X (e :: es) t) (hdb : (x == ("__debug__" : Str)) = false := by decide)
    (he : starEach (e :: es) X.env = (false, eval e X.env) :: starEach es X.env := by rfl) (hpl : (backTo pos (starEach es X.env)).any (·.1) = false := by rfl) : PE X (.Call (.Name x p) (e :: es) [] pos) (tCall sp [] E t) := by
  obtain ⟨f, fd, hm, kp, hb, F⟩ := c.ex
  refine ⟨fun pins s σ H Q I h => wpAny_Call_Name_kw (ld_glob I hg hm ?_ hdb)⟩
  refine PySem.W.callWith_K (h₀ := X.base) I.ok.mod.kin kp (thn (ha.run pos pins s σ H _ I h) fun us s1 hh => ?_) he hpl
  obtain ⟨vs, H1, I1, r, q⟩ := hh
  refine ⟨I1.kIn, ?_⟩
  have q : sp vs H1 Q E := by simpa using q
  have lens : (us ++ []).length = ps.length := by
    rw [List.append_nil, ← r.length]
    exact F.len _ _ _ _ q
  have bnd : BindsTo s1 fd ⟨us, []⟩ (ps.zip us) := by have := hb s1 us I1.kIn lens; simpa using this
  show wpAny _ _ (call (.ref f) us) _ _ _
  refine wpAny_call (codeAny_mono (F.run X.A X.stack s1 H1 ⟨us, []⟩ us vs Q E (hr.mono hk) hgd I1.env0 bnd r q) fun z s2 out => ?_)
  cases z with
  | error er => exact hx pins σ H1 s1 er s2 I1 out
  | ok fl =>
    cases fl with
    | next => exact False.elim out
    | brk => exact False.elim out
    | cont => exact False.elim out
    | ret u => exact I1.after out
/-- repr(x), x any datum of none, bools, ints, texts, lists and tuples -/
def rRepr (K : PySem.W.Frag) : List V → Hp → VK → Prop := fun xs H Q => ∃ (x : V) (d : PyData), xs = [x] ∧ Dp K H x d ∧ d.showable = true ∧ d.hasDict = false ∧ d.depth ≤ 60 ∧ d.shown.length ≤ sizeLine ∧ Q (.str d.shown) H
theorem call_reprD {K : PySem.W.Frag} (hK : X.K = K) (hgd : X.A.guards = some []) (hu : X.A.units + 64 < cLine) : CallR X (.builtin "repr") (rRepr K) := by
  subst hK
  intro pins s σ H xs us Q I r h
  obtain ⟨x, d, rfl, hd, hs, hn, hdep, hsz, q⟩ := h
  obtain ⟨u, rfl, rx⟩ := vals1 r
  have fin : ∀ (h' : Heap) (tk : Tok) (k : Nat), (∀ b o, s.heap.get? b = some o → h'.get? b = some o) → EP X pins σ Q (.str d.shown tk) { s with heap := h', toks := k } := fun h' tk k hk => ⟨.str d.shown, H, I.kept (t' := k) hk, ⟨tk, rfl⟩, q⟩
  have one : EP X pins σ Q (.str d.shown s.toks) { s with toks := s.toks + 1 } := fin s.heap s.toks (s.toks + 1) fun _ _ z => z
  cases hd with
  | non => cases rx; exact PySem.P.repr_of_none one
  | bl b => cases rx; exact PySem.P.repr_of_bool one
  | int i => obtain ⟨t, rfl⟩ := rx; exact PySem.P.repr_of_int (of_decide_eq_true hs) one
  | str z => obtain ⟨t, rfl⟩ := rx; exact PySem.P.repr_of_str one hsz
  | lst hq ha =>
    obtain ⟨as, rd⟩ := Dp.reads I _ _ u (.lst hq ha) rx
    cases rx
    exact repr_of_reads' rd hs (fun z => by rw [hn] at z; cases z) hgd (by omega) (fun _ _ z => z) (fun h' u tk hk => fin h' u tk hk) hsz
  | tup hq ha =>
    obtain ⟨as, rd⟩ := Dp.reads I _ _ u (.tup hq ha) rx
    cases rx
    exact repr_of_reads' rd hs (fun z => by rw [hn] at z; cases z) hgd (by omega) (fun _ _ z => z) (fun h' u tk hk => fin h' u tk hk) hsz
end
end L2
namespace L2
open PySem PySem.Spec PyProof.Rows LamX
/-- where the law starts: the script, unless the module holds it, and the tables -/
def hp0 (K : PySem.W.Frag) (cs : List (Addr × Addr)) (a : Addr) (o : Obj) (ns : List Int) : Hp := fun b =>
  if b = a ∧ K.lookup a = none then some (.frz o (.lst (ns.map V.int))) else if b ∈ cs.map (·.2) then some (.tbl #[]) else none
section
variable {P : Program} {w : World} {K : PySem.W.Frag} {mg mb : Str → Option Value} {k : Nat} {fa a : Addr} {cs : List (Addr × Addr)} {fd : FuncData} {x : Str} {sp : Sp} {s : Shared} {vs : List Value} {ns : List Int}
/-- the law's end over FnG -/
theorem law_endG (kin : K.In s.heap) (glo : s.heap.Ns mainGlobals mg) (blt : s.heap.Ns builtinsNs mb) (std : ∀ x : Str, x ≠ "__name__" → mb x = bootBuiltins x) (nol : s.heap.NoLimit) (gen : s.gens = #[])
    (tab : ∀ p ∈ cs, s.heap.get? p.2 = some { cls := .none, data := .fields #[] }) (out : ∀ p ∈ cs, K.lookup p.2 = none) (cod : ∀ p ∈ cs, PySem.W.CodeHd s.heap p.1 p.2)
    (bmod : ∃ (bm : Addr) (ob : Obj), mg "__builtins__" = some (.ref bm) ∧ bm ≠ builtinsNs ∧ s.heap.get? bm = some ob ∧ ob.cls = .type "module" ∧ ob.dict = some builtinsNs ∧ ob.data = .plain)
    (scr : s.heap.get? a = some { cls := .type "list", data := .seq vs.toArray }) (isn : IntsAre vs ns) (len : ns.length ≤ sizeLine) (hr : Room k callerA)
    (F : ∀ base : Heap, K.In base → base.Ns mainGlobals mg → (∀ p ∈ cs, TabB base mg p.1 p.2) → FnG P w K mg base (L2.CX P w) k fa fd [x] sp) (bnd : ∀ (s : Shared) (u : Value), BindsTo s fd ⟨[u], []⟩ [(x, u)])
    (give : ∀ H : Hp, (∀ p ∈ cs, H p.2 = some (.tbl #[])) → SqL K H a (ns.map V.int) → sp [.ref a] H (fun v _ => v = .bl true) fun _ _ _ => False) :
    codeAny (model P w) callerA (.call (.ref fa) ⟨[.ref a], []⟩) (fun r s' => r = .ok (.ret (.bool true)) ∧ OldK s.heap s'.heap ∧ s'.os = s.os ∧ AllBare s'.gens) s := by
  have val := vals_ints isn
  have cnt := isn.length
  have isT : ∀ b, b ∈ cs.map (·.2) → s.heap.get? b = some { cls := .none, data := .fields #[] } := fun b m => by
    obtain ⟨p, hp, rfl⟩ := List.mem_map.mp m
    exact tab p hp
  have naT : a ∉ cs.map (·.2) := fun z => by
    have q := (isT a z).symm.trans scr
    cases q
  let o : Obj := { cls := .type "list", data := .seq vs.toArray }
  -- what H0 says, place by place
  have inv : ∀ b u, hp0 K cs a o ns b = some u → (b = a ∧ K.lookup a = none ∧ u = .frz o (.lst (ns.map V.int))) ∨ (b ∈ cs.map (·.2) ∧ u = .tbl #[]) := fun b u e => by
    unfold hp0 at e
    split at e
    · rename_i c
      exact .inl ⟨c.1, c.2, (Option.some.inj e).symm⟩
    · split at e
      · rename_i c
        exact .inr ⟨c, (Option.some.inj e).symm⟩
      · cases e
  have atT : ∀ b, b ∈ cs.map (·.2) → hp0 K cs a o ns b = some (.tbl #[]) := fun b m => by
    unfold hp0
    have nc : ¬ (b = a ∧ K.lookup a = none) := fun c => naT (by rw [← c.1]; exact m)
    rw [if_neg nc, if_pos m]
  have sq : SqL K (hp0 K cs a o ns) a (ns.map V.int) := by
    cases q : K.lookup a with
    | none => exact .inl (.inr ⟨o, by unfold hp0; rw [if_pos ⟨rfl, q⟩]⟩)
    | some u =>
      have e := (kin a u q).symm.trans scr
      cases e
      exact .inr ⟨_, vs.toArray, _, q, rfl, rfl, rfl, by rw [List.size_toArray, cnt]; exact len, by simpa using val⟩
  have hok : HOk P w (hp0 K cs a o ns) s.heap := fun b u e => by
    rcases inv b u e with ⟨rfl, _, rfl⟩ | ⟨m, rfl⟩
    · exact ⟨scr, by rw [List.length_map]; exact len, vs, _, val, scr⟩
    · exact isT b m
  -- what stands below
  have free : ∀ {b : Addr} {u : Obj}, s.heap.get? b = some u → (∀ l n, u.data ≠ .seq l n) → u.data ≠ .fields #[] → hp0 K cs a o ns b = none := fun {b u} e d1 d2 => by
    cases q : hp0 K cs a o ns b with
    | none => rfl
    | some z =>
      rcases inv b z q with ⟨rfl, _, _⟩ | ⟨m, _⟩
      · have e2 := e.symm.trans scr
        cases e2
        exact absurd rfl (d1 _ _)
      · have e2 := e.symm.trans (isT b m)
        cases e2
        exact absurd rfl d2
  have dic : ∀ {b : Addr} {m : Str → Option Value}, s.heap.Ns b m → (hidT s.heap (hp0 K cs a o ns)).Ns b m := fun {b m} ⟨u, es, ep, e, d, r⟩ =>
    ⟨u, es, ep, hidT_get e (free e (fun l n z => by rw [d] at z; cases z) fun z => by rw [d] at z; cases z), d, r⟩
  have kb : K.In (hidT s.heap (hp0 K cs a o ns)) := fun b u e => hidT_get (kin b u e) (by
    cases q : hp0 K cs a o ns b with
    | none => rfl
    | some z =>
      rcases inv b z q with ⟨rfl, n, _⟩ | ⟨m, _⟩
      · rw [n] at e; cases e
      · obtain ⟨p, hp, rfl⟩ := List.mem_map.mp m
        rw [out p hp] at e
        cases e)
  have md : Mod K mg (hidT s.heap (hp0 K cs a o ns)) := ⟨kb, dic glo, ⟨mb, dic blt, std⟩, nol.imp fun mc z => ⟨dic z.1, z.2⟩⟩
  have tb : ∀ p ∈ cs, TabB (hidT s.heap (hp0 K cs a o ns)) mg p.1 p.2 := fun p hp => by
    have t := tab p hp
    refine ⟨?_, ?_, fun z => ?_⟩
    · obtain ⟨u, us, f1, f2, f3, f4, f5, f6, f7, e, c1, c2, c3, c4⟩ := cod p hp
      exact ⟨u, us, f1, f2, f3, f4, f5, f6, f7, hidT_get e (free e (fun l n z => by rw [c2] at z; cases z) fun z => by rw [c2] at z; cases z; simp at c3), c1, c2, c3, c4⟩
    · obtain ⟨bm, ob, g1, g2, g3, g4, g5, g6⟩ := bmod
      refine ⟨bm, ob, g1, g2, fun z => ?_, fun z => ?_, hidT_get g3 (free g3 (fun l n z => by rw [g6] at z; cases z) fun z => by rw [g6] at z; cases z), g4, g5, g6⟩
      · obtain ⟨u, es, ep, e, d, _⟩ := glo
        rw [z, e] at g3
        cases g3
        rw [d] at g6
        cases g6
      · rw [z, t] at g3
        cases g3
        cases g6
    · obtain ⟨u, es, ep, e, d, _⟩ := glo
      rw [z, t] at e
      cases e
      cases d
  have e0 : Env0 P w K mg (hidT s.heap (hp0 K cs a o ns)) callerA [] s (hp0 K cs a o ns) := ⟨rfl, md, fun b u e => of_hidT e, Nat.le_of_eq (hidT_size _ _), trivial, fun b m => (nomatch m), hok, .of_eq gen⟩
  refine codeAny_mono ((F _ kb (dic glo) tb).run callerA [] s _ ⟨[.ref a], []⟩ [.ref a] [.ref a] _ _ hr rfl e0 (bnd s (.ref a)) (.cons rfl .nil) (give _ (fun p hp => atT p.2 (List.mem_map.mpr ⟨p, hp, rfl⟩)) sq)) fun r s' z => ?_
  cases r with
  | error e =>
    obtain ⟨_, _, _, _, _, _, _, _, _, _, _, _, no⟩ := z
    exact no.elim
  | ok fl =>
    cases fl with
    | next => exact False.elim z
    | brk => exact False.elim z
    | cont => exact False.elim z
    | ret u =>
      obtain ⟨v, H', os, bare, un, hok', rv, q⟩ := z
      have q : v = .bl true := q
      subst q
      obtain rfl : u = Value.bool true := rv
      have kept : ∀ b z, b ∉ cs.map (·.2) → s.heap.get? b = some z → s'.heap.get? b = some z := fun b z nm e => by
        cases q : hp0 K cs a o ns b with
        | none => exact un.keep b z e q (fun m => nomatch m) (fun m => nomatch m)
        | some y =>
          rcases inv b y q with ⟨rfl, _, rfl⟩ | ⟨m, _⟩
          · have g := (hok' b _ (un.frzs b o _ q)).1
            have e2 := e.symm.trans scr
            rw [Option.some.inj e2]
            exact g
          · exact absurd m nm
      have grow : ∀ p ∈ cs, ∃ more : Array Value, s'.heap.get? p.2 = some { cls := .none, data := .fields more } := fun p hp => by
        obtain ⟨more, z⟩ := un.tbls p.2 #[] (atT p.2 (List.mem_map.mpr ⟨p, hp, rfl⟩))
        exact ⟨_, hok' p.2 _ z⟩
      refine ⟨rfl, ⟨fun b z e => ?_, fun b z e => ?_⟩, os, bare⟩
      · by_cases m : b ∈ cs.map (·.2)
        · obtain ⟨p, hp, rfl⟩ := List.mem_map.mp m
          obtain ⟨more, g⟩ := grow p hp
          have e2 := e.symm.trans (tab p hp)
          cases e2
          exact .inr (.inl ⟨((cod p hp).tab (tab p hp)).isCodeTable, rfl, #[], more, rfl, by rw [Array.empty_append]; exact g⟩)
        · exact .inl (kept b z m e)
      · by_cases m : b ∈ cs.map (·.2)
        · obtain ⟨p, hp, rfl⟩ := List.mem_map.mp m
          obtain ⟨more, g⟩ := grow p hp
          exact ⟨_, g⟩
        · exact ⟨z, kept b z m e⟩
end
/-- what is known of the law's promise at the head's heap -/
def LawG (l : PySem.W.OpenLaw) (w : World) (K : PySem.W.Frag) (k n : Nat) (x : Str) (mg : Str → Option Value) (fa : Addr) (h : Heap) : Prop :=
  ∃ (fd : FuncData) (cs : List (Addr × Addr)) (sp : Sp), (∀ p ∈ cs, h.get? p.2 = some { cls := .none, data := .fields #[] }) ∧ (∀ p ∈ cs, K.lookup p.2 = none) ∧ (∀ p ∈ cs, PySem.W.CodeHd h p.1 p.2) ∧ (∀ (s : Shared) (u : Value), BindsTo s fd ⟨[u], []⟩ [(x, u)]) ∧
    (∀ (H : Hp) (a : Addr) (ns : List Int), ns.length ≤ n → (∀ z ∈ ns, Builtin.Int.intBits z ≤ 1048576) → (∀ p ∈ cs, H p.2 = some (.tbl #[])) → SqL K H a (ns.map V.int) → sp [.ref a] H (fun v _ => v = .bl true) fun _ _ _ => False) ∧
    ∀ base : Heap, K.In base → base.Ns mainGlobals mg → (∀ p ∈ cs, TabB base mg p.1 p.2) → FnG l.prog w K mg base (L2.CX l.prog w) k fa fd [x] sp
theorem walk_G {l : PySem.W.OpenLaw} {n k : Nat} {q : Program} {loose : List Str} {XP : (Str → Option Value) → Heap → Prop} {YP : World → Heap → Prop} {d : DefRec} {x : Str} (hn : l.most = some n) (hn2 : n ≤ sizeLine) (hdf : d.params.defaults = []) (hr : Room k callerA)
    (F : ∀ (w : World) (mg : Str → Option Value) (fa : Addr) (h : Heap), YP w h → h.Ns mainGlobals mg → mg d.name = some (.ref fa) → ∃ K : PySem.W.Frag, K.In h ∧ LawG l w K k n x mg fa h) : PySem.W.WalkO q loose XP YP l.row.toRowW d [] (fun f vs => PySem.call f vs) := by
  refine Att.attach_callB hn hdf fun w s₀ s₁ mg mb fa o pm cd doc a vs ns G Y ho hd hcd hmg hobj hints hlen hbits hg => ?_
  obtain ⟨K, kin, fd, cs, sp, t1, t2, t3, b, g, FF⟩ := F w mg fa _ Y G.T.g hmg
  exact law_endG kin G.T.g G.T.b G.T.builtins G.T.nolimit hg t1 t2 t3 G.T.bmain hobj hints (Nat.le_trans hlen hn2) hr FF b fun H hH hS => g H a ns hlen hbits hH hS
end L2
end

section
/-! The 22 classes of errors: what is asked of them, and what is made of it. -/
namespace L2
open PySem PySem.Spec PyProof.Rows LamX
/-- the fields of each class -/
def fldL : List (Nat × Str) := [(0, "line"), (0, "column"), (1, "name"), (2, "what"), (2, "number"), (3, "what"), (4, "place"), (5, "row"), (6, "row"), (7, "digits"), (8, "what"), (8, "many"), (8, "limit"), (9, "what"), (9, "many"), (9, "limit"), (10, "what"), (12, "name"), (14, "rank"), (15, "name"), (16, "name"), (17, "name"), (18, "name"), (19, "promise"), (19, "given")]
structure KinC (K : PySem.W.Frag) (CL : Nat → Addr) (CH : Addr) : Prop where
  ev : ∀ i, i < 22 → EvC K (CL i)
  kit : ∀ i j, i < 22 → j < 22 → PySem.W.kitOne K (.ref (CL i)) (.ref (CL j)) = some (decide (i = j))
  kH : ∀ i, i < 22 → PySem.W.kitOne K (.ref (CL i)) (.ref CH) = some true
  kV : ∀ i, i < 22 → PySem.W.kitOne K (.ref (CL i)) (.type "ValueError") = some true
  e0 : ∀ i, i ∈ [11, 13, 20, 21] → PySem.W.excIn K (CL i) veB "ValueError.__new__" = true ∧ PySem.W.keepIn K (.ref (CL i)) = true ∧ PySem.W.subIn K (.ref (CL i)) (.type "BaseException") = some true ∧ PySem.W.typeIn K (.ref (CL i)) = some (.type "type")
  no : ∀ q ∈ fldL, PySem.W.findIn K (.ref (CL q.1)) q.2 = some none
  em : ∀ i, i ∈ [0, 8, 19, 11] → PySem.W.exmOne K (.ref (CL i)) (.ref (CL 0)) = some (decide (i = 0)) ∧ PySem.W.exmOne K (.ref (CL i)) (.ref (CL 8)) = some (decide (i = 8)) ∧ PySem.W.exmOne K (.ref (CL i)) (.ref CH) = some true
def evB (K : PySem.W.Frag) (C : Addr) : Bool := xfB K C && (decide (PySem.W.findIn K (.ref C) "__class__" = some (some (.builtin "object.__class__"))) && (decide (PySem.W.specialIn K (.builtin "object.__class__") "__get__" = some (some (.builtin "getset_descriptor.__get__"))) && (decide (PySem.W.takesIn K (.builtin "object.__class__") = some true) && decide (PySem.W.mroIn K C (.type "object") = some true))))
theorem evB_ok {K : PySem.W.Frag} {C : Addr} (h : evB K C = true) : EvC K C := by
  obtain ⟨h1, h⟩ := Bool.and_eq_true_iff.mp h
  obtain ⟨h2, h⟩ := Bool.and_eq_true_iff.mp h
  obtain ⟨h3, h⟩ := Bool.and_eq_true_iff.mp h
  obtain ⟨h4, h5⟩ := Bool.and_eq_true_iff.mp h
  exact ⟨xfB_ok h1, of_decide_eq_true h2, of_decide_eq_true h3, of_decide_eq_true h4, of_decide_eq_true h5⟩
def kinB (K : PySem.W.Frag) (CL : Nat → Addr) (CH : Addr) : Bool :=
  ((List.range 22).all fun i => evB K (CL i) && (((List.range 22).all fun j => decide (PySem.W.kitOne K (.ref (CL i)) (.ref (CL j)) = some (decide (i = j)))) && (decide (PySem.W.kitOne K (.ref (CL i)) (.ref CH) = some true) && decide (PySem.W.kitOne K (.ref (CL i)) (.type "ValueError") = some true))))
  && (([11, 13, 20, 21].all fun i => PySem.W.excIn K (CL i) veB "ValueError.__new__" && (PySem.W.keepIn K (.ref (CL i)) && (decide (PySem.W.subIn K (.ref (CL i)) (.type "BaseException") = some true) && decide (PySem.W.typeIn K (.ref (CL i)) = some (.type "type")))))
  && ((fldL.all fun q => decide (PySem.W.findIn K (.ref (CL q.1)) q.2 = some none))
  && ([0, 8, 19, 11].all fun i => decide (PySem.W.exmOne K (.ref (CL i)) (.ref (CL 0)) = some (decide (i = 0))) && (decide (PySem.W.exmOne K (.ref (CL i)) (.ref (CL 8)) = some (decide (i = 8))) && decide (PySem.W.exmOne K (.ref (CL i)) (.ref CH) = some true)))))
theorem kinB_ok {K : PySem.W.Frag} {CL : Nat → Addr} {CH : Addr} (h : kinB K CL CH = true) : KinC K CL CH := by
  obtain ⟨h1, h⟩ := Bool.and_eq_true_iff.mp h
  obtain ⟨h2, h⟩ := Bool.and_eq_true_iff.mp h
  obtain ⟨h3, h4⟩ := Bool.and_eq_true_iff.mp h
  have a1 := fun i (hi : i < 22) => List.all_eq_true.mp h1 i (List.mem_range.mpr hi)
  have a2 := List.all_eq_true.mp h2
  have a4 := List.all_eq_true.mp h4
  refine ⟨fun i hi => evB_ok (Bool.and_eq_true_iff.mp (a1 i hi)).1, fun i j hi hj => ?_, fun i hi => ?_, fun i hi => ?_, fun i hi => ?_, fun q hq => of_decide_eq_true (List.all_eq_true.mp h3 q hq), fun i hi => ?_⟩
  · exact of_decide_eq_true (List.all_eq_true.mp (Bool.and_eq_true_iff.mp (Bool.and_eq_true_iff.mp (a1 i hi)).2).1 j (List.mem_range.mpr hj))
  · exact of_decide_eq_true (Bool.and_eq_true_iff.mp (Bool.and_eq_true_iff.mp (Bool.and_eq_true_iff.mp (a1 i hi)).2).2).1
  · exact of_decide_eq_true (Bool.and_eq_true_iff.mp (Bool.and_eq_true_iff.mp (Bool.and_eq_true_iff.mp (a1 i hi)).2).2).2
  · obtain ⟨b1, b⟩ := Bool.and_eq_true_iff.mp (a2 i hi)
    obtain ⟨b2, b⟩ := Bool.and_eq_true_iff.mp b
    obtain ⟨b3, b4⟩ := Bool.and_eq_true_iff.mp b
    exact ⟨b1, b2, of_decide_eq_true b3, of_decide_eq_true b4⟩
  · obtain ⟨b1, b⟩ := Bool.and_eq_true_iff.mp (a4 i hi)
    obtain ⟨b2, b3⟩ := Bool.and_eq_true_iff.mp b
    exact ⟨of_decide_eq_true b1, of_decide_eq_true b2, of_decide_eq_true b3⟩
section
variable {K : PySem.W.Frag} {CL : Nat → Addr} {CH : Addr} {H : Hp} {x : V} {fs : List (Str × V)} {i j : Nat} {Q : VK}
theorem ExV.same {H H' : Hp} {C : Addr} (h : ExV H C x fs) (e : Same H H') : ExV H' C x fs := by
  obtain ⟨a, rfl, h | ⟨d, h1, h2⟩⟩ := h
  · exact ⟨a, rfl, .inl ⟨h.1, e _ _ h.2⟩⟩
  · exact ⟨a, rfl, .inr ⟨d, e _ _ h1, e _ _ h2⟩⟩
theorem isK (KC : KinC K CL CH) (hx : ExV H (CL i) x fs) (hi : i < 22) (hj : j < 22) (k : Q (.bl (decide (i = j))) H) : rIsX K [x, .ref (CL j)] H Q := ⟨x, .ref (CL j), CL i, fs, _, _, rfl, hx, KC.ev i hi, .own _, KC.kit i j hi hj, k⟩
theorem isKH (KC : KinC K CL CH) (hx : ExV H (CL i) x fs) (hi : i < 22) (k : Q (.bl true) H) : rIsX K [x, .ref CH] H Q := ⟨x, .ref CH, CL i, fs, _, _, rfl, hx, KC.ev i hi, .own _, KC.kH i hi, k⟩
theorem isKV (KC : KinC K CL CH) (hx : ExV H (CL i) x fs) (hi : i < 22) (k : Q (.bl true) H) : rIsX K [x, .ty "ValueError"] H Q := ⟨x, .ty "ValueError", CL i, fs, _, _, rfl, hx, KC.ev i hi, .ty _, KC.kV i hi, k⟩
end
/-- __init__ of three fields -/
def spX3 (C : Addr) (f1 f2 f3 : Str) : Sp := fun vs H Q _ => ∃ (a : Addr) (x y z : V), vs = [.ref a, x, y, z] ∧ H a = some (exo a C none) ∧
  ∀ d, H d = none → d ≠ a → Q .non (upd (upd (upd (upd H d (exd d [(f1, x)])) a (exo a C (some d))) d (exd d [(f2, y), (f1, x)])) d (exd d [(f3, z), (f2, y), (f1, x)]))
section
variable {C p : Addr} {H : Hp} {f1 f2 f3 : Str} {x y z : V} {Q : VK} {E : XK}
theorem mk1 (hp : H p = none) (k : ∀ H', Same H H' → ExV H' C (.ref p) [(f1, x)] → Q .non H') : spX1 C f1 [.ref p, x] (upd H p (exo p C none)) Q E := by
  refine ⟨p, x, rfl, upd_same, fun d hd hdp => ?_⟩
  have hd0 : H d = none := by rwa [upd_ne hdp] at hd
  exact k _ (fun b o e => by rw [upd_ne (ne_of_none e hp), upd_ne (ne_of_none e hd0), upd_ne (ne_of_none e hp)]; exact e) ⟨p, rfl, .inr ⟨d, upd_same, by rw [upd_ne hdp, upd_same]⟩⟩
theorem mk2 (hp : H p = none) (k : ∀ H', Same H H' → ExV H' C (.ref p) [(f2, y), (f1, x)] → Q .non H') : spX2 C f1 f2 [.ref p, x, y] (upd H p (exo p C none)) Q E := by
  refine ⟨p, x, y, rfl, upd_same, fun d hd hdp => ?_⟩
  have hd0 : H d = none := by rwa [upd_ne hdp] at hd
  exact k _ (fun b o e => by rw [upd_ne (ne_of_none e hd0), upd_ne (ne_of_none e hp), upd_ne (ne_of_none e hd0), upd_ne (ne_of_none e hp)]; exact e) ⟨p, rfl, .inr ⟨d, by rw [upd_ne hdp.symm, upd_same], upd_same⟩⟩
theorem mk3 (hp : H p = none) (k : ∀ H', Same H H' → ExV H' C (.ref p) [(f3, z), (f2, y), (f1, x)] → Q .non H') : spX3 C f1 f2 f3 [.ref p, x, y, z] (upd H p (exo p C none)) Q E := by
  refine ⟨p, x, y, z, rfl, upd_same, fun d hd hdp => ?_⟩
  have hd0 : H d = none := by rwa [upd_ne hdp] at hd
  exact k _ (fun b o e => by rw [upd_ne (ne_of_none e hd0), upd_ne (ne_of_none e hd0), upd_ne (ne_of_none e hp), upd_ne (ne_of_none e hd0), upd_ne (ne_of_none e hp)]; exact e) ⟨p, rfl, .inr ⟨d, by rw [upd_ne hdp.symm, upd_ne hdp.symm, upd_same], upd_same⟩⟩
theorem mk0 (hp : H p = none) : Same H (upd H p (exo p C none)) ∧ ExV (upd H p (exo p C none)) C (.ref p) [] := ⟨fun b o e => by rw [upd_ne (ne_of_none e hp)]; exact e, p, rfl, .inl ⟨rfl, upd_same⟩⟩
theorem lkA {f : Str} {v : V} {r : List (Str × V)} : List.lookup f ((f, v) :: r) = some v := by simp [List.lookup]
theorem lkB {f g : Str} {u : V} {o : Option V} {r : List (Str × V)} (h : (f == g) = false) (k : List.lookup f r = o) : List.lookup f ((g, u) :: r) = o := by simp [List.lookup, h, k]
end
/-- what a suite caught: the raise's end, three fields -/
theorem x3_made {H1 : Hp} {a d C : Addr} {f1 f2 f3 : Str} {x y z : V} {Q : XK} (ha : H1 a = none) (hd : H1 d = none) (hda : d ≠ a)
    (k : ∀ H', Same H1 H' → H' d = some (.xd [(f3, z), (f2, y), (f1, x)]) → Q (.ref C) (some d) H') :
    ∃ (d' : Addr), (upd (upd (upd (upd (upd H1 a (exo a C none)) d (exd d [(f1, x)])) a (exo a C (some d))) d (exd d [(f2, y), (f1, x)])) d (exd d [(f3, z), (f2, y), (f1, x)])) a = some (exo a C (some d')) ∧ ∃ (fs : List (Str × V)),
      (upd (upd (upd (upd (upd H1 a (exo a C none)) d (exd d [(f1, x)])) a (exo a C (some d))) d (exd d [(f2, y), (f1, x)])) d (exd d [(f3, z), (f2, y), (f1, x)])) d' = some (exd d' fs) ∧ H1 d' = none ∧
      Q (.ref C) (some d') (upd (del (upd (upd (upd (upd (upd H1 a (exo a C none)) d (exd d [(f1, x)])) a (exo a C (some d))) d (exd d [(f2, y), (f1, x)])) d (exd d [(f3, z), (f2, y), (f1, x)])) a) d' (.xd fs)) := by
  refine ⟨d, by rw [upd_ne hda.symm, upd_ne hda.symm, upd_same], _, upd_same, hd, k _ (fun b o e => ?_) upd_same⟩
  have n1 := ne_of_none e ha
  have n2 := ne_of_none e hd
  rw [upd_ne n2, del_ne n1, upd_ne n2, upd_ne n2, upd_ne n1, upd_ne n2, upd_ne n1]
  exact e
/-- a field's value, and the datum it is -/
inductive Fv (H : Hp) : V → PyData → Prop
  | int (i : Int) (h : i.natAbs < 2 ^ 110) : Fv H (.int i) (.int i)
  | st : Fv H (.str "name") (.str "name")
  | se : Fv H (.str "") (.str "")
  | non : Fv H .non .none
  | bl (b : Bool) : Fv H (.bl b) (.bool b)
  | tup (a : Addr) (h : H a = some (.tup [.int 1, .str "x"])) : Fv H (.ref a) (.tuple [.int 1, .str "x"])
theorem Fv.same {H H' : Hp} {v : V} {d : PyData} (h : Fv H v d) (e : Same H H') : Fv H' v d := by
  cases h with
  | int i h => exact .int i h
  | st => exact .st
  | se => exact .se
  | non => exact .non
  | bl b => exact .bl b
  | tup a h => exact .tup a (e _ _ h)
theorem Fv.dp {K : PySem.W.Frag} {H : Hp} {v : V} {d : PyData} (h : Fv H v d) : Dp K H v d := by
  cases h with
  | int i h => exact .int i
  | st => exact .str _
  | se => exact .str _
  | non => exact .non
  | bl b => exact .bl b
  | tup a h => exact .tup (SqT.of h) (.cons (.int _) (.cons (.str _) .nil))
theorem Fv.shape {H : Hp} {v : V} {d : PyData} (h : Fv H v d) : d.showable = true ∧ d.hasDict = false ∧ d.depth ≤ 2 ∧ d.shown.length ≤ 120 := by
  cases h with
  | int i h =>
    have l : i.natAbs.log2 < 110 := HwM.log2_lt (k := 110) (by decide) h
    have e := PySem.int_text_length_le (a := i) (k := 110) (by decide) l
    refine ⟨?_, rfl, by simp [PyData.depth], ?_⟩
    · simp only [PyData.showable]
      exact decide_eq_true (by omega)
    · simp only [PyData.shown]
      rw [PySem.ofString_length]
      omega
  | st => exact ⟨by decide +kernel, by decide +kernel, by decide +kernel, by decide +kernel⟩
  | se => exact ⟨by decide +kernel, by decide +kernel, by decide +kernel, by decide +kernel⟩
  | non => exact ⟨rfl, rfl, by decide, by decide +kernel⟩
  | bl b => cases b <;> exact ⟨rfl, rfl, by decide, by decide +kernel⟩
  | tup a h => exact ⟨by decide +kernel, by rfl, by decide +kernel, by decide +kernel⟩
inductive FvL (H : Hp) : List V → List PyData → Prop
  | nil : FvL H [] []
  | cons {v : V} {d : PyData} {vs : List V} {ds : List PyData} (h : Fv H v d) (r : FvL H vs ds) : FvL H (v :: vs) (d :: ds)
theorem FvL.dp {K : PySem.W.Frag} {H : Hp} {vs : List V} {ds : List PyData} (h : FvL H vs ds) : DpAll K H vs ds := by
  induction h with
  | nil => exact .nil
  | cons h r ih => exact .cons h.dp ih
theorem FvL.same {H H' : Hp} {vs : List V} {ds : List PyData} (h : FvL H vs ds) (e : Same H H') : FvL H' vs ds := by
  induction h with
  | nil => exact .nil
  | cons h r ih => exact .cons (h.same e) ih
theorem FvL.shape {H : Hp} {vs : List V} {ds : List PyData} (h : FvL H vs ds) : PyData.showableAll ds = true ∧ PyData.hasDictAll ds = false ∧ PyData.depthAll ds ≤ 2 ∧ ((PyData.shownAll ds).map (·.length)).sum ≤ 120 * vs.length ∧ (PyData.shownAll ds).length = vs.length := by
  induction h with
  | nil => exact ⟨rfl, rfl, by decide, by decide, rfl⟩
  | cons h r ih =>
    obtain ⟨a, b, c, d⟩ := h.shape
    obtain ⟨a2, b2, c2, d2, e2⟩ := ih
    refine ⟨by simp [PyData.showableAll, a, a2], by simp [PyData.hasDictAll, b, b2], by simp only [PyData.depthAll]; omega, ?_, by simp [PyData.shownAll, e2]⟩
    simp only [PyData.shownAll, List.map_cons, List.sum_cons, List.length_cons]
    omega
/-- repr of a list of fields -/
theorem rep_fields {K : PySem.W.Frag} {H : Hp} {a : Addr} {vs : List V} {ds : List PyData} {Q : VK} (ha : H a = some (.lst vs)) (h : FvL H vs ds) (hl : vs.length ≤ 8) (k : Q (.str (PyData.list ds).shown) H) : rRepr K [.ref a] H Q := by
  obtain ⟨a1, b1, c1, d1, e1⟩ := h.shape
  refine ⟨.ref a, .list ds, rfl, .lst (SqL.of ha) h.dp, by simpa [PyData.showable] using a1, by simpa [PyData.hasDict] using b1, by simp only [PyData.depth]; omega, ?_, k⟩
  simp only [PyData.shown]
  have := listText_len_le (PyData.shownAll ds)
  refine line_le ?_
  omega
theorem isC {K : PySem.W.Frag} {CL : Nat → Addr} {CH : Addr} {H : Hp} {i j : Nat} {Q : VK} {a : Addr} {d : Option Addr} (KC : KinC K CL CH) (hi : i < 22) (hj : j < 22) (hd : d = none ∨ ∃ dd fs, d = some dd ∧ H dd = some (.xd fs)) (k : Q (.bl (decide (i = j))) H) : rIsC K a (.ref (CL i)) d [.ref a, .ref (CL j)] H Q :=
  ⟨.ref (CL j), CL i, _, _, rfl, rfl, KC.ev i hi, .own _, KC.kit i j hi hj, hd, k⟩
theorem isCV {K : PySem.W.Frag} {CL : Nat → Addr} {CH : Addr} {H : Hp} {i : Nat} {Q : VK} {a : Addr} {d : Option Addr} (KC : KinC K CL CH) (hi : i < 22) (hd : d = none ∨ ∃ dd fs, d = some dd ∧ H dd = some (.xd fs)) (k : Q (.bl true) H) : rIsC K a (.ref (CL i)) d [.ref a, .ty "ValueError"] H Q :=
  ⟨.ty "ValueError", CL i, _, _, rfl, rfl, KC.ev i hi, .ty _, KC.kV i hi, hd, k⟩
theorem FvL.of {H : Hp} : ∀ {xs : List V}, (∀ x ∈ xs, ∃ d, Fv H x d) → ∃ ds, FvL H xs ds
  | [], _ => ⟨[], .nil⟩
  | x :: xs, h => by
    obtain ⟨d, hd⟩ := h x List.mem_cons_self
    obtain ⟨ds, hds⟩ := FvL.of (xs := xs) fun y hy => h y (List.mem_cons_of_mem _ hy)
    exact ⟨d :: ds, .cons hd hds⟩
theorem ne_int1 {K : PySem.W.Frag} {H : Hp} {a b : Addr} {i j : Int} {Q : VK} (ha : H a = some (.lst [.int i])) (hb : H b = some (.lst [.int j])) (e : i = j) (k : Q (.bl false) H) : rNeD K (.ref a) (.ref b) H Q := by
  subst e
  refine ⟨.list [.int i], .list [.int i], .lst (SqL.of ha) (.cons (.int _) .nil), .lst (SqL.of hb) (.cons (.int _) .nil), by rfl, by rfl, ?_⟩
  rw [show PyData.eqv (.list [.int i]) (.list [.int i]) = true by simp [PyData.eqv, PyData.eqvAll]]
  exact k
theorem eq_bls3 {K : PySem.W.Frag} {H : Hp} {a b : Addr} {x y z : Bool} {Q : VK} (ha : H a = some (.lst [.bl x, .bl y, .bl z])) (hb : H b = some (.lst [.bl x, .bl y, .bl z])) (k : Q (.bl true) H) : rEqD K (.ref a) (.ref b) H Q := by
  refine ⟨.list [.bool x, .bool y, .bool z], .list [.bool x, .bool y, .bool z], .lst (SqL.of ha) (.cons (.bl _) (.cons (.bl _) (.cons (.bl _) .nil))), .lst (SqL.of hb) (.cons (.bl _) (.cons (.bl _) (.cons (.bl _) .nil))), by rfl, by rfl, ?_⟩
  rw [show PyData.eqv (.list [.bool x, .bool y, .bool z]) (.list [.bool x, .bool y, .bool z]) = true by cases x <;> cases y <;> cases z <;> decide +kernel]
  exact k
theorem x2_all {K : PySem.W.Frag} {Wo : WX} {D : Ends} {l : List HdA} {τ : L2.St} {H1 : Hp} {a d C : Addr} {f1 f2 : Str} {x y : V} (ha : H1 a = none) (hd : H1 d = none) (hda : d ≠ a)
    (k : ∀ H', Same H1 H' → H' d = some (.xd [(f2, y), (f1, x)]) → wAll K Wo D l (.ref C) (some d) τ H') :
    ∃ (d' : Addr), (upd (upd (upd (upd H1 a (exo a C none)) d (exd d [(f1, x)])) a (exo a C (some d))) d (exd d [(f2, y), (f1, x)])) a = some (exo a C (some d')) ∧ ∃ (fs : List (Str × V)), (upd (upd (upd (upd H1 a (exo a C none)) d (exd d [(f1, x)])) a (exo a C (some d))) d (exd d [(f2, y), (f1, x)])) d' = some (exd d' fs) ∧ H1 d' = none ∧ wAll K Wo D l (.ref C) (some d') τ (upd (del (upd (upd (upd (upd H1 a (exo a C none)) d (exd d [(f1, x)])) a (exo a C (some d))) d (exd d [(f2, y), (f1, x)])) a) d' (.xd fs)) :=
  x2_made (Q := fun c o H' => wAll K Wo D l c o τ H') ha hd hda k
theorem x3_all {K : PySem.W.Frag} {Wo : WX} {D : Ends} {l : List HdA} {τ : L2.St} {H1 : Hp} {a d C : Addr} {f1 f2 f3 : Str} {x y z : V} (ha : H1 a = none) (hd : H1 d = none) (hda : d ≠ a)
    (k : ∀ H', Same H1 H' → H' d = some (.xd [(f3, z), (f2, y), (f1, x)]) → wAll K Wo D l (.ref C) (some d) τ H') :
    ∃ (d' : Addr), (upd (upd (upd (upd (upd H1 a (exo a C none)) d (exd d [(f1, x)])) a (exo a C (some d))) d (exd d [(f2, y), (f1, x)])) d (exd d [(f3, z), (f2, y), (f1, x)])) a = some (exo a C (some d')) ∧ ∃ (fs : List (Str × V)), (upd (upd (upd (upd (upd H1 a (exo a C none)) d (exd d [(f1, x)])) a (exo a C (some d))) d (exd d [(f2, y), (f1, x)])) d (exd d [(f3, z), (f2, y), (f1, x)])) d' = some (exd d' fs) ∧ H1 d' = none ∧ wAll K Wo D l (.ref C) (some d') τ (upd (del (upd (upd (upd (upd (upd H1 a (exo a C none)) d (exd d [(f1, x)])) a (exo a C (some d))) d (exd d [(f2, y), (f1, x)])) d (exd d [(f3, z), (f2, y), (f1, x)])) a) d' (.xd fs)) :=
  x3_made (Q := fun c o H' => wAll K Wo D l c o τ H') ha hd hda k
end L2
end

section
namespace HwL
open PySem PySem.Spec PyProof.Rows L2 LamX
def top (i : Nat) : Stmt := PySem.Challenge.pw_hingeworks_k03_errors.main.body.getD i (.Pass ⟨0, 0, 0, 0⟩)
variable {P : Program} {w : World} {K : PySem.W.Frag} {mg : Str → Option Value} {base : Heap}


end HwL
end

section
namespace HwL
open PySem PySem.Spec PyProof.Rows L2 LamX
variable {P : Program} {w : World} {K : PySem.W.Frag} {mg : Str → Option Value} {base : Heap}

/-! ### the pen -/
def penK (l : Addr) (i d c f : Int) : List (Key × V) := [(.inr "cells", .ref l), (.inr "at", .int i), (.inr "digits", .int d), (.inr "count", .int c), (.inr "fold", .int f)]
/-- a pen stands at p, drawn from at most c times -/
def PenAt (H : Hp) (p l : Addr) (c : Int) : Prop := ∃ (cs : List Int) (i d n f : Int), H p = some (.dK (penK l i d n f)) ∧ H l = some (.lst (cs.map V.int)) ∧ 0 ≤ i ∧ 0 ≤ d ∧ 0 ≤ n ∧ n ≤ c ∧ 0 ≤ f ∧ f < 2147483587
/-- all but p is as it was -/
def Ext (p : Addr) (H H' : Hp) : Prop := ∀ b o, b ≠ p → H b = some o → H' b = some o
theorem Ext.refl {p : Addr} {H : Hp} : Ext p H H := fun _ _ _ h => h
theorem Ext.trans {p : Addr} {H H1 H2 : Hp} (a : Ext p H H1) (b : Ext p H1 H2) : Ext p H H2 := fun c o n h => b c o n (a c o n h)
theorem Ext.of {p : Addr} {H H1 : Hp} (a : Same H H1) : Ext p H H1 := fun c o _ h => a c o h
theorem Ext.new {p q : Addr} {H H1 : Hp} {o : HO} (a : Ext p H H1) (h : H1 q = none) : Ext p H (upd H1 q o) := a.trans (.of (same_new h))
theorem PenAt.mono {H : Hp} {p l : Addr} {c d : Int} (h : PenAt H p l c) (e : c ≤ d) : PenAt H p l d := by
  obtain ⟨cs, i, dg, n, f, h1, h2, h3, h4, h5, h6, h7⟩ := h
  exact ⟨cs, i, dg, n, f, h1, h2, h3, h4, h5, by omega, h7⟩
theorem PenAt.same {H H' : Hp} {p l : Addr} {c : Int} (h : PenAt H p l c) (e : Same H H') : PenAt H' p l c := by
  obtain ⟨cs, i, dg, n, f, h1, h2, h3⟩ := h
  exact ⟨cs, i, dg, n, f, e _ _ h1, e _ _ h2, h3⟩
theorem PenAt.some {H : Hp} {p l : Addr} {c : Int} (h : PenAt H p l c) : ∃ o, H p = some o := by
  obtain ⟨cs, i, dg, n, f, h1, _⟩ := h
  exact ⟨_, h1⟩
theorem PenAt.put {H : Hp} {p l : Addr} {c : Int} (h : PenAt H p l c) {q : Addr} (n1 : q ≠ p) (n2 : q ≠ l) (o : HO) : PenAt (upd H q o) p l c := by
  obtain ⟨cs, i, dg, n, f, h1, h2, h3⟩ := h
  exact ⟨cs, i, dg, n, f, by rw [upd_ne n1.symm]; exact h1, by rw [upd_ne n2.symm]; exact h2, h3⟩
theorem PenAt.ne2 {H : Hp} {p q l : Addr} {c : Int} (h : PenAt H p l c) (n : H q = none) : q ≠ l := by
  obtain ⟨cs, i, dg, m, f, h1, h2, _⟩ := h
  exact fun z => by rw [z, h2] at n; cases n
theorem PenAt.ne {H : Hp} {p q l : Addr} {c : Int} (h : PenAt H p l c) (n : H q = none) : q ≠ p := by
  obtain ⟨o, e⟩ := h.some
  exact fun z => by rw [z, e] at n; cases n
theorem penK_put_count (l : Addr) (i d n f x : Int) : putK (penK l i d n f) (.inr "count") (.int x) = penK l i d x f := by
  unfold penK putK
  simp (decide := true)
theorem penK_put_at (l : Addr) (i d n f x : Int) : putK (penK l i d n f) (.inr "at") (.int x) = penK l x d n f := by
  unfold penK putK
  simp (decide := true)
theorem penK_put_digits (l : Addr) (i d n f x : Int) : putK (penK l i d n f) (.inr "digits") (.int x) = penK l i x n f := by
  unfold penK putK
  simp (decide := true)
theorem penK_put_fold (l : Addr) (i d n f x : Int) : putK (penK l i d n f) (.inr "fold") (.int x) = penK l i d n x := by
  unfold penK putK
  simp (decide := true)
section
variable {H : Hp} {p l : Addr} {i d n f x : Int} (h : H p = some (.dK (penK l i d n f)))
include h
theorem dg_cells : DGet H p (.str "cells") (some (.ref l)) := .inl ⟨_, .inr "cells", .inl h, rfl, by unfold penK valV; simp (decide := true)⟩
theorem dg_at : DGet H p (.str "at") (some (.int i)) := .inl ⟨_, .inr "at", .inl h, rfl, by unfold penK valV; simp (decide := true)⟩
theorem dg_digits : DGet H p (.str "digits") (some (.int d)) := .inl ⟨_, .inr "digits", .inl h, rfl, by unfold penK valV; simp (decide := true)⟩
theorem dg_count : DGet H p (.str "count") (some (.int n)) := .inl ⟨_, .inr "count", .inl h, rfl, by unfold penK valV; simp (decide := true)⟩
theorem dg_fold : DGet H p (.str "fold") (some (.int f)) := .inl ⟨_, .inr "fold", .inl h, rfl, by unfold penK valV; simp (decide := true)⟩
theorem dp_count : DPut H p (.str "count") (.int x) (upd H p (.dK (penK l i d x f))) := .inl ⟨_, .inr "count", h, rfl, by show 5 < sizeLine; decide, by rw [penK_put_count]⟩
theorem dp_at : DPut H p (.str "at") (.int x) (upd H p (.dK (penK l x d n f))) := .inl ⟨_, .inr "at", h, rfl, by show 5 < sizeLine; decide, by rw [penK_put_at]⟩
theorem dp_digits : DPut H p (.str "digits") (.int x) (upd H p (.dK (penK l i x n f))) := .inl ⟨_, .inr "digits", h, rfl, by show 5 < sizeLine; decide, by rw [penK_put_digits]⟩
theorem dp_fold : DPut H p (.str "fold") (.int x) (upd H p (.dK (penK l i d n x))) := .inl ⟨_, .inr "fold", h, rfl, by show 5 < sizeLine; decide, by rw [penK_put_fold]⟩
end
def spPen (K : PySem.W.Frag) : Sp := fun vs H Q _ => ∃ (a : Addr) (ns : List Int), vs = [.ref a] ∧ SqL K H a (ns.map V.int) ∧ ns.length ≤ 63 ∧
  ∀ H' p l, Same H H' → H p = none → PenAt H' p l 0 → Q (.ref p) H'
abbrev s_L_pen : Stmt := top 25
abbrev N_L_pen : List Str := ["_law_script", "_law_fold", "_law_cell"]
theorem sc_L_pen : FnScope N_L_pen ["_law_script"] (defScope s_L_pen) := ⟨rfl, rfl, rfl, by decide +kernel, rfl, by decide +kernel, by decide +kernel⟩
theorem st_L_pen {v0 : V} : L2.start N_L_pen [v0] = [some v0, none, none] := rfl
theorem ok_L_pen {f : Addr} {fd : FuncData} (F : FD K s_L_pen "_law_pen" "_law_pen" f fd) (z_list : mg "list" = none) (z_int : mg "int" = none) : FnOk P w K mg base (L2.CX P w) 1 f fd ["_law_script"] (spPen K) := by
  have nd := sc_L_pen.nd
  refine F.ok0 sc_L_pen (fun vs H Q E h => ?_) (fun cdv A outer s H vs Q E hr h => ?_)
  · obtain ⟨a, ns, rfl, _⟩ := h
    rfl
  · obtain ⟨a, ns, rfl, hS, hlen, k⟩ := h
    refine ⟨_, (pss_cons (ps_set (i := 1) nd rfl (Or.inl rfl) pe_int)
        (pss_cons (ps_for PassesOwn.never rfl (pi_list (pv 0)) (pg_name (i := 2) nd rfl (Or.inl rfl)) (pss_one (ps_set (i := 1) nd rfl (Or.inl rfl) (pe_op op_mod (pe_callTy call_int1 (by rfl) z_int (by decide +kernel) (pa_cons (pe_op op_add (pe_op op_mulW (pv 1) pe_int) (pv 2)) pa_nil)) pe_int))))
        (pss_one (ps_ret (pe_disp (pps_cons pe_str (pe_callTy call_list_of (by rfl) z_list (by decide +kernel) (pa_cons (pv 0) pa_nil)) (pps_cons pe_str pe_int (pps_cons pe_str pe_int (pps_cons pe_str pe_int (pps_cons pe_str (pv 1) pps_nil))))) (by rfl) (by rfl) (fun z => by cases z) (by decide)))))), ?_⟩
    refine ⟨_, rfl, a, rfl, ⟨_, hS⟩, for_list (K := K) (a := a) (xs := ns.map V.int) (fun i σ H' => ∃ (z : Int) (v : Option V), H' = H ∧ σ = [some (.ref a), some (.int z), v] ∧ 0 ≤ z ∧ z < 1000000007)
      ⟨0, none, rfl, rfl, by decide, by decide⟩ (fun i σ H' _ ⟨_, _, e, _⟩ => by rw [e]; exact hS) ?_ ?_⟩
    · rintro i y σ H' hi ⟨z, v, rfl, rfl, z0, z1⟩
      obtain ⟨u, rfl⟩ : ∃ u, y = V.int u := by
        rw [List.getElem?_map] at hi
        cases e : ns[i]? with
        | none =>
          rw [e] at hi
          cases hi
        | some u =>
          rw [e] at hi
          exact ⟨u, (Option.some.inj hi).symm⟩
      simp only [tVar, rIxTH, rIxLH, gTupH, line_le, HO.tup.injEq, HO.lst.injEq, List.length_cons, List.length_nil, at0, at1, rU, tOst, tTest, rIxL, rIxT, C8.tCut, cxOf_K, tC, tOp, tUn, tSeq, tAsg, tNext, tRet, tRetN, tDrop, tIfS, tNever, gName, gNil, gCons, gTup, gSub, tPar, rI, rI0, rU, rEq, rNe, tB, tAnd, tOr, tNot, tAndV, tOrV, tNotV, tIf, tTup, tLst, tNil, tCons, tCB, tCall, tMeth, tMake, tFld, sFld, tDGet, sDPut, tDisp, tPairs, tBreak, tCont, scal_ii, scal_bb, scal_ss, List.getElem?_cons_zero, List.getElem?_cons_succ, List.set_cons_zero, List.set_cons_succ, Option.some.injEq, exists_eq_left', exists_eq_left, exists_and_left, V.int.injEq, V.bl.injEq, V.ref.injEq, V.str.injEq, List.cons.injEq, and_true, true_and, Bool.true_eq, List.nil_append, List.append_nil, List.cons_append, exists_eq', and_self, reduceCtorEq, false_or, or_false, false_and, exists_false, exists_const, and_assoc, if_true, Bool.false_eq_true, if_false, Nat.reduceAdd, Nat.reduceLeDiff, Nat.zero_add, Nat.le_refl, forall_const, st_L_pen]
      refine ⟨wide_mul (a := 40) (b := 40) (by omega) (by decide) (by decide) (by decide) (by decide), by decide, by omega, by omega⟩
    · rintro σ H' ⟨z, v, rfl, rfl, z0, z1⟩
      simp only [tVar, rIxTH, rIxLH, gTupH, line_le, HO.tup.injEq, HO.lst.injEq, List.length_cons, List.length_nil, at0, at1, rU, tOst, tTest, rIxL, rIxT, C8.tCut, cxOf_K, tC, tOp, tUn, tSeq, tAsg, tNext, tRet, tRetN, tDrop, tIfS, tNever, gName, gNil, gCons, gTup, gSub, tPar, rI, rI0, rU, rEq, rNe, tB, tAnd, tOr, tNot, tAndV, tOrV, tNotV, tIf, tTup, tLst, tNil, tCons, tCB, tCall, tMeth, tMake, tFld, sFld, tDGet, sDPut, tDisp, tPairs, tBreak, tCont, scal_ii, scal_bb, scal_ss, List.getElem?_cons_zero, List.getElem?_cons_succ, List.set_cons_zero, List.set_cons_succ, Option.some.injEq, exists_eq_left', exists_eq_left, exists_and_left, V.int.injEq, V.bl.injEq, V.ref.injEq, V.str.injEq, List.cons.injEq, and_true, true_and, Bool.true_eq, List.nil_append, List.append_nil, List.cons_append, exists_eq', and_self, reduceCtorEq, false_or, or_false, false_and, exists_false, exists_const, and_assoc, if_true, Bool.false_eq_true, if_false, Nat.reduceAdd, Nat.reduceLeDiff, Nat.zero_add, Nat.le_refl, forall_const, st_L_pen]
      intro p hp
      refine ⟨ns.map V.int, .inl (seqL_same (same_new hp) hS), fun l hl => ⟨?_, penK l 0 0 0 z, rfl, by show 5 ≤ 15; decide, ?_⟩⟩
      · have npl : p ≠ l := fun e => by rw [e, upd_same] at hl; cases hl
        rw [upd_ne npl, upd_same]
      · have npl : p ≠ l := fun e => by rw [e, upd_same] at hl; cases hl
        have e : mergeK [] (penK l 0 0 0 z) = penK l 0 0 0 z := by unfold penK mergeK putK; simp (decide := true)
        rw [e]
        have hl0 : H' l = none := by rw [upd_ne npl.symm] at hl; exact hl
        refine k _ p l (fun b o e => ?_) hp ⟨ns, 0, 0, 0, z, upd_same, by rw [upd_ne npl.symm, upd_same], by omega, by omega, by omega, by omega, z0, by omega⟩
        rw [upd_ne (ne_of_none e hp), upd_ne (ne_of_none e hl0), upd_ne (ne_of_none e hp)]
        exact e
/-- one digit -/
def spDraw : Sp := fun vs H Q _ => ∃ (p l : Addr) (c m : Int), vs = [.ref p, .int m] ∧ PenAt H p l c ∧ c < 1000000000000 ∧ 0 < m ∧ m.natAbs < 2 ^ 9000 ∧
  ∀ H' r, Ext p H H' → PenAt H' p l (c + 1) → 0 ≤ r → r < m → Q (.int r) H'
abbrev s_L_draw : Stmt := top 26
abbrev N_L_draw : List Str := ["_law_pen_here", "_law_many", "_law_cell", "_law_digit", "_law_mixed"]
theorem sc_L_draw : FnScope N_L_draw ["_law_pen_here", "_law_many"] (defScope s_L_draw) := ⟨rfl, rfl, rfl, by decide +kernel, rfl, by decide +kernel, by decide +kernel⟩
theorem st_L_draw {v0 v1 : V} : L2.start N_L_draw [v0, v1] = [some v0, some v1, none, none, none] := rfl
theorem ok_L_draw {f : Addr} {fd : FuncData} (F : FD K s_L_draw "_law_draw" "_law_draw" f fd) (z_int : mg "int" = none) (z_len : mg "len" = none) : FnOk P w K mg base (L2.CX P w) 1 f fd ["_law_pen_here", "_law_many"] (spDraw) := by
  have nd := sc_L_draw.nd
  refine F.ok0 sc_L_draw (fun vs H Q E h => ?_) (fun cdv A outer s H vs Q E hr h => ?_)
  · obtain ⟨p, l, c, m, rfl, _⟩ := h
    rfl
  · obtain ⟨p, l, c, m, rfl, ⟨cs, i, d, n, f, hp, hl, hi, hd, hn, hnc, hf, hf2⟩, hc, hm, hm2, k⟩ := h
    have nlp : l ≠ p := fun e => by rw [e, hp] at hl; cases hl
    refine ⟨_, (pss_cons (ps_dput (hu_of hr) (pv 0) pe_str (pe_op op_add (pe_dget (hu_of hr) (pv 0) pe_str (fun _ _ => rfl)) pe_int) rfl)
        (C8.pss_cut (ps_if (PW.pt (pw_and (pt_cmpR op_eq (pe_dget (hu_of hr) (pv 0) pe_str (fun _ _ => rfl)) pe_int (nomark _)) (pw_and1 (pt_cmpR op_lt (pe_dget (hu_of hr) (pv 0) pe_str (fun _ _ => rfl)) (pe_callB call_len_seq (by rfl) z_len (by decide +kernel) (pa_cons (pe_dget (hu_of hr) (pv 0) pe_str (fun _ _ => rfl)) pa_nil)) (nomark _))))) (pss_cons (ps_set (i := 2) nd rfl (Or.inl rfl) (pe_ix ix_list (pe_dget (hu_of hr) (pv 0) pe_str (fun _ _ => rfl)) (pe_dget (hu_of hr) (pv 0) pe_str (fun _ _ => rfl)) (fun _ _ => rfl)))
        (pss_cons (ps_dput (hu_of hr) (pv 0) pe_str (pe_op op_add (pe_dget (hu_of hr) (pv 0) pe_str (fun _ _ => rfl)) pe_int) rfl)
        (pss_one (ps_if (pt_cmpR op_ge (pv 2) (pe_op op_pow pe_int pe_int) (nomark _)) (pss_one (ps_dput (hu_of hr) (pv 0) pe_str (pe_op op_sub (pv 2) (pe_op op_pow pe_int pe_int)) rfl)) (pss_one (ps_dput (hu_of hr) (pv 0) pe_str (pe_op op_mod (pe_callTy call_int1 (by rfl) z_int (by decide +kernel) (pa_cons (pe_op op_add (pe_op op_mulW (pe_dget (hu_of hr) (pv 0) pe_str (fun _ _ => rfl)) pe_int) (pv 2)) pa_nil)) pe_int) rfl)))))) pss_nil)
        (pss_cons (ps_if (pt_cmpR op_gt (pe_dget (hu_of hr) (pv 0) pe_str (fun _ _ => rfl)) pe_int (nomark _)) (pss_cons (ps_set (i := 3) nd rfl (Or.inl rfl) (pe_op op_mod (pe_callTy call_int1 (by rfl) z_int (by decide +kernel) (pa_cons (pe_dget (hu_of hr) (pv 0) pe_str (fun _ _ => rfl)) pa_nil)) (pv 1)))
        (pss_cons (ps_dput (hu_of hr) (pv 0) pe_str (pe_op op_fdivW (pe_dget (hu_of hr) (pv 0) pe_str (fun _ _ => rfl)) (pv 1)) rfl)
        (pss_one (ps_ret (pv 3))))) pss_nil)
        (pss_cons (ps_set (i := 4) nd rfl (Or.inl rfl) (pe_op op_add (pe_op op_add (pe_dget (hu_of hr) (pv 0) pe_str (fun _ _ => rfl)) (pe_op op_mulW (pe_dget (hu_of hr) (pv 0) pe_str (fun _ _ => rfl)) pe_int)) pe_int))
        (pss_one (ps_ret (pe_op op_mod (pe_op op_fdivW (pe_callTy call_int1 (by rfl) z_int (by decide +kernel) (pa_cons (pe_op op_mod (pe_op op_pow (pv 4) pe_int) pe_int) pa_nil)) pe_int) (pv 1)))))))), ?_⟩
    simp only [tVar, rIxTH, rIxLH, gTupH, line_le, HO.tup.injEq, HO.lst.injEq, List.length_cons, List.length_nil, at0, at1, rU, tOst, tTest, rIxL, rIxT, C8.tCut, cxOf_K, tC, tOp, tUn, tSeq, tAsg, tNext, tRet, tRetN, tDrop, tIfS, tNever, gName, gNil, gCons, gTup, gSub, tPar, rI, rI0, rU, rEq, rNe, tB, tAnd, tOr, tNot, tAndV, tOrV, tNotV, tIf, tTup, tLst, tNil, tCons, tCB, tCall, tMeth, tMake, tFld, sFld, tDGet, sDPut, tDisp, tPairs, tBreak, tCont, scal_ii, scal_bb, scal_ss, List.getElem?_cons_zero, List.getElem?_cons_succ, List.set_cons_zero, List.set_cons_succ, Option.some.injEq, exists_eq_left', exists_eq_left, exists_and_left, V.int.injEq, V.bl.injEq, V.ref.injEq, V.str.injEq, List.cons.injEq, and_true, true_and, Bool.true_eq, List.nil_append, List.append_nil, List.cons_append, exists_eq', and_self, reduceCtorEq, false_or, or_false, false_and, exists_false, exists_const, and_assoc, if_true, Bool.false_eq_true, if_false, Nat.reduceAdd, Nat.reduceLeDiff, Nat.zero_add, Nat.le_refl, forall_const, st_L_draw]
    refine ⟨_, dg_count hp, n, rfl, _, dp_count hp, fun σ' H' => ∃ (d' i' f' : Int) (v2 v3 v4 : Option V), σ' = [some (.ref p), some (.int m), v2, v3, v4] ∧ H' p = some (.dK (penK l i' d' (n + 1) f')) ∧ Ext p H H' ∧ 0 ≤ i' ∧ 0 ≤ d' ∧ 0 ≤ f' ∧ f' < 2147483587, ?_, ?_⟩
    · have hp1 : upd H p (.dK (penK l i d (n + 1) f)) p = some (.dK (penK l i d (n + 1) f)) := upd_same
      have hE : Ext p H (upd H p (.dK (penK l i d (n + 1) f))) := fun b o nb e => by rw [upd_ne nb]; exact e
      generalize upd H p (.dK (penK l i d (n + 1) f)) = H1 at hp1 hE
      have hl1 := hE _ _ nlp hl
      refine ⟨_, dg_digits hp1, rfl, ?_⟩
      have same : ∃ (d' i' f' : Int) (v2 v3 v4 : Option V), [some (V.ref p), some (V.int m), none, none, none] = [some (V.ref p), some (V.int m), v2, v3, v4] ∧ H1 p = some (.dK (penK l i' d' (n + 1) f')) ∧ Ext p H H1 ∧ 0 ≤ i' ∧ 0 ≤ d' ∧ 0 ≤ f' ∧ f' < 2147483587 :=
        ⟨d, i, f, none, none, none, rfl, hp1, hE, hi, hd, hf, hf2⟩
      refine ite2 (fun _ => ?_) (fun _ => same)
      refine ⟨_, dg_at hp1, _, dg_cells hp1, l, rfl, cs.map V.int, .inl (SqL.of hl1), i, rfl, ?_⟩
      refine ite2 (fun hlt => ?_) (fun _ => same)
      have hlt2 : i < ((cs.map V.int).length : Int) := of_decide_eq_true hlt
      obtain ⟨u, hu⟩ : ∃ u, cs[i.toNat]? = some u := ⟨_, List.getElem?_eq_getElem (by rw [List.length_map] at hlt2; omega)⟩
      refine ⟨_, dg_cells hp1, _, dg_at hp1, l, rfl, cs.map V.int, i, rfl, SqL.of hl1, .int u, at_of (j := i.toNat) (by omega) (by rw [List.getElem?_map, hu]; rfl), ?_⟩
      refine ⟨_, dg_at hp1, i, rfl, _, dp_at hp1, ?_⟩
      have hp2 : upd H1 p (.dK (penK l (i + 1) d (n + 1) f)) p = some (.dK (penK l (i + 1) d (n + 1) f)) := upd_same
      have hE2 : Ext p H (upd H1 p (.dK (penK l (i + 1) d (n + 1) f))) := fun b o nb e => by rw [upd_ne nb]; exact hE b o nb e
      generalize upd H1 p (.dK (penK l (i + 1) d (n + 1) f)) = H2 at hp2 hE2
      refine ⟨⟨by decide, by decide, by decide⟩, u, rfl, ?_⟩
      refine ite2 (fun hge => ?_) (fun _ => ?_)
      · have hge2 := of_decide_eq_true hge
        refine ⟨⟨by decide, by decide, by decide⟩, u, rfl, _, dp_digits hp2, ?_⟩
        refine ⟨u - 10 ^ (18 : Int).toNat, i + 1, f, _, _, _, rfl, upd_same, fun b o nb e => by rw [upd_ne nb]; exact hE2 b o nb e, by omega, by omega, hf, hf2⟩
      · refine ⟨_, dg_fold hp2, f, rfl, wide_mul (a := 40) (b := 40) (by omega) (by decide) (by decide) (by decide) (by decide), u, rfl, by decide, _, dp_fold hp2, ?_⟩
        refine ⟨d, i + 1, _, _, _, _, rfl, upd_same, fun b o nb e => by rw [upd_ne nb]; exact hE2 b o nb e, by omega, hd, by omega, by omega⟩
    · rintro σ' H' ⟨d', i', f', v2, v3, v4, rfl, hp', hE, hi', hd', hf', hf2'⟩
      have hl' := hE _ _ nlp hl
      simp only [tVar, rIxTH, rIxLH, gTupH, line_le, HO.tup.injEq, HO.lst.injEq, List.length_cons, List.length_nil, at0, at1, rU, tOst, tTest, rIxL, rIxT, C8.tCut, cxOf_K, tC, tOp, tUn, tSeq, tAsg, tNext, tRet, tRetN, tDrop, tIfS, tNever, gName, gNil, gCons, gTup, gSub, tPar, rI, rI0, rU, rEq, rNe, tB, tAnd, tOr, tNot, tAndV, tOrV, tNotV, tIf, tTup, tLst, tNil, tCons, tCB, tCall, tMeth, tMake, tFld, sFld, tDGet, sDPut, tDisp, tPairs, tBreak, tCont, scal_ii, scal_bb, scal_ss, List.getElem?_cons_zero, List.getElem?_cons_succ, List.set_cons_zero, List.set_cons_succ, Option.some.injEq, exists_eq_left', exists_eq_left, exists_and_left, V.int.injEq, V.bl.injEq, V.ref.injEq, V.str.injEq, List.cons.injEq, and_true, true_and, Bool.true_eq, List.nil_append, List.append_nil, List.cons_append, exists_eq', and_self, reduceCtorEq, false_or, or_false, false_and, exists_false, exists_const, and_assoc, if_true, Bool.false_eq_true, if_false, Nat.reduceAdd, Nat.reduceLeDiff, Nat.zero_add, Nat.le_refl, forall_const, st_L_draw]
      refine ⟨_, dg_digits hp', d', rfl, ?_⟩
      refine ite2 (fun hpos => ?_) (fun hneg => ?_)
      · have hpos2 := of_decide_eq_true hpos
        refine ⟨_, dg_digits hp', .inl ⟨d', rfl, hm, ?_⟩⟩
        refine ⟨_, dg_digits hp', d', rfl, ⟨hm, HwM.log2_lt (by decide) hm2⟩, _, dp_digits hp', ?_⟩
        refine k _ _ (fun b o nb e => by rw [upd_ne nb]; exact hE b o nb e) ⟨cs, i', d' / m, n + 1, f', upd_same, by rw [upd_ne nlp]; exact hl', hi', Int.ediv_nonneg hd' (by omega), by omega, by omega, hf', hf2'⟩ (Int.emod_nonneg _ (by omega)) (Int.emod_lt_of_pos _ hm)
      · refine ⟨_, dg_fold hp', _, dg_count hp', n + 1, rfl, wide_mul (a := 60) (b := 40) (by omega) (by decide) (by decide) (by decide) (by decide), f', rfl, ⟨by decide, by decide, by omega⟩, by decide, ?_⟩
        refine ⟨⟨by decide, by decide⟩, hm, ?_⟩
        refine k _ _ hE ⟨cs, i', d', n + 1, f', hp', hl', hi', hd', by omega, by omega, hf', hf2'⟩ (Int.emod_nonneg _ (by omega)) (Int.emod_lt_of_pos _ hm)

def spPick : Sp := fun vs H Q _ => ∃ (p l a : Addr) (c : Int) (xs : List V), vs = [.ref p, .ref a] ∧ PenAt H p l c ∧ c < 100000000 ∧ H a = some (.lst xs) ∧ 0 < xs.length ∧ xs.length ≤ 1000 ∧ ∀ (H' : Hp) (i : Nat) (v : V), Ext p H H' → PenAt H' p l (c + 1) → xs[i]? = some v → Q v H'
abbrev s_L_pick : Stmt := top 27
abbrev N_L_pick : List Str := ["_law_pen_here", "_law_some"]
theorem sc_L_pick : FnScope N_L_pick ["_law_pen_here", "_law_some"] (defScope s_L_pick) := ⟨rfl, rfl, rfl, by decide +kernel, rfl, by decide +kernel, by decide +kernel⟩
theorem st_L_pick {v0 v1 : V} : L2.start N_L_pick [v0, v1] = [some v0, some v1] := rfl
theorem ok_L_pick {f : Addr} {fd : FuncData} (F : FD K s_L_pick "_law_pick" "_law_pick" f fd) (z_len : mg "len" = none) (g_L_draw : Gf P w K mg base "_law_draw" 1 ["_law_pen_here", "_law_many"] (spDraw)) : FnOk P w K mg base (L2.CX P w) 2 f fd ["_law_pen_here", "_law_some"] (spPick) := by
  have nd := sc_L_pick.nd
  refine F.ok0 sc_L_pick (fun vs H Q E h => ?_) (fun cdv A outer s H vs Q E hr h => ?_)
  · obtain ⟨p, l, a, c, xs, rfl, _⟩ := h
    rfl
  · obtain ⟨p, l, a, c, xs, rfl, hp, hc, ha, h0, h1, k⟩ := h
    refine ⟨_, (pss_one (ps_ret (pe_ix ix_listH (pv 1) (pe_g g_L_draw hr (by decide) passL rfl (pa_cons (pv 0) (pa_cons (pe_callB call_len_seq (by rfl) z_len (by decide +kernel) (pa_cons (pv 1) pa_nil)) pa_nil))) (fun _ _ => rfl)))), ?_⟩
    simp only [tVar, rIxTH, rIxLH, gTupH, line_le, HO.tup.injEq, HO.lst.injEq, List.length_cons, List.length_nil, at0, at1, rU, tOst, tTest, rIxL, rIxT, C8.tCut, cxOf_K, tC, tOp, tUn, tSeq, tAsg, tNext, tRet, tRetN, tDrop, tIfS, tNever, gName, gNil, gCons, gTup, gSub, tPar, rI, rI0, rU, rEq, rNe, tB, tAnd, tOr, tNot, tAndV, tOrV, tNotV, tIf, tTup, tLst, tNil, tCons, tCB, tCall, tMeth, tMake, tFld, sFld, tDGet, sDPut, tDisp, tPairs, tBreak, tCont, scal_ii, scal_bb, scal_ss, List.getElem?_cons_zero, List.getElem?_cons_succ, List.set_cons_zero, List.set_cons_succ, Option.some.injEq, exists_eq_left', exists_eq_left, exists_and_left, V.int.injEq, V.bl.injEq, V.ref.injEq, V.str.injEq, List.cons.injEq, and_true, true_and, Bool.true_eq, List.nil_append, List.append_nil, List.cons_append, exists_eq', and_self, reduceCtorEq, false_or, or_false, false_and, exists_false, exists_const, and_assoc, if_true, Bool.false_eq_true, if_false, Nat.reduceAdd, Nat.reduceLeDiff, Nat.zero_add, Nat.le_refl, forall_const, st_L_pick]
    have nap : a ≠ p := fun e => by
      obtain ⟨cs, i, dg, n, f, h1, _⟩ := hp
      rw [e, h1] at ha
      cases ha
    refine ⟨xs, .inl (SqL.of ha), p, l, c, xs.length, rfl, hp, by omega, by omega, ?_, fun H1 r x1 p1 r0 r1 => ?_⟩
    · rw [Int.natAbs_natCast]
      exact Nat.lt_of_le_of_lt h1 (Nat.lt_of_lt_of_le (show 1000 < 2 ^ 10 by decide) (Nat.pow_le_pow_right (by decide) (by decide)))
    · obtain ⟨j, rfl⟩ : ∃ j : Nat, r = (j : Int) := ⟨r.toNat, by omega⟩
      obtain ⟨v, hv⟩ : ∃ v, xs[j]? = some v := ⟨_, List.getElem?_eq_getElem (by omega)⟩
      simp only [tVar, rIxTH, rIxLH, gTupH, line_le, HO.tup.injEq, HO.lst.injEq, List.length_cons, List.length_nil, at0, at1, rU, tOst, tTest, rIxL, rIxT, C8.tCut, cxOf_K, tC, tOp, tUn, tSeq, tAsg, tNext, tRet, tRetN, tDrop, tIfS, tNever, gName, gNil, gCons, gTup, gSub, tPar, rI, rI0, rU, rEq, rNe, tB, tAnd, tOr, tNot, tAndV, tOrV, tNotV, tIf, tTup, tLst, tNil, tCons, tCB, tCall, tMeth, tMake, tFld, sFld, tDGet, sDPut, tDisp, tPairs, tBreak, tCont, scal_ii, scal_bb, scal_ss, List.getElem?_cons_zero, List.getElem?_cons_succ, List.set_cons_zero, List.set_cons_succ, Option.some.injEq, exists_eq_left', exists_eq_left, exists_and_left, V.int.injEq, V.bl.injEq, V.ref.injEq, V.str.injEq, List.cons.injEq, and_true, true_and, Bool.true_eq, List.nil_append, List.append_nil, List.cons_append, exists_eq', and_self, reduceCtorEq, false_or, or_false, false_and, exists_false, exists_const, and_assoc, if_true, Bool.false_eq_true, if_false, Nat.reduceAdd, Nat.reduceLeDiff, Nat.zero_add, Nat.le_refl, forall_const, st_L_pick, x1 _ _ nap ha]
      exact ⟨v, atI_nat hv, k H1 j v x1 p1 hv⟩


end HwL
end

section
namespace HwL
open PySem PySem.Spec PyProof.Rows L2 LamX
variable {P : Program} {w : World} {K : PySem.W.Frag} {mg : Str → Option Value} {base : Heap}

/-! ### the errors -/
abbrev s_BadTextD_initD : Stmt := inClass (top 2) 0
abbrev N_BadTextD_initD : List Str := ["self", "line", "column"]
theorem sc_BadTextD_initD : FnScope N_BadTextD_initD ["self", "line", "column"] (defScope s_BadTextD_initD) := ⟨rfl, rfl, rfl, by decide +kernel, rfl, by decide +kernel, by decide +kernel⟩
theorem st_BadTextD_initD {v0 v1 v2 : V} : L2.start N_BadTextD_initD [v0, v1, v2] = [some v0, some v1, some v2] := rfl
theorem ok_BadTextD_initD {f : Addr} {fd : FuncData} (F : FD K s_BadTextD_initD "__init__" "BadText.__init__" f fd) {C_BadText : Addr} (TX : OexC K C_BadText) (n1 : PySem.W.findIn K (.ref C_BadText) "line" = some none) (n2 : PySem.W.findIn K (.ref C_BadText) "column" = some none) : FnOk P w K mg base (L2.CX P w) 1 f fd ["self", "line", "column"] (spX2 C_BadText "line" "column") := by
  have nd := sc_BadTextD_initD.nd
  refine F.ok0 sc_BadTextD_initD (fun vs H Q E h => ?_) (fun cdv A outer s H vs Q E hr h => ?_)
  · obtain ⟨a, x, y, rfl, _⟩ := h
    rfl
  · obtain ⟨a, x, y, rfl, ha, k⟩ := h
    refine ⟨_, (pss_cons (ps_ost (pv 0) (pv 1))
        (pss_one (ps_ost (pv 0) (pv 2)))), ?_⟩
    simp only [tVar, rIxTH, rIxLH, gTupH, line_le, HO.tup.injEq, HO.lst.injEq, List.length_cons, List.length_nil, at0, at1, rU, tOst, tTest, rIxL, rIxT, C8.tCut, cxOf_K, tC, tOp, tUn, tSeq, tAsg, tNext, tRet, tRetN, tDrop, tIfS, tNever, gName, gNil, gCons, gTup, gSub, tPar, rI, rI0, rU, rEq, rNe, tB, tAnd, tOr, tNot, tAndV, tOrV, tNotV, tIf, tTup, tLst, tNil, tCons, tCB, tCall, tMeth, tMake, tFld, sFld, tDGet, sDPut, tDisp, tPairs, tBreak, tCont, scal_ii, scal_bb, scal_ss, List.getElem?_cons_zero, List.getElem?_cons_succ, List.set_cons_zero, List.set_cons_succ, Option.some.injEq, exists_eq_left', exists_eq_left, exists_and_left, V.int.injEq, V.bl.injEq, V.ref.injEq, V.str.injEq, List.cons.injEq, and_true, true_and, Bool.true_eq, List.nil_append, List.append_nil, List.cons_append, exists_eq', and_self, reduceCtorEq, false_or, or_false, false_and, exists_false, exists_const, and_assoc, if_true, Bool.false_eq_true, if_false, Nat.reduceAdd, Nat.reduceLeDiff, Nat.zero_add, Nat.le_refl, forall_const, st_BadTextD_initD]
    refine ⟨C_BadText, TX, n1, .inl ⟨ha, fun d hd hda => ?_⟩⟩
    refine ⟨C_BadText, TX, n2, .inr ⟨d, upd_same, [("line", x)], by rw [upd_ne hda, upd_same], by show 1 ≤ 900; decide, ?_⟩⟩
    exact k d hd hda
abbrev s_BadNameD_initD : Stmt := inClass (top 3) 0
abbrev N_BadNameD_initD : List Str := ["self", "name"]
theorem sc_BadNameD_initD : FnScope N_BadNameD_initD ["self", "name"] (defScope s_BadNameD_initD) := ⟨rfl, rfl, rfl, by decide +kernel, rfl, by decide +kernel, by decide +kernel⟩
theorem st_BadNameD_initD {v0 v1 : V} : L2.start N_BadNameD_initD [v0, v1] = [some v0, some v1] := rfl
theorem ok_BadNameD_initD {f : Addr} {fd : FuncData} (F : FD K s_BadNameD_initD "__init__" "BadName.__init__" f fd) {C_BadName : Addr} (TX : OexC K C_BadName) (n1 : PySem.W.findIn K (.ref C_BadName) "name" = some none) : FnOk P w K mg base (L2.CX P w) 1 f fd ["self", "name"] (spX1 C_BadName "name") := by
  have nd := sc_BadNameD_initD.nd
  refine F.ok0 sc_BadNameD_initD (fun vs H Q E h => ?_) (fun cdv A outer s H vs Q E hr h => ?_)
  · obtain ⟨a, x, rfl, _⟩ := h
    rfl
  · obtain ⟨a, x, rfl, ha, k⟩ := h
    refine ⟨_, (pss_one (ps_ost (pv 0) (pv 1))), ?_⟩
    simp only [tVar, rIxTH, rIxLH, gTupH, line_le, HO.tup.injEq, HO.lst.injEq, List.length_cons, List.length_nil, at0, at1, rU, tOst, tTest, rIxL, rIxT, C8.tCut, cxOf_K, tC, tOp, tUn, tSeq, tAsg, tNext, tRet, tRetN, tDrop, tIfS, tNever, gName, gNil, gCons, gTup, gSub, tPar, rI, rI0, rU, rEq, rNe, tB, tAnd, tOr, tNot, tAndV, tOrV, tNotV, tIf, tTup, tLst, tNil, tCons, tCB, tCall, tMeth, tMake, tFld, sFld, tDGet, sDPut, tDisp, tPairs, tBreak, tCont, scal_ii, scal_bb, scal_ss, List.getElem?_cons_zero, List.getElem?_cons_succ, List.set_cons_zero, List.set_cons_succ, Option.some.injEq, exists_eq_left', exists_eq_left, exists_and_left, V.int.injEq, V.bl.injEq, V.ref.injEq, V.str.injEq, List.cons.injEq, and_true, true_and, Bool.true_eq, List.nil_append, List.append_nil, List.cons_append, exists_eq', and_self, reduceCtorEq, false_or, or_false, false_and, exists_false, exists_const, and_assoc, if_true, Bool.false_eq_true, if_false, Nat.reduceAdd, Nat.reduceLeDiff, Nat.zero_add, Nat.le_refl, forall_const, st_BadNameD_initD]
    refine ⟨C_BadName, TX, n1, .inl ⟨ha, fun d hd hda => ?_⟩⟩
    exact k d hd hda
abbrev s_BadNumberD_initD : Stmt := inClass (top 4) 0
abbrev N_BadNumberD_initD : List Str := ["self", "what", "number"]
theorem sc_BadNumberD_initD : FnScope N_BadNumberD_initD ["self", "what", "number"] (defScope s_BadNumberD_initD) := ⟨rfl, rfl, rfl, by decide +kernel, rfl, by decide +kernel, by decide +kernel⟩
theorem st_BadNumberD_initD {v0 v1 v2 : V} : L2.start N_BadNumberD_initD [v0, v1, v2] = [some v0, some v1, some v2] := rfl
theorem ok_BadNumberD_initD {f : Addr} {fd : FuncData} (F : FD K s_BadNumberD_initD "__init__" "BadNumber.__init__" f fd) {C_BadNumber : Addr} (TX : OexC K C_BadNumber) (n1 : PySem.W.findIn K (.ref C_BadNumber) "what" = some none) (n2 : PySem.W.findIn K (.ref C_BadNumber) "number" = some none) : FnOk P w K mg base (L2.CX P w) 1 f fd ["self", "what", "number"] (spX2 C_BadNumber "what" "number") := by
  have nd := sc_BadNumberD_initD.nd
  refine F.ok0 sc_BadNumberD_initD (fun vs H Q E h => ?_) (fun cdv A outer s H vs Q E hr h => ?_)
  · obtain ⟨a, x, y, rfl, _⟩ := h
    rfl
  · obtain ⟨a, x, y, rfl, ha, k⟩ := h
    refine ⟨_, (pss_cons (ps_ost (pv 0) (pv 1))
        (pss_one (ps_ost (pv 0) (pv 2)))), ?_⟩
    simp only [tVar, rIxTH, rIxLH, gTupH, line_le, HO.tup.injEq, HO.lst.injEq, List.length_cons, List.length_nil, at0, at1, rU, tOst, tTest, rIxL, rIxT, C8.tCut, cxOf_K, tC, tOp, tUn, tSeq, tAsg, tNext, tRet, tRetN, tDrop, tIfS, tNever, gName, gNil, gCons, gTup, gSub, tPar, rI, rI0, rU, rEq, rNe, tB, tAnd, tOr, tNot, tAndV, tOrV, tNotV, tIf, tTup, tLst, tNil, tCons, tCB, tCall, tMeth, tMake, tFld, sFld, tDGet, sDPut, tDisp, tPairs, tBreak, tCont, scal_ii, scal_bb, scal_ss, List.getElem?_cons_zero, List.getElem?_cons_succ, List.set_cons_zero, List.set_cons_succ, Option.some.injEq, exists_eq_left', exists_eq_left, exists_and_left, V.int.injEq, V.bl.injEq, V.ref.injEq, V.str.injEq, List.cons.injEq, and_true, true_and, Bool.true_eq, List.nil_append, List.append_nil, List.cons_append, exists_eq', and_self, reduceCtorEq, false_or, or_false, false_and, exists_false, exists_const, and_assoc, if_true, Bool.false_eq_true, if_false, Nat.reduceAdd, Nat.reduceLeDiff, Nat.zero_add, Nat.le_refl, forall_const, st_BadNumberD_initD]
    refine ⟨C_BadNumber, TX, n1, .inl ⟨ha, fun d hd hda => ?_⟩⟩
    refine ⟨C_BadNumber, TX, n2, .inr ⟨d, upd_same, [("what", x)], by rw [upd_ne hda, upd_same], by show 1 ≤ 900; decide, ?_⟩⟩
    exact k d hd hda
abbrev s_BadGivenD_initD : Stmt := inClass (top 5) 0
abbrev N_BadGivenD_initD : List Str := ["self", "what"]
theorem sc_BadGivenD_initD : FnScope N_BadGivenD_initD ["self", "what"] (defScope s_BadGivenD_initD) := ⟨rfl, rfl, rfl, by decide +kernel, rfl, by decide +kernel, by decide +kernel⟩
theorem st_BadGivenD_initD {v0 v1 : V} : L2.start N_BadGivenD_initD [v0, v1] = [some v0, some v1] := rfl
theorem ok_BadGivenD_initD {f : Addr} {fd : FuncData} (F : FD K s_BadGivenD_initD "__init__" "BadGiven.__init__" f fd) {C_BadGiven : Addr} (TX : OexC K C_BadGiven) (n1 : PySem.W.findIn K (.ref C_BadGiven) "what" = some none) : FnOk P w K mg base (L2.CX P w) 1 f fd ["self", "what"] (spX1 C_BadGiven "what") := by
  have nd := sc_BadGivenD_initD.nd
  refine F.ok0 sc_BadGivenD_initD (fun vs H Q E h => ?_) (fun cdv A outer s H vs Q E hr h => ?_)
  · obtain ⟨a, x, rfl, _⟩ := h
    rfl
  · obtain ⟨a, x, rfl, ha, k⟩ := h
    refine ⟨_, (pss_one (ps_ost (pv 0) (pv 1))), ?_⟩
    simp only [tVar, rIxTH, rIxLH, gTupH, line_le, HO.tup.injEq, HO.lst.injEq, List.length_cons, List.length_nil, at0, at1, rU, tOst, tTest, rIxL, rIxT, C8.tCut, cxOf_K, tC, tOp, tUn, tSeq, tAsg, tNext, tRet, tRetN, tDrop, tIfS, tNever, gName, gNil, gCons, gTup, gSub, tPar, rI, rI0, rU, rEq, rNe, tB, tAnd, tOr, tNot, tAndV, tOrV, tNotV, tIf, tTup, tLst, tNil, tCons, tCB, tCall, tMeth, tMake, tFld, sFld, tDGet, sDPut, tDisp, tPairs, tBreak, tCont, scal_ii, scal_bb, scal_ss, List.getElem?_cons_zero, List.getElem?_cons_succ, List.set_cons_zero, List.set_cons_succ, Option.some.injEq, exists_eq_left', exists_eq_left, exists_and_left, V.int.injEq, V.bl.injEq, V.ref.injEq, V.str.injEq, List.cons.injEq, and_true, true_and, Bool.true_eq, List.nil_append, List.append_nil, List.cons_append, exists_eq', and_self, reduceCtorEq, false_or, or_false, false_and, exists_false, exists_const, and_assoc, if_true, Bool.false_eq_true, if_false, Nat.reduceAdd, Nat.reduceLeDiff, Nat.zero_add, Nat.le_refl, forall_const, st_BadGivenD_initD]
    refine ⟨C_BadGiven, TX, n1, .inl ⟨ha, fun d hd hda => ?_⟩⟩
    exact k d hd hda
abbrev s_BadAnswersD_initD : Stmt := inClass (top 6) 0
abbrev N_BadAnswersD_initD : List Str := ["self", "place"]
theorem sc_BadAnswersD_initD : FnScope N_BadAnswersD_initD ["self", "place"] (defScope s_BadAnswersD_initD) := ⟨rfl, rfl, rfl, by decide +kernel, rfl, by decide +kernel, by decide +kernel⟩
theorem st_BadAnswersD_initD {v0 v1 : V} : L2.start N_BadAnswersD_initD [v0, v1] = [some v0, some v1] := rfl
theorem ok_BadAnswersD_initD {f : Addr} {fd : FuncData} (F : FD K s_BadAnswersD_initD "__init__" "BadAnswers.__init__" f fd) {C_BadAnswers : Addr} (TX : OexC K C_BadAnswers) (n1 : PySem.W.findIn K (.ref C_BadAnswers) "place" = some none) : FnOk P w K mg base (L2.CX P w) 1 f fd ["self", "place"] (spX1 C_BadAnswers "place") := by
  have nd := sc_BadAnswersD_initD.nd
  refine F.ok0 sc_BadAnswersD_initD (fun vs H Q E h => ?_) (fun cdv A outer s H vs Q E hr h => ?_)
  · obtain ⟨a, x, rfl, _⟩ := h
    rfl
  · obtain ⟨a, x, rfl, ha, k⟩ := h
    refine ⟨_, (pss_one (ps_ost (pv 0) (pv 1))), ?_⟩
    simp only [tVar, rIxTH, rIxLH, gTupH, line_le, HO.tup.injEq, HO.lst.injEq, List.length_cons, List.length_nil, at0, at1, rU, tOst, tTest, rIxL, rIxT, C8.tCut, cxOf_K, tC, tOp, tUn, tSeq, tAsg, tNext, tRet, tRetN, tDrop, tIfS, tNever, gName, gNil, gCons, gTup, gSub, tPar, rI, rI0, rU, rEq, rNe, tB, tAnd, tOr, tNot, tAndV, tOrV, tNotV, tIf, tTup, tLst, tNil, tCons, tCB, tCall, tMeth, tMake, tFld, sFld, tDGet, sDPut, tDisp, tPairs, tBreak, tCont, scal_ii, scal_bb, scal_ss, List.getElem?_cons_zero, List.getElem?_cons_succ, List.set_cons_zero, List.set_cons_succ, Option.some.injEq, exists_eq_left', exists_eq_left, exists_and_left, V.int.injEq, V.bl.injEq, V.ref.injEq, V.str.injEq, List.cons.injEq, and_true, true_and, Bool.true_eq, List.nil_append, List.append_nil, List.cons_append, exists_eq', and_self, reduceCtorEq, false_or, or_false, false_and, exists_false, exists_const, and_assoc, if_true, Bool.false_eq_true, if_false, Nat.reduceAdd, Nat.reduceLeDiff, Nat.zero_add, Nat.le_refl, forall_const, st_BadAnswersD_initD]
    refine ⟨C_BadAnswers, TX, n1, .inl ⟨ha, fun d hd hda => ?_⟩⟩
    exact k d hd hda
abbrev s_BadPlaceD_initD : Stmt := inClass (top 7) 0
abbrev N_BadPlaceD_initD : List Str := ["self", "row"]
theorem sc_BadPlaceD_initD : FnScope N_BadPlaceD_initD ["self", "row"] (defScope s_BadPlaceD_initD) := ⟨rfl, rfl, rfl, by decide +kernel, rfl, by decide +kernel, by decide +kernel⟩
theorem st_BadPlaceD_initD {v0 v1 : V} : L2.start N_BadPlaceD_initD [v0, v1] = [some v0, some v1] := rfl
theorem ok_BadPlaceD_initD {f : Addr} {fd : FuncData} (F : FD K s_BadPlaceD_initD "__init__" "BadPlace.__init__" f fd) {C_BadPlace : Addr} (TX : OexC K C_BadPlace) (n1 : PySem.W.findIn K (.ref C_BadPlace) "row" = some none) : FnOk P w K mg base (L2.CX P w) 1 f fd ["self", "row"] (spX1 C_BadPlace "row") := by
  have nd := sc_BadPlaceD_initD.nd
  refine F.ok0 sc_BadPlaceD_initD (fun vs H Q E h => ?_) (fun cdv A outer s H vs Q E hr h => ?_)
  · obtain ⟨a, x, rfl, _⟩ := h
    rfl
  · obtain ⟨a, x, rfl, ha, k⟩ := h
    refine ⟨_, (pss_one (ps_ost (pv 0) (pv 1))), ?_⟩
    simp only [tVar, rIxTH, rIxLH, gTupH, line_le, HO.tup.injEq, HO.lst.injEq, List.length_cons, List.length_nil, at0, at1, rU, tOst, tTest, rIxL, rIxT, C8.tCut, cxOf_K, tC, tOp, tUn, tSeq, tAsg, tNext, tRet, tRetN, tDrop, tIfS, tNever, gName, gNil, gCons, gTup, gSub, tPar, rI, rI0, rU, rEq, rNe, tB, tAnd, tOr, tNot, tAndV, tOrV, tNotV, tIf, tTup, tLst, tNil, tCons, tCB, tCall, tMeth, tMake, tFld, sFld, tDGet, sDPut, tDisp, tPairs, tBreak, tCont, scal_ii, scal_bb, scal_ss, List.getElem?_cons_zero, List.getElem?_cons_succ, List.set_cons_zero, List.set_cons_succ, Option.some.injEq, exists_eq_left', exists_eq_left, exists_and_left, V.int.injEq, V.bl.injEq, V.ref.injEq, V.str.injEq, List.cons.injEq, and_true, true_and, Bool.true_eq, List.nil_append, List.append_nil, List.cons_append, exists_eq', and_self, reduceCtorEq, false_or, or_false, false_and, exists_false, exists_const, and_assoc, if_true, Bool.false_eq_true, if_false, Nat.reduceAdd, Nat.reduceLeDiff, Nat.zero_add, Nat.le_refl, forall_const, st_BadPlaceD_initD]
    refine ⟨C_BadPlace, TX, n1, .inl ⟨ha, fun d hd hda => ?_⟩⟩
    exact k d hd hda
abbrev s_BadTableD_initD : Stmt := inClass (top 8) 0
abbrev N_BadTableD_initD : List Str := ["self", "row"]
theorem sc_BadTableD_initD : FnScope N_BadTableD_initD ["self", "row"] (defScope s_BadTableD_initD) := ⟨rfl, rfl, rfl, by decide +kernel, rfl, by decide +kernel, by decide +kernel⟩
theorem st_BadTableD_initD {v0 v1 : V} : L2.start N_BadTableD_initD [v0, v1] = [some v0, some v1] := rfl
theorem ok_BadTableD_initD {f : Addr} {fd : FuncData} (F : FD K s_BadTableD_initD "__init__" "BadTable.__init__" f fd) {C_BadTable : Addr} (TX : OexC K C_BadTable) (n1 : PySem.W.findIn K (.ref C_BadTable) "row" = some none) : FnOk P w K mg base (L2.CX P w) 1 f fd ["self", "row"] (spX1 C_BadTable "row") := by
  have nd := sc_BadTableD_initD.nd
  refine F.ok0 sc_BadTableD_initD (fun vs H Q E h => ?_) (fun cdv A outer s H vs Q E hr h => ?_)
  · obtain ⟨a, x, rfl, _⟩ := h
    rfl
  · obtain ⟨a, x, rfl, ha, k⟩ := h
    refine ⟨_, (pss_one (ps_ost (pv 0) (pv 1))), ?_⟩
    simp only [tVar, rIxTH, rIxLH, gTupH, line_le, HO.tup.injEq, HO.lst.injEq, List.length_cons, List.length_nil, at0, at1, rU, tOst, tTest, rIxL, rIxT, C8.tCut, cxOf_K, tC, tOp, tUn, tSeq, tAsg, tNext, tRet, tRetN, tDrop, tIfS, tNever, gName, gNil, gCons, gTup, gSub, tPar, rI, rI0, rU, rEq, rNe, tB, tAnd, tOr, tNot, tAndV, tOrV, tNotV, tIf, tTup, tLst, tNil, tCons, tCB, tCall, tMeth, tMake, tFld, sFld, tDGet, sDPut, tDisp, tPairs, tBreak, tCont, scal_ii, scal_bb, scal_ss, List.getElem?_cons_zero, List.getElem?_cons_succ, List.set_cons_zero, List.set_cons_succ, Option.some.injEq, exists_eq_left', exists_eq_left, exists_and_left, V.int.injEq, V.bl.injEq, V.ref.injEq, V.str.injEq, List.cons.injEq, and_true, true_and, Bool.true_eq, List.nil_append, List.append_nil, List.cons_append, exists_eq', and_self, reduceCtorEq, false_or, or_false, false_and, exists_false, exists_const, and_assoc, if_true, Bool.false_eq_true, if_false, Nat.reduceAdd, Nat.reduceLeDiff, Nat.zero_add, Nat.le_refl, forall_const, st_BadTableD_initD]
    refine ⟨C_BadTable, TX, n1, .inl ⟨ha, fun d hd hda => ?_⟩⟩
    exact k d hd hda
abbrev s_TooLongD_initD : Stmt := inClass (top 9) 0
abbrev N_TooLongD_initD : List Str := ["self", "digits"]
theorem sc_TooLongD_initD : FnScope N_TooLongD_initD ["self", "digits"] (defScope s_TooLongD_initD) := ⟨rfl, rfl, rfl, by decide +kernel, rfl, by decide +kernel, by decide +kernel⟩
theorem st_TooLongD_initD {v0 v1 : V} : L2.start N_TooLongD_initD [v0, v1] = [some v0, some v1] := rfl
theorem ok_TooLongD_initD {f : Addr} {fd : FuncData} (F : FD K s_TooLongD_initD "__init__" "TooLong.__init__" f fd) {C_TooLong : Addr} (TX : OexC K C_TooLong) (n1 : PySem.W.findIn K (.ref C_TooLong) "digits" = some none) : FnOk P w K mg base (L2.CX P w) 1 f fd ["self", "digits"] (spX1 C_TooLong "digits") := by
  have nd := sc_TooLongD_initD.nd
  refine F.ok0 sc_TooLongD_initD (fun vs H Q E h => ?_) (fun cdv A outer s H vs Q E hr h => ?_)
  · obtain ⟨a, x, rfl, _⟩ := h
    rfl
  · obtain ⟨a, x, rfl, ha, k⟩ := h
    refine ⟨_, (pss_one (ps_ost (pv 0) (pv 1))), ?_⟩
    simp only [tVar, rIxTH, rIxLH, gTupH, line_le, HO.tup.injEq, HO.lst.injEq, List.length_cons, List.length_nil, at0, at1, rU, tOst, tTest, rIxL, rIxT, C8.tCut, cxOf_K, tC, tOp, tUn, tSeq, tAsg, tNext, tRet, tRetN, tDrop, tIfS, tNever, gName, gNil, gCons, gTup, gSub, tPar, rI, rI0, rU, rEq, rNe, tB, tAnd, tOr, tNot, tAndV, tOrV, tNotV, tIf, tTup, tLst, tNil, tCons, tCB, tCall, tMeth, tMake, tFld, sFld, tDGet, sDPut, tDisp, tPairs, tBreak, tCont, scal_ii, scal_bb, scal_ss, List.getElem?_cons_zero, List.getElem?_cons_succ, List.set_cons_zero, List.set_cons_succ, Option.some.injEq, exists_eq_left', exists_eq_left, exists_and_left, V.int.injEq, V.bl.injEq, V.ref.injEq, V.str.injEq, List.cons.injEq, and_true, true_and, Bool.true_eq, List.nil_append, List.append_nil, List.cons_append, exists_eq', and_self, reduceCtorEq, false_or, or_false, false_and, exists_false, exists_const, and_assoc, if_true, Bool.false_eq_true, if_false, Nat.reduceAdd, Nat.reduceLeDiff, Nat.zero_add, Nat.le_refl, forall_const, st_TooLongD_initD]
    refine ⟨C_TooLong, TX, n1, .inl ⟨ha, fun d hd hda => ?_⟩⟩
    exact k d hd hda
abbrev s_TooLargeD_initD : Stmt := inClass (top 10) 0
abbrev N_TooLargeD_initD : List Str := ["self", "what", "many", "limit"]
theorem sc_TooLargeD_initD : FnScope N_TooLargeD_initD ["self", "what", "many", "limit"] (defScope s_TooLargeD_initD) := ⟨rfl, rfl, rfl, by decide +kernel, rfl, by decide +kernel, by decide +kernel⟩
theorem st_TooLargeD_initD {v0 v1 v2 v3 : V} : L2.start N_TooLargeD_initD [v0, v1, v2, v3] = [some v0, some v1, some v2, some v3] := rfl
theorem ok_TooLargeD_initD {f : Addr} {fd : FuncData} (F : FD K s_TooLargeD_initD "__init__" "TooLarge.__init__" f fd) {C_TooLarge : Addr} (TX : OexC K C_TooLarge) (n1 : PySem.W.findIn K (.ref C_TooLarge) "what" = some none) (n2 : PySem.W.findIn K (.ref C_TooLarge) "many" = some none) (n3 : PySem.W.findIn K (.ref C_TooLarge) "limit" = some none) : FnOk P w K mg base (L2.CX P w) 1 f fd ["self", "what", "many", "limit"] (spX3 C_TooLarge "what" "many" "limit") := by
  have nd := sc_TooLargeD_initD.nd
  refine F.ok0 sc_TooLargeD_initD (fun vs H Q E h => ?_) (fun cdv A outer s H vs Q E hr h => ?_)
  · obtain ⟨a, x, y, z, rfl, _⟩ := h
    rfl
  · obtain ⟨a, x, y, z, rfl, ha, k⟩ := h
    refine ⟨_, (pss_cons (ps_ost (pv 0) (pv 1))
        (pss_cons (ps_ost (pv 0) (pv 2))
        (pss_one (ps_ost (pv 0) (pv 3))))), ?_⟩
    simp only [tVar, rIxTH, rIxLH, gTupH, line_le, HO.tup.injEq, HO.lst.injEq, List.length_cons, List.length_nil, at0, at1, rU, tOst, tTest, rIxL, rIxT, C8.tCut, cxOf_K, tC, tOp, tUn, tSeq, tAsg, tNext, tRet, tRetN, tDrop, tIfS, tNever, gName, gNil, gCons, gTup, gSub, tPar, rI, rI0, rU, rEq, rNe, tB, tAnd, tOr, tNot, tAndV, tOrV, tNotV, tIf, tTup, tLst, tNil, tCons, tCB, tCall, tMeth, tMake, tFld, sFld, tDGet, sDPut, tDisp, tPairs, tBreak, tCont, scal_ii, scal_bb, scal_ss, List.getElem?_cons_zero, List.getElem?_cons_succ, List.set_cons_zero, List.set_cons_succ, Option.some.injEq, exists_eq_left', exists_eq_left, exists_and_left, V.int.injEq, V.bl.injEq, V.ref.injEq, V.str.injEq, List.cons.injEq, and_true, true_and, Bool.true_eq, List.nil_append, List.append_nil, List.cons_append, exists_eq', and_self, reduceCtorEq, false_or, or_false, false_and, exists_false, exists_const, and_assoc, if_true, Bool.false_eq_true, if_false, Nat.reduceAdd, Nat.reduceLeDiff, Nat.zero_add, Nat.le_refl, forall_const, st_TooLargeD_initD]
    refine ⟨C_TooLarge, TX, n1, .inl ⟨ha, fun d hd hda => ?_⟩⟩
    refine ⟨C_TooLarge, TX, n2, .inr ⟨d, upd_same, [("what", x)], by rw [upd_ne hda, upd_same], by show 1 ≤ 900; decide, ?_⟩⟩
    refine ⟨C_TooLarge, TX, n3, .inr ⟨d, by rw [upd_ne hda.symm, upd_same], [("many", y), ("what", x)], upd_same, by show 2 ≤ 900; decide, ?_⟩⟩
    exact k d hd hda
abbrev s_TooManyD_initD : Stmt := inClass (top 11) 0
abbrev N_TooManyD_initD : List Str := ["self", "what", "many", "limit"]
theorem sc_TooManyD_initD : FnScope N_TooManyD_initD ["self", "what", "many", "limit"] (defScope s_TooManyD_initD) := ⟨rfl, rfl, rfl, by decide +kernel, rfl, by decide +kernel, by decide +kernel⟩
theorem st_TooManyD_initD {v0 v1 v2 v3 : V} : L2.start N_TooManyD_initD [v0, v1, v2, v3] = [some v0, some v1, some v2, some v3] := rfl
theorem ok_TooManyD_initD {f : Addr} {fd : FuncData} (F : FD K s_TooManyD_initD "__init__" "TooMany.__init__" f fd) {C_TooMany : Addr} (TX : OexC K C_TooMany) (n1 : PySem.W.findIn K (.ref C_TooMany) "what" = some none) (n2 : PySem.W.findIn K (.ref C_TooMany) "many" = some none) (n3 : PySem.W.findIn K (.ref C_TooMany) "limit" = some none) : FnOk P w K mg base (L2.CX P w) 1 f fd ["self", "what", "many", "limit"] (spX3 C_TooMany "what" "many" "limit") := by
  have nd := sc_TooManyD_initD.nd
  refine F.ok0 sc_TooManyD_initD (fun vs H Q E h => ?_) (fun cdv A outer s H vs Q E hr h => ?_)
  · obtain ⟨a, x, y, z, rfl, _⟩ := h
    rfl
  · obtain ⟨a, x, y, z, rfl, ha, k⟩ := h
    refine ⟨_, (pss_cons (ps_ost (pv 0) (pv 1))
        (pss_cons (ps_ost (pv 0) (pv 2))
        (pss_one (ps_ost (pv 0) (pv 3))))), ?_⟩
    simp only [tVar, rIxTH, rIxLH, gTupH, line_le, HO.tup.injEq, HO.lst.injEq, List.length_cons, List.length_nil, at0, at1, rU, tOst, tTest, rIxL, rIxT, C8.tCut, cxOf_K, tC, tOp, tUn, tSeq, tAsg, tNext, tRet, tRetN, tDrop, tIfS, tNever, gName, gNil, gCons, gTup, gSub, tPar, rI, rI0, rU, rEq, rNe, tB, tAnd, tOr, tNot, tAndV, tOrV, tNotV, tIf, tTup, tLst, tNil, tCons, tCB, tCall, tMeth, tMake, tFld, sFld, tDGet, sDPut, tDisp, tPairs, tBreak, tCont, scal_ii, scal_bb, scal_ss, List.getElem?_cons_zero, List.getElem?_cons_succ, List.set_cons_zero, List.set_cons_succ, Option.some.injEq, exists_eq_left', exists_eq_left, exists_and_left, V.int.injEq, V.bl.injEq, V.ref.injEq, V.str.injEq, List.cons.injEq, and_true, true_and, Bool.true_eq, List.nil_append, List.append_nil, List.cons_append, exists_eq', and_self, reduceCtorEq, false_or, or_false, false_and, exists_false, exists_const, and_assoc, if_true, Bool.false_eq_true, if_false, Nat.reduceAdd, Nat.reduceLeDiff, Nat.zero_add, Nat.le_refl, forall_const, st_TooManyD_initD]
    refine ⟨C_TooMany, TX, n1, .inl ⟨ha, fun d hd hda => ?_⟩⟩
    refine ⟨C_TooMany, TX, n2, .inr ⟨d, upd_same, [("what", x)], by rw [upd_ne hda, upd_same], by show 1 ≤ 900; decide, ?_⟩⟩
    refine ⟨C_TooMany, TX, n3, .inr ⟨d, by rw [upd_ne hda.symm, upd_same], [("many", y), ("what", x)], upd_same, by show 2 ≤ 900; decide, ?_⟩⟩
    exact k d hd hda
abbrev s_UnlikeD_initD : Stmt := inClass (top 12) 0
abbrev N_UnlikeD_initD : List Str := ["self", "what"]
theorem sc_UnlikeD_initD : FnScope N_UnlikeD_initD ["self", "what"] (defScope s_UnlikeD_initD) := ⟨rfl, rfl, rfl, by decide +kernel, rfl, by decide +kernel, by decide +kernel⟩
theorem st_UnlikeD_initD {v0 v1 : V} : L2.start N_UnlikeD_initD [v0, v1] = [some v0, some v1] := rfl
theorem ok_UnlikeD_initD {f : Addr} {fd : FuncData} (F : FD K s_UnlikeD_initD "__init__" "Unlike.__init__" f fd) {C_Unlike : Addr} (TX : OexC K C_Unlike) (n1 : PySem.W.findIn K (.ref C_Unlike) "what" = some none) : FnOk P w K mg base (L2.CX P w) 1 f fd ["self", "what"] (spX1 C_Unlike "what") := by
  have nd := sc_UnlikeD_initD.nd
  refine F.ok0 sc_UnlikeD_initD (fun vs H Q E h => ?_) (fun cdv A outer s H vs Q E hr h => ?_)
  · obtain ⟨a, x, rfl, _⟩ := h
    rfl
  · obtain ⟨a, x, rfl, ha, k⟩ := h
    refine ⟨_, (pss_one (ps_ost (pv 0) (pv 1))), ?_⟩
    simp only [tVar, rIxTH, rIxLH, gTupH, line_le, HO.tup.injEq, HO.lst.injEq, List.length_cons, List.length_nil, at0, at1, rU, tOst, tTest, rIxL, rIxT, C8.tCut, cxOf_K, tC, tOp, tUn, tSeq, tAsg, tNext, tRet, tRetN, tDrop, tIfS, tNever, gName, gNil, gCons, gTup, gSub, tPar, rI, rI0, rU, rEq, rNe, tB, tAnd, tOr, tNot, tAndV, tOrV, tNotV, tIf, tTup, tLst, tNil, tCons, tCB, tCall, tMeth, tMake, tFld, sFld, tDGet, sDPut, tDisp, tPairs, tBreak, tCont, scal_ii, scal_bb, scal_ss, List.getElem?_cons_zero, List.getElem?_cons_succ, List.set_cons_zero, List.set_cons_succ, Option.some.injEq, exists_eq_left', exists_eq_left, exists_and_left, V.int.injEq, V.bl.injEq, V.ref.injEq, V.str.injEq, List.cons.injEq, and_true, true_and, Bool.true_eq, List.nil_append, List.append_nil, List.cons_append, exists_eq', and_self, reduceCtorEq, false_or, or_false, false_and, exists_false, exists_const, and_assoc, if_true, Bool.false_eq_true, if_false, Nat.reduceAdd, Nat.reduceLeDiff, Nat.zero_add, Nat.le_refl, forall_const, st_UnlikeD_initD]
    refine ⟨C_Unlike, TX, n1, .inl ⟨ha, fun d hd hda => ?_⟩⟩
    exact k d hd hda
abbrev s_NotPlainD_initD : Stmt := inClass (top 14) 0
abbrev N_NotPlainD_initD : List Str := ["self", "name"]
theorem sc_NotPlainD_initD : FnScope N_NotPlainD_initD ["self", "name"] (defScope s_NotPlainD_initD) := ⟨rfl, rfl, rfl, by decide +kernel, rfl, by decide +kernel, by decide +kernel⟩
theorem st_NotPlainD_initD {v0 v1 : V} : L2.start N_NotPlainD_initD [v0, v1] = [some v0, some v1] := rfl
theorem ok_NotPlainD_initD {f : Addr} {fd : FuncData} (F : FD K s_NotPlainD_initD "__init__" "NotPlain.__init__" f fd) {C_NotPlain : Addr} (TX : OexC K C_NotPlain) (n1 : PySem.W.findIn K (.ref C_NotPlain) "name" = some none) : FnOk P w K mg base (L2.CX P w) 1 f fd ["self", "name"] (spX1 C_NotPlain "name") := by
  have nd := sc_NotPlainD_initD.nd
  refine F.ok0 sc_NotPlainD_initD (fun vs H Q E h => ?_) (fun cdv A outer s H vs Q E hr h => ?_)
  · obtain ⟨a, x, rfl, _⟩ := h
    rfl
  · obtain ⟨a, x, rfl, ha, k⟩ := h
    refine ⟨_, (pss_one (ps_ost (pv 0) (pv 1))), ?_⟩
    simp only [tVar, rIxTH, rIxLH, gTupH, line_le, HO.tup.injEq, HO.lst.injEq, List.length_cons, List.length_nil, at0, at1, rU, tOst, tTest, rIxL, rIxT, C8.tCut, cxOf_K, tC, tOp, tUn, tSeq, tAsg, tNext, tRet, tRetN, tDrop, tIfS, tNever, gName, gNil, gCons, gTup, gSub, tPar, rI, rI0, rU, rEq, rNe, tB, tAnd, tOr, tNot, tAndV, tOrV, tNotV, tIf, tTup, tLst, tNil, tCons, tCB, tCall, tMeth, tMake, tFld, sFld, tDGet, sDPut, tDisp, tPairs, tBreak, tCont, scal_ii, scal_bb, scal_ss, List.getElem?_cons_zero, List.getElem?_cons_succ, List.set_cons_zero, List.set_cons_succ, Option.some.injEq, exists_eq_left', exists_eq_left, exists_and_left, V.int.injEq, V.bl.injEq, V.ref.injEq, V.str.injEq, List.cons.injEq, and_true, true_and, Bool.true_eq, List.nil_append, List.append_nil, List.cons_append, exists_eq', and_self, reduceCtorEq, false_or, or_false, false_and, exists_false, exists_const, and_assoc, if_true, Bool.false_eq_true, if_false, Nat.reduceAdd, Nat.reduceLeDiff, Nat.zero_add, Nat.le_refl, forall_const, st_NotPlainD_initD]
    refine ⟨C_NotPlain, TX, n1, .inl ⟨ha, fun d hd hda => ?_⟩⟩
    exact k d hd hda
abbrev s_NotFullD_initD : Stmt := inClass (top 16) 0
abbrev N_NotFullD_initD : List Str := ["self", "rank"]
theorem sc_NotFullD_initD : FnScope N_NotFullD_initD ["self", "rank"] (defScope s_NotFullD_initD) := ⟨rfl, rfl, rfl, by decide +kernel, rfl, by decide +kernel, by decide +kernel⟩
theorem st_NotFullD_initD {v0 v1 : V} : L2.start N_NotFullD_initD [v0, v1] = [some v0, some v1] := rfl
theorem ok_NotFullD_initD {f : Addr} {fd : FuncData} (F : FD K s_NotFullD_initD "__init__" "NotFull.__init__" f fd) {C_NotFull : Addr} (TX : OexC K C_NotFull) (n1 : PySem.W.findIn K (.ref C_NotFull) "rank" = some none) : FnOk P w K mg base (L2.CX P w) 1 f fd ["self", "rank"] (spX1 C_NotFull "rank") := by
  have nd := sc_NotFullD_initD.nd
  refine F.ok0 sc_NotFullD_initD (fun vs H Q E h => ?_) (fun cdv A outer s H vs Q E hr h => ?_)
  · obtain ⟨a, x, rfl, _⟩ := h
    rfl
  · obtain ⟨a, x, rfl, ha, k⟩ := h
    refine ⟨_, (pss_one (ps_ost (pv 0) (pv 1))), ?_⟩
    simp only [tVar, rIxTH, rIxLH, gTupH, line_le, HO.tup.injEq, HO.lst.injEq, List.length_cons, List.length_nil, at0, at1, rU, tOst, tTest, rIxL, rIxT, C8.tCut, cxOf_K, tC, tOp, tUn, tSeq, tAsg, tNext, tRet, tRetN, tDrop, tIfS, tNever, gName, gNil, gCons, gTup, gSub, tPar, rI, rI0, rU, rEq, rNe, tB, tAnd, tOr, tNot, tAndV, tOrV, tNotV, tIf, tTup, tLst, tNil, tCons, tCB, tCall, tMeth, tMake, tFld, sFld, tDGet, sDPut, tDisp, tPairs, tBreak, tCont, scal_ii, scal_bb, scal_ss, List.getElem?_cons_zero, List.getElem?_cons_succ, List.set_cons_zero, List.set_cons_succ, Option.some.injEq, exists_eq_left', exists_eq_left, exists_and_left, V.int.injEq, V.bl.injEq, V.ref.injEq, V.str.injEq, List.cons.injEq, and_true, true_and, Bool.true_eq, List.nil_append, List.append_nil, List.cons_append, exists_eq', and_self, reduceCtorEq, false_or, or_false, false_and, exists_false, exists_const, and_assoc, if_true, Bool.false_eq_true, if_false, Nat.reduceAdd, Nat.reduceLeDiff, Nat.zero_add, Nat.le_refl, forall_const, st_NotFullD_initD]
    refine ⟨C_NotFull, TX, n1, .inl ⟨ha, fun d hd hda => ?_⟩⟩
    exact k d hd hda
abbrev s_NoFeatureD_initD : Stmt := inClass (top 17) 0
abbrev N_NoFeatureD_initD : List Str := ["self", "name"]
theorem sc_NoFeatureD_initD : FnScope N_NoFeatureD_initD ["self", "name"] (defScope s_NoFeatureD_initD) := ⟨rfl, rfl, rfl, by decide +kernel, rfl, by decide +kernel, by decide +kernel⟩
theorem st_NoFeatureD_initD {v0 v1 : V} : L2.start N_NoFeatureD_initD [v0, v1] = [some v0, some v1] := rfl
theorem ok_NoFeatureD_initD {f : Addr} {fd : FuncData} (F : FD K s_NoFeatureD_initD "__init__" "NoFeature.__init__" f fd) {C_NoFeature : Addr} (TX : OexC K C_NoFeature) (n1 : PySem.W.findIn K (.ref C_NoFeature) "name" = some none) : FnOk P w K mg base (L2.CX P w) 1 f fd ["self", "name"] (spX1 C_NoFeature "name") := by
  have nd := sc_NoFeatureD_initD.nd
  refine F.ok0 sc_NoFeatureD_initD (fun vs H Q E h => ?_) (fun cdv A outer s H vs Q E hr h => ?_)
  · obtain ⟨a, x, rfl, _⟩ := h
    rfl
  · obtain ⟨a, x, rfl, ha, k⟩ := h
    refine ⟨_, (pss_one (ps_ost (pv 0) (pv 1))), ?_⟩
    simp only [tVar, rIxTH, rIxLH, gTupH, line_le, HO.tup.injEq, HO.lst.injEq, List.length_cons, List.length_nil, at0, at1, rU, tOst, tTest, rIxL, rIxT, C8.tCut, cxOf_K, tC, tOp, tUn, tSeq, tAsg, tNext, tRet, tRetN, tDrop, tIfS, tNever, gName, gNil, gCons, gTup, gSub, tPar, rI, rI0, rU, rEq, rNe, tB, tAnd, tOr, tNot, tAndV, tOrV, tNotV, tIf, tTup, tLst, tNil, tCons, tCB, tCall, tMeth, tMake, tFld, sFld, tDGet, sDPut, tDisp, tPairs, tBreak, tCont, scal_ii, scal_bb, scal_ss, List.getElem?_cons_zero, List.getElem?_cons_succ, List.set_cons_zero, List.set_cons_succ, Option.some.injEq, exists_eq_left', exists_eq_left, exists_and_left, V.int.injEq, V.bl.injEq, V.ref.injEq, V.str.injEq, List.cons.injEq, and_true, true_and, Bool.true_eq, List.nil_append, List.append_nil, List.cons_append, exists_eq', and_self, reduceCtorEq, false_or, or_false, false_and, exists_false, exists_const, and_assoc, if_true, Bool.false_eq_true, if_false, Nat.reduceAdd, Nat.reduceLeDiff, Nat.zero_add, Nat.le_refl, forall_const, st_NoFeatureD_initD]
    refine ⟨C_NoFeature, TX, n1, .inl ⟨ha, fun d hd hda => ?_⟩⟩
    exact k d hd hda
abbrev s_NoLineD_initD : Stmt := inClass (top 18) 0
abbrev N_NoLineD_initD : List Str := ["self", "name"]
theorem sc_NoLineD_initD : FnScope N_NoLineD_initD ["self", "name"] (defScope s_NoLineD_initD) := ⟨rfl, rfl, rfl, by decide +kernel, rfl, by decide +kernel, by decide +kernel⟩
theorem st_NoLineD_initD {v0 v1 : V} : L2.start N_NoLineD_initD [v0, v1] = [some v0, some v1] := rfl
theorem ok_NoLineD_initD {f : Addr} {fd : FuncData} (F : FD K s_NoLineD_initD "__init__" "NoLine.__init__" f fd) {C_NoLine : Addr} (TX : OexC K C_NoLine) (n1 : PySem.W.findIn K (.ref C_NoLine) "name" = some none) : FnOk P w K mg base (L2.CX P w) 1 f fd ["self", "name"] (spX1 C_NoLine "name") := by
  have nd := sc_NoLineD_initD.nd
  refine F.ok0 sc_NoLineD_initD (fun vs H Q E h => ?_) (fun cdv A outer s H vs Q E hr h => ?_)
  · obtain ⟨a, x, rfl, _⟩ := h
    rfl
  · obtain ⟨a, x, rfl, ha, k⟩ := h
    refine ⟨_, (pss_one (ps_ost (pv 0) (pv 1))), ?_⟩
    simp only [tVar, rIxTH, rIxLH, gTupH, line_le, HO.tup.injEq, HO.lst.injEq, List.length_cons, List.length_nil, at0, at1, rU, tOst, tTest, rIxL, rIxT, C8.tCut, cxOf_K, tC, tOp, tUn, tSeq, tAsg, tNext, tRet, tRetN, tDrop, tIfS, tNever, gName, gNil, gCons, gTup, gSub, tPar, rI, rI0, rU, rEq, rNe, tB, tAnd, tOr, tNot, tAndV, tOrV, tNotV, tIf, tTup, tLst, tNil, tCons, tCB, tCall, tMeth, tMake, tFld, sFld, tDGet, sDPut, tDisp, tPairs, tBreak, tCont, scal_ii, scal_bb, scal_ss, List.getElem?_cons_zero, List.getElem?_cons_succ, List.set_cons_zero, List.set_cons_succ, Option.some.injEq, exists_eq_left', exists_eq_left, exists_and_left, V.int.injEq, V.bl.injEq, V.ref.injEq, V.str.injEq, List.cons.injEq, and_true, true_and, Bool.true_eq, List.nil_append, List.append_nil, List.cons_append, exists_eq', and_self, reduceCtorEq, false_or, or_false, false_and, exists_false, exists_const, and_assoc, if_true, Bool.false_eq_true, if_false, Nat.reduceAdd, Nat.reduceLeDiff, Nat.zero_add, Nat.le_refl, forall_const, st_NoLineD_initD]
    refine ⟨C_NoLine, TX, n1, .inl ⟨ha, fun d hd hda => ?_⟩⟩
    exact k d hd hda
abbrev s_NoModelD_initD : Stmt := inClass (top 19) 0
abbrev N_NoModelD_initD : List Str := ["self", "name"]
theorem sc_NoModelD_initD : FnScope N_NoModelD_initD ["self", "name"] (defScope s_NoModelD_initD) := ⟨rfl, rfl, rfl, by decide +kernel, rfl, by decide +kernel, by decide +kernel⟩
theorem st_NoModelD_initD {v0 v1 : V} : L2.start N_NoModelD_initD [v0, v1] = [some v0, some v1] := rfl
theorem ok_NoModelD_initD {f : Addr} {fd : FuncData} (F : FD K s_NoModelD_initD "__init__" "NoModel.__init__" f fd) {C_NoModel : Addr} (TX : OexC K C_NoModel) (n1 : PySem.W.findIn K (.ref C_NoModel) "name" = some none) : FnOk P w K mg base (L2.CX P w) 1 f fd ["self", "name"] (spX1 C_NoModel "name") := by
  have nd := sc_NoModelD_initD.nd
  refine F.ok0 sc_NoModelD_initD (fun vs H Q E h => ?_) (fun cdv A outer s H vs Q E hr h => ?_)
  · obtain ⟨a, x, rfl, _⟩ := h
    rfl
  · obtain ⟨a, x, rfl, ha, k⟩ := h
    refine ⟨_, (pss_one (ps_ost (pv 0) (pv 1))), ?_⟩
    simp only [tVar, rIxTH, rIxLH, gTupH, line_le, HO.tup.injEq, HO.lst.injEq, List.length_cons, List.length_nil, at0, at1, rU, tOst, tTest, rIxL, rIxT, C8.tCut, cxOf_K, tC, tOp, tUn, tSeq, tAsg, tNext, tRet, tRetN, tDrop, tIfS, tNever, gName, gNil, gCons, gTup, gSub, tPar, rI, rI0, rU, rEq, rNe, tB, tAnd, tOr, tNot, tAndV, tOrV, tNotV, tIf, tTup, tLst, tNil, tCons, tCB, tCall, tMeth, tMake, tFld, sFld, tDGet, sDPut, tDisp, tPairs, tBreak, tCont, scal_ii, scal_bb, scal_ss, List.getElem?_cons_zero, List.getElem?_cons_succ, List.set_cons_zero, List.set_cons_succ, Option.some.injEq, exists_eq_left', exists_eq_left, exists_and_left, V.int.injEq, V.bl.injEq, V.ref.injEq, V.str.injEq, List.cons.injEq, and_true, true_and, Bool.true_eq, List.nil_append, List.append_nil, List.cons_append, exists_eq', and_self, reduceCtorEq, false_or, or_false, false_and, exists_false, exists_const, and_assoc, if_true, Bool.false_eq_true, if_false, Nat.reduceAdd, Nat.reduceLeDiff, Nat.zero_add, Nat.le_refl, forall_const, st_NoModelD_initD]
    refine ⟨C_NoModel, TX, n1, .inl ⟨ha, fun d hd hda => ?_⟩⟩
    exact k d hd hda
abbrev s_TakenNameD_initD : Stmt := inClass (top 20) 0
abbrev N_TakenNameD_initD : List Str := ["self", "name"]
theorem sc_TakenNameD_initD : FnScope N_TakenNameD_initD ["self", "name"] (defScope s_TakenNameD_initD) := ⟨rfl, rfl, rfl, by decide +kernel, rfl, by decide +kernel, by decide +kernel⟩
theorem st_TakenNameD_initD {v0 v1 : V} : L2.start N_TakenNameD_initD [v0, v1] = [some v0, some v1] := rfl
theorem ok_TakenNameD_initD {f : Addr} {fd : FuncData} (F : FD K s_TakenNameD_initD "__init__" "TakenName.__init__" f fd) {C_TakenName : Addr} (TX : OexC K C_TakenName) (n1 : PySem.W.findIn K (.ref C_TakenName) "name" = some none) : FnOk P w K mg base (L2.CX P w) 1 f fd ["self", "name"] (spX1 C_TakenName "name") := by
  have nd := sc_TakenNameD_initD.nd
  refine F.ok0 sc_TakenNameD_initD (fun vs H Q E h => ?_) (fun cdv A outer s H vs Q E hr h => ?_)
  · obtain ⟨a, x, rfl, _⟩ := h
    rfl
  · obtain ⟨a, x, rfl, ha, k⟩ := h
    refine ⟨_, (pss_one (ps_ost (pv 0) (pv 1))), ?_⟩
    simp only [tVar, rIxTH, rIxLH, gTupH, line_le, HO.tup.injEq, HO.lst.injEq, List.length_cons, List.length_nil, at0, at1, rU, tOst, tTest, rIxL, rIxT, C8.tCut, cxOf_K, tC, tOp, tUn, tSeq, tAsg, tNext, tRet, tRetN, tDrop, tIfS, tNever, gName, gNil, gCons, gTup, gSub, tPar, rI, rI0, rU, rEq, rNe, tB, tAnd, tOr, tNot, tAndV, tOrV, tNotV, tIf, tTup, tLst, tNil, tCons, tCB, tCall, tMeth, tMake, tFld, sFld, tDGet, sDPut, tDisp, tPairs, tBreak, tCont, scal_ii, scal_bb, scal_ss, List.getElem?_cons_zero, List.getElem?_cons_succ, List.set_cons_zero, List.set_cons_succ, Option.some.injEq, exists_eq_left', exists_eq_left, exists_and_left, V.int.injEq, V.bl.injEq, V.ref.injEq, V.str.injEq, List.cons.injEq, and_true, true_and, Bool.true_eq, List.nil_append, List.append_nil, List.cons_append, exists_eq', and_self, reduceCtorEq, false_or, or_false, false_and, exists_false, exists_const, and_assoc, if_true, Bool.false_eq_true, if_false, Nat.reduceAdd, Nat.reduceLeDiff, Nat.zero_add, Nat.le_refl, forall_const, st_TakenNameD_initD]
    refine ⟨C_TakenName, TX, n1, .inl ⟨ha, fun d hd hda => ?_⟩⟩
    exact k d hd hda
abbrev s_BrokenD_initD : Stmt := inClass (top 21) 0
abbrev N_BrokenD_initD : List Str := ["self", "promise", "given"]
theorem sc_BrokenD_initD : FnScope N_BrokenD_initD ["self", "promise", "given"] (defScope s_BrokenD_initD) := ⟨rfl, rfl, rfl, by decide +kernel, rfl, by decide +kernel, by decide +kernel⟩
theorem st_BrokenD_initD {v0 v1 v2 : V} : L2.start N_BrokenD_initD [v0, v1, v2] = [some v0, some v1, some v2] := rfl
theorem ok_BrokenD_initD {f : Addr} {fd : FuncData} (F : FD K s_BrokenD_initD "__init__" "Broken.__init__" f fd) {C_Broken : Addr} (TX : OexC K C_Broken) (n1 : PySem.W.findIn K (.ref C_Broken) "promise" = some none) (n2 : PySem.W.findIn K (.ref C_Broken) "given" = some none) : FnOk P w K mg base (L2.CX P w) 1 f fd ["self", "promise", "given"] (spX2 C_Broken "promise" "given") := by
  have nd := sc_BrokenD_initD.nd
  refine F.ok0 sc_BrokenD_initD (fun vs H Q E h => ?_) (fun cdv A outer s H vs Q E hr h => ?_)
  · obtain ⟨a, x, y, rfl, _⟩ := h
    rfl
  · obtain ⟨a, x, y, rfl, ha, k⟩ := h
    refine ⟨_, (pss_cons (ps_ost (pv 0) (pv 1))
        (pss_one (ps_ost (pv 0) (pv 2)))), ?_⟩
    simp only [tVar, rIxTH, rIxLH, gTupH, line_le, HO.tup.injEq, HO.lst.injEq, List.length_cons, List.length_nil, at0, at1, rU, tOst, tTest, rIxL, rIxT, C8.tCut, cxOf_K, tC, tOp, tUn, tSeq, tAsg, tNext, tRet, tRetN, tDrop, tIfS, tNever, gName, gNil, gCons, gTup, gSub, tPar, rI, rI0, rU, rEq, rNe, tB, tAnd, tOr, tNot, tAndV, tOrV, tNotV, tIf, tTup, tLst, tNil, tCons, tCB, tCall, tMeth, tMake, tFld, sFld, tDGet, sDPut, tDisp, tPairs, tBreak, tCont, scal_ii, scal_bb, scal_ss, List.getElem?_cons_zero, List.getElem?_cons_succ, List.set_cons_zero, List.set_cons_succ, Option.some.injEq, exists_eq_left', exists_eq_left, exists_and_left, V.int.injEq, V.bl.injEq, V.ref.injEq, V.str.injEq, List.cons.injEq, and_true, true_and, Bool.true_eq, List.nil_append, List.append_nil, List.cons_append, exists_eq', and_self, reduceCtorEq, false_or, or_false, false_and, exists_false, exists_const, and_assoc, if_true, Bool.false_eq_true, if_false, Nat.reduceAdd, Nat.reduceLeDiff, Nat.zero_add, Nat.le_refl, forall_const, st_BrokenD_initD]
    refine ⟨C_Broken, TX, n1, .inl ⟨ha, fun d hd hda => ?_⟩⟩
    refine ⟨C_Broken, TX, n2, .inr ⟨d, upd_same, [("promise", x)], by rw [upd_ne hda, upd_same], by show 1 ≤ 900; decide, ?_⟩⟩
    exact k d hd hda

end HwL
end

section
namespace HwL
open PySem PySem.Spec PyProof.Rows L2 LamX
variable {P : Program} {w : World} {K : PySem.W.Frag} {mg : Str → Option Value} {base : Heap}

/-- one field's value -/
def spField : Sp := fun vs H Q _ => ∃ (p l : Addr) (c : Int), vs = [.ref p] ∧ PenAt H p l c ∧ c < 10000000 ∧ ∀ H' v d, Ext p H H' → PenAt H' p l (c + 2) → Fv H' v d → Q v H'
abbrev s_L_field : Stmt := top 28
abbrev N_L_field : List Str := ["_law_pen_here"]
theorem sc_L_field : FnScope N_L_field ["_law_pen_here"] (defScope s_L_field) := ⟨rfl, rfl, rfl, by decide +kernel, rfl, by decide +kernel, by decide +kernel⟩
theorem st_L_field {v0 : V} : L2.start N_L_field [v0] = [some v0] := rfl
theorem ok_L_field {f : Addr} {fd : FuncData} (F : FD K s_L_field "_law_field" "_law_field" f fd) (g_L_pick : Gf P w K mg base "_law_pick" 2 ["_law_pen_here", "_law_some"] (spPick)) (g_L_draw : Gf P w K mg base "_law_draw" 1 ["_law_pen_here", "_law_many"] (spDraw)) : FnOk P w K mg base (L2.CX P w) 3 f fd ["_law_pen_here"] (spField) := by
  have nd := sc_L_field.nd
  refine F.ok0 sc_L_field (fun vs H Q E h => ?_) (fun cdv A outer s H vs Q E hr h => ?_)
  · obtain ⟨p, l, c, rfl, _⟩ := h
    rfl
  · obtain ⟨p, l, c, rfl, hp, hc, k⟩ := h
    refine ⟨_, (pss_one (ps_ret (pe_g g_L_pick hr (by decide) passL rfl (pa_cons (pv 0) (pa_cons (pe_lst (pa_cons pe_int (pa_cons (pe_un un_neg pe_int) (pa_cons pe_str (pa_cons pe_str (pa_cons pe_non (pa_cons pe_bl (pa_cons (pe_tup (pa_cons pe_int (pa_cons pe_str pa_nil))) (pa_cons (pe_op op_pow pe_int pe_int) (pa_cons (pe_g g_L_draw hr (by decide) passL rfl (pa_cons (pv 0) (pa_cons pe_int pa_nil))) pa_nil)))))))))) pa_nil))))), ?_⟩
    simp only [tVar, rIxTH, rIxLH, gTupH, line_le, HO.tup.injEq, HO.lst.injEq, List.length_cons, List.length_nil, at0, at1, rU, tOst, tTest, rIxL, rIxT, C8.tCut, cxOf_K, tC, tOp, tUn, tSeq, tAsg, tNext, tRet, tRetN, tDrop, tIfS, tNever, gName, gNil, gCons, gTup, gSub, tPar, rI, rI0, rU, rEq, rNe, tB, tAnd, tOr, tNot, tAndV, tOrV, tNotV, tIf, tTup, tLst, tNil, tCons, tCB, tCall, tMeth, tMake, tFld, sFld, tDGet, sDPut, tDisp, tPairs, tBreak, tCont, scal_ii, scal_bb, scal_ss, List.getElem?_cons_zero, List.getElem?_cons_succ, List.set_cons_zero, List.set_cons_succ, Option.some.injEq, exists_eq_left', exists_eq_left, exists_and_left, V.int.injEq, V.bl.injEq, V.ref.injEq, V.str.injEq, List.cons.injEq, and_true, true_and, Bool.true_eq, List.nil_append, List.append_nil, List.cons_append, exists_eq', and_self, reduceCtorEq, false_or, or_false, false_and, exists_false, exists_const, and_assoc, if_true, Bool.false_eq_true, if_false, Nat.reduceAdd, Nat.reduceLeDiff, Nat.zero_add, Nat.le_refl, forall_const, st_L_field, CPow]
    refine fun a ha => ⟨by decide, by decide, by decide, p, l, c, 100, rfl, hp.same (same_new ha), by omega, by decide, by decide, fun H1 r x1 p1 r0 r1 b hb => ?_⟩
    have nap : a ≠ p := hp.ne ha
    have h1 : H1 a = some (.tup [.int 1, .str "x"]) := x1 _ _ nap upd_same
    have h2 := same_new (o := HO.lst [V.int 0, V.int (-3), V.str (Str.ofString "name"), V.str (Str.ofString ""), V.non, V.bl true, V.ref a, V.int (10 ^ Int.toNat 30), V.int r]) hb
    refine ⟨p, l, b, c + 1, _, rfl, p1.same h2, by omega, upd_same, by simp, by simp, fun H' i v x2 p2 hv => ?_⟩
    have fin : ∀ d, Fv H' v d → Q v H' := fun d fv => k _ _ d (((Ext.of (same_new ha)).trans x1).trans ((Ext.of h2).trans x2)) (p2.mono (by omega)) fv
    have e1 : H' a = some (.tup [.int 1, .str "x"]) := x2 _ _ nap (h2 _ _ h1)
    match i, hv with
    | 0, e => cases e; exact fin _ (.int _ (by decide))
    | 1, e => cases e; exact fin _ (.int _ (by decide))
    | 2, e => cases e; exact fin _ .st
    | 3, e => cases e; exact fin _ .se
    | 4, e => cases e; exact fin _ .non
    | 5, e => cases e; exact fin _ (.bl _)
    | 6, e => cases e; exact fin _ (.tup _ e1)
    | 7, e => cases e; exact fin _ (.int _ (by decide +kernel))
    | 8, e => cases e; exact fin _ (.int _ (Nat.lt_of_lt_of_le (show r.natAbs < 2 ^ 7 by omega) (Nat.pow_le_pow_right (by decide) (by decide))))
def spKinds (CL : Nat → Addr) : Sp := fun vs H Q _ => ∃ (i : Nat) (x : V) (fs : List (Str × V)), vs = [x] ∧ i < 22 ∧ ExV H (CL i) x fs ∧ ∀ H' l, Same H H' → H' l = some (.lst [.int i]) → Q (.ref l) H'
abbrev s_L_kinds : Stmt := top 29
abbrev N_L_kinds : List Str := ["_law_e", "_law_told", "_law_k"]
theorem sc_L_kinds : FnScope N_L_kinds ["_law_e"] (defScope s_L_kinds) := ⟨rfl, rfl, rfl, by decide +kernel, rfl, by decide +kernel, by decide +kernel⟩
theorem st_L_kinds {v0 : V} : L2.start N_L_kinds [v0] = [some v0, none, none] := rfl
theorem ok_L_kinds {f : Addr} {fd : FuncData} (F : FD K s_L_kinds "_law_kinds" "_law_kinds" f fd) {CL : Nat → Addr} {CH : Addr} (KC : KinC K CL CH) (z_range : mg "range" = none) (z_len : mg "len" = none) (z_isinstance : mg "isinstance" = none) (m_NothingToRedo : mg "NothingToRedo" = some (.ref (CL 21))) (m_NothingToUndo : mg "NothingToUndo" = some (.ref (CL 20))) (m_Broken : mg "Broken" = some (.ref (CL 19))) (m_TakenName : mg "TakenName" = some (.ref (CL 18))) (m_NoModel : mg "NoModel" = some (.ref (CL 17))) (m_NoLine : mg "NoLine" = some (.ref (CL 16))) (m_NoFeature : mg "NoFeature" = some (.ref (CL 15))) (m_NotFull : mg "NotFull" = some (.ref (CL 14))) (m_EmptyPlace : mg "EmptyPlace" = some (.ref (CL 13))) (m_NotPlain : mg "NotPlain" = some (.ref (CL 12))) (m_NotContinuous : mg "NotContinuous" = some (.ref (CL 11))) (m_Unlike : mg "Unlike" = some (.ref (CL 10))) (m_TooMany : mg "TooMany" = some (.ref (CL 9))) (m_TooLarge : mg "TooLarge" = some (.ref (CL 8))) (m_TooLong : mg "TooLong" = some (.ref (CL 7))) (m_BadTable : mg "BadTable" = some (.ref (CL 6))) (m_BadPlace : mg "BadPlace" = some (.ref (CL 5))) (m_BadAnswers : mg "BadAnswers" = some (.ref (CL 4))) (m_BadGiven : mg "BadGiven" = some (.ref (CL 3))) (m_BadNumber : mg "BadNumber" = some (.ref (CL 2))) (m_BadName : mg "BadName" = some (.ref (CL 1))) (m_BadText : mg "BadText" = some (.ref (CL 0))) : FnOk P w K mg base (L2.CX P w) 1 f fd ["_law_e"] (spKinds CL) := by
  have nd := sc_L_kinds.nd
  refine F.ok0 sc_L_kinds (fun vs H Q E h => ?_) (fun cdv A outer s H vs Q E hr h => ?_)
  · obtain ⟨i, x, fs, rfl, _⟩ := h
    rfl
  · obtain ⟨i, x, fs, rfl, hi, hx, k⟩ := h
    refine ⟨_, (C8.pss_cut (ps_set (i := 1) nd rfl (Or.inr rfl) (pe_lst (pa_cons (pe_callB (id := "isinstance") (r := rIsX K) (call_isX rfl) (by rfl) z_isinstance (by decide +kernel) (pa_cons (pv 0) (pa_cons (pe_glob (v := .ref (CL 0)) rfl m_BadText rfl) pa_nil))) (pa_cons (pe_callB (id := "isinstance") (r := rIsX K) (call_isX rfl) (by rfl) z_isinstance (by decide +kernel) (pa_cons (pv 0) (pa_cons (pe_glob (v := .ref (CL 1)) rfl m_BadName rfl) pa_nil))) (pa_cons (pe_callB (id := "isinstance") (r := rIsX K) (call_isX rfl) (by rfl) z_isinstance (by decide +kernel) (pa_cons (pv 0) (pa_cons (pe_glob (v := .ref (CL 2)) rfl m_BadNumber rfl) pa_nil))) (pa_cons (pe_callB (id := "isinstance") (r := rIsX K) (call_isX rfl) (by rfl) z_isinstance (by decide +kernel) (pa_cons (pv 0) (pa_cons (pe_glob (v := .ref (CL 3)) rfl m_BadGiven rfl) pa_nil))) pa_nil))))))
        (C8.pss_cut (ps_set (i := 1) nd rfl (Or.inr rfl) (pe_op op_cat (pv 1) (pe_lst (pa_cons (pe_callB (id := "isinstance") (r := rIsX K) (call_isX rfl) (by rfl) z_isinstance (by decide +kernel) (pa_cons (pv 0) (pa_cons (pe_glob (v := .ref (CL 4)) rfl m_BadAnswers rfl) pa_nil))) (pa_cons (pe_callB (id := "isinstance") (r := rIsX K) (call_isX rfl) (by rfl) z_isinstance (by decide +kernel) (pa_cons (pv 0) (pa_cons (pe_glob (v := .ref (CL 5)) rfl m_BadPlace rfl) pa_nil))) (pa_cons (pe_callB (id := "isinstance") (r := rIsX K) (call_isX rfl) (by rfl) z_isinstance (by decide +kernel) (pa_cons (pv 0) (pa_cons (pe_glob (v := .ref (CL 6)) rfl m_BadTable rfl) pa_nil))) (pa_cons (pe_callB (id := "isinstance") (r := rIsX K) (call_isX rfl) (by rfl) z_isinstance (by decide +kernel) (pa_cons (pv 0) (pa_cons (pe_glob (v := .ref (CL 7)) rfl m_TooLong rfl) pa_nil))) pa_nil)))))))
        (C8.pss_cut (ps_set (i := 1) nd rfl (Or.inr rfl) (pe_op op_cat (pv 1) (pe_lst (pa_cons (pe_callB (id := "isinstance") (r := rIsX K) (call_isX rfl) (by rfl) z_isinstance (by decide +kernel) (pa_cons (pv 0) (pa_cons (pe_glob (v := .ref (CL 8)) rfl m_TooLarge rfl) pa_nil))) (pa_cons (pe_callB (id := "isinstance") (r := rIsX K) (call_isX rfl) (by rfl) z_isinstance (by decide +kernel) (pa_cons (pv 0) (pa_cons (pe_glob (v := .ref (CL 9)) rfl m_TooMany rfl) pa_nil))) (pa_cons (pe_callB (id := "isinstance") (r := rIsX K) (call_isX rfl) (by rfl) z_isinstance (by decide +kernel) (pa_cons (pv 0) (pa_cons (pe_glob (v := .ref (CL 10)) rfl m_Unlike rfl) pa_nil))) (pa_cons (pe_callB (id := "isinstance") (r := rIsX K) (call_isX rfl) (by rfl) z_isinstance (by decide +kernel) (pa_cons (pv 0) (pa_cons (pe_glob (v := .ref (CL 11)) rfl m_NotContinuous rfl) pa_nil))) pa_nil)))))))
        (C8.pss_cut (ps_set (i := 1) nd rfl (Or.inr rfl) (pe_op op_cat (pv 1) (pe_lst (pa_cons (pe_callB (id := "isinstance") (r := rIsX K) (call_isX rfl) (by rfl) z_isinstance (by decide +kernel) (pa_cons (pv 0) (pa_cons (pe_glob (v := .ref (CL 12)) rfl m_NotPlain rfl) pa_nil))) (pa_cons (pe_callB (id := "isinstance") (r := rIsX K) (call_isX rfl) (by rfl) z_isinstance (by decide +kernel) (pa_cons (pv 0) (pa_cons (pe_glob (v := .ref (CL 13)) rfl m_EmptyPlace rfl) pa_nil))) (pa_cons (pe_callB (id := "isinstance") (r := rIsX K) (call_isX rfl) (by rfl) z_isinstance (by decide +kernel) (pa_cons (pv 0) (pa_cons (pe_glob (v := .ref (CL 14)) rfl m_NotFull rfl) pa_nil))) (pa_cons (pe_callB (id := "isinstance") (r := rIsX K) (call_isX rfl) (by rfl) z_isinstance (by decide +kernel) (pa_cons (pv 0) (pa_cons (pe_glob (v := .ref (CL 15)) rfl m_NoFeature rfl) pa_nil))) pa_nil)))))))
        (C8.pss_cut (ps_set (i := 1) nd rfl (Or.inr rfl) (pe_op op_cat (pv 1) (pe_lst (pa_cons (pe_callB (id := "isinstance") (r := rIsX K) (call_isX rfl) (by rfl) z_isinstance (by decide +kernel) (pa_cons (pv 0) (pa_cons (pe_glob (v := .ref (CL 16)) rfl m_NoLine rfl) pa_nil))) (pa_cons (pe_callB (id := "isinstance") (r := rIsX K) (call_isX rfl) (by rfl) z_isinstance (by decide +kernel) (pa_cons (pv 0) (pa_cons (pe_glob (v := .ref (CL 17)) rfl m_NoModel rfl) pa_nil))) (pa_cons (pe_callB (id := "isinstance") (r := rIsX K) (call_isX rfl) (by rfl) z_isinstance (by decide +kernel) (pa_cons (pv 0) (pa_cons (pe_glob (v := .ref (CL 18)) rfl m_TakenName rfl) pa_nil))) (pa_cons (pe_callB (id := "isinstance") (r := rIsX K) (call_isX rfl) (by rfl) z_isinstance (by decide +kernel) (pa_cons (pv 0) (pa_cons (pe_glob (v := .ref (CL 19)) rfl m_Broken rfl) pa_nil))) pa_nil)))))))
        (C8.pss_cut (ps_set (i := 1) nd rfl (Or.inr rfl) (pe_op op_cat (pv 1) (pe_lst (pa_cons (pe_callB (id := "isinstance") (r := rIsX K) (call_isX rfl) (by rfl) z_isinstance (by decide +kernel) (pa_cons (pv 0) (pa_cons (pe_glob (v := .ref (CL 20)) rfl m_NothingToUndo rfl) pa_nil))) (pa_cons (pe_callB (id := "isinstance") (r := rIsX K) (call_isX rfl) (by rfl) z_isinstance (by decide +kernel) (pa_cons (pv 0) (pa_cons (pe_glob (v := .ref (CL 21)) rfl m_NothingToRedo rfl) pa_nil))) pa_nil)))))
        (pss_one (ps_ret (pe_lc (own := [("_law_k", 2)]) rfl nd (pi_range1 rfl z_range (pa_cons (pe_callB call_len_seq (by rfl) z_len (by decide +kernel) (pa_cons (pv 1) pa_nil)) pa_nil)) (blkOk_by (own := [("_law_k", 2)]) (N := N_L_kinds) (sc := defScope s_L_kinds) (by decide +kernel)) (fun _ _ _ _ _ => (pg_name (i := 2) nd rfl (Or.inl rfl))) (fun _ _ _ _ _ => pts_one (pt_val (pe_ix ix_listH (pv 1) (pv 2) (fun _ _ => rfl)))) (fun _ _ _ _ _ => (pv 2))))))))))), ?_⟩
    refine ⟨fun σ' H' => Same H H' ∧ ∃ l, σ' = [some x, some (.ref l), none] ∧ H' l = some (.lst ((List.range 4).map fun j => V.bl (decide (i = j)))), ?_, ?_⟩
    · simp only [tVar, rIxTH, rIxLH, gTupH, line_le, HO.tup.injEq, HO.lst.injEq, List.length_cons, List.length_nil, at0, at1, rU, tOst, tTest, rIxL, rIxT, C8.tCut, cxOf_K, tC, tOp, tUn, tSeq, tAsg, tNext, tRet, tRetN, tDrop, tIfS, tNever, gName, gNil, gCons, gTup, gSub, tPar, rI, rI0, rU, rEq, rNe, tB, tAnd, tOr, tNot, tAndV, tOrV, tNotV, tIf, tTup, tLst, tNil, tCons, tCB, tCall, tMeth, tMake, tFld, sFld, tDGet, sDPut, tDisp, tPairs, tBreak, tCont, scal_ii, scal_bb, scal_ss, List.getElem?_cons_zero, List.getElem?_cons_succ, List.set_cons_zero, List.set_cons_succ, Option.some.injEq, exists_eq_left', exists_eq_left, exists_and_left, V.int.injEq, V.bl.injEq, V.ref.injEq, V.str.injEq, List.cons.injEq, and_true, true_and, Bool.true_eq, List.nil_append, List.append_nil, List.cons_append, exists_eq', and_self, reduceCtorEq, false_or, or_false, false_and, exists_false, exists_const, and_assoc, if_true, Bool.false_eq_true, if_false, Nat.reduceAdd, Nat.reduceLeDiff, Nat.zero_add, Nat.le_refl, forall_const, st_L_kinds]
      refine isK KC hx hi (j := 0) (by decide) ?_
      refine isK KC hx hi (j := 1) (by decide) ?_
      refine isK KC hx hi (j := 2) (by decide) ?_
      refine isK KC hx hi (j := 3) (by decide) ?_
      exact fun l hl => ⟨same_new hl, by rw [upd_same]; rfl⟩
    rintro σ' H1 ⟨s1, l, rfl, hl⟩
    refine ⟨fun σ' H' => Same H H' ∧ ∃ l, σ' = [some x, some (.ref l), none] ∧ H' l = some (.lst ((List.range 8).map fun j => V.bl (decide (i = j)))), ?_, ?_⟩
    · simp only [tVar, rIxTH, rIxLH, gTupH, line_le, HO.tup.injEq, HO.lst.injEq, List.length_cons, List.length_nil, at0, at1, rU, tOst, tTest, rIxL, rIxT, C8.tCut, cxOf_K, tC, tOp, tUn, tSeq, tAsg, tNext, tRet, tRetN, tDrop, tIfS, tNever, gName, gNil, gCons, gTup, gSub, tPar, rI, rI0, rU, rEq, rNe, tB, tAnd, tOr, tNot, tAndV, tOrV, tNotV, tIf, tTup, tLst, tNil, tCons, tCB, tCall, tMeth, tMake, tFld, sFld, tDGet, sDPut, tDisp, tPairs, tBreak, tCont, scal_ii, scal_bb, scal_ss, List.getElem?_cons_zero, List.getElem?_cons_succ, List.set_cons_zero, List.set_cons_succ, Option.some.injEq, exists_eq_left', exists_eq_left, exists_and_left, V.int.injEq, V.bl.injEq, V.ref.injEq, V.str.injEq, List.cons.injEq, and_true, true_and, Bool.true_eq, List.nil_append, List.append_nil, List.cons_append, exists_eq', and_self, reduceCtorEq, false_or, or_false, false_and, exists_false, exists_const, and_assoc, if_true, Bool.false_eq_true, if_false, Nat.reduceAdd, Nat.reduceLeDiff, Nat.zero_add, Nat.le_refl, forall_const, st_L_kinds]
      have hx1 := hx.same s1
      refine isK KC hx1 hi (j := 4) (by decide) ?_
      refine isK KC hx1 hi (j := 5) (by decide) ?_
      refine isK KC hx1 hi (j := 6) (by decide) ?_
      refine isK KC hx1 hi (j := 7) (by decide) ?_
      refine fun b hb => ⟨l, b, _, _, rfl, rfl, (same_new hb) _ _ hl, upd_same, line_le (by simp), fun q hq => ⟨(s1.trans (same_new hb)).trans (same_new hq), q, rfl, by rw [upd_same]; rfl⟩⟩
    rintro σ' H1 ⟨s1, l, rfl, hl⟩
    refine ⟨fun σ' H' => Same H H' ∧ ∃ l, σ' = [some x, some (.ref l), none] ∧ H' l = some (.lst ((List.range 12).map fun j => V.bl (decide (i = j)))), ?_, ?_⟩
    · simp only [tVar, rIxTH, rIxLH, gTupH, line_le, HO.tup.injEq, HO.lst.injEq, List.length_cons, List.length_nil, at0, at1, rU, tOst, tTest, rIxL, rIxT, C8.tCut, cxOf_K, tC, tOp, tUn, tSeq, tAsg, tNext, tRet, tRetN, tDrop, tIfS, tNever, gName, gNil, gCons, gTup, gSub, tPar, rI, rI0, rU, rEq, rNe, tB, tAnd, tOr, tNot, tAndV, tOrV, tNotV, tIf, tTup, tLst, tNil, tCons, tCB, tCall, tMeth, tMake, tFld, sFld, tDGet, sDPut, tDisp, tPairs, tBreak, tCont, scal_ii, scal_bb, scal_ss, List.getElem?_cons_zero, List.getElem?_cons_succ, List.set_cons_zero, List.set_cons_succ, Option.some.injEq, exists_eq_left', exists_eq_left, exists_and_left, V.int.injEq, V.bl.injEq, V.ref.injEq, V.str.injEq, List.cons.injEq, and_true, true_and, Bool.true_eq, List.nil_append, List.append_nil, List.cons_append, exists_eq', and_self, reduceCtorEq, false_or, or_false, false_and, exists_false, exists_const, and_assoc, if_true, Bool.false_eq_true, if_false, Nat.reduceAdd, Nat.reduceLeDiff, Nat.zero_add, Nat.le_refl, forall_const, st_L_kinds]
      have hx1 := hx.same s1
      refine isK KC hx1 hi (j := 8) (by decide) ?_
      refine isK KC hx1 hi (j := 9) (by decide) ?_
      refine isK KC hx1 hi (j := 10) (by decide) ?_
      refine isK KC hx1 hi (j := 11) (by decide) ?_
      refine fun b hb => ⟨l, b, _, _, rfl, rfl, (same_new hb) _ _ hl, upd_same, line_le (by simp), fun q hq => ⟨(s1.trans (same_new hb)).trans (same_new hq), q, rfl, by rw [upd_same]; rfl⟩⟩
    rintro σ' H1 ⟨s1, l, rfl, hl⟩
    refine ⟨fun σ' H' => Same H H' ∧ ∃ l, σ' = [some x, some (.ref l), none] ∧ H' l = some (.lst ((List.range 16).map fun j => V.bl (decide (i = j)))), ?_, ?_⟩
    · simp only [tVar, rIxTH, rIxLH, gTupH, line_le, HO.tup.injEq, HO.lst.injEq, List.length_cons, List.length_nil, at0, at1, rU, tOst, tTest, rIxL, rIxT, C8.tCut, cxOf_K, tC, tOp, tUn, tSeq, tAsg, tNext, tRet, tRetN, tDrop, tIfS, tNever, gName, gNil, gCons, gTup, gSub, tPar, rI, rI0, rU, rEq, rNe, tB, tAnd, tOr, tNot, tAndV, tOrV, tNotV, tIf, tTup, tLst, tNil, tCons, tCB, tCall, tMeth, tMake, tFld, sFld, tDGet, sDPut, tDisp, tPairs, tBreak, tCont, scal_ii, scal_bb, scal_ss, List.getElem?_cons_zero, List.getElem?_cons_succ, List.set_cons_zero, List.set_cons_succ, Option.some.injEq, exists_eq_left', exists_eq_left, exists_and_left, V.int.injEq, V.bl.injEq, V.ref.injEq, V.str.injEq, List.cons.injEq, and_true, true_and, Bool.true_eq, List.nil_append, List.append_nil, List.cons_append, exists_eq', and_self, reduceCtorEq, false_or, or_false, false_and, exists_false, exists_const, and_assoc, if_true, Bool.false_eq_true, if_false, Nat.reduceAdd, Nat.reduceLeDiff, Nat.zero_add, Nat.le_refl, forall_const, st_L_kinds]
      have hx1 := hx.same s1
      refine isK KC hx1 hi (j := 12) (by decide) ?_
      refine isK KC hx1 hi (j := 13) (by decide) ?_
      refine isK KC hx1 hi (j := 14) (by decide) ?_
      refine isK KC hx1 hi (j := 15) (by decide) ?_
      refine fun b hb => ⟨l, b, _, _, rfl, rfl, (same_new hb) _ _ hl, upd_same, line_le (by simp), fun q hq => ⟨(s1.trans (same_new hb)).trans (same_new hq), q, rfl, by rw [upd_same]; rfl⟩⟩
    rintro σ' H1 ⟨s1, l, rfl, hl⟩
    refine ⟨fun σ' H' => Same H H' ∧ ∃ l, σ' = [some x, some (.ref l), none] ∧ H' l = some (.lst ((List.range 20).map fun j => V.bl (decide (i = j)))), ?_, ?_⟩
    · simp only [tVar, rIxTH, rIxLH, gTupH, line_le, HO.tup.injEq, HO.lst.injEq, List.length_cons, List.length_nil, at0, at1, rU, tOst, tTest, rIxL, rIxT, C8.tCut, cxOf_K, tC, tOp, tUn, tSeq, tAsg, tNext, tRet, tRetN, tDrop, tIfS, tNever, gName, gNil, gCons, gTup, gSub, tPar, rI, rI0, rU, rEq, rNe, tB, tAnd, tOr, tNot, tAndV, tOrV, tNotV, tIf, tTup, tLst, tNil, tCons, tCB, tCall, tMeth, tMake, tFld, sFld, tDGet, sDPut, tDisp, tPairs, tBreak, tCont, scal_ii, scal_bb, scal_ss, List.getElem?_cons_zero, List.getElem?_cons_succ, List.set_cons_zero, List.set_cons_succ, Option.some.injEq, exists_eq_left', exists_eq_left, exists_and_left, V.int.injEq, V.bl.injEq, V.ref.injEq, V.str.injEq, List.cons.injEq, and_true, true_and, Bool.true_eq, List.nil_append, List.append_nil, List.cons_append, exists_eq', and_self, reduceCtorEq, false_or, or_false, false_and, exists_false, exists_const, and_assoc, if_true, Bool.false_eq_true, if_false, Nat.reduceAdd, Nat.reduceLeDiff, Nat.zero_add, Nat.le_refl, forall_const, st_L_kinds]
      have hx1 := hx.same s1
      refine isK KC hx1 hi (j := 16) (by decide) ?_
      refine isK KC hx1 hi (j := 17) (by decide) ?_
      refine isK KC hx1 hi (j := 18) (by decide) ?_
      refine isK KC hx1 hi (j := 19) (by decide) ?_
      refine fun b hb => ⟨l, b, _, _, rfl, rfl, (same_new hb) _ _ hl, upd_same, line_le (by simp), fun q hq => ⟨(s1.trans (same_new hb)).trans (same_new hq), q, rfl, by rw [upd_same]; rfl⟩⟩
    rintro σ' H1 ⟨s1, l, rfl, hl⟩
    refine ⟨fun σ' H' => Same H H' ∧ ∃ l, σ' = [some x, some (.ref l), none] ∧ H' l = some (.lst ((List.range 22).map fun j => V.bl (decide (i = j)))), ?_, ?_⟩
    · simp only [tVar, rIxTH, rIxLH, gTupH, line_le, HO.tup.injEq, HO.lst.injEq, List.length_cons, List.length_nil, at0, at1, rU, tOst, tTest, rIxL, rIxT, C8.tCut, cxOf_K, tC, tOp, tUn, tSeq, tAsg, tNext, tRet, tRetN, tDrop, tIfS, tNever, gName, gNil, gCons, gTup, gSub, tPar, rI, rI0, rU, rEq, rNe, tB, tAnd, tOr, tNot, tAndV, tOrV, tNotV, tIf, tTup, tLst, tNil, tCons, tCB, tCall, tMeth, tMake, tFld, sFld, tDGet, sDPut, tDisp, tPairs, tBreak, tCont, scal_ii, scal_bb, scal_ss, List.getElem?_cons_zero, List.getElem?_cons_succ, List.set_cons_zero, List.set_cons_succ, Option.some.injEq, exists_eq_left', exists_eq_left, exists_and_left, V.int.injEq, V.bl.injEq, V.ref.injEq, V.str.injEq, List.cons.injEq, and_true, true_and, Bool.true_eq, List.nil_append, List.append_nil, List.cons_append, exists_eq', and_self, reduceCtorEq, false_or, or_false, false_and, exists_false, exists_const, and_assoc, if_true, Bool.false_eq_true, if_false, Nat.reduceAdd, Nat.reduceLeDiff, Nat.zero_add, Nat.le_refl, forall_const, st_L_kinds]
      have hx1 := hx.same s1
      refine isK KC hx1 hi (j := 20) (by decide) ?_
      refine isK KC hx1 hi (j := 21) (by decide) ?_
      refine fun b hb => ⟨l, b, _, _, rfl, rfl, (same_new hb) _ _ hl, upd_same, line_le (by simp), fun q hq => ⟨(s1.trans (same_new hb)).trans (same_new hq), q, rfl, by rw [upd_same]; rfl⟩⟩
    rintro σ' H1 ⟨s1, l, rfl, hl⟩
    simp only [tVar, rIxTH, rIxLH, gTupH, line_le, HO.tup.injEq, HO.lst.injEq, List.length_cons, List.length_nil, at0, at1, rU, tOst, tTest, rIxL, rIxT, C8.tCut, cxOf_K, tC, tOp, tUn, tSeq, tAsg, tNext, tRet, tRetN, tDrop, tIfS, tNever, gName, gNil, gCons, gTup, gSub, tPar, rI, rI0, rU, rEq, rNe, tB, tAnd, tOr, tNot, tAndV, tOrV, tNotV, tIf, tTup, tLst, tNil, tCons, tCB, tCall, tMeth, tMake, tFld, sFld, tDGet, sDPut, tDisp, tPairs, tBreak, tCont, scal_ii, scal_bb, scal_ss, List.getElem?_cons_zero, List.getElem?_cons_succ, List.set_cons_zero, List.set_cons_succ, Option.some.injEq, exists_eq_left', exists_eq_left, exists_and_left, V.int.injEq, V.bl.injEq, V.ref.injEq, V.str.injEq, List.cons.injEq, and_true, true_and, Bool.true_eq, List.nil_append, List.append_nil, List.cons_append, exists_eq', and_self, reduceCtorEq, false_or, or_false, false_and, exists_false, exists_const, and_assoc, if_true, Bool.false_eq_true, if_false, Nat.reduceAdd, Nat.reduceLeDiff, Nat.zero_add, Nat.le_refl, forall_const, st_L_kinds]
    refine ⟨.ref l, rfl, l, rfl, _, .inl (SqL.of hl), 22, rfl, by decide, by decide, fun D hD => lc_range (lo := 0) (n := 22) (D := D) (fun j H' => H' l = some (.lst ((List.range 22).map fun j => V.bl (decide (i = j)))) ∧ Same H H' ∧ H' D = some (.lst (if i < j then [.int i] else []))) ?_ ?_ ?_⟩
    · exact ⟨same_new hD _ _ hl, s1.trans (same_new hD), by rw [upd_same]; rfl⟩
    · rintro j H2 hj ⟨h1, h2, h3⟩
      simp only [tVar, rIxTH, rIxLH, gTupH, line_le, HO.tup.injEq, HO.lst.injEq, List.length_cons, List.length_nil, at0, at1, rU, tOst, tTest, rIxL, rIxT, C8.tCut, cxOf_K, tC, tOp, tUn, tSeq, tAsg, tNext, tRet, tRetN, tDrop, tIfS, tNever, gName, gNil, gCons, gTup, gSub, tPar, rI, rI0, rU, rEq, rNe, tB, tAnd, tOr, tNot, tAndV, tOrV, tNotV, tIf, tTup, tLst, tNil, tCons, tCB, tCall, tMeth, tMake, tFld, sFld, tDGet, sDPut, tDisp, tPairs, tBreak, tCont, scal_ii, scal_bb, scal_ss, List.getElem?_cons_zero, List.getElem?_cons_succ, List.set_cons_zero, List.set_cons_succ, Option.some.injEq, exists_eq_left', exists_eq_left, exists_and_left, V.int.injEq, V.bl.injEq, V.ref.injEq, V.str.injEq, List.cons.injEq, and_true, true_and, Bool.true_eq, List.nil_append, List.append_nil, List.cons_append, exists_eq', and_self, reduceCtorEq, false_or, or_false, false_and, exists_false, exists_const, and_assoc, if_true, Bool.false_eq_true, if_false, Nat.reduceAdd, Nat.reduceLeDiff, Nat.zero_add, Nat.le_refl, forall_const, st_L_kinds, wipe, List.map_cons, List.map_nil]
      have hD0 : H D = none := by
        cases e : H D with
        | none => rfl
        | some o => rw [s1 _ _ e] at hD; cases hD
      have nlD : l ≠ D := ne_of_none hl hD
      have e0 : ((List.range 22).map fun j => V.bl (decide (i = j)))[j]? = some (.bl (decide (i = j))) := by
        rw [List.getElem?_map, List.getElem?_range hj]
        rfl
      refine ⟨_, h1, _, by rw [Int.zero_add]; exact atI_nat e0, _, rfl, ?_⟩
      by_cases e : i = j
      · subst e
        rw [if_pos (by simp)]
        rw [if_neg (by omega)] at h3
        refine ⟨_, h3, by show 0 < sizeLine; decide, by rw [upd_ne nlD]; exact h1, fun b o z => by rw [upd_ne (ne_of_none z hD0)]; exact h2 b o z, ?_⟩
        rw [upd_same, if_pos (by omega), Int.zero_add]
        rfl
      · rw [if_neg (by simpa using e)]
        refine ⟨h1, h2, ?_⟩
        rw [h3]
        by_cases z : i < j
        · rw [if_pos z, if_pos (by omega)]
        · rw [if_neg z, if_neg (by omega)]
    · rintro H2 ⟨h1, h2, h3⟩
      refine k _ _ h2 ?_
      rw [h3, if_pos hi]
def spOne (CL : Nat → Addr) (i : Nat) (a b c : V) (Q : VK) (H : Hp) : Prop := ∀ H' t e l1 l2 xs fs, Same H H' → H' t = some (.tup [.ref e, .ref l1, .ref l2]) → ExV H' (CL i) (.ref e) fs → H' l1 = some (.lst xs) → H' l2 = some (.lst xs) → xs.length ≤ 3 → (∀ x ∈ xs, x = a ∨ x = b ∨ x = c) → Q (.ref t) H'
theorem one_done {CL : Nat → Addr} {i : Nat} {a b c : V} {Q : VK} {H H1 : Hp} {e l1 l2 t : Addr} {xs : List V} {fs : List (Str × V)} (k : spOne CL i a b c Q H) (s : Same H H1) (x : ExV H1 (CL i) (.ref e) fs) (hl : xs.length ≤ 3) (hx : ∀ x ∈ xs, x = a ∨ x = b ∨ x = c)
    (h1 : H1 l1 = none) (h2 : upd H1 l1 (.lst xs) l2 = none) (h3 : upd (upd H1 l1 (.lst xs)) l2 (.lst xs) t = none) : Q (.ref t) (upd (upd (upd H1 l1 (.lst xs)) l2 (.lst xs)) t (.tup [.ref e, .ref l1, .ref l2])) := by
  have s1 := same_new (o := HO.lst xs) h1
  have s2 := same_new (o := HO.lst xs) h2
  have s3 := same_new (o := HO.tup [V.ref e, .ref l1, .ref l2]) h3
  exact k _ t e l1 l2 xs fs (((s.trans s1).trans s2).trans s3) upd_same (((x.same s1).same s2).same s3) (s3 _ _ (s2 _ _ upd_same)) (s3 _ _ upd_same) hl hx
def spFirst (CL : Nat → Addr) : Sp := fun vs H Q _ => ∃ (i : Nat) (a b c : V), vs = [.int i, a, b, c] ∧ i < 10 ∧ spOne CL i a b c Q H
def spLast (CL : Nat → Addr) : Sp := fun vs H Q _ => ∃ (i : Nat) (a b c : V), vs = [.int i, a, b] ∧ 10 ≤ i ∧ i < 22 ∧ spOne CL i a b c Q H
abbrev s_L_first : Stmt := top 30
abbrev N_L_first : List Str := ["_law_place", "_law_a", "_law_b", "_law_c", "_law_e"]
theorem sc_L_first : FnScope N_L_first ["_law_place", "_law_a", "_law_b", "_law_c"] (defScope s_L_first) := ⟨rfl, rfl, rfl, by decide +kernel, rfl, by decide +kernel, by decide +kernel⟩
theorem st_L_first {v0 v1 v2 v3 : V} : L2.start N_L_first [v0, v1, v2, v3] = [some v0, some v1, some v2, some v3, none] := rfl
theorem ok_L_first {f : Addr} {fd : FuncData} (F : FD K s_L_first "_law_first" "_law_first" f fd) {CL : Nat → Addr} {CH : Addr} (KC : KinC K CL CH) (g_TooMany : Xf P w K mg base "TooMany" (CL 9) 1 (spX3 (CL 9) "what" "many" "limit")) (g_TooLarge : Xf P w K mg base "TooLarge" (CL 8) 1 (spX3 (CL 8) "what" "many" "limit")) (g_TooLong : Xf P w K mg base "TooLong" (CL 7) 1 (spX1 (CL 7) "digits")) (g_BadTable : Xf P w K mg base "BadTable" (CL 6) 1 (spX1 (CL 6) "row")) (g_BadPlace : Xf P w K mg base "BadPlace" (CL 5) 1 (spX1 (CL 5) "row")) (g_BadAnswers : Xf P w K mg base "BadAnswers" (CL 4) 1 (spX1 (CL 4) "place")) (g_BadGiven : Xf P w K mg base "BadGiven" (CL 3) 1 (spX1 (CL 3) "what")) (g_BadNumber : Xf P w K mg base "BadNumber" (CL 2) 1 (spX2 (CL 2) "what" "number")) (g_BadName : Xf P w K mg base "BadName" (CL 1) 1 (spX1 (CL 1) "name")) (g_BadText : Xf P w K mg base "BadText" (CL 0) 1 (spX2 (CL 0) "line" "column")) : FnOk P w K mg base (L2.CX P w) 3 f fd ["_law_place", "_law_a", "_law_b", "_law_c"] (spFirst CL) := by
  have nd := sc_L_first.nd
  refine F.ok0 sc_L_first (fun vs H Q E h => ?_) (fun cdv A outer s H vs Q E hr h => ?_)
  · obtain ⟨i, a, b, c, rfl, _⟩ := h
    rfl
  · obtain ⟨i, a, b, c, rfl, hi, k⟩ := h
    refine ⟨_, (pss_cons (ps_if (pt_cmpR op_eq (pv 0) pe_int (nomark _)) (pss_cons (ps_set (i := 4) nd rfl (Or.inl rfl) (pe_mkV g_BadText hr (by decide) passL rfl (pa_cons (pv 1) (pa_cons (pv 2) pa_nil))))
        (pss_one (ps_ret (pe_tup (pa_cons (pv 4) (pa_cons (pe_lst (pa_cons (pe_xv rfl (pv 4)) (pa_cons (pe_xv rfl (pv 4)) pa_nil))) (pa_cons (pe_lst (pa_cons (pv 1) (pa_cons (pv 2) pa_nil))) pa_nil))))))) pss_nil)
        (pss_cons (ps_if (pt_cmpR op_eq (pv 0) pe_int (nomark _)) (pss_cons (ps_set (i := 4) nd rfl (Or.inl rfl) (pe_mkV g_BadName hr (by decide) passL rfl (pa_cons (pv 1) pa_nil)))
        (pss_one (ps_ret (pe_tup (pa_cons (pv 4) (pa_cons (pe_lst (pa_cons (pe_xv rfl (pv 4)) pa_nil)) (pa_cons (pe_lst (pa_cons (pv 1) pa_nil)) pa_nil))))))) pss_nil)
        (pss_cons (ps_if (pt_cmpR op_eq (pv 0) pe_int (nomark _)) (pss_cons (ps_set (i := 4) nd rfl (Or.inl rfl) (pe_mkV g_BadNumber hr (by decide) passL rfl (pa_cons (pv 1) (pa_cons (pv 2) pa_nil))))
        (pss_one (ps_ret (pe_tup (pa_cons (pv 4) (pa_cons (pe_lst (pa_cons (pe_xv rfl (pv 4)) (pa_cons (pe_xv rfl (pv 4)) pa_nil))) (pa_cons (pe_lst (pa_cons (pv 1) (pa_cons (pv 2) pa_nil))) pa_nil))))))) pss_nil)
        (pss_cons (ps_if (pt_cmpR op_eq (pv 0) pe_int (nomark _)) (pss_cons (ps_set (i := 4) nd rfl (Or.inl rfl) (pe_mkV g_BadGiven hr (by decide) passL rfl (pa_cons (pv 1) pa_nil)))
        (pss_one (ps_ret (pe_tup (pa_cons (pv 4) (pa_cons (pe_lst (pa_cons (pe_xv rfl (pv 4)) pa_nil)) (pa_cons (pe_lst (pa_cons (pv 1) pa_nil)) pa_nil))))))) pss_nil)
        (pss_cons (ps_if (pt_cmpR op_eq (pv 0) pe_int (nomark _)) (pss_cons (ps_set (i := 4) nd rfl (Or.inl rfl) (pe_mkV g_BadAnswers hr (by decide) passL rfl (pa_cons (pv 1) pa_nil)))
        (pss_one (ps_ret (pe_tup (pa_cons (pv 4) (pa_cons (pe_lst (pa_cons (pe_xv rfl (pv 4)) pa_nil)) (pa_cons (pe_lst (pa_cons (pv 1) pa_nil)) pa_nil))))))) pss_nil)
        (pss_cons (ps_if (pt_cmpR op_eq (pv 0) pe_int (nomark _)) (pss_cons (ps_set (i := 4) nd rfl (Or.inl rfl) (pe_mkV g_BadPlace hr (by decide) passL rfl (pa_cons (pv 1) pa_nil)))
        (pss_one (ps_ret (pe_tup (pa_cons (pv 4) (pa_cons (pe_lst (pa_cons (pe_xv rfl (pv 4)) pa_nil)) (pa_cons (pe_lst (pa_cons (pv 1) pa_nil)) pa_nil))))))) pss_nil)
        (pss_cons (ps_if (pt_cmpR op_eq (pv 0) pe_int (nomark _)) (pss_cons (ps_set (i := 4) nd rfl (Or.inl rfl) (pe_mkV g_BadTable hr (by decide) passL rfl (pa_cons (pv 1) pa_nil)))
        (pss_one (ps_ret (pe_tup (pa_cons (pv 4) (pa_cons (pe_lst (pa_cons (pe_xv rfl (pv 4)) pa_nil)) (pa_cons (pe_lst (pa_cons (pv 1) pa_nil)) pa_nil))))))) pss_nil)
        (pss_cons (ps_if (pt_cmpR op_eq (pv 0) pe_int (nomark _)) (pss_cons (ps_set (i := 4) nd rfl (Or.inl rfl) (pe_mkV g_TooLong hr (by decide) passL rfl (pa_cons (pv 1) pa_nil)))
        (pss_one (ps_ret (pe_tup (pa_cons (pv 4) (pa_cons (pe_lst (pa_cons (pe_xv rfl (pv 4)) pa_nil)) (pa_cons (pe_lst (pa_cons (pv 1) pa_nil)) pa_nil))))))) pss_nil)
        (pss_cons (ps_if (pt_cmpR op_eq (pv 0) pe_int (nomark _)) (pss_cons (ps_set (i := 4) nd rfl (Or.inl rfl) (pe_mkV g_TooLarge hr (by decide) passL rfl (pa_cons (pv 1) (pa_cons (pv 2) (pa_cons (pv 3) pa_nil)))))
        (pss_one (ps_ret (pe_tup (pa_cons (pv 4) (pa_cons (pe_lst (pa_cons (pe_xv rfl (pv 4)) (pa_cons (pe_xv rfl (pv 4)) (pa_cons (pe_xv rfl (pv 4)) pa_nil)))) (pa_cons (pe_lst (pa_cons (pv 1) (pa_cons (pv 2) (pa_cons (pv 3) pa_nil)))) pa_nil))))))) pss_nil)
        (pss_cons (ps_set (i := 4) nd rfl (Or.inl rfl) (pe_mkV g_TooMany hr (by decide) passL rfl (pa_cons (pv 1) (pa_cons (pv 2) (pa_cons (pv 3) pa_nil)))))
        (pss_one (ps_ret (pe_tup (pa_cons (pv 4) (pa_cons (pe_lst (pa_cons (pe_xv rfl (pv 4)) (pa_cons (pe_xv rfl (pv 4)) (pa_cons (pe_xv rfl (pv 4)) pa_nil)))) (pa_cons (pe_lst (pa_cons (pv 1) (pa_cons (pv 2) (pa_cons (pv 3) pa_nil)))) pa_nil)))))))))))))))), ?_⟩
    simp only [tVar, rIxTH, rIxLH, gTupH, line_le, HO.tup.injEq, HO.lst.injEq, List.length_cons, List.length_nil, at0, at1, rU, tOst, tTest, rIxL, rIxT, C8.tCut, cxOf_K, tC, tOp, tUn, tSeq, tAsg, tNext, tRet, tRetN, tDrop, tIfS, tNever, gName, gNil, gCons, gTup, gSub, tPar, rI, rI0, rU, rEq, rNe, tB, tAnd, tOr, tNot, tAndV, tOrV, tNotV, tIf, tTup, tLst, tNil, tCons, tCB, tCall, tMeth, tMake, tFld, sFld, tDGet, sDPut, tDisp, tPairs, tBreak, tCont, scal_ii, scal_bb, scal_ss, List.getElem?_cons_zero, List.getElem?_cons_succ, List.set_cons_zero, List.set_cons_succ, Option.some.injEq, exists_eq_left', exists_eq_left, exists_and_left, V.int.injEq, V.bl.injEq, V.ref.injEq, V.str.injEq, List.cons.injEq, and_true, true_and, Bool.true_eq, List.nil_append, List.append_nil, List.cons_append, exists_eq', and_self, reduceCtorEq, false_or, or_false, false_and, exists_false, exists_const, and_assoc, if_true, Bool.false_eq_true, if_false, Nat.reduceAdd, Nat.reduceLeDiff, Nat.zero_add, Nat.le_refl, forall_const, st_L_first, tMkV, tXv]
    refine ite2 (fun h => ?_) (fun h => ?_)
    · obtain rfl : i = 0 := by
        have := of_decide_eq_true h
        omega
      refine fun p hp => mk2 hp (fun H1 s1 x1 => ⟨rfl, ?_⟩)
      refine ⟨_, _, x1, KC.ev 0 (by decide), KC.no (0, "line") (by decide +kernel), _, (lkB (by decide) lkA), ?_⟩
      refine ⟨_, _, x1, KC.ev 0 (by decide), KC.no (0, "column") (by decide +kernel), _, lkA, ?_⟩
      exact fun l1 h1 l2 h2 t h3 => one_done k s1 x1 (by simp) (by simp) h1 h2 h3
    have n0 : i ≠ 0 := fun z => by
      subst z
      exact h (by decide)
    refine ite2 (fun h => ?_) (fun h => ?_)
    · obtain rfl : i = 1 := by
        have := of_decide_eq_true h
        omega
      refine fun p hp => mk1 hp (fun H1 s1 x1 => ⟨rfl, ?_⟩)
      refine ⟨_, _, x1, KC.ev 1 (by decide), KC.no (1, "name") (by decide +kernel), _, lkA, ?_⟩
      exact fun l1 h1 l2 h2 t h3 => one_done k s1 x1 (by simp) (by simp) h1 h2 h3
    have n1 : i ≠ 1 := fun z => by
      subst z
      exact h (by decide)
    refine ite2 (fun h => ?_) (fun h => ?_)
    · obtain rfl : i = 2 := by
        have := of_decide_eq_true h
        omega
      refine fun p hp => mk2 hp (fun H1 s1 x1 => ⟨rfl, ?_⟩)
      refine ⟨_, _, x1, KC.ev 2 (by decide), KC.no (2, "what") (by decide +kernel), _, (lkB (by decide) lkA), ?_⟩
      refine ⟨_, _, x1, KC.ev 2 (by decide), KC.no (2, "number") (by decide +kernel), _, lkA, ?_⟩
      exact fun l1 h1 l2 h2 t h3 => one_done k s1 x1 (by simp) (by simp) h1 h2 h3
    have n2 : i ≠ 2 := fun z => by
      subst z
      exact h (by decide)
    refine ite2 (fun h => ?_) (fun h => ?_)
    · obtain rfl : i = 3 := by
        have := of_decide_eq_true h
        omega
      refine fun p hp => mk1 hp (fun H1 s1 x1 => ⟨rfl, ?_⟩)
      refine ⟨_, _, x1, KC.ev 3 (by decide), KC.no (3, "what") (by decide +kernel), _, lkA, ?_⟩
      exact fun l1 h1 l2 h2 t h3 => one_done k s1 x1 (by simp) (by simp) h1 h2 h3
    have n3 : i ≠ 3 := fun z => by
      subst z
      exact h (by decide)
    refine ite2 (fun h => ?_) (fun h => ?_)
    · obtain rfl : i = 4 := by
        have := of_decide_eq_true h
        omega
      refine fun p hp => mk1 hp (fun H1 s1 x1 => ⟨rfl, ?_⟩)
      refine ⟨_, _, x1, KC.ev 4 (by decide), KC.no (4, "place") (by decide +kernel), _, lkA, ?_⟩
      exact fun l1 h1 l2 h2 t h3 => one_done k s1 x1 (by simp) (by simp) h1 h2 h3
    have n4 : i ≠ 4 := fun z => by
      subst z
      exact h (by decide)
    refine ite2 (fun h => ?_) (fun h => ?_)
    · obtain rfl : i = 5 := by
        have := of_decide_eq_true h
        omega
      refine fun p hp => mk1 hp (fun H1 s1 x1 => ⟨rfl, ?_⟩)
      refine ⟨_, _, x1, KC.ev 5 (by decide), KC.no (5, "row") (by decide +kernel), _, lkA, ?_⟩
      exact fun l1 h1 l2 h2 t h3 => one_done k s1 x1 (by simp) (by simp) h1 h2 h3
    have n5 : i ≠ 5 := fun z => by
      subst z
      exact h (by decide)
    refine ite2 (fun h => ?_) (fun h => ?_)
    · obtain rfl : i = 6 := by
        have := of_decide_eq_true h
        omega
      refine fun p hp => mk1 hp (fun H1 s1 x1 => ⟨rfl, ?_⟩)
      refine ⟨_, _, x1, KC.ev 6 (by decide), KC.no (6, "row") (by decide +kernel), _, lkA, ?_⟩
      exact fun l1 h1 l2 h2 t h3 => one_done k s1 x1 (by simp) (by simp) h1 h2 h3
    have n6 : i ≠ 6 := fun z => by
      subst z
      exact h (by decide)
    refine ite2 (fun h => ?_) (fun h => ?_)
    · obtain rfl : i = 7 := by
        have := of_decide_eq_true h
        omega
      refine fun p hp => mk1 hp (fun H1 s1 x1 => ⟨rfl, ?_⟩)
      refine ⟨_, _, x1, KC.ev 7 (by decide), KC.no (7, "digits") (by decide +kernel), _, lkA, ?_⟩
      exact fun l1 h1 l2 h2 t h3 => one_done k s1 x1 (by simp) (by simp) h1 h2 h3
    have n7 : i ≠ 7 := fun z => by
      subst z
      exact h (by decide)
    refine ite2 (fun h => ?_) (fun h => ?_)
    · obtain rfl : i = 8 := by
        have := of_decide_eq_true h
        omega
      refine fun p hp => mk3 hp (fun H1 s1 x1 => ⟨rfl, ?_⟩)
      refine ⟨_, _, x1, KC.ev 8 (by decide), KC.no (8, "what") (by decide +kernel), _, (lkB (by decide) (lkB (by decide) lkA)), ?_⟩
      refine ⟨_, _, x1, KC.ev 8 (by decide), KC.no (8, "many") (by decide +kernel), _, (lkB (by decide) lkA), ?_⟩
      refine ⟨_, _, x1, KC.ev 8 (by decide), KC.no (8, "limit") (by decide +kernel), _, lkA, ?_⟩
      exact fun l1 h1 l2 h2 t h3 => one_done k s1 x1 (by simp) (by simp) h1 h2 h3
    have n8 : i ≠ 8 := fun z => by
      subst z
      exact h (by decide)
    obtain rfl : i = 9 := by omega
    refine fun p hp => mk3 hp (fun H1 s1 x1 => ⟨rfl, ?_⟩)
    refine ⟨_, _, x1, KC.ev 9 (by decide), KC.no (9, "what") (by decide +kernel), _, (lkB (by decide) (lkB (by decide) lkA)), ?_⟩
    refine ⟨_, _, x1, KC.ev 9 (by decide), KC.no (9, "many") (by decide +kernel), _, (lkB (by decide) lkA), ?_⟩
    refine ⟨_, _, x1, KC.ev 9 (by decide), KC.no (9, "limit") (by decide +kernel), _, lkA, ?_⟩
    exact fun l1 h1 l2 h2 t h3 => one_done k s1 x1 (by simp) (by simp) h1 h2 h3
abbrev s_L_last : Stmt := top 31
abbrev N_L_last : List Str := ["_law_place", "_law_a", "_law_b", "_law_e"]
theorem sc_L_last : FnScope N_L_last ["_law_place", "_law_a", "_law_b"] (defScope s_L_last) := ⟨rfl, rfl, rfl, by decide +kernel, rfl, by decide +kernel, by decide +kernel⟩
theorem st_L_last {v0 v1 v2 : V} : L2.start N_L_last [v0, v1, v2] = [some v0, some v1, some v2, none] := rfl
theorem ok_L_last {f : Addr} {fd : FuncData} (F : FD K s_L_last "_law_last" "_law_last" f fd) {CL : Nat → Addr} {CH : Addr} (KC : KinC K CL CH) (m_NothingToUndo : mg "NothingToUndo" = some (.ref (CL 20))) (m_NothingToRedo : mg "NothingToRedo" = some (.ref (CL 21))) (m_EmptyPlace : mg "EmptyPlace" = some (.ref (CL 13))) (m_NotContinuous : mg "NotContinuous" = some (.ref (CL 11))) (g_Broken : Xf P w K mg base "Broken" (CL 19) 1 (spX2 (CL 19) "promise" "given")) (g_TakenName : Xf P w K mg base "TakenName" (CL 18) 1 (spX1 (CL 18) "name")) (g_NoModel : Xf P w K mg base "NoModel" (CL 17) 1 (spX1 (CL 17) "name")) (g_NoLine : Xf P w K mg base "NoLine" (CL 16) 1 (spX1 (CL 16) "name")) (g_NoFeature : Xf P w K mg base "NoFeature" (CL 15) 1 (spX1 (CL 15) "name")) (g_NotFull : Xf P w K mg base "NotFull" (CL 14) 1 (spX1 (CL 14) "rank")) (g_NotPlain : Xf P w K mg base "NotPlain" (CL 12) 1 (spX1 (CL 12) "name")) (g_Unlike : Xf P w K mg base "Unlike" (CL 10) 1 (spX1 (CL 10) "what")) : FnOk P w K mg base (L2.CX P w) 3 f fd ["_law_place", "_law_a", "_law_b"] (spLast CL) := by
  have nd := sc_L_last.nd
  refine F.ok0 sc_L_last (fun vs H Q E h => ?_) (fun cdv A outer s H vs Q E hr h => ?_)
  · obtain ⟨i, a, b, c, rfl, _⟩ := h
    rfl
  · obtain ⟨i, a, b, c, rfl, hi0, hi, k⟩ := h
    refine ⟨_, (pss_cons (ps_if (pt_cmpR op_eq (pv 0) pe_int (nomark _)) (pss_cons (ps_set (i := 3) nd rfl (Or.inl rfl) (pe_mkV g_Unlike hr (by decide) passL rfl (pa_cons (pv 1) pa_nil)))
        (pss_one (ps_ret (pe_tup (pa_cons (pv 3) (pa_cons (pe_lst (pa_cons (pe_xv rfl (pv 3)) pa_nil)) (pa_cons (pe_lst (pa_cons (pv 1) pa_nil)) pa_nil))))))) pss_nil)
        (pss_cons (ps_if (pt_cmpR op_eq (pv 0) pe_int (nomark _)) (pss_cons (ps_set (i := 3) nd rfl (Or.inl rfl) (pe_mkV g_NotPlain hr (by decide) passL rfl (pa_cons (pv 1) pa_nil)))
        (pss_one (ps_ret (pe_tup (pa_cons (pv 3) (pa_cons (pe_lst (pa_cons (pe_xv rfl (pv 3)) pa_nil)) (pa_cons (pe_lst (pa_cons (pv 1) pa_nil)) pa_nil))))))) pss_nil)
        (pss_cons (ps_if (pt_cmpR op_eq (pv 0) pe_int (nomark _)) (pss_cons (ps_set (i := 3) nd rfl (Or.inl rfl) (pe_mkV g_NotFull hr (by decide) passL rfl (pa_cons (pv 1) pa_nil)))
        (pss_one (ps_ret (pe_tup (pa_cons (pv 3) (pa_cons (pe_lst (pa_cons (pe_xv rfl (pv 3)) pa_nil)) (pa_cons (pe_lst (pa_cons (pv 1) pa_nil)) pa_nil))))))) pss_nil)
        (pss_cons (ps_if (pt_cmpR op_eq (pv 0) pe_int (nomark _)) (pss_cons (ps_set (i := 3) nd rfl (Or.inl rfl) (pe_mkV g_NoFeature hr (by decide) passL rfl (pa_cons (pv 1) pa_nil)))
        (pss_one (ps_ret (pe_tup (pa_cons (pv 3) (pa_cons (pe_lst (pa_cons (pe_xv rfl (pv 3)) pa_nil)) (pa_cons (pe_lst (pa_cons (pv 1) pa_nil)) pa_nil))))))) pss_nil)
        (pss_cons (ps_if (pt_cmpR op_eq (pv 0) pe_int (nomark _)) (pss_cons (ps_set (i := 3) nd rfl (Or.inl rfl) (pe_mkV g_NoLine hr (by decide) passL rfl (pa_cons (pv 1) pa_nil)))
        (pss_one (ps_ret (pe_tup (pa_cons (pv 3) (pa_cons (pe_lst (pa_cons (pe_xv rfl (pv 3)) pa_nil)) (pa_cons (pe_lst (pa_cons (pv 1) pa_nil)) pa_nil))))))) pss_nil)
        (pss_cons (ps_if (pt_cmpR op_eq (pv 0) pe_int (nomark _)) (pss_cons (ps_set (i := 3) nd rfl (Or.inl rfl) (pe_mkV g_NoModel hr (by decide) passL rfl (pa_cons (pv 1) pa_nil)))
        (pss_one (ps_ret (pe_tup (pa_cons (pv 3) (pa_cons (pe_lst (pa_cons (pe_xv rfl (pv 3)) pa_nil)) (pa_cons (pe_lst (pa_cons (pv 1) pa_nil)) pa_nil))))))) pss_nil)
        (pss_cons (ps_if (pt_cmpR op_eq (pv 0) pe_int (nomark _)) (pss_cons (ps_set (i := 3) nd rfl (Or.inl rfl) (pe_mkV g_TakenName hr (by decide) passL rfl (pa_cons (pv 1) pa_nil)))
        (pss_one (ps_ret (pe_tup (pa_cons (pv 3) (pa_cons (pe_lst (pa_cons (pe_xv rfl (pv 3)) pa_nil)) (pa_cons (pe_lst (pa_cons (pv 1) pa_nil)) pa_nil))))))) pss_nil)
        (pss_cons (ps_if (pt_cmpR op_eq (pv 0) pe_int (nomark _)) (pss_cons (ps_set (i := 3) nd rfl (Or.inl rfl) (pe_mkV g_Broken hr (by decide) passL rfl (pa_cons (pv 1) (pa_cons (pv 2) pa_nil))))
        (pss_one (ps_ret (pe_tup (pa_cons (pv 3) (pa_cons (pe_lst (pa_cons (pe_xv rfl (pv 3)) (pa_cons (pe_xv rfl (pv 3)) pa_nil))) (pa_cons (pe_lst (pa_cons (pv 1) (pa_cons (pv 2) pa_nil))) pa_nil))))))) pss_nil)
        (pss_cons (ps_if (pt_cmpR op_eq (pv 0) pe_int (nomark _)) (pss_one (ps_ret (pe_tup (pa_cons (pe_mk0 (KC.e0 11 (by decide)).1 m_NotContinuous (KC.e0 11 (by decide)).2.1 rfl) (pa_cons (pe_lst pa_nil) (pa_cons (pe_lst pa_nil) pa_nil)))))) pss_nil)
        (pss_cons (ps_if (pt_cmpR op_eq (pv 0) pe_int (nomark _)) (pss_one (ps_ret (pe_tup (pa_cons (pe_mk0 (KC.e0 13 (by decide)).1 m_EmptyPlace (KC.e0 13 (by decide)).2.1 rfl) (pa_cons (pe_lst pa_nil) (pa_cons (pe_lst pa_nil) pa_nil)))))) pss_nil)
        (pss_one (ps_ret (pe_tup (pa_cons (pe_ifExp (pt_cmpR op_eq (pv 0) pe_int (nomark _)) (pe_mk0 (KC.e0 20 (by decide)).1 m_NothingToUndo (KC.e0 20 (by decide)).2.1 rfl) (pe_mk0 (KC.e0 21 (by decide)).1 m_NothingToRedo (KC.e0 21 (by decide)).2.1 rfl)) (pa_cons (pe_lst pa_nil) (pa_cons (pe_lst pa_nil) pa_nil)))))))))))))))), ?_⟩
    simp only [tVar, rIxTH, rIxLH, gTupH, line_le, HO.tup.injEq, HO.lst.injEq, List.length_cons, List.length_nil, at0, at1, rU, tOst, tTest, rIxL, rIxT, C8.tCut, cxOf_K, tC, tOp, tUn, tSeq, tAsg, tNext, tRet, tRetN, tDrop, tIfS, tNever, gName, gNil, gCons, gTup, gSub, tPar, rI, rI0, rU, rEq, rNe, tB, tAnd, tOr, tNot, tAndV, tOrV, tNotV, tIf, tTup, tLst, tNil, tCons, tCB, tCall, tMeth, tMake, tFld, sFld, tDGet, sDPut, tDisp, tPairs, tBreak, tCont, scal_ii, scal_bb, scal_ss, List.getElem?_cons_zero, List.getElem?_cons_succ, List.set_cons_zero, List.set_cons_succ, Option.some.injEq, exists_eq_left', exists_eq_left, exists_and_left, V.int.injEq, V.bl.injEq, V.ref.injEq, V.str.injEq, List.cons.injEq, and_true, true_and, Bool.true_eq, List.nil_append, List.append_nil, List.cons_append, exists_eq', and_self, reduceCtorEq, false_or, or_false, false_and, exists_false, exists_const, and_assoc, if_true, Bool.false_eq_true, if_false, Nat.reduceAdd, Nat.reduceLeDiff, Nat.zero_add, Nat.le_refl, forall_const, st_L_last, tMkV, tXv]
    refine ite2 (fun h => ?_) (fun h => ?_)
    · obtain rfl : i = 10 := by
        have := of_decide_eq_true h
        omega
      refine fun p hp => mk1 hp (fun H1 s1 x1 => ⟨rfl, ?_⟩)
      refine ⟨_, _, x1, KC.ev 10 (by decide), KC.no (10, "what") (by decide +kernel), _, lkA, ?_⟩
      exact fun l1 h1 l2 h2 t h3 => one_done k s1 x1 (by simp) (by simp) h1 h2 h3
    have n10 : i ≠ 10 := fun z => by
      subst z
      exact h (by decide)
    refine ite2 (fun h => ?_) (fun h => ?_)
    · obtain rfl : i = 12 := by
        have := of_decide_eq_true h
        omega
      refine fun p hp => mk1 hp (fun H1 s1 x1 => ⟨rfl, ?_⟩)
      refine ⟨_, _, x1, KC.ev 12 (by decide), KC.no (12, "name") (by decide +kernel), _, lkA, ?_⟩
      exact fun l1 h1 l2 h2 t h3 => one_done k s1 x1 (by simp) (by simp) h1 h2 h3
    have n12 : i ≠ 12 := fun z => by
      subst z
      exact h (by decide)
    refine ite2 (fun h => ?_) (fun h => ?_)
    · obtain rfl : i = 14 := by
        have := of_decide_eq_true h
        omega
      refine fun p hp => mk1 hp (fun H1 s1 x1 => ⟨rfl, ?_⟩)
      refine ⟨_, _, x1, KC.ev 14 (by decide), KC.no (14, "rank") (by decide +kernel), _, lkA, ?_⟩
      exact fun l1 h1 l2 h2 t h3 => one_done k s1 x1 (by simp) (by simp) h1 h2 h3
    have n14 : i ≠ 14 := fun z => by
      subst z
      exact h (by decide)
    refine ite2 (fun h => ?_) (fun h => ?_)
    · obtain rfl : i = 15 := by
        have := of_decide_eq_true h
        omega
      refine fun p hp => mk1 hp (fun H1 s1 x1 => ⟨rfl, ?_⟩)
      refine ⟨_, _, x1, KC.ev 15 (by decide), KC.no (15, "name") (by decide +kernel), _, lkA, ?_⟩
      exact fun l1 h1 l2 h2 t h3 => one_done k s1 x1 (by simp) (by simp) h1 h2 h3
    have n15 : i ≠ 15 := fun z => by
      subst z
      exact h (by decide)
    refine ite2 (fun h => ?_) (fun h => ?_)
    · obtain rfl : i = 16 := by
        have := of_decide_eq_true h
        omega
      refine fun p hp => mk1 hp (fun H1 s1 x1 => ⟨rfl, ?_⟩)
      refine ⟨_, _, x1, KC.ev 16 (by decide), KC.no (16, "name") (by decide +kernel), _, lkA, ?_⟩
      exact fun l1 h1 l2 h2 t h3 => one_done k s1 x1 (by simp) (by simp) h1 h2 h3
    have n16 : i ≠ 16 := fun z => by
      subst z
      exact h (by decide)
    refine ite2 (fun h => ?_) (fun h => ?_)
    · obtain rfl : i = 17 := by
        have := of_decide_eq_true h
        omega
      refine fun p hp => mk1 hp (fun H1 s1 x1 => ⟨rfl, ?_⟩)
      refine ⟨_, _, x1, KC.ev 17 (by decide), KC.no (17, "name") (by decide +kernel), _, lkA, ?_⟩
      exact fun l1 h1 l2 h2 t h3 => one_done k s1 x1 (by simp) (by simp) h1 h2 h3
    have n17 : i ≠ 17 := fun z => by
      subst z
      exact h (by decide)
    refine ite2 (fun h => ?_) (fun h => ?_)
    · obtain rfl : i = 18 := by
        have := of_decide_eq_true h
        omega
      refine fun p hp => mk1 hp (fun H1 s1 x1 => ⟨rfl, ?_⟩)
      refine ⟨_, _, x1, KC.ev 18 (by decide), KC.no (18, "name") (by decide +kernel), _, lkA, ?_⟩
      exact fun l1 h1 l2 h2 t h3 => one_done k s1 x1 (by simp) (by simp) h1 h2 h3
    have n18 : i ≠ 18 := fun z => by
      subst z
      exact h (by decide)
    refine ite2 (fun h => ?_) (fun h => ?_)
    · obtain rfl : i = 19 := by
        have := of_decide_eq_true h
        omega
      refine fun p hp => mk2 hp (fun H1 s1 x1 => ⟨rfl, ?_⟩)
      refine ⟨_, _, x1, KC.ev 19 (by decide), KC.no (19, "promise") (by decide +kernel), _, (lkB (by decide) lkA), ?_⟩
      refine ⟨_, _, x1, KC.ev 19 (by decide), KC.no (19, "given") (by decide +kernel), _, lkA, ?_⟩
      exact fun l1 h1 l2 h2 t h3 => one_done k s1 x1 (by simp) (by simp) h1 h2 h3
    have n19 : i ≠ 19 := fun z => by
      subst z
      exact h (by decide)
    refine ite2 (fun h => ?_) (fun h => ?_)
    · obtain rfl : i = 11 := by
        have := of_decide_eq_true h
        omega
      exact fun p hp l1 h1 l2 h2 t h3 => one_done k (mk0 hp).1 (mk0 hp).2 (by simp) (by simp) h1 h2 h3
    have n11 : i ≠ 11 := fun z => by
      subst z
      exact h (by decide)
    refine ite2 (fun h => ?_) (fun h => ?_)
    · obtain rfl : i = 13 := by
        have := of_decide_eq_true h
        omega
      exact fun p hp l1 h1 l2 h2 t h3 => one_done k (mk0 hp).1 (mk0 hp).2 (by simp) (by simp) h1 h2 h3
    have n13 : i ≠ 13 := fun z => by
      subst z
      exact h (by decide)
    refine ite2 (fun h => ?_) (fun h => ?_)
    · obtain rfl : i = 20 := by
        have := of_decide_eq_true h
        omega
      exact fun p hp l1 h1 l2 h2 t h3 => one_done k (mk0 hp).1 (mk0 hp).2 (by simp) (by simp) h1 h2 h3
    · have n20 : i ≠ 20 := fun z => by
        subst z
        exact h (by decide)
      obtain rfl : i = 21 := by omega
      exact fun p hp l1 h1 l2 h2 t h3 => one_done k (mk0 hp).1 (mk0 hp).2 (by simp) (by simp) h1 h2 h3
def spAlike : Sp := fun vs H Q _ => ∃ (a b : Addr) (xs : List V) (ds : List PyData), vs = [.ref a, .ref b] ∧ H a = some (.lst xs) ∧ H b = some (.lst xs) ∧ FvL H xs ds ∧ xs.length ≤ 8 ∧ Q (.bl true) H
abbrev s_L_alike : Stmt := top 32
abbrev N_L_alike : List Str := ["_law_one", "_law_two"]
theorem sc_L_alike : FnScope N_L_alike ["_law_one", "_law_two"] (defScope s_L_alike) := ⟨rfl, rfl, rfl, by decide +kernel, rfl, by decide +kernel, by decide +kernel⟩
theorem st_L_alike {v0 v1 : V} : L2.start N_L_alike [v0, v1] = [some v0, some v1] := rfl
theorem ok_L_alike {f : Addr} {fd : FuncData} (F : FD K s_L_alike "_law_alike" "_law_alike" f fd) (z_repr : mg "repr" = none) : FnG P w K mg base (L2.CX P w) 1 f fd ["_law_one", "_law_two"] (spAlike) := by
  have nd := sc_L_alike.nd
  refine F.okG sc_L_alike (fun vs H Q E h => ?_) (fun A outer s H vs Q E hr hgd h => ?_)
  · obtain ⟨a, b, xs, ds, rfl, _⟩ := h
    rfl
  · obtain ⟨a, b, xs, ds, rfl, ha, hb, hf, hl, k⟩ := h
    refine ⟨_, (pss_one (ps_ret (pe_cmpR op_eq (pe_callB (id := "repr") (r := rRepr K) (call_reprD rfl hgd hr.units) (by rfl) z_repr (by decide +kernel) (pa_cons (pv 0) pa_nil)) (pe_callB (id := "repr") (r := rRepr K) (call_reprD rfl hgd hr.units) (by rfl) z_repr (by decide +kernel) (pa_cons (pv 1) pa_nil)) (nomark _)))), ?_⟩
    simp only [tVar, rIxTH, rIxLH, gTupH, line_le, HO.tup.injEq, HO.lst.injEq, List.length_cons, List.length_nil, at0, at1, rU, tOst, tTest, rIxL, rIxT, C8.tCut, cxOf_K, tC, tOp, tUn, tSeq, tAsg, tNext, tRet, tRetN, tDrop, tIfS, tNever, gName, gNil, gCons, gTup, gSub, tPar, rI, rI0, rU, rEq, rNe, tB, tAnd, tOr, tNot, tAndV, tOrV, tNotV, tIf, tTup, tLst, tNil, tCons, tCB, tCall, tMeth, tMake, tFld, sFld, tDGet, sDPut, tDisp, tPairs, tBreak, tCont, scal_ii, scal_bb, scal_ss, List.getElem?_cons_zero, List.getElem?_cons_succ, List.set_cons_zero, List.set_cons_succ, Option.some.injEq, exists_eq_left', exists_eq_left, exists_and_left, V.int.injEq, V.bl.injEq, V.ref.injEq, V.str.injEq, List.cons.injEq, and_true, true_and, Bool.true_eq, List.nil_append, List.append_nil, List.cons_append, exists_eq', and_self, reduceCtorEq, false_or, or_false, false_and, exists_false, exists_const, and_assoc, if_true, Bool.false_eq_true, if_false, Nat.reduceAdd, Nat.reduceLeDiff, Nat.zero_add, Nat.le_refl, forall_const, st_L_alike]
    refine rep_fields ha hf hl (rep_fields hb hf hl ⟨rfl, ?_⟩)
    rw [decide_eq_true rfl]
    exact k
def spCaught : Sp := fun vs H Q _ => ∃ (i : Nat) (a b c : V) (xs : List V), vs = [.int i, a, b, c] ∧ (i, xs) ∈ [(0, [a, b]), (8, [a, b, c]), (19, [V.bl true, .bl false, .bl true]), (11, [V.bl false, .bl true, .bl true])] ∧ ∀ H' l, Same H H' → H' l = some (.lst xs) → Q (.ref l) H'
abbrev s_L_caught : Stmt := top 33
abbrev N_L_caught : List Str := ["_law_place", "_law_a", "_law_b", "_law_c", "_law_e"]
theorem sc_L_caught : FnScope N_L_caught ["_law_place", "_law_a", "_law_b", "_law_c"] (defScope s_L_caught) := ⟨rfl, rfl, rfl, by decide +kernel, rfl, by decide +kernel, by decide +kernel⟩
theorem st_L_caught {v0 v1 v2 v3 : V} : L2.start N_L_caught [v0, v1, v2, v3] = [some v0, some v1, some v2, some v3, none] := rfl
theorem ok_L_caught {f : Addr} {fd : FuncData} (F : FD K s_L_caught "_law_caught" "_law_caught" f fd) {CL : Nat → Addr} {CH : Addr} (KC : KinC K CL CH) (z_isinstance : mg "isinstance" = none) (z_ValueError : mg "ValueError" = none) (m_NotContinuous : mg "NotContinuous" = some (.ref (CL 11))) (m_HingeError : mg "HingeError" = some (.ref CH)) (m_Broken : mg "Broken" = some (.ref (CL 19))) (m_TooLarge : mg "TooLarge" = some (.ref (CL 8))) (m_BadText : mg "BadText" = some (.ref (CL 0))) (g_Broken : Xf P w K mg base "Broken" (CL 19) 1 (spX2 (CL 19) "promise" "given")) (g_TooLarge : Xf P w K mg base "TooLarge" (CL 8) 1 (spX3 (CL 8) "what" "many" "limit")) (g_BadText : Xf P w K mg base "BadText" (CL 0) 1 (spX2 (CL 0) "line" "column")) : FnOk P w K mg base (L2.CX P w) 3 f fd ["_law_place", "_law_a", "_law_b", "_law_c"] (spCaught) := by
  have nd := sc_L_caught.nd
  refine F.ok0 sc_L_caught (fun vs H Q E h => ?_) (fun cdv A outer s H vs Q E hr h => ?_)
  · obtain ⟨i, a, b, c, xs, rfl, _⟩ := h
    rfl
  · obtain ⟨i, a, b, c, xs, rfl, hi, k⟩ := h
    refine ⟨_, (pss_one (ps_try_all rfl rfl nd L2.takes0 (fun W pn xe tk _ => (pss_cons (ps_if (pt_cmpR op_eq (pv 0) pe_int (nomark _)) (pss_one (ps_raiseX g_BadText hr (by decide) rfl tk rfl (pa_cons (pv 1) (pa_cons (pv 2) pa_nil)))) pss_nil)
        (pss_cons (ps_if (pt_cmpR op_eq (pv 0) pe_int (nomark _)) (pss_one (ps_raiseX g_TooLarge hr (by decide) rfl tk rfl (pa_cons (pv 1) (pa_cons (pv 2) (pa_cons (pv 3) pa_nil))))) pss_nil)
        (pss_cons (ps_if (pt_cmpR op_eq (pv 0) pe_int (nomark _)) (pss_one (ps_raiseX g_Broken hr (by decide) rfl tk rfl (pa_cons (pv 1) (pa_cons (pv 2) pa_nil)))) pss_nil)
        (pss_one (ps_raise rfl tk (pmk_0 (KC.e0 11 (by decide)).1 m_NotContinuous (KC.e0 11 (by decide)).2.1 (raises_own (KC.e0 11 (by decide)).2.2.1 (KC.e0 11 (by decide)).2.2.2) rfl))))))) (HdsA.named (i := 4) rfl rfl ⟨rfl, by decide, .inl m_BadText⟩ (fun e oe kl dd pn hz hf => (pss_one (ps_ret (pe_lst (pa_cons (pe_xf (KC.ev 0 (by decide)).T (KC.no (0, "line") (by decide +kernel)) hz hf (pv 4)) (pa_cons (pe_xf (KC.ev 0 (by decide)).T (KC.no (0, "column") (by decide +kernel)) hz hf (pv 4)) pa_nil)))))) (HdsA.named (i := 4) rfl rfl ⟨rfl, by decide, .inl m_TooLarge⟩ (fun e oe kl dd pn hz hf => (pss_one (ps_ret (pe_lst (pa_cons (pe_xf (KC.ev 8 (by decide)).T (KC.no (8, "what") (by decide +kernel)) hz hf (pv 4)) (pa_cons (pe_xf (KC.ev 8 (by decide)).T (KC.no (8, "many") (by decide +kernel)) hz hf (pv 4)) (pa_cons (pe_xf (KC.ev 8 (by decide)).T (KC.no (8, "limit") (by decide +kernel)) hz hf (pv 4)) pa_nil))))))) (HdsA.named (i := 4) rfl rfl ⟨rfl, by decide, .inl m_HingeError⟩ (fun e oe kl dd pn hz hf => (pss_one (ps_ret (pe_lst (pa_cons (pe_callB (id := "isinstance") (r := rIsC K e kl dd) (call_isC hz hf) (by rfl) z_isinstance (by decide +kernel) (pa_cons (pv 4) (pa_cons (pe_glob (v := .ref (CL 19)) rfl m_Broken rfl) pa_nil))) (pa_cons (pe_callB (id := "isinstance") (r := rIsC K e kl dd) (call_isC hz hf) (by rfl) z_isinstance (by decide +kernel) (pa_cons (pv 4) (pa_cons (pe_glob (v := .ref (CL 11)) rfl m_NotContinuous rfl) pa_nil))) (pa_cons (pe_callB (id := "isinstance") (r := rIsC K e kl dd) (call_isC hz hf) (by rfl) z_isinstance (by decide +kernel) (pa_cons (pv 4) (pa_cons (pe_bltn (v := .ty "ValueError") rfl z_ValueError (by decide +kernel) rfl) pa_nil))) pa_nil))))))) HdsA.nil))))), ?_⟩
    simp only [tVar, rIxTH, rIxLH, gTupH, line_le, HO.tup.injEq, HO.lst.injEq, List.length_cons, List.length_nil, at0, at1, rU, tOst, tTest, rIxL, rIxT, C8.tCut, cxOf_K, tC, tOp, tUn, tSeq, tAsg, tNext, tRet, tRetN, tDrop, tIfS, tNever, gName, gNil, gCons, gTup, gSub, tPar, rI, rI0, rU, rEq, rNe, tB, tAnd, tOr, tNot, tAndV, tOrV, tNotV, tIf, tTup, tLst, tNil, tCons, tCB, tCall, tMeth, tMake, tFld, sFld, tDGet, sDPut, tDisp, tPairs, tBreak, tCont, scal_ii, scal_bb, scal_ss, List.getElem?_cons_zero, List.getElem?_cons_succ, List.set_cons_zero, List.set_cons_succ, Option.some.injEq, exists_eq_left', exists_eq_left, exists_and_left, V.int.injEq, V.bl.injEq, V.ref.injEq, V.str.injEq, List.cons.injEq, and_true, true_and, Bool.true_eq, List.nil_append, List.append_nil, List.cons_append, exists_eq', and_self, reduceCtorEq, false_or, or_false, false_and, exists_false, exists_const, and_assoc, if_true, Bool.false_eq_true, if_false, Nat.reduceAdd, Nat.reduceLeDiff, Nat.zero_add, Nat.le_refl, forall_const, st_L_caught]
    simp only [List.mem_cons, Prod.mk.injEq, List.not_mem_nil, or_false] at hi
    have em := fun i h => KC.em i h
    have no : ∀ z : false = true, False := fun z => by cases z
    have on : ∀ z : true = false, False := fun z => by cases z
    rcases hi with ⟨rfl, rfl⟩ | ⟨rfl, rfl⟩ | ⟨rfl, rfl⟩ | ⟨rfl, rfl⟩
    · rw [if_pos (by decide)]
      simp only [tVar, rIxTH, rIxLH, gTupH, line_le, HO.tup.injEq, HO.lst.injEq, List.length_cons, List.length_nil, at0, at1, rU, tOst, tTest, rIxL, rIxT, C8.tCut, cxOf_K, tC, tOp, tUn, tSeq, tAsg, tNext, tRet, tRetN, tDrop, tIfS, tNever, gName, gNil, gCons, gTup, gSub, tPar, rI, rI0, rU, rEq, rNe, tB, tAnd, tOr, tNot, tAndV, tOrV, tNotV, tIf, tTup, tLst, tNil, tCons, tCB, tCall, tMeth, tMake, tFld, sFld, tDGet, sDPut, tDisp, tPairs, tBreak, tCont, scal_ii, scal_bb, scal_ss, List.getElem?_cons_zero, List.getElem?_cons_succ, List.set_cons_zero, List.set_cons_succ, Option.some.injEq, exists_eq_left', exists_eq_left, exists_and_left, V.int.injEq, V.bl.injEq, V.ref.injEq, V.str.injEq, List.cons.injEq, and_true, true_and, Bool.true_eq, List.nil_append, List.append_nil, List.cons_append, exists_eq', and_self, reduceCtorEq, false_or, or_false, false_and, exists_false, exists_const, and_assoc, if_true, Bool.false_eq_true, if_false, Nat.reduceAdd, Nat.reduceLeDiff, Nat.zero_add, Nat.le_refl, forall_const, st_L_caught, tMkO]
      refine fun p hp => ⟨p, _, _, rfl, upd_same, fun d hd hda => ⟨rfl, x2_all hp (by rw [upd_ne hda] at hd; exact hd) hda fun H2 s2 e2 => ⟨true, (em 0 (by decide)).1, fun _ e he => ?_, fun z => (on z).elim⟩⟩⟩
      simp only [tVar, rIxTH, rIxLH, gTupH, line_le, HO.tup.injEq, HO.lst.injEq, List.length_cons, List.length_nil, at0, at1, rU, tOst, tTest, rIxL, rIxT, C8.tCut, cxOf_K, tC, tOp, tUn, tSeq, tAsg, tNext, tRet, tRetN, tDrop, tIfS, tNever, gName, gNil, gCons, gTup, gSub, tPar, rI, rI0, rU, rEq, rNe, tB, tAnd, tOr, tNot, tAndV, tOrV, tNotV, tIf, tTup, tLst, tNil, tCons, tCB, tCall, tMeth, tMake, tFld, sFld, tDGet, sDPut, tDisp, tPairs, tBreak, tCont, scal_ii, scal_bb, scal_ss, List.getElem?_cons_zero, List.getElem?_cons_succ, List.set_cons_zero, List.set_cons_succ, Option.some.injEq, exists_eq_left', exists_eq_left, exists_and_left, V.int.injEq, V.bl.injEq, V.ref.injEq, V.str.injEq, List.cons.injEq, and_true, true_and, Bool.true_eq, List.nil_append, List.append_nil, List.cons_append, exists_eq', and_self, reduceCtorEq, false_or, or_false, false_and, exists_false, exists_const, and_assoc, if_true, Bool.false_eq_true, if_false, Nat.reduceAdd, Nat.reduceLeDiff, Nat.zero_add, Nat.le_refl, forall_const, st_L_caught, tXf, dropS, e2, HO.xd.injEq]
      exact ⟨_, lkB (by decide) lkA, _, lkA, fun l hl => k _ _ (s2.trans (same_new hl)) upd_same⟩
    · rw [if_neg (by decide), if_pos (by decide)]
      simp only [tVar, rIxTH, rIxLH, gTupH, line_le, HO.tup.injEq, HO.lst.injEq, List.length_cons, List.length_nil, at0, at1, rU, tOst, tTest, rIxL, rIxT, C8.tCut, cxOf_K, tC, tOp, tUn, tSeq, tAsg, tNext, tRet, tRetN, tDrop, tIfS, tNever, gName, gNil, gCons, gTup, gSub, tPar, rI, rI0, rU, rEq, rNe, tB, tAnd, tOr, tNot, tAndV, tOrV, tNotV, tIf, tTup, tLst, tNil, tCons, tCB, tCall, tMeth, tMake, tFld, sFld, tDGet, sDPut, tDisp, tPairs, tBreak, tCont, scal_ii, scal_bb, scal_ss, List.getElem?_cons_zero, List.getElem?_cons_succ, List.set_cons_zero, List.set_cons_succ, Option.some.injEq, exists_eq_left', exists_eq_left, exists_and_left, V.int.injEq, V.bl.injEq, V.ref.injEq, V.str.injEq, List.cons.injEq, and_true, true_and, Bool.true_eq, List.nil_append, List.append_nil, List.cons_append, exists_eq', and_self, reduceCtorEq, false_or, or_false, false_and, exists_false, exists_const, and_assoc, if_true, Bool.false_eq_true, if_false, Nat.reduceAdd, Nat.reduceLeDiff, Nat.zero_add, Nat.le_refl, forall_const, st_L_caught, tMkO]
      refine fun p hp => ⟨p, _, _, _, rfl, upd_same, fun d hd hda => ⟨rfl, x3_all hp (by rw [upd_ne hda] at hd; exact hd) hda fun H2 s2 e2 => ⟨false, (em 8 (by decide)).1, fun z => (no z).elim, fun _ => ⟨true, (em 8 (by decide)).2.1, fun _ e he => ?_, fun z => (on z).elim⟩⟩⟩⟩
      simp only [tVar, rIxTH, rIxLH, gTupH, line_le, HO.tup.injEq, HO.lst.injEq, List.length_cons, List.length_nil, at0, at1, rU, tOst, tTest, rIxL, rIxT, C8.tCut, cxOf_K, tC, tOp, tUn, tSeq, tAsg, tNext, tRet, tRetN, tDrop, tIfS, tNever, gName, gNil, gCons, gTup, gSub, tPar, rI, rI0, rU, rEq, rNe, tB, tAnd, tOr, tNot, tAndV, tOrV, tNotV, tIf, tTup, tLst, tNil, tCons, tCB, tCall, tMeth, tMake, tFld, sFld, tDGet, sDPut, tDisp, tPairs, tBreak, tCont, scal_ii, scal_bb, scal_ss, List.getElem?_cons_zero, List.getElem?_cons_succ, List.set_cons_zero, List.set_cons_succ, Option.some.injEq, exists_eq_left', exists_eq_left, exists_and_left, V.int.injEq, V.bl.injEq, V.ref.injEq, V.str.injEq, List.cons.injEq, and_true, true_and, Bool.true_eq, List.nil_append, List.append_nil, List.cons_append, exists_eq', and_self, reduceCtorEq, false_or, or_false, false_and, exists_false, exists_const, and_assoc, if_true, Bool.false_eq_true, if_false, Nat.reduceAdd, Nat.reduceLeDiff, Nat.zero_add, Nat.le_refl, forall_const, st_L_caught, tXf, dropS, e2, HO.xd.injEq]
      exact ⟨_, lkB (by decide) (lkB (by decide) lkA), _, lkB (by decide) lkA, _, lkA, fun l hl => k _ _ (s2.trans (same_new hl)) upd_same⟩
    · rw [if_neg (by decide), if_neg (by decide), if_pos (by decide)]
      simp only [tVar, rIxTH, rIxLH, gTupH, line_le, HO.tup.injEq, HO.lst.injEq, List.length_cons, List.length_nil, at0, at1, rU, tOst, tTest, rIxL, rIxT, C8.tCut, cxOf_K, tC, tOp, tUn, tSeq, tAsg, tNext, tRet, tRetN, tDrop, tIfS, tNever, gName, gNil, gCons, gTup, gSub, tPar, rI, rI0, rU, rEq, rNe, tB, tAnd, tOr, tNot, tAndV, tOrV, tNotV, tIf, tTup, tLst, tNil, tCons, tCB, tCall, tMeth, tMake, tFld, sFld, tDGet, sDPut, tDisp, tPairs, tBreak, tCont, scal_ii, scal_bb, scal_ss, List.getElem?_cons_zero, List.getElem?_cons_succ, List.set_cons_zero, List.set_cons_succ, Option.some.injEq, exists_eq_left', exists_eq_left, exists_and_left, V.int.injEq, V.bl.injEq, V.ref.injEq, V.str.injEq, List.cons.injEq, and_true, true_and, Bool.true_eq, List.nil_append, List.append_nil, List.cons_append, exists_eq', and_self, reduceCtorEq, false_or, or_false, false_and, exists_false, exists_const, and_assoc, if_true, Bool.false_eq_true, if_false, Nat.reduceAdd, Nat.reduceLeDiff, Nat.zero_add, Nat.le_refl, forall_const, st_L_caught, tMkO]
      refine fun p hp => ⟨p, _, _, rfl, upd_same, fun d hd hda => ⟨rfl, x2_all hp (by rw [upd_ne hda] at hd; exact hd) hda fun H2 s2 e2 => ⟨false, (em 19 (by decide)).1, fun z => (no z).elim, fun _ => ⟨false, (em 19 (by decide)).2.1, fun z => (no z).elim, fun _ => ⟨true, (em 19 (by decide)).2.2, fun _ e he => ?_, fun z => (on z).elim⟩⟩⟩⟩⟩
      simp only [tVar, rIxTH, rIxLH, gTupH, line_le, HO.tup.injEq, HO.lst.injEq, List.length_cons, List.length_nil, at0, at1, rU, tOst, tTest, rIxL, rIxT, C8.tCut, cxOf_K, tC, tOp, tUn, tSeq, tAsg, tNext, tRet, tRetN, tDrop, tIfS, tNever, gName, gNil, gCons, gTup, gSub, tPar, rI, rI0, rU, rEq, rNe, tB, tAnd, tOr, tNot, tAndV, tOrV, tNotV, tIf, tTup, tLst, tNil, tCons, tCB, tCall, tMeth, tMake, tFld, sFld, tDGet, sDPut, tDisp, tPairs, tBreak, tCont, scal_ii, scal_bb, scal_ss, List.getElem?_cons_zero, List.getElem?_cons_succ, List.set_cons_zero, List.set_cons_succ, Option.some.injEq, exists_eq_left', exists_eq_left, exists_and_left, V.int.injEq, V.bl.injEq, V.ref.injEq, V.str.injEq, List.cons.injEq, and_true, true_and, Bool.true_eq, List.nil_append, List.append_nil, List.cons_append, exists_eq', and_self, reduceCtorEq, false_or, or_false, false_and, exists_false, exists_const, and_assoc, if_true, Bool.false_eq_true, if_false, Nat.reduceAdd, Nat.reduceLeDiff, Nat.zero_add, Nat.le_refl, forall_const, st_L_caught, dropS]
      have hd : (some d = none) ∨ ∃ dd fs, some d = some dd ∧ H2 dd = some (.xd fs) := .inr ⟨_, _, rfl, e2⟩
      exact isC KC (by decide) (by decide) hd (isC KC (by decide) (by decide) hd (isCV KC (by decide) hd fun l hl => k _ _ (s2.trans (same_new hl)) upd_same))
    · rw [if_neg (by decide), if_neg (by decide), if_neg (by decide)]
      refine ⟨false, (em 11 (by decide)).1, fun z => (no z).elim, fun _ => ⟨false, (em 11 (by decide)).2.1, fun z => (no z).elim, fun _ => ⟨true, (em 11 (by decide)).2.2, fun _ e he => ?_, fun z => (on z).elim⟩⟩⟩
      simp only [tVar, rIxTH, rIxLH, gTupH, line_le, HO.tup.injEq, HO.lst.injEq, List.length_cons, List.length_nil, at0, at1, rU, tOst, tTest, rIxL, rIxT, C8.tCut, cxOf_K, tC, tOp, tUn, tSeq, tAsg, tNext, tRet, tRetN, tDrop, tIfS, tNever, gName, gNil, gCons, gTup, gSub, tPar, rI, rI0, rU, rEq, rNe, tB, tAnd, tOr, tNot, tAndV, tOrV, tNotV, tIf, tTup, tLst, tNil, tCons, tCB, tCall, tMeth, tMake, tFld, sFld, tDGet, sDPut, tDisp, tPairs, tBreak, tCont, scal_ii, scal_bb, scal_ss, List.getElem?_cons_zero, List.getElem?_cons_succ, List.set_cons_zero, List.set_cons_succ, Option.some.injEq, exists_eq_left', exists_eq_left, exists_and_left, V.int.injEq, V.bl.injEq, V.ref.injEq, V.str.injEq, List.cons.injEq, and_true, true_and, Bool.true_eq, List.nil_append, List.append_nil, List.cons_append, exists_eq', and_self, reduceCtorEq, false_or, or_false, false_and, exists_false, exists_const, and_assoc, if_true, Bool.false_eq_true, if_false, Nat.reduceAdd, Nat.reduceLeDiff, Nat.zero_add, Nat.le_refl, forall_const, st_L_caught, dropS]
      exact isC KC (by decide) (by decide) (.inl rfl) (isC KC (by decide) (by decide) (.inl rfl) (isCV KC (by decide) (.inl rfl) fun l hl => k _ _ (same_new hl) upd_same))

end HwL
end

section
namespace HwL
open PySem PySem.Spec PyProof.Rows L2 LamX
variable {P : Program} {w : World} {K : PySem.W.Frag} {mg : Str → Option Value} {base : Heap}

theorem fv_ext {H H' : Hp} {p l : Addr} {c : Int} {v : V} {d : PyData} (h : Fv H v d) (hp : PenAt H p l c) (x : Ext p H H') : Fv H' v d := by
  cases h with
  | int i h => exact .int i h
  | st => exact .st
  | se => exact .se
  | non => exact .non
  | bl b => exact .bl b
  | tup a h =>
    refine .tup a (x _ _ (fun z => ?_) h)
    obtain ⟨cs, i, dg, n, f, e, _⟩ := hp
    rw [z, e] at h
    cases h
def spLaw3 (K : PySem.W.Frag) : Sp := fun vs H Q _ => ∃ (a : Addr) (ns : List Int), vs = [.ref a] ∧ SqL K H a (ns.map V.int) ∧ ns.length ≤ 63 ∧ ∀ H', Q (.bl true) H'
abbrev s_law : Stmt := top 34
abbrev N_law : List Str := ["_law_script", "_law_pen_here", "_law_place", "_law_a", "_law_b", "_law_c", "_law_e", "_law_told", "_law_due"]
theorem sc_law : FnScope N_law ["_law_script"] (defScope s_law) := ⟨rfl, rfl, rfl, by decide +kernel, rfl, by decide +kernel, by decide +kernel⟩
theorem st_law {v0 : V} : L2.start N_law [v0] = [some v0, none, none, none, none, none, none, none, none] := rfl
theorem ok_law {f : Addr} {fd : FuncData} (F : FD K s_law "law" "law" f fd) {CL : Nat → Addr} {CH : Addr} (KC : KinC K CL CH) (z_range : mg "range" = none) (z_isinstance : mg "isinstance" = none) (z_ValueError : mg "ValueError" = none) (m_HingeError : mg "HingeError" = some (.ref CH)) (g_L_caught : Gf P w K mg base "_law_caught" 3 ["_law_place", "_law_a", "_law_b", "_law_c"] (spCaught)) (g_L_alike : Gg P w K mg base "_law_alike" 1 ["_law_one", "_law_two"] (spAlike)) (g_L_kinds : Gf P w K mg base "_law_kinds" 1 ["_law_e"] (spKinds CL)) (g_L_first : Gf P w K mg base "_law_first" 3 ["_law_place", "_law_a", "_law_b", "_law_c"] (spFirst CL)) (g_L_last : Gf P w K mg base "_law_last" 3 ["_law_place", "_law_a", "_law_b"] (spLast CL)) (g_L_field : Gf P w K mg base "_law_field" 3 ["_law_pen_here"] (spField)) (g_L_pen : Gf P w K mg base "_law_pen" 1 ["_law_script"] (spPen K)) : FnG P w K mg base (L2.CX P w) 4 f fd ["_law_script"] (spLaw3 K) := by
  have nd := sc_law.nd
  refine F.okG sc_law (fun vs H Q E h => ?_) (fun A outer s H vs Q E hr hgd h => ?_)
  · obtain ⟨a, ns, rfl, _⟩ := h
    rfl
  · obtain ⟨a, ns, rfl, hS, hlen, k⟩ := h
    refine ⟨_, (pss_cons (ps_set (i := 1) nd rfl (Or.inl rfl) (pe_g g_L_pen hr (by decide) passL rfl (pa_cons (pv 0) pa_nil)))
        (pss_cons (ps_for PassesOwn.never rfl (pi_range1 rfl z_range (pa_cons pe_int pa_nil)) (pg_name (i := 2) nd rfl (Or.inl rfl)) (pss_cons (ps_par3 (i := 3) (j := 4) (l := 5) (by rfl) nd rfl rfl rfl (by decide) (by decide) (by decide) rfl rfl rfl (pa_cons (pe_g g_L_field hr (by decide) passL rfl (pa_cons (pv 1) pa_nil)) (pa_cons (pe_g g_L_field hr (by decide) passL rfl (pa_cons (pv 1) pa_nil)) (pa_cons (pe_g g_L_field hr (by decide) passL rfl (pa_cons (pv 1) pa_nil)) pa_nil))) (by rfl))
        (pss_cons (ps_asg (pe_ifExp (pt_cmpR op_lt (pv 2) pe_int (nomark _)) (pe_g g_L_first hr (by decide) passL rfl (pa_cons (pv 2) (pa_cons (pv 3) (pa_cons (pv 4) (pa_cons (pv 5) pa_nil))))) (pe_g g_L_last hr (by decide) passL rfl (pa_cons (pv 2) (pa_cons (pv 3) (pa_cons (pv 4) pa_nil))))) (pg_tupH rfl (pgs_cons (pg_name (i := 6) nd rfl (Or.inl rfl)) (pgs_cons (pg_name (i := 7) nd rfl (Or.inl rfl)) (pgs_cons (pg_name (i := 8) nd rfl (Or.inl rfl)) pgs_nil)))))
        (pss_cons (ps_if (PW.pt (pw_or (pt_not (pt_val (pe_gg g_L_alike hr hgd (by decide) passL rfl (pa_cons (pv 7) (pa_cons (pv 8) pa_nil))))) (pw_or1 (pt_cmpR (op_neD hr.units) (pe_g g_L_kinds hr (by decide) passL rfl (pa_cons (pv 6) pa_nil)) (pe_lst (pa_cons (pv 2) pa_nil)) (nomark _))))) (pss_one (ps_ret pe_bl)) pss_nil)
        (pss_one (ps_if (PW.pt (pw_or (pt_not (pt_val (pe_callB (id := "isinstance") (r := rIsX K) (call_isX rfl) (by rfl) z_isinstance (by decide +kernel) (pa_cons (pv 6) (pa_cons (pe_glob (v := .ref CH) rfl m_HingeError rfl) pa_nil))))) (pw_or1 (pt_not (pt_val (pe_callB (id := "isinstance") (r := rIsX K) (call_isX rfl) (by rfl) z_isinstance (by decide +kernel) (pa_cons (pv 6) (pa_cons (pe_bltn (v := .ty "ValueError") rfl z_ValueError (by decide +kernel) rfl) pa_nil)))))))) (pss_one (ps_ret pe_bl)) pss_nil))))))
        (pss_cons (ps_if (PW.pt (pw_or (pt_not (pt_val (pe_gg g_L_alike hr hgd (by decide) passL rfl (pa_cons (pe_g g_L_caught hr (by decide) passL rfl (pa_cons pe_int (pa_cons (pv 3) (pa_cons (pv 4) (pa_cons (pv 5) pa_nil))))) (pa_cons (pe_lst (pa_cons (pv 3) (pa_cons (pv 4) pa_nil))) pa_nil))))) (pw_or1 (pt_not (pt_val (pe_gg g_L_alike hr hgd (by decide) passL rfl (pa_cons (pe_g g_L_caught hr (by decide) passL rfl (pa_cons pe_int (pa_cons (pv 3) (pa_cons (pv 4) (pa_cons (pv 5) pa_nil))))) (pa_cons (pe_lst (pa_cons (pv 3) (pa_cons (pv 4) (pa_cons (pv 5) pa_nil)))) pa_nil)))))))) (pss_one (ps_ret pe_bl)) pss_nil)
        (pss_one (ps_ret (pe_and (pe_cmpR (op_eqD hr.units) (pe_g g_L_caught hr (by decide) passL rfl (pa_cons pe_int (pa_cons (pv 3) (pa_cons (pv 4) (pa_cons (pv 5) pa_nil))))) (pe_lst (pa_cons pe_bl (pa_cons pe_bl (pa_cons pe_bl pa_nil)))) (nomark _)) (pe_one (pe_cmpR (op_eqD hr.units) (pe_g g_L_caught hr (by decide) passL rfl (pa_cons pe_int (pa_cons (pv 3) (pa_cons (pv 4) (pa_cons (pv 5) pa_nil))))) (pe_lst (pa_cons pe_bl (pa_cons pe_bl (pa_cons pe_bl pa_nil)))) (nomark _))))))))), ?_⟩
    simp only [tVar, rIxTH, rIxLH, gTupH, line_le, HO.tup.injEq, HO.lst.injEq, List.length_cons, List.length_nil, at0, at1, rU, tOst, tTest, rIxL, rIxT, C8.tCut, cxOf_K, tC, tOp, tUn, tSeq, tAsg, tNext, tRet, tRetN, tDrop, tIfS, tNever, gName, gNil, gCons, gTup, gSub, tPar, rI, rI0, rU, rEq, rNe, tB, tAnd, tOr, tNot, tAndV, tOrV, tNotV, tIf, tTup, tLst, tNil, tCons, tCB, tCall, tMeth, tMake, tFld, sFld, tDGet, sDPut, tDisp, tPairs, tBreak, tCont, scal_ii, scal_bb, scal_ss, List.getElem?_cons_zero, List.getElem?_cons_succ, List.set_cons_zero, List.set_cons_succ, Option.some.injEq, exists_eq_left', exists_eq_left, exists_and_left, V.int.injEq, V.bl.injEq, V.ref.injEq, V.str.injEq, List.cons.injEq, and_true, true_and, Bool.true_eq, List.nil_append, List.append_nil, List.cons_append, exists_eq', and_self, reduceCtorEq, false_or, or_false, false_and, exists_false, exists_const, and_assoc, if_true, Bool.false_eq_true, if_false, Nat.reduceAdd, Nat.reduceLeDiff, Nat.zero_add, Nat.le_refl, forall_const, st_law]
    refine ⟨a, ns, rfl, hS, hlen, fun H0 p l s0 hp0 hpen => ?_⟩
    clear hS s0 hp0
    refine ⟨22, rfl, by decide, by decide, ?_⟩
    refine for_range (lo := 0) (n := 22) (fun i σ H' => PenAt H' p l (6 * i) ∧ ∃ v2 v3 v4 v5 v6 v7 v8, σ = [some (.ref a), some (.ref p), v2, v3, v4, v5, v6, v7, v8] ∧ (i = 0 ∨ ∃ va vb vc da db dc, v3 = some va ∧ v4 = some vb ∧ v5 = some vc ∧ Fv H' va da ∧ Fv H' vb db ∧ Fv H' vc dc)) ?_ ?_ ?_
    · exact ⟨hpen, _, _, _, _, _, _, _, rfl, .inl rfl⟩
    · rintro i σ H1 hi ⟨p1, v2, v3, v4, v5, v6, v7, v8, rfl, -⟩
      simp only [tVar, rIxTH, rIxLH, gTupH, line_le, HO.tup.injEq, HO.lst.injEq, List.length_cons, List.length_nil, at0, at1, rU, tOst, tTest, rIxL, rIxT, C8.tCut, cxOf_K, tC, tOp, tUn, tSeq, tAsg, tNext, tRet, tRetN, tDrop, tIfS, tNever, gName, gNil, gCons, gTup, gSub, tPar, rI, rI0, rU, rEq, rNe, tB, tAnd, tOr, tNot, tAndV, tOrV, tNotV, tIf, tTup, tLst, tNil, tCons, tCB, tCall, tMeth, tMake, tFld, sFld, tDGet, sDPut, tDisp, tPairs, tBreak, tCont, scal_ii, scal_bb, scal_ss, List.getElem?_cons_zero, List.getElem?_cons_succ, List.set_cons_zero, List.set_cons_succ, Option.some.injEq, exists_eq_left', exists_eq_left, exists_and_left, V.int.injEq, V.bl.injEq, V.ref.injEq, V.str.injEq, List.cons.injEq, and_true, true_and, Bool.true_eq, List.nil_append, List.append_nil, List.cons_append, exists_eq', and_self, reduceCtorEq, false_or, or_false, false_and, exists_false, exists_const, and_assoc, if_true, Bool.false_eq_true, if_false, Nat.reduceAdd, Nat.reduceLeDiff, Nat.zero_add, Nat.le_refl, forall_const, st_law, tPar3]
      refine ⟨p, l, 6 * i, rfl, p1, by omega, fun H2 va da x2 p2 fa => ?_⟩
      refine ⟨p, l, 6 * i + 2, rfl, p2, by omega, fun H3 vb db x3 p3 fb => ?_⟩
      refine ⟨p, l, 6 * i + 2 + 2, rfl, p3, by omega, fun H4 vc dc x4 p4 fc => ?_⟩
      have fa4 := fv_ext (fv_ext fa p2 x3) p3 x4
      have fb4 := fv_ext fb p3 x4
      refine ite2 (fun h => ⟨i, va, vb, vc, by rw [Int.zero_add], by have := of_decide_eq_true h; omega, fun H5 t e l1 l2 xs fs s5 ht hx h1 h2 hl hxs => ?_⟩)
        (fun h => ⟨i, va, vb, vc, by rw [Int.zero_add], by have h2 : ¬ ((0 + (i : Int)) < 10) := fun z => h (decide_eq_true z); omega, hi, fun H5 t e l1 l2 xs fs s5 ht hx h1 h2 hl hxs => ?_⟩)
      all_goals
        refine ⟨t, rfl, _, ht, rfl, _, _, rfl, _, _, rfl, _, _, rfl, rfl, ?_⟩
        obtain ⟨ds, hf⟩ : ∃ ds, FvL H5 xs ds := FvL.of fun x hx => by
          rcases hxs x hx with rfl | rfl | rfl
          · exact ⟨_, fa4.same s5⟩
          · exact ⟨_, fb4.same s5⟩
          · exact ⟨_, fc.same s5⟩
        refine ⟨l1, l2, xs, ds, rfl, h1, h2, hf, by omega, true, rfl, ?_⟩
        rw [if_neg (by decide)]
        refine ⟨i, .ref e, fs, rfl, hi, hx, fun H6 l6 s6 h6 p7 hp7 => ?_⟩
        refine ne_int1 (same_new hp7 _ _ h6) upd_same (by omega) ⟨false, rfl, ?_⟩
        rw [if_neg (by decide)]
        have hx7 := (hx.same s6).same (same_new (o := HO.lst [V.int (0 + (i : Int))]) hp7)
        refine isKH KC hx7 hi ⟨true, rfl, ?_⟩
        rw [if_neg (by decide)]
        refine isKV KC hx7 hi ⟨true, rfl, ?_⟩
        rw [if_neg (by decide)]
        have s7 := (s5.trans s6).trans (same_new (o := HO.lst [V.int (0 + (i : Int))]) hp7)
        exact ⟨(p4.same s7).mono (by omega), _, fa4.same s7, _, fb4.same s7, _, fc.same s7⟩
    · rintro σ H1 ⟨p1, v2, v3, v4, v5, v6, v7, v8, rfl, ab⟩
      obtain z | ⟨va, vb, vc, da, db, dc, rfl, rfl, rfl, fa, fb, fc⟩ := ab
      · exact absurd z (by decide)
      simp only [tVar, rIxTH, rIxLH, gTupH, line_le, HO.tup.injEq, HO.lst.injEq, List.length_cons, List.length_nil, at0, at1, rU, tOst, tTest, rIxL, rIxT, C8.tCut, cxOf_K, tC, tOp, tUn, tSeq, tAsg, tNext, tRet, tRetN, tDrop, tIfS, tNever, gName, gNil, gCons, gTup, gSub, tPar, rI, rI0, rU, rEq, rNe, tB, tAnd, tOr, tNot, tAndV, tOrV, tNotV, tIf, tTup, tLst, tNil, tCons, tCB, tCall, tMeth, tMake, tFld, sFld, tDGet, sDPut, tDisp, tPairs, tBreak, tCont, scal_ii, scal_bb, scal_ss, List.getElem?_cons_zero, List.getElem?_cons_succ, List.set_cons_zero, List.set_cons_succ, Option.some.injEq, exists_eq_left', exists_eq_left, exists_and_left, V.int.injEq, V.bl.injEq, V.ref.injEq, V.str.injEq, List.cons.injEq, and_true, true_and, Bool.true_eq, List.nil_append, List.append_nil, List.cons_append, exists_eq', and_self, reduceCtorEq, false_or, or_false, false_and, exists_false, exists_const, and_assoc, if_true, Bool.false_eq_true, if_false, Nat.reduceAdd, Nat.reduceLeDiff, Nat.zero_add, Nat.le_refl, forall_const, st_law]
      refine ⟨0, va, vb, vc, [va, vb], rfl, List.mem_cons_self, fun H2 l2 s2 e2 p2 hp2 => ?_⟩
      have t2 := s2.trans (same_new (o := HO.lst [va, vb]) hp2)
      refine ⟨l2, p2, [va, vb], [da, db], rfl, same_new hp2 _ _ e2, upd_same, .cons (fa.same t2) (.cons (fb.same t2) .nil), by simp, true, rfl, ?_⟩
      rw [if_neg (by decide)]
      refine ⟨8, va, vb, vc, [va, vb, vc], rfl, List.mem_cons_of_mem _ List.mem_cons_self, fun H3 l3 s3 e3 p3 hp3 => ?_⟩
      have t3 := (t2.trans s3).trans (same_new (o := HO.lst [va, vb, vc]) hp3)
      refine ⟨l3, p3, [va, vb, vc], [da, db, dc], rfl, same_new hp3 _ _ e3, upd_same, .cons (fa.same t3) (.cons (fb.same t3) (.cons (fc.same t3) .nil)), by simp, true, rfl, ?_⟩
      rw [if_neg (by decide)]
      refine ⟨19, va, vb, vc, [V.bl true, .bl false, .bl true], rfl, List.mem_cons_of_mem _ (List.mem_cons_of_mem _ List.mem_cons_self), fun H4 l4 s4 e4 p4 hp4 => ?_⟩
      refine eq_bls3 (same_new hp4 _ _ e4) upd_same ⟨true, rfl, ?_⟩
      rw [if_pos rfl]
      refine ⟨11, va, vb, vc, [V.bl false, .bl true, .bl true], rfl, List.mem_cons_of_mem _ (List.mem_cons_of_mem _ (List.mem_cons_of_mem _ List.mem_cons_self)), fun H5 l5 s5 e5 p5 hp5 => ?_⟩
      exact eq_bls3 (same_new hp5 _ _ e5) upd_same (k _)


end HwL
end

section
namespace HwL
open PySem PySem.Spec PyProof.Rows L2 LamX
variable {P : Program} {w : World} {K : PySem.W.Frag} {mg : Str → Option Value} {base : Heap}

theorem noCX {P : Program} {w : World} {H : Hp} {s : Shared} {e : Value} {s' : Shared} (z : L2.CX P w [] H s (fun _ _ _ => False) e s') : False := by
  obtain ⟨_, _, _, _, _, _, _, _, _, _, _, _, q⟩ := z
  exact q
def fnL : List He.DefD := [⟨("_law_pen", none), "_law_pen", "_law_pen", defArgs s_L_pen, defBody s_L_pen, defScope s_L_pen, [], []⟩,
  ⟨("_law_draw", none), "_law_draw", "_law_draw", defArgs s_L_draw, defBody s_L_draw, defScope s_L_draw, [], []⟩,
  ⟨("_law_pick", none), "_law_pick", "_law_pick", defArgs s_L_pick, defBody s_L_pick, defScope s_L_pick, [], []⟩,
  ⟨("BadText", some "__init__"), "__init__", "BadText.__init__", defArgs s_BadTextD_initD, defBody s_BadTextD_initD, defScope s_BadTextD_initD, [], []⟩,
  ⟨("BadName", some "__init__"), "__init__", "BadName.__init__", defArgs s_BadNameD_initD, defBody s_BadNameD_initD, defScope s_BadNameD_initD, [], []⟩,
  ⟨("BadNumber", some "__init__"), "__init__", "BadNumber.__init__", defArgs s_BadNumberD_initD, defBody s_BadNumberD_initD, defScope s_BadNumberD_initD, [], []⟩,
  ⟨("BadGiven", some "__init__"), "__init__", "BadGiven.__init__", defArgs s_BadGivenD_initD, defBody s_BadGivenD_initD, defScope s_BadGivenD_initD, [], []⟩,
  ⟨("BadAnswers", some "__init__"), "__init__", "BadAnswers.__init__", defArgs s_BadAnswersD_initD, defBody s_BadAnswersD_initD, defScope s_BadAnswersD_initD, [], []⟩,
  ⟨("BadPlace", some "__init__"), "__init__", "BadPlace.__init__", defArgs s_BadPlaceD_initD, defBody s_BadPlaceD_initD, defScope s_BadPlaceD_initD, [], []⟩,
  ⟨("BadTable", some "__init__"), "__init__", "BadTable.__init__", defArgs s_BadTableD_initD, defBody s_BadTableD_initD, defScope s_BadTableD_initD, [], []⟩,
  ⟨("TooLong", some "__init__"), "__init__", "TooLong.__init__", defArgs s_TooLongD_initD, defBody s_TooLongD_initD, defScope s_TooLongD_initD, [], []⟩,
  ⟨("TooLarge", some "__init__"), "__init__", "TooLarge.__init__", defArgs s_TooLargeD_initD, defBody s_TooLargeD_initD, defScope s_TooLargeD_initD, [], []⟩,
  ⟨("TooMany", some "__init__"), "__init__", "TooMany.__init__", defArgs s_TooManyD_initD, defBody s_TooManyD_initD, defScope s_TooManyD_initD, [], []⟩,
  ⟨("Unlike", some "__init__"), "__init__", "Unlike.__init__", defArgs s_UnlikeD_initD, defBody s_UnlikeD_initD, defScope s_UnlikeD_initD, [], []⟩,
  ⟨("NotPlain", some "__init__"), "__init__", "NotPlain.__init__", defArgs s_NotPlainD_initD, defBody s_NotPlainD_initD, defScope s_NotPlainD_initD, [], []⟩,
  ⟨("NotFull", some "__init__"), "__init__", "NotFull.__init__", defArgs s_NotFullD_initD, defBody s_NotFullD_initD, defScope s_NotFullD_initD, [], []⟩,
  ⟨("NoFeature", some "__init__"), "__init__", "NoFeature.__init__", defArgs s_NoFeatureD_initD, defBody s_NoFeatureD_initD, defScope s_NoFeatureD_initD, [], []⟩,
  ⟨("NoLine", some "__init__"), "__init__", "NoLine.__init__", defArgs s_NoLineD_initD, defBody s_NoLineD_initD, defScope s_NoLineD_initD, [], []⟩,
  ⟨("NoModel", some "__init__"), "__init__", "NoModel.__init__", defArgs s_NoModelD_initD, defBody s_NoModelD_initD, defScope s_NoModelD_initD, [], []⟩,
  ⟨("TakenName", some "__init__"), "__init__", "TakenName.__init__", defArgs s_TakenNameD_initD, defBody s_TakenNameD_initD, defScope s_TakenNameD_initD, [], []⟩,
  ⟨("Broken", some "__init__"), "__init__", "Broken.__init__", defArgs s_BrokenD_initD, defBody s_BrokenD_initD, defScope s_BrokenD_initD, [], []⟩,
  ⟨("_law_field", none), "_law_field", "_law_field", defArgs s_L_field, defBody s_L_field, defScope s_L_field, [], []⟩,
  ⟨("_law_kinds", none), "_law_kinds", "_law_kinds", defArgs s_L_kinds, defBody s_L_kinds, defScope s_L_kinds, [], []⟩,
  ⟨("_law_first", none), "_law_first", "_law_first", defArgs s_L_first, defBody s_L_first, defScope s_L_first, [], []⟩,
  ⟨("_law_last", none), "_law_last", "_law_last", defArgs s_L_last, defBody s_L_last, defScope s_L_last, [], []⟩,
  ⟨("_law_alike", none), "_law_alike", "_law_alike", defArgs s_L_alike, defBody s_L_alike, defScope s_L_alike, [], []⟩,
  ⟨("_law_caught", none), "_law_caught", "_law_caught", defArgs s_L_caught, defBody s_L_caught, defScope s_L_caught, [], []⟩,
  ⟨("law", none), "law", "law", defArgs s_law, defBody s_law, defScope s_law, [], []⟩]
def clN : List Str := ["BadText", "BadName", "BadNumber", "BadGiven", "BadAnswers", "BadPlace", "BadTable", "TooLong", "TooLarge", "TooMany", "Unlike", "NotContinuous", "NotPlain", "EmptyPlace", "NotFull", "NoFeature", "NoLine", "NoModel", "TakenName", "Broken", "NothingToUndo", "NothingToRedo"]
abbrev CLs (K : PySem.W.Frag) : Nat → Addr := fun i => He.ga K (clN.getD i "")
def faL : List He.Fa := [.glo "_law_pen", .glo "_law_draw", .glo "_law_pick", .glo "_law_field", .glo "_law_kinds", .glo "_law_first", .glo "_law_last", .glo "_law_alike", .glo "_law_caught", .glo "law", .glo "BadText", .glo "BadName", .glo "BadNumber", .glo "BadGiven", .glo "BadAnswers", .glo "BadPlace", .glo "BadTable", .glo "TooLong", .glo "TooLarge", .glo "TooMany", .glo "Unlike", .glo "NotPlain", .glo "NotFull", .glo "NoFeature", .glo "NoLine", .glo "NoModel", .glo "TakenName", .glo "Broken", .free "list", .free "int", .free "len", .free "range", .free "isinstance", .glo "NothingToRedo", .glo "NothingToUndo", .glo "EmptyPlace", .glo "NotContinuous", .free "repr", .free "ValueError", .glo "HingeError", .noat "BadText" "line", .noat "BadText" "column", .noat "BadName" "name", .noat "BadNumber" "what", .noat "BadNumber" "number", .noat "BadGiven" "what", .noat "BadAnswers" "place", .noat "BadPlace" "row", .noat "BadTable" "row", .noat "TooLong" "digits", .noat "TooLarge" "what", .noat "TooLarge" "many", .noat "TooLarge" "limit", .noat "TooMany" "what", .noat "TooMany" "many", .noat "TooMany" "limit", .noat "Unlike" "what", .noat "NotPlain" "name", .noat "NotFull" "rank", .noat "NoFeature" "name", .noat "NoLine" "name", .noat "NoModel" "name", .noat "TakenName" "name", .noat "Broken" "promise", .noat "Broken" "given"]
def exL (K : PySem.W.Frag) : Bool := [HwH.oexB K (He.ga K "BadText"), HwH.oexB K (He.ga K "BadName"), HwH.oexB K (He.ga K "BadNumber"), HwH.oexB K (He.ga K "BadGiven"), HwH.oexB K (He.ga K "BadAnswers"), HwH.oexB K (He.ga K "BadPlace"), HwH.oexB K (He.ga K "BadTable"), HwH.oexB K (He.ga K "TooLong"), HwH.oexB K (He.ga K "TooLarge"), HwH.oexB K (He.ga K "TooMany"), HwH.oexB K (He.ga K "Unlike"), HwH.oexB K (He.ga K "NotPlain"), HwH.oexB K (He.ga K "NotFull"), HwH.oexB K (He.ga K "NoFeature"), HwH.oexB K (He.ga K "NoLine"), HwH.oexB K (He.ga K "NoModel"), HwH.oexB K (He.ga K "TakenName"), HwH.oexB K (He.ga K "Broken"), kinB K (CLs K) (He.ga K "HingeError"), HwH.iniB K (He.ga K "BadText"), HwH.iniB K (He.ga K "BadName"), HwH.iniB K (He.ga K "BadNumber"), HwH.iniB K (He.ga K "BadGiven"), HwH.iniB K (He.ga K "BadAnswers"), HwH.iniB K (He.ga K "BadPlace"), HwH.iniB K (He.ga K "BadTable"), HwH.iniB K (He.ga K "TooLong"), HwH.iniB K (He.ga K "TooLarge"), HwH.iniB K (He.ga K "TooMany"), HwH.iniB K (He.ga K "Unlike"), HwH.iniB K (He.ga K "NotPlain"), HwH.iniB K (He.ga K "NotFull"), HwH.iniB K (He.ga K "NoFeature"), HwH.iniB K (He.ga K "NoLine"), HwH.iniB K (He.ga K "NoModel"), HwH.iniB K (He.ga K "TakenName"), HwH.iniB K (He.ga K "Broken")].all id
def tfL : List He.Defn := []
theorem facts {w : World} {K : PySem.W.Frag} {h : Heap} {mg : Str → Option Value} {f : Addr} (X : K.In h) (G : h.Ns mainGlobals mg) (hfa : mg ("law" : Str) = some (.ref f)) (c : He.SaysX faL fnL [] tfL exL w h K) :
    LawG PySem.Challenge.rw_hingeworks_k03_errors w K 4 63 "_law_script" mg f h := by
  have cd := c.t.d
  have exx : ∀ (i : Nat) {b : Bool}, [HwH.oexB K (He.ga K "BadText"), HwH.oexB K (He.ga K "BadName"), HwH.oexB K (He.ga K "BadNumber"), HwH.oexB K (He.ga K "BadGiven"), HwH.oexB K (He.ga K "BadAnswers"), HwH.oexB K (He.ga K "BadPlace"), HwH.oexB K (He.ga K "BadTable"), HwH.oexB K (He.ga K "TooLong"), HwH.oexB K (He.ga K "TooLarge"), HwH.oexB K (He.ga K "TooMany"), HwH.oexB K (He.ga K "Unlike"), HwH.oexB K (He.ga K "NotPlain"), HwH.oexB K (He.ga K "NotFull"), HwH.oexB K (He.ga K "NoFeature"), HwH.oexB K (He.ga K "NoLine"), HwH.oexB K (He.ga K "NoModel"), HwH.oexB K (He.ga K "TakenName"), HwH.oexB K (He.ga K "Broken"), kinB K (CLs K) (He.ga K "HingeError"), HwH.iniB K (He.ga K "BadText"), HwH.iniB K (He.ga K "BadName"), HwH.iniB K (He.ga K "BadNumber"), HwH.iniB K (He.ga K "BadGiven"), HwH.iniB K (He.ga K "BadAnswers"), HwH.iniB K (He.ga K "BadPlace"), HwH.iniB K (He.ga K "BadTable"), HwH.iniB K (He.ga K "TooLong"), HwH.iniB K (He.ga K "TooLarge"), HwH.iniB K (He.ga K "TooMany"), HwH.iniB K (He.ga K "Unlike"), HwH.iniB K (He.ga K "NotPlain"), HwH.iniB K (He.ga K "NotFull"), HwH.iniB K (He.ga K "NoFeature"), HwH.iniB K (He.ga K "NoLine"), HwH.iniB K (He.ga K "NoModel"), HwH.iniB K (He.ga K "TakenName"), HwH.iniB K (He.ga K "Broken")][i]? = some b → b = true := fun i b e => List.all_eq_true.mp c.more _ (List.mem_of_getElem? e)
  have m__law_pen : mg "_law_pen" = some (.ref (He.ga K "_law_pen")) := He.glo_ok X G (cd.fact 0 (f := .glo "_law_pen") rfl)
  have m__law_draw : mg "_law_draw" = some (.ref (He.ga K "_law_draw")) := He.glo_ok X G (cd.fact 1 (f := .glo "_law_draw") rfl)
  have m__law_pick : mg "_law_pick" = some (.ref (He.ga K "_law_pick")) := He.glo_ok X G (cd.fact 2 (f := .glo "_law_pick") rfl)
  have m__law_field : mg "_law_field" = some (.ref (He.ga K "_law_field")) := He.glo_ok X G (cd.fact 3 (f := .glo "_law_field") rfl)
  have m__law_kinds : mg "_law_kinds" = some (.ref (He.ga K "_law_kinds")) := He.glo_ok X G (cd.fact 4 (f := .glo "_law_kinds") rfl)
  have m__law_first : mg "_law_first" = some (.ref (He.ga K "_law_first")) := He.glo_ok X G (cd.fact 5 (f := .glo "_law_first") rfl)
  have m__law_last : mg "_law_last" = some (.ref (He.ga K "_law_last")) := He.glo_ok X G (cd.fact 6 (f := .glo "_law_last") rfl)
  have m__law_alike : mg "_law_alike" = some (.ref (He.ga K "_law_alike")) := He.glo_ok X G (cd.fact 7 (f := .glo "_law_alike") rfl)
  have m__law_caught : mg "_law_caught" = some (.ref (He.ga K "_law_caught")) := He.glo_ok X G (cd.fact 8 (f := .glo "_law_caught") rfl)
  have m_law : mg "law" = some (.ref (He.ga K "law")) := He.glo_ok X G (cd.fact 9 (f := .glo "law") rfl)
  have m_BadText : mg "BadText" = some (.ref (He.ga K "BadText")) := He.glo_ok X G (cd.fact 10 (f := .glo "BadText") rfl)
  have m_BadName : mg "BadName" = some (.ref (He.ga K "BadName")) := He.glo_ok X G (cd.fact 11 (f := .glo "BadName") rfl)
  have m_BadNumber : mg "BadNumber" = some (.ref (He.ga K "BadNumber")) := He.glo_ok X G (cd.fact 12 (f := .glo "BadNumber") rfl)
  have m_BadGiven : mg "BadGiven" = some (.ref (He.ga K "BadGiven")) := He.glo_ok X G (cd.fact 13 (f := .glo "BadGiven") rfl)
  have m_BadAnswers : mg "BadAnswers" = some (.ref (He.ga K "BadAnswers")) := He.glo_ok X G (cd.fact 14 (f := .glo "BadAnswers") rfl)
  have m_BadPlace : mg "BadPlace" = some (.ref (He.ga K "BadPlace")) := He.glo_ok X G (cd.fact 15 (f := .glo "BadPlace") rfl)
  have m_BadTable : mg "BadTable" = some (.ref (He.ga K "BadTable")) := He.glo_ok X G (cd.fact 16 (f := .glo "BadTable") rfl)
  have m_TooLong : mg "TooLong" = some (.ref (He.ga K "TooLong")) := He.glo_ok X G (cd.fact 17 (f := .glo "TooLong") rfl)
  have m_TooLarge : mg "TooLarge" = some (.ref (He.ga K "TooLarge")) := He.glo_ok X G (cd.fact 18 (f := .glo "TooLarge") rfl)
  have m_TooMany : mg "TooMany" = some (.ref (He.ga K "TooMany")) := He.glo_ok X G (cd.fact 19 (f := .glo "TooMany") rfl)
  have m_Unlike : mg "Unlike" = some (.ref (He.ga K "Unlike")) := He.glo_ok X G (cd.fact 20 (f := .glo "Unlike") rfl)
  have m_NotPlain : mg "NotPlain" = some (.ref (He.ga K "NotPlain")) := He.glo_ok X G (cd.fact 21 (f := .glo "NotPlain") rfl)
  have m_NotFull : mg "NotFull" = some (.ref (He.ga K "NotFull")) := He.glo_ok X G (cd.fact 22 (f := .glo "NotFull") rfl)
  have m_NoFeature : mg "NoFeature" = some (.ref (He.ga K "NoFeature")) := He.glo_ok X G (cd.fact 23 (f := .glo "NoFeature") rfl)
  have m_NoLine : mg "NoLine" = some (.ref (He.ga K "NoLine")) := He.glo_ok X G (cd.fact 24 (f := .glo "NoLine") rfl)
  have m_NoModel : mg "NoModel" = some (.ref (He.ga K "NoModel")) := He.glo_ok X G (cd.fact 25 (f := .glo "NoModel") rfl)
  have m_TakenName : mg "TakenName" = some (.ref (He.ga K "TakenName")) := He.glo_ok X G (cd.fact 26 (f := .glo "TakenName") rfl)
  have m_Broken : mg "Broken" = some (.ref (He.ga K "Broken")) := He.glo_ok X G (cd.fact 27 (f := .glo "Broken") rfl)
  have z_list : mg "list" = none := He.free_ok X G (cd.fact 28 (f := .free "list") rfl)
  have z_int : mg "int" = none := He.free_ok X G (cd.fact 29 (f := .free "int") rfl)
  have z_len : mg "len" = none := He.free_ok X G (cd.fact 30 (f := .free "len") rfl)
  have z_range : mg "range" = none := He.free_ok X G (cd.fact 31 (f := .free "range") rfl)
  have z_isinstance : mg "isinstance" = none := He.free_ok X G (cd.fact 32 (f := .free "isinstance") rfl)
  have m_NothingToRedo : mg "NothingToRedo" = some (.ref (He.ga K "NothingToRedo")) := He.glo_ok X G (cd.fact 33 (f := .glo "NothingToRedo") rfl)
  have m_NothingToUndo : mg "NothingToUndo" = some (.ref (He.ga K "NothingToUndo")) := He.glo_ok X G (cd.fact 34 (f := .glo "NothingToUndo") rfl)
  have m_EmptyPlace : mg "EmptyPlace" = some (.ref (He.ga K "EmptyPlace")) := He.glo_ok X G (cd.fact 35 (f := .glo "EmptyPlace") rfl)
  have m_NotContinuous : mg "NotContinuous" = some (.ref (He.ga K "NotContinuous")) := He.glo_ok X G (cd.fact 36 (f := .glo "NotContinuous") rfl)
  have z_repr : mg "repr" = none := He.free_ok X G (cd.fact 37 (f := .free "repr") rfl)
  have z_ValueError : mg "ValueError" = none := He.free_ok X G (cd.fact 38 (f := .free "ValueError") rfl)
  have m_HingeError : mg "HingeError" = some (.ref (He.ga K "HingeError")) := He.glo_ok X G (cd.fact 39 (f := .glo "HingeError") rfl)
  obtain ⟨fd_L_pen, F0_L_pen⟩ := cd.def_ 0 rfl
  have F_L_pen : FunD K "_law_pen" "_law_pen" (defArgs s_L_pen) (defBody s_L_pen) (defScope s_L_pen) [] [] (He.ga K "_law_pen") fd_L_pen := F0_L_pen
  have B_L_pen : Binds K fd_L_pen ["_law_script"] [] := F_L_pen.bindsN fun _ _ _ _ _ _ us hl => match us, hl with | [_], _ => rfl
  obtain ⟨fd_L_draw, F0_L_draw⟩ := cd.def_ 1 rfl
  have F_L_draw : FunD K "_law_draw" "_law_draw" (defArgs s_L_draw) (defBody s_L_draw) (defScope s_L_draw) [] [] (He.ga K "_law_draw") fd_L_draw := F0_L_draw
  have B_L_draw : Binds K fd_L_draw ["_law_pen_here", "_law_many"] [] := F_L_draw.bindsN fun _ _ _ _ _ _ us hl => match us, hl with | [_, _], _ => rfl
  obtain ⟨fd_L_pick, F0_L_pick⟩ := cd.def_ 2 rfl
  have F_L_pick : FunD K "_law_pick" "_law_pick" (defArgs s_L_pick) (defBody s_L_pick) (defScope s_L_pick) [] [] (He.ga K "_law_pick") fd_L_pick := F0_L_pick
  have B_L_pick : Binds K fd_L_pick ["_law_pen_here", "_law_some"] [] := F_L_pick.bindsN fun _ _ _ _ _ _ us hl => match us, hl with | [_, _], _ => rfl
  obtain ⟨fd_BadTextD_initD, F0_BadTextD_initD⟩ := cd.def_ 3 rfl
  have F_BadTextD_initD : FunD K "__init__" "BadText.__init__" (defArgs s_BadTextD_initD) (defBody s_BadTextD_initD) (defScope s_BadTextD_initD) [] [] (He.ma K (He.ga K "BadText") "__init__") fd_BadTextD_initD := F0_BadTextD_initD
  have B_BadTextD_initD : Binds K fd_BadTextD_initD ["self", "line", "column"] [] := F_BadTextD_initD.bindsN fun _ _ _ _ _ _ us hl => match us, hl with | [_, _, _], _ => rfl
  obtain ⟨fd_BadNameD_initD, F0_BadNameD_initD⟩ := cd.def_ 4 rfl
  have F_BadNameD_initD : FunD K "__init__" "BadName.__init__" (defArgs s_BadNameD_initD) (defBody s_BadNameD_initD) (defScope s_BadNameD_initD) [] [] (He.ma K (He.ga K "BadName") "__init__") fd_BadNameD_initD := F0_BadNameD_initD
  have B_BadNameD_initD : Binds K fd_BadNameD_initD ["self", "name"] [] := F_BadNameD_initD.bindsN fun _ _ _ _ _ _ us hl => match us, hl with | [_, _], _ => rfl
  obtain ⟨fd_BadNumberD_initD, F0_BadNumberD_initD⟩ := cd.def_ 5 rfl
  have F_BadNumberD_initD : FunD K "__init__" "BadNumber.__init__" (defArgs s_BadNumberD_initD) (defBody s_BadNumberD_initD) (defScope s_BadNumberD_initD) [] [] (He.ma K (He.ga K "BadNumber") "__init__") fd_BadNumberD_initD := F0_BadNumberD_initD
  have B_BadNumberD_initD : Binds K fd_BadNumberD_initD ["self", "what", "number"] [] := F_BadNumberD_initD.bindsN fun _ _ _ _ _ _ us hl => match us, hl with | [_, _, _], _ => rfl
  obtain ⟨fd_BadGivenD_initD, F0_BadGivenD_initD⟩ := cd.def_ 6 rfl
  have F_BadGivenD_initD : FunD K "__init__" "BadGiven.__init__" (defArgs s_BadGivenD_initD) (defBody s_BadGivenD_initD) (defScope s_BadGivenD_initD) [] [] (He.ma K (He.ga K "BadGiven") "__init__") fd_BadGivenD_initD := F0_BadGivenD_initD
  have B_BadGivenD_initD : Binds K fd_BadGivenD_initD ["self", "what"] [] := F_BadGivenD_initD.bindsN fun _ _ _ _ _ _ us hl => match us, hl with | [_, _], _ => rfl
  obtain ⟨fd_BadAnswersD_initD, F0_BadAnswersD_initD⟩ := cd.def_ 7 rfl
  have F_BadAnswersD_initD : FunD K "__init__" "BadAnswers.__init__" (defArgs s_BadAnswersD_initD) (defBody s_BadAnswersD_initD) (defScope s_BadAnswersD_initD) [] [] (He.ma K (He.ga K "BadAnswers") "__init__") fd_BadAnswersD_initD := F0_BadAnswersD_initD
  have B_BadAnswersD_initD : Binds K fd_BadAnswersD_initD ["self", "place"] [] := F_BadAnswersD_initD.bindsN fun _ _ _ _ _ _ us hl => match us, hl with | [_, _], _ => rfl
  obtain ⟨fd_BadPlaceD_initD, F0_BadPlaceD_initD⟩ := cd.def_ 8 rfl
  have F_BadPlaceD_initD : FunD K "__init__" "BadPlace.__init__" (defArgs s_BadPlaceD_initD) (defBody s_BadPlaceD_initD) (defScope s_BadPlaceD_initD) [] [] (He.ma K (He.ga K "BadPlace") "__init__") fd_BadPlaceD_initD := F0_BadPlaceD_initD
  have B_BadPlaceD_initD : Binds K fd_BadPlaceD_initD ["self", "row"] [] := F_BadPlaceD_initD.bindsN fun _ _ _ _ _ _ us hl => match us, hl with | [_, _], _ => rfl
  obtain ⟨fd_BadTableD_initD, F0_BadTableD_initD⟩ := cd.def_ 9 rfl
  have F_BadTableD_initD : FunD K "__init__" "BadTable.__init__" (defArgs s_BadTableD_initD) (defBody s_BadTableD_initD) (defScope s_BadTableD_initD) [] [] (He.ma K (He.ga K "BadTable") "__init__") fd_BadTableD_initD := F0_BadTableD_initD
  have B_BadTableD_initD : Binds K fd_BadTableD_initD ["self", "row"] [] := F_BadTableD_initD.bindsN fun _ _ _ _ _ _ us hl => match us, hl with | [_, _], _ => rfl
  obtain ⟨fd_TooLongD_initD, F0_TooLongD_initD⟩ := cd.def_ 10 rfl
  have F_TooLongD_initD : FunD K "__init__" "TooLong.__init__" (defArgs s_TooLongD_initD) (defBody s_TooLongD_initD) (defScope s_TooLongD_initD) [] [] (He.ma K (He.ga K "TooLong") "__init__") fd_TooLongD_initD := F0_TooLongD_initD
  have B_TooLongD_initD : Binds K fd_TooLongD_initD ["self", "digits"] [] := F_TooLongD_initD.bindsN fun _ _ _ _ _ _ us hl => match us, hl with | [_, _], _ => rfl
  obtain ⟨fd_TooLargeD_initD, F0_TooLargeD_initD⟩ := cd.def_ 11 rfl
  have F_TooLargeD_initD : FunD K "__init__" "TooLarge.__init__" (defArgs s_TooLargeD_initD) (defBody s_TooLargeD_initD) (defScope s_TooLargeD_initD) [] [] (He.ma K (He.ga K "TooLarge") "__init__") fd_TooLargeD_initD := F0_TooLargeD_initD
  have B_TooLargeD_initD : Binds K fd_TooLargeD_initD ["self", "what", "many", "limit"] [] := F_TooLargeD_initD.bindsN fun _ _ _ _ _ _ us hl => match us, hl with | [_, _, _, _], _ => rfl
  obtain ⟨fd_TooManyD_initD, F0_TooManyD_initD⟩ := cd.def_ 12 rfl
  have F_TooManyD_initD : FunD K "__init__" "TooMany.__init__" (defArgs s_TooManyD_initD) (defBody s_TooManyD_initD) (defScope s_TooManyD_initD) [] [] (He.ma K (He.ga K "TooMany") "__init__") fd_TooManyD_initD := F0_TooManyD_initD
  have B_TooManyD_initD : Binds K fd_TooManyD_initD ["self", "what", "many", "limit"] [] := F_TooManyD_initD.bindsN fun _ _ _ _ _ _ us hl => match us, hl with | [_, _, _, _], _ => rfl
  obtain ⟨fd_UnlikeD_initD, F0_UnlikeD_initD⟩ := cd.def_ 13 rfl
  have F_UnlikeD_initD : FunD K "__init__" "Unlike.__init__" (defArgs s_UnlikeD_initD) (defBody s_UnlikeD_initD) (defScope s_UnlikeD_initD) [] [] (He.ma K (He.ga K "Unlike") "__init__") fd_UnlikeD_initD := F0_UnlikeD_initD
  have B_UnlikeD_initD : Binds K fd_UnlikeD_initD ["self", "what"] [] := F_UnlikeD_initD.bindsN fun _ _ _ _ _ _ us hl => match us, hl with | [_, _], _ => rfl
  obtain ⟨fd_NotPlainD_initD, F0_NotPlainD_initD⟩ := cd.def_ 14 rfl
  have F_NotPlainD_initD : FunD K "__init__" "NotPlain.__init__" (defArgs s_NotPlainD_initD) (defBody s_NotPlainD_initD) (defScope s_NotPlainD_initD) [] [] (He.ma K (He.ga K "NotPlain") "__init__") fd_NotPlainD_initD := F0_NotPlainD_initD
  have B_NotPlainD_initD : Binds K fd_NotPlainD_initD ["self", "name"] [] := F_NotPlainD_initD.bindsN fun _ _ _ _ _ _ us hl => match us, hl with | [_, _], _ => rfl
  obtain ⟨fd_NotFullD_initD, F0_NotFullD_initD⟩ := cd.def_ 15 rfl
  have F_NotFullD_initD : FunD K "__init__" "NotFull.__init__" (defArgs s_NotFullD_initD) (defBody s_NotFullD_initD) (defScope s_NotFullD_initD) [] [] (He.ma K (He.ga K "NotFull") "__init__") fd_NotFullD_initD := F0_NotFullD_initD
  have B_NotFullD_initD : Binds K fd_NotFullD_initD ["self", "rank"] [] := F_NotFullD_initD.bindsN fun _ _ _ _ _ _ us hl => match us, hl with | [_, _], _ => rfl
  obtain ⟨fd_NoFeatureD_initD, F0_NoFeatureD_initD⟩ := cd.def_ 16 rfl
  have F_NoFeatureD_initD : FunD K "__init__" "NoFeature.__init__" (defArgs s_NoFeatureD_initD) (defBody s_NoFeatureD_initD) (defScope s_NoFeatureD_initD) [] [] (He.ma K (He.ga K "NoFeature") "__init__") fd_NoFeatureD_initD := F0_NoFeatureD_initD
  have B_NoFeatureD_initD : Binds K fd_NoFeatureD_initD ["self", "name"] [] := F_NoFeatureD_initD.bindsN fun _ _ _ _ _ _ us hl => match us, hl with | [_, _], _ => rfl
  obtain ⟨fd_NoLineD_initD, F0_NoLineD_initD⟩ := cd.def_ 17 rfl
  have F_NoLineD_initD : FunD K "__init__" "NoLine.__init__" (defArgs s_NoLineD_initD) (defBody s_NoLineD_initD) (defScope s_NoLineD_initD) [] [] (He.ma K (He.ga K "NoLine") "__init__") fd_NoLineD_initD := F0_NoLineD_initD
  have B_NoLineD_initD : Binds K fd_NoLineD_initD ["self", "name"] [] := F_NoLineD_initD.bindsN fun _ _ _ _ _ _ us hl => match us, hl with | [_, _], _ => rfl
  obtain ⟨fd_NoModelD_initD, F0_NoModelD_initD⟩ := cd.def_ 18 rfl
  have F_NoModelD_initD : FunD K "__init__" "NoModel.__init__" (defArgs s_NoModelD_initD) (defBody s_NoModelD_initD) (defScope s_NoModelD_initD) [] [] (He.ma K (He.ga K "NoModel") "__init__") fd_NoModelD_initD := F0_NoModelD_initD
  have B_NoModelD_initD : Binds K fd_NoModelD_initD ["self", "name"] [] := F_NoModelD_initD.bindsN fun _ _ _ _ _ _ us hl => match us, hl with | [_, _], _ => rfl
  obtain ⟨fd_TakenNameD_initD, F0_TakenNameD_initD⟩ := cd.def_ 19 rfl
  have F_TakenNameD_initD : FunD K "__init__" "TakenName.__init__" (defArgs s_TakenNameD_initD) (defBody s_TakenNameD_initD) (defScope s_TakenNameD_initD) [] [] (He.ma K (He.ga K "TakenName") "__init__") fd_TakenNameD_initD := F0_TakenNameD_initD
  have B_TakenNameD_initD : Binds K fd_TakenNameD_initD ["self", "name"] [] := F_TakenNameD_initD.bindsN fun _ _ _ _ _ _ us hl => match us, hl with | [_, _], _ => rfl
  obtain ⟨fd_BrokenD_initD, F0_BrokenD_initD⟩ := cd.def_ 20 rfl
  have F_BrokenD_initD : FunD K "__init__" "Broken.__init__" (defArgs s_BrokenD_initD) (defBody s_BrokenD_initD) (defScope s_BrokenD_initD) [] [] (He.ma K (He.ga K "Broken") "__init__") fd_BrokenD_initD := F0_BrokenD_initD
  have B_BrokenD_initD : Binds K fd_BrokenD_initD ["self", "promise", "given"] [] := F_BrokenD_initD.bindsN fun _ _ _ _ _ _ us hl => match us, hl with | [_, _, _], _ => rfl
  obtain ⟨fd_L_field, F0_L_field⟩ := cd.def_ 21 rfl
  have F_L_field : FunD K "_law_field" "_law_field" (defArgs s_L_field) (defBody s_L_field) (defScope s_L_field) [] [] (He.ga K "_law_field") fd_L_field := F0_L_field
  have B_L_field : Binds K fd_L_field ["_law_pen_here"] [] := F_L_field.bindsN fun _ _ _ _ _ _ us hl => match us, hl with | [_], _ => rfl
  obtain ⟨fd_L_kinds, F0_L_kinds⟩ := cd.def_ 22 rfl
  have F_L_kinds : FunD K "_law_kinds" "_law_kinds" (defArgs s_L_kinds) (defBody s_L_kinds) (defScope s_L_kinds) [] [] (He.ga K "_law_kinds") fd_L_kinds := F0_L_kinds
  have B_L_kinds : Binds K fd_L_kinds ["_law_e"] [] := F_L_kinds.bindsN fun _ _ _ _ _ _ us hl => match us, hl with | [_], _ => rfl
  obtain ⟨fd_L_first, F0_L_first⟩ := cd.def_ 23 rfl
  have F_L_first : FunD K "_law_first" "_law_first" (defArgs s_L_first) (defBody s_L_first) (defScope s_L_first) [] [] (He.ga K "_law_first") fd_L_first := F0_L_first
  have B_L_first : Binds K fd_L_first ["_law_place", "_law_a", "_law_b", "_law_c"] [] := F_L_first.bindsN fun _ _ _ _ _ _ us hl => match us, hl with | [_, _, _, _], _ => rfl
  obtain ⟨fd_L_last, F0_L_last⟩ := cd.def_ 24 rfl
  have F_L_last : FunD K "_law_last" "_law_last" (defArgs s_L_last) (defBody s_L_last) (defScope s_L_last) [] [] (He.ga K "_law_last") fd_L_last := F0_L_last
  have B_L_last : Binds K fd_L_last ["_law_place", "_law_a", "_law_b"] [] := F_L_last.bindsN fun _ _ _ _ _ _ us hl => match us, hl with | [_, _, _], _ => rfl
  obtain ⟨fd_L_alike, F0_L_alike⟩ := cd.def_ 25 rfl
  have F_L_alike : FunD K "_law_alike" "_law_alike" (defArgs s_L_alike) (defBody s_L_alike) (defScope s_L_alike) [] [] (He.ga K "_law_alike") fd_L_alike := F0_L_alike
  have B_L_alike : Binds K fd_L_alike ["_law_one", "_law_two"] [] := F_L_alike.bindsN fun _ _ _ _ _ _ us hl => match us, hl with | [_, _], _ => rfl
  obtain ⟨fd_L_caught, F0_L_caught⟩ := cd.def_ 26 rfl
  have F_L_caught : FunD K "_law_caught" "_law_caught" (defArgs s_L_caught) (defBody s_L_caught) (defScope s_L_caught) [] [] (He.ga K "_law_caught") fd_L_caught := F0_L_caught
  have B_L_caught : Binds K fd_L_caught ["_law_place", "_law_a", "_law_b", "_law_c"] [] := F_L_caught.bindsN fun _ _ _ _ _ _ us hl => match us, hl with | [_, _, _, _], _ => rfl
  obtain ⟨fd_law, F0_law⟩ := cd.def_ 27 rfl
  have F_law : FunD K "law" "law" (defArgs s_law) (defBody s_law) (defScope s_law) [] [] (He.ga K "law") fd_law := F0_law
  have B_law : Binds K fd_law ["_law_script"] [] := F_law.bindsN fun _ _ _ _ _ _ us hl => match us, hl with | [_], _ => rfl
  have TX_BadText : OexC K (He.ga K "BadText") := HwH.oexB_ok (exx 0 rfl)
  have n1_BadText := He.noat_ok (cd.fact 40 (f := .noat "BadText" "line") rfl)
  have n2_BadText := He.noat_ok (cd.fact 41 (f := .noat "BadText" "column") rfl)
  have TX_BadName : OexC K (He.ga K "BadName") := HwH.oexB_ok (exx 1 rfl)
  have n1_BadName := He.noat_ok (cd.fact 42 (f := .noat "BadName" "name") rfl)
  have TX_BadNumber : OexC K (He.ga K "BadNumber") := HwH.oexB_ok (exx 2 rfl)
  have n1_BadNumber := He.noat_ok (cd.fact 43 (f := .noat "BadNumber" "what") rfl)
  have n2_BadNumber := He.noat_ok (cd.fact 44 (f := .noat "BadNumber" "number") rfl)
  have TX_BadGiven : OexC K (He.ga K "BadGiven") := HwH.oexB_ok (exx 3 rfl)
  have n1_BadGiven := He.noat_ok (cd.fact 45 (f := .noat "BadGiven" "what") rfl)
  have TX_BadAnswers : OexC K (He.ga K "BadAnswers") := HwH.oexB_ok (exx 4 rfl)
  have n1_BadAnswers := He.noat_ok (cd.fact 46 (f := .noat "BadAnswers" "place") rfl)
  have TX_BadPlace : OexC K (He.ga K "BadPlace") := HwH.oexB_ok (exx 5 rfl)
  have n1_BadPlace := He.noat_ok (cd.fact 47 (f := .noat "BadPlace" "row") rfl)
  have TX_BadTable : OexC K (He.ga K "BadTable") := HwH.oexB_ok (exx 6 rfl)
  have n1_BadTable := He.noat_ok (cd.fact 48 (f := .noat "BadTable" "row") rfl)
  have TX_TooLong : OexC K (He.ga K "TooLong") := HwH.oexB_ok (exx 7 rfl)
  have n1_TooLong := He.noat_ok (cd.fact 49 (f := .noat "TooLong" "digits") rfl)
  have TX_TooLarge : OexC K (He.ga K "TooLarge") := HwH.oexB_ok (exx 8 rfl)
  have n1_TooLarge := He.noat_ok (cd.fact 50 (f := .noat "TooLarge" "what") rfl)
  have n2_TooLarge := He.noat_ok (cd.fact 51 (f := .noat "TooLarge" "many") rfl)
  have n3_TooLarge := He.noat_ok (cd.fact 52 (f := .noat "TooLarge" "limit") rfl)
  have TX_TooMany : OexC K (He.ga K "TooMany") := HwH.oexB_ok (exx 9 rfl)
  have n1_TooMany := He.noat_ok (cd.fact 53 (f := .noat "TooMany" "what") rfl)
  have n2_TooMany := He.noat_ok (cd.fact 54 (f := .noat "TooMany" "many") rfl)
  have n3_TooMany := He.noat_ok (cd.fact 55 (f := .noat "TooMany" "limit") rfl)
  have TX_Unlike : OexC K (He.ga K "Unlike") := HwH.oexB_ok (exx 10 rfl)
  have n1_Unlike := He.noat_ok (cd.fact 56 (f := .noat "Unlike" "what") rfl)
  have TX_NotPlain : OexC K (He.ga K "NotPlain") := HwH.oexB_ok (exx 11 rfl)
  have n1_NotPlain := He.noat_ok (cd.fact 57 (f := .noat "NotPlain" "name") rfl)
  have TX_NotFull : OexC K (He.ga K "NotFull") := HwH.oexB_ok (exx 12 rfl)
  have n1_NotFull := He.noat_ok (cd.fact 58 (f := .noat "NotFull" "rank") rfl)
  have TX_NoFeature : OexC K (He.ga K "NoFeature") := HwH.oexB_ok (exx 13 rfl)
  have n1_NoFeature := He.noat_ok (cd.fact 59 (f := .noat "NoFeature" "name") rfl)
  have TX_NoLine : OexC K (He.ga K "NoLine") := HwH.oexB_ok (exx 14 rfl)
  have n1_NoLine := He.noat_ok (cd.fact 60 (f := .noat "NoLine" "name") rfl)
  have TX_NoModel : OexC K (He.ga K "NoModel") := HwH.oexB_ok (exx 15 rfl)
  have n1_NoModel := He.noat_ok (cd.fact 61 (f := .noat "NoModel" "name") rfl)
  have TX_TakenName : OexC K (He.ga K "TakenName") := HwH.oexB_ok (exx 16 rfl)
  have n1_TakenName := He.noat_ok (cd.fact 62 (f := .noat "TakenName" "name") rfl)
  have TX_Broken : OexC K (He.ga K "Broken") := HwH.oexB_ok (exx 17 rfl)
  have n1_Broken := He.noat_ok (cd.fact 63 (f := .noat "Broken" "promise") rfl)
  have n2_Broken := He.noat_ok (cd.fact 64 (f := .noat "Broken" "given") rfl)
  have KC : KinC K (CLs K) (He.ga K "HingeError") := kinB_ok (exx 18 rfl)
  have e := hfa.symm.trans m_law
  cases e
  refine ⟨fd_law, [], spLaw3 K, fun p hp => (nomatch hp), fun p hp => (nomatch hp), fun p hp => (nomatch hp), fun s u => F_law.bindsA (ps := ["_law_script"]) (fun _ _ _ _ _ _ us hl => match us, hl with | [_], _ => rfl) s [u] rfl, ?_, fun base Kb Gb TBs => ?_⟩
  · exact fun H a ns hl _ _ hS => ⟨a, ns, rfl, hS, hl, fun _ => rfl⟩
  ·
    have o_L_pen : FnOk PySem.Challenge.rw_hingeworks_k03_errors.prog w K mg base (L2.CX PySem.Challenge.rw_hingeworks_k03_errors.prog w) 1 _ fd_L_pen ["_law_script"] (spPen K) := ok_L_pen F_L_pen (z_list := z_list) (z_int := z_int)
    have g_L_pen : Gf PySem.Challenge.rw_hingeworks_k03_errors.prog w K mg base "_law_pen" 1 ["_law_script"] (spPen K) := ⟨_, fd_L_pen, m__law_pen, F_L_pen.kp, B_L_pen, o_L_pen⟩
    have o_L_draw : FnOk PySem.Challenge.rw_hingeworks_k03_errors.prog w K mg base (L2.CX PySem.Challenge.rw_hingeworks_k03_errors.prog w) 1 _ fd_L_draw ["_law_pen_here", "_law_many"] (spDraw) := ok_L_draw F_L_draw (z_int := z_int) (z_len := z_len)
    have g_L_draw : Gf PySem.Challenge.rw_hingeworks_k03_errors.prog w K mg base "_law_draw" 1 ["_law_pen_here", "_law_many"] (spDraw) := ⟨_, fd_L_draw, m__law_draw, F_L_draw.kp, B_L_draw, o_L_draw⟩
    have o_L_pick : FnOk PySem.Challenge.rw_hingeworks_k03_errors.prog w K mg base (L2.CX PySem.Challenge.rw_hingeworks_k03_errors.prog w) 2 _ fd_L_pick ["_law_pen_here", "_law_some"] (spPick) := ok_L_pick F_L_pick (z_len := z_len) (g_L_draw := g_L_draw)
    have g_L_pick : Gf PySem.Challenge.rw_hingeworks_k03_errors.prog w K mg base "_law_pick" 2 ["_law_pen_here", "_law_some"] (spPick) := ⟨_, fd_L_pick, m__law_pick, F_L_pick.kp, B_L_pick, o_L_pick⟩
    have o_BadTextD_initD : FnOk PySem.Challenge.rw_hingeworks_k03_errors.prog w K mg base (L2.CX PySem.Challenge.rw_hingeworks_k03_errors.prog w) 1 _ fd_BadTextD_initD ["self", "line", "column"] (spX2 (He.ga K "BadText") "line" "column") := ok_BadTextD_initD F_BadTextD_initD (C_BadText := (He.ga K "BadText")) (TX := TX_BadText) (n1 := n1_BadText) (n2 := n2_BadText)
    have g_BadText : Xf PySem.Challenge.rw_hingeworks_k03_errors.prog w K mg base "BadText" (He.ga K "BadText") 1 (spX2 (He.ga K "BadText") "line" "column") := ⟨_, fd_BadTextD_initD, ["self", "line", "column"], m_BadText, TX_BadText, (HwH.iniB_ok (exx 19 rfl)).1, (HwH.iniB_ok (exx 19 rfl)).2, B_BadTextD_initD, o_BadTextD_initD⟩
    have o_BadNameD_initD : FnOk PySem.Challenge.rw_hingeworks_k03_errors.prog w K mg base (L2.CX PySem.Challenge.rw_hingeworks_k03_errors.prog w) 1 _ fd_BadNameD_initD ["self", "name"] (spX1 (He.ga K "BadName") "name") := ok_BadNameD_initD F_BadNameD_initD (C_BadName := (He.ga K "BadName")) (TX := TX_BadName) (n1 := n1_BadName)
    have g_BadName : Xf PySem.Challenge.rw_hingeworks_k03_errors.prog w K mg base "BadName" (He.ga K "BadName") 1 (spX1 (He.ga K "BadName") "name") := ⟨_, fd_BadNameD_initD, ["self", "name"], m_BadName, TX_BadName, (HwH.iniB_ok (exx 20 rfl)).1, (HwH.iniB_ok (exx 20 rfl)).2, B_BadNameD_initD, o_BadNameD_initD⟩
    have o_BadNumberD_initD : FnOk PySem.Challenge.rw_hingeworks_k03_errors.prog w K mg base (L2.CX PySem.Challenge.rw_hingeworks_k03_errors.prog w) 1 _ fd_BadNumberD_initD ["self", "what", "number"] (spX2 (He.ga K "BadNumber") "what" "number") := ok_BadNumberD_initD F_BadNumberD_initD (C_BadNumber := (He.ga K "BadNumber")) (TX := TX_BadNumber) (n1 := n1_BadNumber) (n2 := n2_BadNumber)
    have g_BadNumber : Xf PySem.Challenge.rw_hingeworks_k03_errors.prog w K mg base "BadNumber" (He.ga K "BadNumber") 1 (spX2 (He.ga K "BadNumber") "what" "number") := ⟨_, fd_BadNumberD_initD, ["self", "what", "number"], m_BadNumber, TX_BadNumber, (HwH.iniB_ok (exx 21 rfl)).1, (HwH.iniB_ok (exx 21 rfl)).2, B_BadNumberD_initD, o_BadNumberD_initD⟩
    have o_BadGivenD_initD : FnOk PySem.Challenge.rw_hingeworks_k03_errors.prog w K mg base (L2.CX PySem.Challenge.rw_hingeworks_k03_errors.prog w) 1 _ fd_BadGivenD_initD ["self", "what"] (spX1 (He.ga K "BadGiven") "what") := ok_BadGivenD_initD F_BadGivenD_initD (C_BadGiven := (He.ga K "BadGiven")) (TX := TX_BadGiven) (n1 := n1_BadGiven)
    have g_BadGiven : Xf PySem.Challenge.rw_hingeworks_k03_errors.prog w K mg base "BadGiven" (He.ga K "BadGiven") 1 (spX1 (He.ga K "BadGiven") "what") := ⟨_, fd_BadGivenD_initD, ["self", "what"], m_BadGiven, TX_BadGiven, (HwH.iniB_ok (exx 22 rfl)).1, (HwH.iniB_ok (exx 22 rfl)).2, B_BadGivenD_initD, o_BadGivenD_initD⟩
    have o_BadAnswersD_initD : FnOk PySem.Challenge.rw_hingeworks_k03_errors.prog w K mg base (L2.CX PySem.Challenge.rw_hingeworks_k03_errors.prog w) 1 _ fd_BadAnswersD_initD ["self", "place"] (spX1 (He.ga K "BadAnswers") "place") := ok_BadAnswersD_initD F_BadAnswersD_initD (C_BadAnswers := (He.ga K "BadAnswers")) (TX := TX_BadAnswers) (n1 := n1_BadAnswers)
    have g_BadAnswers : Xf PySem.Challenge.rw_hingeworks_k03_errors.prog w K mg base "BadAnswers" (He.ga K "BadAnswers") 1 (spX1 (He.ga K "BadAnswers") "place") := ⟨_, fd_BadAnswersD_initD, ["self", "place"], m_BadAnswers, TX_BadAnswers, (HwH.iniB_ok (exx 23 rfl)).1, (HwH.iniB_ok (exx 23 rfl)).2, B_BadAnswersD_initD, o_BadAnswersD_initD⟩
    have o_BadPlaceD_initD : FnOk PySem.Challenge.rw_hingeworks_k03_errors.prog w K mg base (L2.CX PySem.Challenge.rw_hingeworks_k03_errors.prog w) 1 _ fd_BadPlaceD_initD ["self", "row"] (spX1 (He.ga K "BadPlace") "row") := ok_BadPlaceD_initD F_BadPlaceD_initD (C_BadPlace := (He.ga K "BadPlace")) (TX := TX_BadPlace) (n1 := n1_BadPlace)
    have g_BadPlace : Xf PySem.Challenge.rw_hingeworks_k03_errors.prog w K mg base "BadPlace" (He.ga K "BadPlace") 1 (spX1 (He.ga K "BadPlace") "row") := ⟨_, fd_BadPlaceD_initD, ["self", "row"], m_BadPlace, TX_BadPlace, (HwH.iniB_ok (exx 24 rfl)).1, (HwH.iniB_ok (exx 24 rfl)).2, B_BadPlaceD_initD, o_BadPlaceD_initD⟩
    have o_BadTableD_initD : FnOk PySem.Challenge.rw_hingeworks_k03_errors.prog w K mg base (L2.CX PySem.Challenge.rw_hingeworks_k03_errors.prog w) 1 _ fd_BadTableD_initD ["self", "row"] (spX1 (He.ga K "BadTable") "row") := ok_BadTableD_initD F_BadTableD_initD (C_BadTable := (He.ga K "BadTable")) (TX := TX_BadTable) (n1 := n1_BadTable)
    have g_BadTable : Xf PySem.Challenge.rw_hingeworks_k03_errors.prog w K mg base "BadTable" (He.ga K "BadTable") 1 (spX1 (He.ga K "BadTable") "row") := ⟨_, fd_BadTableD_initD, ["self", "row"], m_BadTable, TX_BadTable, (HwH.iniB_ok (exx 25 rfl)).1, (HwH.iniB_ok (exx 25 rfl)).2, B_BadTableD_initD, o_BadTableD_initD⟩
    have o_TooLongD_initD : FnOk PySem.Challenge.rw_hingeworks_k03_errors.prog w K mg base (L2.CX PySem.Challenge.rw_hingeworks_k03_errors.prog w) 1 _ fd_TooLongD_initD ["self", "digits"] (spX1 (He.ga K "TooLong") "digits") := ok_TooLongD_initD F_TooLongD_initD (C_TooLong := (He.ga K "TooLong")) (TX := TX_TooLong) (n1 := n1_TooLong)
    have g_TooLong : Xf PySem.Challenge.rw_hingeworks_k03_errors.prog w K mg base "TooLong" (He.ga K "TooLong") 1 (spX1 (He.ga K "TooLong") "digits") := ⟨_, fd_TooLongD_initD, ["self", "digits"], m_TooLong, TX_TooLong, (HwH.iniB_ok (exx 26 rfl)).1, (HwH.iniB_ok (exx 26 rfl)).2, B_TooLongD_initD, o_TooLongD_initD⟩
    have o_TooLargeD_initD : FnOk PySem.Challenge.rw_hingeworks_k03_errors.prog w K mg base (L2.CX PySem.Challenge.rw_hingeworks_k03_errors.prog w) 1 _ fd_TooLargeD_initD ["self", "what", "many", "limit"] (spX3 (He.ga K "TooLarge") "what" "many" "limit") := ok_TooLargeD_initD F_TooLargeD_initD (C_TooLarge := (He.ga K "TooLarge")) (TX := TX_TooLarge) (n1 := n1_TooLarge) (n2 := n2_TooLarge) (n3 := n3_TooLarge)
    have g_TooLarge : Xf PySem.Challenge.rw_hingeworks_k03_errors.prog w K mg base "TooLarge" (He.ga K "TooLarge") 1 (spX3 (He.ga K "TooLarge") "what" "many" "limit") := ⟨_, fd_TooLargeD_initD, ["self", "what", "many", "limit"], m_TooLarge, TX_TooLarge, (HwH.iniB_ok (exx 27 rfl)).1, (HwH.iniB_ok (exx 27 rfl)).2, B_TooLargeD_initD, o_TooLargeD_initD⟩
    have o_TooManyD_initD : FnOk PySem.Challenge.rw_hingeworks_k03_errors.prog w K mg base (L2.CX PySem.Challenge.rw_hingeworks_k03_errors.prog w) 1 _ fd_TooManyD_initD ["self", "what", "many", "limit"] (spX3 (He.ga K "TooMany") "what" "many" "limit") := ok_TooManyD_initD F_TooManyD_initD (C_TooMany := (He.ga K "TooMany")) (TX := TX_TooMany) (n1 := n1_TooMany) (n2 := n2_TooMany) (n3 := n3_TooMany)
    have g_TooMany : Xf PySem.Challenge.rw_hingeworks_k03_errors.prog w K mg base "TooMany" (He.ga K "TooMany") 1 (spX3 (He.ga K "TooMany") "what" "many" "limit") := ⟨_, fd_TooManyD_initD, ["self", "what", "many", "limit"], m_TooMany, TX_TooMany, (HwH.iniB_ok (exx 28 rfl)).1, (HwH.iniB_ok (exx 28 rfl)).2, B_TooManyD_initD, o_TooManyD_initD⟩
    have o_UnlikeD_initD : FnOk PySem.Challenge.rw_hingeworks_k03_errors.prog w K mg base (L2.CX PySem.Challenge.rw_hingeworks_k03_errors.prog w) 1 _ fd_UnlikeD_initD ["self", "what"] (spX1 (He.ga K "Unlike") "what") := ok_UnlikeD_initD F_UnlikeD_initD (C_Unlike := (He.ga K "Unlike")) (TX := TX_Unlike) (n1 := n1_Unlike)
    have g_Unlike : Xf PySem.Challenge.rw_hingeworks_k03_errors.prog w K mg base "Unlike" (He.ga K "Unlike") 1 (spX1 (He.ga K "Unlike") "what") := ⟨_, fd_UnlikeD_initD, ["self", "what"], m_Unlike, TX_Unlike, (HwH.iniB_ok (exx 29 rfl)).1, (HwH.iniB_ok (exx 29 rfl)).2, B_UnlikeD_initD, o_UnlikeD_initD⟩
    have o_NotPlainD_initD : FnOk PySem.Challenge.rw_hingeworks_k03_errors.prog w K mg base (L2.CX PySem.Challenge.rw_hingeworks_k03_errors.prog w) 1 _ fd_NotPlainD_initD ["self", "name"] (spX1 (He.ga K "NotPlain") "name") := ok_NotPlainD_initD F_NotPlainD_initD (C_NotPlain := (He.ga K "NotPlain")) (TX := TX_NotPlain) (n1 := n1_NotPlain)
    have g_NotPlain : Xf PySem.Challenge.rw_hingeworks_k03_errors.prog w K mg base "NotPlain" (He.ga K "NotPlain") 1 (spX1 (He.ga K "NotPlain") "name") := ⟨_, fd_NotPlainD_initD, ["self", "name"], m_NotPlain, TX_NotPlain, (HwH.iniB_ok (exx 30 rfl)).1, (HwH.iniB_ok (exx 30 rfl)).2, B_NotPlainD_initD, o_NotPlainD_initD⟩
    have o_NotFullD_initD : FnOk PySem.Challenge.rw_hingeworks_k03_errors.prog w K mg base (L2.CX PySem.Challenge.rw_hingeworks_k03_errors.prog w) 1 _ fd_NotFullD_initD ["self", "rank"] (spX1 (He.ga K "NotFull") "rank") := ok_NotFullD_initD F_NotFullD_initD (C_NotFull := (He.ga K "NotFull")) (TX := TX_NotFull) (n1 := n1_NotFull)
    have g_NotFull : Xf PySem.Challenge.rw_hingeworks_k03_errors.prog w K mg base "NotFull" (He.ga K "NotFull") 1 (spX1 (He.ga K "NotFull") "rank") := ⟨_, fd_NotFullD_initD, ["self", "rank"], m_NotFull, TX_NotFull, (HwH.iniB_ok (exx 31 rfl)).1, (HwH.iniB_ok (exx 31 rfl)).2, B_NotFullD_initD, o_NotFullD_initD⟩
    have o_NoFeatureD_initD : FnOk PySem.Challenge.rw_hingeworks_k03_errors.prog w K mg base (L2.CX PySem.Challenge.rw_hingeworks_k03_errors.prog w) 1 _ fd_NoFeatureD_initD ["self", "name"] (spX1 (He.ga K "NoFeature") "name") := ok_NoFeatureD_initD F_NoFeatureD_initD (C_NoFeature := (He.ga K "NoFeature")) (TX := TX_NoFeature) (n1 := n1_NoFeature)
    have g_NoFeature : Xf PySem.Challenge.rw_hingeworks_k03_errors.prog w K mg base "NoFeature" (He.ga K "NoFeature") 1 (spX1 (He.ga K "NoFeature") "name") := ⟨_, fd_NoFeatureD_initD, ["self", "name"], m_NoFeature, TX_NoFeature, (HwH.iniB_ok (exx 32 rfl)).1, (HwH.iniB_ok (exx 32 rfl)).2, B_NoFeatureD_initD, o_NoFeatureD_initD⟩
    have o_NoLineD_initD : FnOk PySem.Challenge.rw_hingeworks_k03_errors.prog w K mg base (L2.CX PySem.Challenge.rw_hingeworks_k03_errors.prog w) 1 _ fd_NoLineD_initD ["self", "name"] (spX1 (He.ga K "NoLine") "name") := ok_NoLineD_initD F_NoLineD_initD (C_NoLine := (He.ga K "NoLine")) (TX := TX_NoLine) (n1 := n1_NoLine)
    have g_NoLine : Xf PySem.Challenge.rw_hingeworks_k03_errors.prog w K mg base "NoLine" (He.ga K "NoLine") 1 (spX1 (He.ga K "NoLine") "name") := ⟨_, fd_NoLineD_initD, ["self", "name"], m_NoLine, TX_NoLine, (HwH.iniB_ok (exx 33 rfl)).1, (HwH.iniB_ok (exx 33 rfl)).2, B_NoLineD_initD, o_NoLineD_initD⟩
    have o_NoModelD_initD : FnOk PySem.Challenge.rw_hingeworks_k03_errors.prog w K mg base (L2.CX PySem.Challenge.rw_hingeworks_k03_errors.prog w) 1 _ fd_NoModelD_initD ["self", "name"] (spX1 (He.ga K "NoModel") "name") := ok_NoModelD_initD F_NoModelD_initD (C_NoModel := (He.ga K "NoModel")) (TX := TX_NoModel) (n1 := n1_NoModel)
    have g_NoModel : Xf PySem.Challenge.rw_hingeworks_k03_errors.prog w K mg base "NoModel" (He.ga K "NoModel") 1 (spX1 (He.ga K "NoModel") "name") := ⟨_, fd_NoModelD_initD, ["self", "name"], m_NoModel, TX_NoModel, (HwH.iniB_ok (exx 34 rfl)).1, (HwH.iniB_ok (exx 34 rfl)).2, B_NoModelD_initD, o_NoModelD_initD⟩
    have o_TakenNameD_initD : FnOk PySem.Challenge.rw_hingeworks_k03_errors.prog w K mg base (L2.CX PySem.Challenge.rw_hingeworks_k03_errors.prog w) 1 _ fd_TakenNameD_initD ["self", "name"] (spX1 (He.ga K "TakenName") "name") := ok_TakenNameD_initD F_TakenNameD_initD (C_TakenName := (He.ga K "TakenName")) (TX := TX_TakenName) (n1 := n1_TakenName)
    have g_TakenName : Xf PySem.Challenge.rw_hingeworks_k03_errors.prog w K mg base "TakenName" (He.ga K "TakenName") 1 (spX1 (He.ga K "TakenName") "name") := ⟨_, fd_TakenNameD_initD, ["self", "name"], m_TakenName, TX_TakenName, (HwH.iniB_ok (exx 35 rfl)).1, (HwH.iniB_ok (exx 35 rfl)).2, B_TakenNameD_initD, o_TakenNameD_initD⟩
    have o_BrokenD_initD : FnOk PySem.Challenge.rw_hingeworks_k03_errors.prog w K mg base (L2.CX PySem.Challenge.rw_hingeworks_k03_errors.prog w) 1 _ fd_BrokenD_initD ["self", "promise", "given"] (spX2 (He.ga K "Broken") "promise" "given") := ok_BrokenD_initD F_BrokenD_initD (C_Broken := (He.ga K "Broken")) (TX := TX_Broken) (n1 := n1_Broken) (n2 := n2_Broken)
    have g_Broken : Xf PySem.Challenge.rw_hingeworks_k03_errors.prog w K mg base "Broken" (He.ga K "Broken") 1 (spX2 (He.ga K "Broken") "promise" "given") := ⟨_, fd_BrokenD_initD, ["self", "promise", "given"], m_Broken, TX_Broken, (HwH.iniB_ok (exx 36 rfl)).1, (HwH.iniB_ok (exx 36 rfl)).2, B_BrokenD_initD, o_BrokenD_initD⟩
    have o_L_field : FnOk PySem.Challenge.rw_hingeworks_k03_errors.prog w K mg base (L2.CX PySem.Challenge.rw_hingeworks_k03_errors.prog w) 3 _ fd_L_field ["_law_pen_here"] (spField) := ok_L_field F_L_field (g_L_pick := g_L_pick) (g_L_draw := g_L_draw)
    have g_L_field : Gf PySem.Challenge.rw_hingeworks_k03_errors.prog w K mg base "_law_field" 3 ["_law_pen_here"] (spField) := ⟨_, fd_L_field, m__law_field, F_L_field.kp, B_L_field, o_L_field⟩
    have o_L_kinds : FnOk PySem.Challenge.rw_hingeworks_k03_errors.prog w K mg base (L2.CX PySem.Challenge.rw_hingeworks_k03_errors.prog w) 1 _ fd_L_kinds ["_law_e"] (spKinds (CLs K)) := ok_L_kinds F_L_kinds (z_range := z_range) (z_len := z_len) (z_isinstance := z_isinstance) (m_NothingToRedo := m_NothingToRedo) (m_NothingToUndo := m_NothingToUndo) (m_Broken := m_Broken) (m_TakenName := m_TakenName) (m_NoModel := m_NoModel) (m_NoLine := m_NoLine) (m_NoFeature := m_NoFeature) (m_NotFull := m_NotFull) (m_EmptyPlace := m_EmptyPlace) (m_NotPlain := m_NotPlain) (m_NotContinuous := m_NotContinuous) (m_Unlike := m_Unlike) (m_TooMany := m_TooMany) (m_TooLarge := m_TooLarge) (m_TooLong := m_TooLong) (m_BadTable := m_BadTable) (m_BadPlace := m_BadPlace) (m_BadAnswers := m_BadAnswers) (m_BadGiven := m_BadGiven) (m_BadNumber := m_BadNumber) (m_BadName := m_BadName) (m_BadText := m_BadText) (CL := CLs K) (CH := (He.ga K "HingeError")) (KC := KC)
    have g_L_kinds : Gf PySem.Challenge.rw_hingeworks_k03_errors.prog w K mg base "_law_kinds" 1 ["_law_e"] (spKinds (CLs K)) := ⟨_, fd_L_kinds, m__law_kinds, F_L_kinds.kp, B_L_kinds, o_L_kinds⟩
    have o_L_first : FnOk PySem.Challenge.rw_hingeworks_k03_errors.prog w K mg base (L2.CX PySem.Challenge.rw_hingeworks_k03_errors.prog w) 3 _ fd_L_first ["_law_place", "_law_a", "_law_b", "_law_c"] (spFirst (CLs K)) := ok_L_first F_L_first (g_TooMany := g_TooMany) (g_TooLarge := g_TooLarge) (g_TooLong := g_TooLong) (g_BadTable := g_BadTable) (g_BadPlace := g_BadPlace) (g_BadAnswers := g_BadAnswers) (g_BadGiven := g_BadGiven) (g_BadNumber := g_BadNumber) (g_BadName := g_BadName) (g_BadText := g_BadText) (CL := CLs K) (CH := (He.ga K "HingeError")) (KC := KC)
    have g_L_first : Gf PySem.Challenge.rw_hingeworks_k03_errors.prog w K mg base "_law_first" 3 ["_law_place", "_law_a", "_law_b", "_law_c"] (spFirst (CLs K)) := ⟨_, fd_L_first, m__law_first, F_L_first.kp, B_L_first, o_L_first⟩
    have o_L_last : FnOk PySem.Challenge.rw_hingeworks_k03_errors.prog w K mg base (L2.CX PySem.Challenge.rw_hingeworks_k03_errors.prog w) 3 _ fd_L_last ["_law_place", "_law_a", "_law_b"] (spLast (CLs K)) := ok_L_last F_L_last (m_NothingToUndo := m_NothingToUndo) (m_NothingToRedo := m_NothingToRedo) (m_EmptyPlace := m_EmptyPlace) (m_NotContinuous := m_NotContinuous) (g_Broken := g_Broken) (g_TakenName := g_TakenName) (g_NoModel := g_NoModel) (g_NoLine := g_NoLine) (g_NoFeature := g_NoFeature) (g_NotFull := g_NotFull) (g_NotPlain := g_NotPlain) (g_Unlike := g_Unlike) (CL := CLs K) (CH := (He.ga K "HingeError")) (KC := KC)
    have g_L_last : Gf PySem.Challenge.rw_hingeworks_k03_errors.prog w K mg base "_law_last" 3 ["_law_place", "_law_a", "_law_b"] (spLast (CLs K)) := ⟨_, fd_L_last, m__law_last, F_L_last.kp, B_L_last, o_L_last⟩
    have o_L_alike : FnG PySem.Challenge.rw_hingeworks_k03_errors.prog w K mg base (L2.CX PySem.Challenge.rw_hingeworks_k03_errors.prog w) 1 _ fd_L_alike ["_law_one", "_law_two"] (spAlike) := ok_L_alike F_L_alike (z_repr := z_repr)
    have g_L_alike : Gg PySem.Challenge.rw_hingeworks_k03_errors.prog w K mg base "_law_alike" 1 ["_law_one", "_law_two"] (spAlike) := ⟨_, fd_L_alike, m__law_alike, F_L_alike.kp, B_L_alike, o_L_alike⟩
    have o_L_caught : FnOk PySem.Challenge.rw_hingeworks_k03_errors.prog w K mg base (L2.CX PySem.Challenge.rw_hingeworks_k03_errors.prog w) 3 _ fd_L_caught ["_law_place", "_law_a", "_law_b", "_law_c"] (spCaught) := ok_L_caught F_L_caught (z_isinstance := z_isinstance) (z_ValueError := z_ValueError) (m_NotContinuous := m_NotContinuous) (m_HingeError := m_HingeError) (m_Broken := m_Broken) (m_TooLarge := m_TooLarge) (m_BadText := m_BadText) (g_Broken := g_Broken) (g_TooLarge := g_TooLarge) (g_BadText := g_BadText) (CL := CLs K) (CH := (He.ga K "HingeError")) (KC := KC)
    have g_L_caught : Gf PySem.Challenge.rw_hingeworks_k03_errors.prog w K mg base "_law_caught" 3 ["_law_place", "_law_a", "_law_b", "_law_c"] (spCaught) := ⟨_, fd_L_caught, m__law_caught, F_L_caught.kp, B_L_caught, o_L_caught⟩
    have o_law : FnG PySem.Challenge.rw_hingeworks_k03_errors.prog w K mg base (L2.CX PySem.Challenge.rw_hingeworks_k03_errors.prog w) 4 _ fd_law ["_law_script"] (spLaw3 K) := ok_law F_law (z_range := z_range) (z_isinstance := z_isinstance) (z_ValueError := z_ValueError) (m_HingeError := m_HingeError) (g_L_caught := g_L_caught) (g_L_alike := g_L_alike) (g_L_kinds := g_L_kinds) (g_L_first := g_L_first) (g_L_last := g_L_last) (g_L_field := g_L_field) (g_L_pen := g_L_pen) (CL := CLs K) (CH := (He.ga K "HingeError")) (KC := KC)
    exact o_law
abbrev RR0 : PySem.W.OpenRow := PySem.W.OpenLaw.row PySem.Challenge.rw_hingeworks_k03_errors
abbrev hk : PySem.W.Hook := He.hookX 5 faL fnL [] tfL exL
def ob (s : PySem.W.SharedT) : He.AlX := He.obsX 5 faL fnL [] tfL exL (HandSHeadRun.getT s)
theorem ob_eq (s : PySem.W.SharedT) : ob s = hk.obs s.abs := He.obsX_eq (HandSHeadRun.getT_eq s)

end HwL
end

section
namespace HwL
open PySem PySem.Spec PyProof.Rows L2 LamX
variable {P : Program} {w : World} {K : PySem.W.Frag} {mg : Str → Option Value} {base : Heap}

def names : List PySem.Str := (["__name__", "HingeError", "BadText", "BadName", "BadNumber", "BadGiven", "BadAnswers", "BadPlace", "BadTable", "TooLong", "TooLarge", "TooMany", "Unlike", "NotContinuous", "NotPlain", "EmptyPlace", "NotFull", "NoFeature", "NoLine", "NoModel", "TakenName", "Broken", "NothingToUndo", "NothingToRedo"] : List PySem.Str) ++ (["_law_pen", "_law_draw", "_law_pick", "_law_field", "_law_kinds", "_law_first", "_law_last", "_law_alike", "_law_caught"] : List PySem.Str)
theorem run (w : World) : HandSHeadRun.RunEq RR0 (PySem.W.view RR0.prog [34]) hk ob 6000 names w := by
  intro os
  kernel_rfl
end HwL
open PySem PySem.W PySem.Calls PyProof.Rows
theorem PySem.Challenge.cw_hingeworks_k03_errors_holds : PySem.Challenge.rw_hingeworks_k03_errors.Holds := by
  w_on; o_law
  refine HandSHeadRun.head_any (r := HwL.RR0) (q := view HwL.RR0.prog [34]) (H := HwL.hk) (ob := HwL.ob) (M := 6000) (loose := HwL.names) (d := HandSHeadRun.topDef HwL.RR0.prog 34) (kwd := []) HwL.ob_eq
    (by kernel_rfl) (fun s => by kernel_rfl) HwL.run (by kernel_rfl) (by kernel_rfl) (by kernel_rfl) (by rfl) (by first | assumption | decide +kernel) (by decide +kernel) ⟨rfl, rfl, rfl, rfl, rfl, by decide +kernel⟩ ?hw ?hc
  case hw => w_witness2
  case hc =>
    refine L2.walk_G (l := PySem.Challenge.rw_hingeworks_k03_errors) (n := 63) (k := 4) (x := "_law_script") rfl (by decide) (by kernel_rfl) ⟨rfl, by decide, by decide⟩ ?F
    intro w mg fa h Y G hmg0
    obtain ⟨K, KX, c⟩ := Y
    have hmg : mg ("law" : PySem.Str) = some (.ref fa) := by
      have e : (HandSHeadRun.topDef HwL.RR0.prog 34).name = ("law" : PySem.Str) := by kernel_rfl
      rw [← e]
      exact hmg0
    exact ⟨K, KX, HwL.facts KX G hmg c⟩
namespace HwL


end HwL
end

