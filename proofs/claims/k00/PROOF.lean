import PyProof.Rows.All
import Wide.All
import OpenK.AllK
import Wide.FinOn
import KE.KOpsOwn
import HandS.ForMost
import HandS.Exc
import HandS.ExcOwn
import HandS.WordsExc
import HandS.IsInst
import HandS.Defaults
import HandS.Wide
import HandS.Gcd
import HandS.Lambda
import HandS.ExcInit
import HandS.ExcField
import HandS.Flow
import HandS.Rev
import HandS.HeadHook4
import HandS.HeadWalk
import HandS.NoneIn
import KE.KStateDown
import HandS.Head0
import HandS.Head1
import HandS.Head2
import HandS.Head3
import PySem.Challenge.RW_hingeworks_k00_ratios
set_option Elab.async false
set_option linter.all false
set_option maxRecDepth 100000
set_option maxHeartbeats 4000000
section
/-! Operators of an own class. -/
namespace Hw
open PySem PySem.W PySem.Calls PyProof.Rows

section
variable {prog : Program} {w : World} {A : Around} {E : Value → Shared → Prop} {s : Shared} {K : Frag} {x y C L f : Addr} {h₀ : Heap} {m : Str → Option Value} {ox oy : Obj} {od ody : Option Obj}
/-- a + b, both of the same own class -/
theorem bin_same {op : Operator} {Q : Value → Shared → Prop} (F : Fr h₀ L s.heap m) (X₀ : K.In h₀) (I : InstAt s.heap x ox C od) (J : InstAt s.heap y oy C ody) (hc : selfFirst K C = true)
    (hs : findIn K (.ref C) (PySem.dunder op.info.2) = some (some (.ref f))) (hf : isFn K (.ref f) = true)
    (h : wpAny (model prog w) A (call (.ref f) [.ref x, .ref y]) (PySem.W.CmpBack Q) E s) : wpAny (model prog w) A (binaryOp op (.ref x) (.ref y)) Q E s := by
  have X := X₀.keeps F.keep
  obtain ⟨cd, rest, hcd, hm⟩ := ksp_first hc
  rcases hi : op.info with ⟨sym, nm'⟩
  rw [hi] at hs
  dsimp only at hs
  have one := ksp_try X I hs hf h
  obtain ⟨hh, g, d, tt, os⟩ := s
  have L1 : Looks (model prog w) hh (typeOf (.ref x)) (.ref C) := I.type
  have L2 : Looks (model prog w) hh (typeOf (.ref y)) (.ref C) := J.type
  have L3 : Looks (model prog w) hh (fillsNumberSlot (.ref C) nm') true := fills_K X hcd hm hs
  have heq : (Value.ref C == Value.ref C) = true := by simp
  simp only [binaryOp, hi]
  refine wpAny_holding (wpAny_bind ?_)
  unfold binaryOp1
  refine wpAny_bind (L1.at (wpAny_bind (L2.at (wpAny_bind (L3.at ?_)))))
  simp only [heq, if_true]
  repeat ((fail_if_success (with_reducible show wpAny _ _ (tryMethod _ _ _) _ _ _)); lk)
  refine wpAny_mono one (fun r s' hr' => ?_) fun _ _ e => e
  obtain ⟨v, rfl, hq⟩ := hr'
  repeat ((fail_if_success (with_reducible show wpAny _ _ (tryMethod _ _ _) _ _ _)); lk)
  exact hq
end
end Hw

namespace L2
open PySem PySem.Spec PyProof.Rows
/-- what an own class must have for its operators -/
structure OpC (K : PySem.W.Frag) (C : Addr) (op : Operator) (f : Addr) : Prop where
  first : PySem.W.selfFirst K C = true
  at_ : PySem.W.findIn K (.ref C) (PySem.dunder op.info.2) = some (some (.ref f))
  fn : PySem.W.isFn K (.ref f) = true
  refl : PySem.W.findIn K (.ref C) (dunderR op.info.2) = some none
theorem cmpBack_of {X : Cx} {pins : List (Addr × Obj)} {σ : St} {Q : VK} {u : Value} {s : Shared} (h : EP X pins σ Q u s) : PySem.W.CmpBack (EP X pins σ Q) u s := by
  obtain ⟨v, H, I, r, q⟩ := id h
  cases v with
  | non => cases (show u = Value.none from r); exact h
  | bl b => cases (show u = Value.bool b from r); exact h
  | int i => obtain ⟨t, e⟩ := (show ∃ t, u = Value.int i t from r); cases e; exact h
  | str x => obtain ⟨t, e⟩ := (show ∃ t, u = Value.str x t from r); cases e; exact h
  | byt b => obtain ⟨t, e⟩ := (show ∃ t, u = Value.bytes b t from r); cases e; exact h
  | flt b => obtain ⟨t, e⟩ := (show ∃ t, u = Value.float b t from r); cases e; exact h
  | ref a => cases (show u = Value.ref a from r); exact h
  | ty n => cases (show u = Value.type n from r); exact h
/-- an instance at a -/
def Inst (H : Hp) (C : Addr) (x : V) : Prop := ∃ a dx fs, x = .ref a ∧ H a = some (.ins C dx fs)
def rOwn (C : Addr) (sp : Sp) (E : XK) : R2 := fun x y H Q => Inst H C x ∧ ((∃ i, y = .int i) ∨ Inst H C y) ∧ sp [x, y] H Q E
section
variable {X : Cx} {CX : CXT} {k : Nat} {f C : Addr} {fd : FuncData} {ps : List Str} {sp : Sp} {E : XK} {op : Operator}
theorem op_own (c : OpC X.K C op f) (F : FnOk X.prog X.w X.K X.mg X.base CX k f fd ps sp) (hr : Room k X.A) (hb : Binds X.K fd ps []) (hx : Passes CX X E)
    {fo ro : Option Value} (h1 : PySem.W.findIn X.K (.type "int") (PySem.dunder op.info.2) = some fo) (h2 : PySem.W.findIn X.K (.type "int") (dunderR op.info.2) = some ro) (hsub : PySem.W.subIn X.K (.type "int") (.ref C) = some false) :
    OpR X (binaryOp op) (rOwn C sp E) := by
  intro pins s σ H x y u v Q I rx ry h
  obtain ⟨⟨a, dx, fs, ex, ha⟩, hy, hs⟩ := h
  subst ex
  obtain rfl : u = Value.ref a := rx
  obtain ⟨mA, O, _⟩ := ins_get I.hok ha
  obtain ⟨od, J, _⟩ := O.look
  obtain ⟨m, fr⟩ := I.fr
  have run : wpAny (model X.prog X.w) X.A (call (.ref f) [Value.ref a, v]) (PySem.W.CmpBack (EP X pins σ Q)) X.xe s :=
    wpAny_mono (run_fn (vs := [.ref a, y]) (us := [.ref a, v]) F hr hb .nil hx I (.cons rfl (.cons ry .nil)) (by simpa using hs)) (fun _ _ z => cmpBack_of z) fun _ _ z => z
  rcases hy with ⟨i, rfl⟩ | ⟨b, dy, gs, rfl, hb'⟩
  · obtain ⟨t, rfl⟩ := (show ∃ t, v = Value.int i t from ry)
    exact PySem.W.ksp_binT fr I.ok.mod.kin J rfl c.first c.at_ c.fn c.refl (.inl rfl) h1 h2 hsub run
  · obtain rfl : v = Value.ref b := ry
    obtain ⟨mB, O2, _⟩ := ins_get I.hok hb'
    obtain ⟨od2, J2, _⟩ := O2.look
    exact Hw.bin_same fr I.ok.mod.kin J J2 c.first c.at_ c.fn run
/-- -a -/
def rOwn1 (C : Addr) (sp : Sp) (E : XK) : V → Hp → VK → Prop := fun x H Q => Inst H C x ∧ sp [x] H Q E
theorem un_own (hs : PySem.W.findIn X.K (.ref C) "__neg__" = some (some (.ref f))) (hf : PySem.W.isFn X.K (.ref f) = true) (F : FnOk X.prog X.w X.K X.mg X.base CX k f fd ps sp) (hr : Room k X.A) (hb : Binds X.K fd ps []) (hx : Passes CX X E) :
    UnR X (unaryOp .USub) (rOwn1 C sp E) := by
  intro pins s σ H x u Q I rx h
  obtain ⟨⟨a, dx, fs, ex, ha⟩, hs'⟩ := h
  subst ex
  obtain rfl : u = Value.ref a := rx
  obtain ⟨mA, O, _⟩ := ins_get I.hok ha
  obtain ⟨od, J, _⟩ := O.look
  obtain ⟨m, fr⟩ := I.fr
  exact PySem.W.ksp_neg fr I.ok.mod.kin J hs hf (run_fn (vs := [.ref a]) (us := [.ref a]) F hr hb .nil hx I (.cons rfl .nil) (by simpa using hs'))
/-- a == b by an own __eq__, b any value whose type is known -/
def rOwnEq (K : PySem.W.Frag) (C : Addr) (sp : Sp) (E : XK) : R2 := fun x y H Q => Inst H C x ∧ (∃ t, TyX K H y t ∧ PySem.W.notFirst K C t = true) ∧ sp [x, y] H Q E
theorem typ_of {pins : List (Addr × Obj)} {σ : St} {H : Hp} {s : Shared} {x : V} {u t : Value} (I : Inv X pins σ H s) (rx : RelV x u) (ty : TyX X.K H x t) : PySem.W.Looks (model X.prog X.w) s.heap (typeOf u) t := by
  obtain ⟨P, Z, p, _⟩ := kit_of I rx ty
  exact Z.ty _ _ I.kIn p
theorem op_ownEq (hs : PySem.W.findIn X.K (.ref C) "__eq__" = some (some (.ref f))) (hf : PySem.W.isFn X.K (.ref f) = true) (F : FnOk X.prog X.w X.K X.mg X.base CX k f fd ps sp) (hr : Room k X.A) (hb : Binds X.K fd ps []) (hx : Passes CX X E) :
    OpR X (compareOp .Eq) (rOwnEq X.K C sp E) := by
  intro pins s σ H x y u v Q I rx ry h
  obtain ⟨⟨a, dx, fs, ex, ha⟩, ⟨t, ty, nf⟩, hs'⟩ := h
  subst ex
  obtain rfl : u = Value.ref a := rx
  obtain ⟨mA, O, _⟩ := ins_get I.hok ha
  obtain ⟨od, J, _⟩ := O.look
  obtain ⟨m, fr⟩ := I.fr
  show wpAny (model X.prog X.w) X.A (richCompare .Eq (.ref a) v) (EP X pins σ Q) X.xe s
  refine PySem.W.cmp_K (op := .Eq) hr.units0 fr I.ok.mod.kin J (typ_of I ry ty) nf hs hf ?_
  exact wpAny_mono (run_fn (vs := [.ref a, y]) (us := [.ref a, v]) F hr hb .nil hx I (.cons rfl (.cons ry .nil)) (by simpa using hs')) (fun _ _ z => cmpBack_of z) fun _ _ z => z
end
end L2
end

section
/-! Ratios as rationals; Euclid. -/
namespace HwM
theorem fdiv_exact {a g : Int} (h : g ∣ a) : a.fdiv g = a / g := Int.fdiv_eq_ediv_of_dvd h
/-- the top of the lowest terms, by floor division -/
theorem num_fdiv {t b : Int} (hb : b ≠ 0) : t.fdiv (if b < 0 then -((Nat.gcd t.natAbs b.natAbs : Nat) : Int) else ((Nat.gcd t.natAbs b.natAbs : Nat) : Int)) = (Rat.divInt t b).num := by
  have hg : ((Nat.gcd t.natAbs b.natAbs : Nat) : Int) ∣ t := Int.ofNat_dvd_left.mpr (Nat.gcd_dvd_left _ _)
  have e : (b.gcd t : Nat) = Nat.gcd t.natAbs b.natAbs := by unfold Int.gcd; exact Nat.gcd_comm _ _
  rw [Rat.num_divInt, e]
  split
  · rename_i h
    rw [fdiv_exact (Int.neg_dvd.mpr hg), Int.sign_eq_neg_one_of_neg h, Int.ediv_neg, Int.neg_one_mul, Int.neg_ediv_of_dvd hg]
  · rename_i h
    rw [fdiv_exact hg, Int.sign_eq_one_of_pos (by omega), Int.one_mul]
theorem den_fdiv {t b : Int} (hb : b ≠ 0) : b.fdiv (if b < 0 then -((Nat.gcd t.natAbs b.natAbs : Nat) : Int) else ((Nat.gcd t.natAbs b.natAbs : Nat) : Int)) = ((Rat.divInt t b).den : Int) := by
  have hg : ((Nat.gcd t.natAbs b.natAbs : Nat) : Int) ∣ b := Int.ofNat_dvd_left.mpr (Nat.gcd_dvd_right _ _)
  have e : (b.gcd t : Nat) = Nat.gcd t.natAbs b.natAbs := by unfold Int.gcd; exact Nat.gcd_comm _ _
  rw [Rat.den_divInt, e, if_neg hb, Int.natCast_ediv]
  split
  · rename_i h
    rw [fdiv_exact (Int.neg_dvd.mpr hg), Int.ediv_neg]
    have : (b.natAbs : Int) = -b := by omega
    rw [this, Int.neg_ediv_of_dvd hg]
  · rename_i h
    rw [fdiv_exact hg]
    have : (b.natAbs : Int) = b := by omega
    rw [this]
theorem gcd_ne {t b : Int} (hb : b ≠ 0) : (if b < 0 then -((Nat.gcd t.natAbs b.natAbs : Nat) : Int) else ((Nat.gcd t.natAbs b.natAbs : Nat) : Int)) ≠ 0 := by
  have : 0 < Nat.gcd t.natAbs b.natAbs := Nat.gcd_pos_of_pos_right _ (by omega)
  split <;> omega
theorem gcd_le {t b : Int} (hb : b ≠ 0) : (if b < 0 then -((Nat.gcd t.natAbs b.natAbs : Nat) : Int) else ((Nat.gcd t.natAbs b.natAbs : Nat) : Int)).natAbs ≤ b.natAbs := by
  have : Nat.gcd t.natAbs b.natAbs ≤ b.natAbs := Nat.gcd_le_right _ (by omega)
  split <;> omega
theorem fdiv_le (a : Int) {b : Int} (hb : 0 < b) : (a.fdiv b).natAbs ≤ a.natAbs := by
  rw [Int.fdiv_eq_ediv_of_nonneg _ (by omega)]
  have h1 := Int.mul_ediv_add_emod a b
  have h2 := Int.emod_nonneg a (b := b) (by omega)
  have h3 := Int.emod_lt_of_pos a hb
  by_cases h : 0 ≤ a
  · have := Int.ediv_le_self b h
    have := Int.ediv_nonneg h (show 0 ≤ b by omega)
    omega
  · have h4 : a ≤ a / b := by
      rw [Int.le_ediv_iff_mul_le hb]
      have : a * b ≤ a * 1 := Int.mul_le_mul_of_nonpos_left (by omega) (by omega)
      omega
    have h5 : a / b < 0 := Int.ediv_neg_of_neg_of_pos (by omega) hb
    omega
theorem log2_lt {n k : Nat} (hk : 0 < k) (h : n < 2 ^ k) : n.log2 < k := by
  by_cases z : n = 0
  · subst z; simpa using hk
  · exact (Nat.log2_lt z).mpr h
/-! sizes -/
/-- both parts are below 2 ^ n -/
def Bd (n : Nat) (q : Rat) : Prop := q.num.natAbs < 2 ^ n ∧ q.den < 2 ^ n
theorem Bd.mono {m n : Nat} {q : Rat} (h : Bd m q) (hn : m ≤ n) : Bd n q :=
  ⟨Nat.lt_of_lt_of_le h.1 (Nat.pow_le_pow_right (by decide) hn), Nat.lt_of_lt_of_le h.2 (Nat.pow_le_pow_right (by decide) hn)⟩
theorem mul_lt {a b m n : Nat} (ha : a < 2 ^ m) (hb : b < 2 ^ n) : a * b < 2 ^ (m + n) := by
  rw [Nat.pow_add]; exact Nat.mul_lt_mul'' ha hb
theorem add_lt {a b n : Nat} (ha : a < 2 ^ n) (hb : b < 2 ^ n) : a + b < 2 ^ (n + 1) := by
  rw [Nat.pow_succ]; omega
theorem lt_mono {a m n : Nat} (h : a < 2 ^ m) (hn : m ≤ n) : a < 2 ^ n := Nat.lt_of_lt_of_le h (Nat.pow_le_pow_right (by decide) hn)
theorem divInt_bd {t b : Int} {n : Nat} (hn : 0 < n) (ht : t.natAbs < 2 ^ n) (hb : b.natAbs < 2 ^ n) : Bd n (Rat.divInt t b) := by
  refine ⟨?_, ?_⟩
  · rw [Rat.num_divInt]
    refine Nat.lt_of_le_of_lt ?_ ht
    refine Nat.le_trans (Int.natAbs_ediv_le_natAbs _ _) ?_
    rw [Int.natAbs_mul]
    have : b.sign.natAbs ≤ 1 := by
      rcases Int.lt_trichotomy b 0 with h | h | h
      · rw [Int.sign_eq_neg_one_of_neg h]; decide
      · subst h; decide
      · rw [Int.sign_eq_one_of_pos h]; decide
    calc b.sign.natAbs * t.natAbs ≤ 1 * t.natAbs := Nat.mul_le_mul_right _ this
      _ = t.natAbs := Nat.one_mul _
  · rw [Rat.den_divInt]
    split
    · exact Nat.one_lt_two_pow (by omega)
    · exact Nat.lt_of_le_of_lt (Nat.div_le_self _ _) hb
theorem num_add_bd {q r : Rat} {m n : Nat} (hq : Bd m q) (hr : Bd n r) : (q.num * r.den + r.num * q.den).natAbs < 2 ^ (m + n + 1) := by
  refine Nat.lt_of_le_of_lt (Int.natAbs_add_le _ _) ?_
  rw [Int.natAbs_mul, Int.natAbs_mul]
  refine add_lt ?_ ?_
  · exact mul_lt hq.1 (by simpa using hr.2)
  · rw [Nat.mul_comm]; exact mul_lt (by simpa using hq.2) hr.1
theorem num_sub_bd {q r : Rat} {m n : Nat} (hq : Bd m q) (hr : Bd n r) : (q.num * r.den - r.num * q.den).natAbs < 2 ^ (m + n + 1) := by
  refine Nat.lt_of_le_of_lt (Int.natAbs_sub_le _ _) ?_
  rw [Int.natAbs_mul, Int.natAbs_mul]
  refine add_lt ?_ ?_
  · exact mul_lt hq.1 (by simpa using hr.2)
  · rw [Nat.mul_comm]; exact mul_lt (by simpa using hq.2) hr.1
theorem den_bd {q r : Rat} {m n : Nat} (hq : Bd m q) (hr : Bd n r) : ((q.den : Int) * r.den).natAbs < 2 ^ (m + n) := by
  rw [Int.natAbs_mul]; exact mul_lt (by simpa using hq.2) (by simpa using hr.2)
theorem num_mul_bd {q r : Rat} {m n : Nat} (hq : Bd m q) (hr : Bd n r) : (q.num * r.num).natAbs < 2 ^ (m + n) := by
  rw [Int.natAbs_mul]; exact mul_lt hq.1 hr.1
theorem den_ne (q : Rat) : (q.den : Int) ≠ 0 := by have := q.den_pos; omega
theorem dens_ne (q r : Rat) : (q.den : Int) * r.den ≠ 0 := Int.mul_ne_zero (den_ne q) (den_ne r)
theorem add_eq (q r : Rat) : Rat.divInt (q.num * r.den + r.num * q.den) ((q.den : Int) * r.den) = q + r := by
  rw [Rat.add_def', ← Rat.divInt_ofNat]; norm_cast
theorem sub_eq (q r : Rat) : Rat.divInt (q.num * r.den - r.num * q.den) ((q.den : Int) * r.den) = q - r := by
  rw [Rat.sub_def', ← Rat.divInt_ofNat]; norm_cast
theorem mul_eq (q r : Rat) : Rat.divInt (q.num * r.num) ((q.den : Int) * r.den) = q * r := by
  rw [Rat.mul_def', ← Rat.divInt_ofNat]; norm_cast
theorem div_eq (q r : Rat) : Rat.divInt (q.num * r.den) ((q.den : Int) * r.num) = q / r := by
  rw [Rat.div_def, Rat.inv_def, ← Rat.divInt_mul_divInt, Rat.num_divInt_den]
theorem neg_eq (q : Rat) : Rat.divInt (-q.num) (q.den : Int) = -q := by
  rw [← Rat.neg_divInt, Rat.num_divInt_den]
theorem self_eq (q : Rat) : Rat.divInt q.num (q.den : Int) = q := Rat.num_divInt_den q
theorem scale_eq (q : Rat) {k : Int} (hk : k ≠ 0) : Rat.divInt (q.num * k) ((q.den : Int) * k) = q := by
  rw [Rat.divInt_mul_right hk, Rat.num_divInt_den]
theorem int_eq (i : Int) : Rat.divInt i 1 = (i : Rat) := by
  have := Rat.num_divInt_den (i : Rat)
  simpa using this
theorem add_bd {q r : Rat} {m n : Nat} (hq : Bd m q) (hr : Bd n r) : Bd (m + n + 1) (q + r) := by
  rw [← add_eq]; exact divInt_bd (by omega) (num_add_bd hq hr) (lt_mono (den_bd hq hr) (by omega))
theorem sub_bd {q r : Rat} {m n : Nat} (hq : Bd m q) (hr : Bd n r) : Bd (m + n + 1) (q - r) := by
  rw [← sub_eq]; exact divInt_bd (by omega) (num_sub_bd hq hr) (lt_mono (den_bd hq hr) (by omega))
theorem mul_bd {q r : Rat} {m n : Nat} (h0 : 0 < m + n) (hq : Bd m q) (hr : Bd n r) : Bd (m + n) (q * r) := by
  rw [← mul_eq]; exact divInt_bd h0 (num_mul_bd hq hr) (den_bd hq hr)
theorem neg_bd {q : Rat} {n : Nat} (hq : Bd n q) : Bd n (-q) := ⟨by simpa using hq.1, hq.2⟩
theorem int_bd {i : Int} {n : Nat} (hn : 0 < n) (h : i.natAbs < 2 ^ n) : Bd n (i : Rat) := ⟨by simpa using h, by simpa using Nat.one_lt_two_pow (by omega)⟩
/-! signs -/
theorem sign_num (q : Rat) : (q.num < 0 ↔ q < 0) ∧ (0 < q.num ↔ 0 < q) := by
  constructor
  · rw [Rat.lt_iff]; simp
  · rw [Rat.lt_iff]; simp
/-- -1, 0, 1 -/
def cmp (q r : Rat) : Int := if q < r then -1 else if r < q then 1 else 0
theorem gap_neg (q r : Rat) : q.num * r.den - r.num * q.den < 0 ↔ q < r := by rw [Rat.lt_iff]; omega
theorem gap_pos (q r : Rat) : 0 < q.num * r.den - r.num * q.den ↔ r < q := by rw [Rat.lt_iff]; omega
theorem cmp_lt (q r : Rat) : cmp q r < 0 ↔ q < r := by
  unfold cmp
  split
  · simp [*]
  · split <;> simp [*]
theorem cmp_le (q r : Rat) : cmp q r ≤ 0 ↔ q ≤ r := by
  unfold cmp
  split
  · rename_i h; simp [Rat.le_of_lt h]
  · rename_i h
    split
    · rename_i h2; simp [Rat.not_le.mpr h2]
    · rename_i h2; simp [Rat.not_lt.mp h2]
theorem cmp_zero (q r : Rat) : cmp q r = 0 ↔ q = r := by
  unfold cmp
  split
  · rename_i h; simp [Rat.ne_of_lt h]
  · rename_i h
    split
    · rename_i h2; simp [Rat.ne_of_gt h2]
    · rename_i h2; simp [Rat.le_antisymm (Rat.not_lt.mp h2) (Rat.not_lt.mp h)]
theorem cmp_sub (q r : Rat) : cmp (q - r) 0 = cmp q r := by
  have h1 : (q - r < 0) ↔ q < r := by
    rw [Rat.lt_iff_sub_pos, Rat.lt_iff_sub_pos q r]
    have : (0 : Rat) - (q - r) = r - q := by grind
    rw [this]
  have h2 : (0 < q - r) ↔ r < q := by rw [Rat.lt_iff_sub_pos r q]
  unfold cmp
  simp [h1, h2]
/-! Euclid's laps -/
theorem lap {x y : Int} {i n : Nat} (h0 : 0 ≤ x) (hy : 0 < y) (hyn : y.natAbs < 2 ^ n) (hi : i = 0 ∨ (y < x ∧ x.natAbs * y.natAbs * 2 ^ i < 2 ^ (2 * n + 2))) :
    x % y < y ∧ 0 ≤ x % y ∧ (x % y).natAbs < 2 ^ n ∧ y.natAbs * (x % y).natAbs * 2 ^ (i + 1) < 2 ^ (2 * n + 2) := by
  have a := Int.emod_nonneg x (show y ≠ 0 by omega)
  have b := Int.emod_lt_of_pos x hy
  have hr : (x % y).natAbs < 2 ^ n := by omega
  refine ⟨b, a, hr, ?_⟩
  rcases hi with rfl | ⟨h1, h2⟩
  · have := mul_lt hyn hr
    have e : 2 ^ (2 * n + 2) = 2 ^ (n + n) * 4 := by rw [show 2 * n + 2 = (n + n) + 2 by omega, Nat.pow_add]
    rw [e]
    simp only [Nat.zero_add, Nat.pow_one]
    omega
  · have hx : 2 * (x % y) < x := by
      have e := Int.mul_ediv_add_emod x y
      have q : 1 ≤ x / y := (Int.le_ediv_iff_mul_le hy).mpr (by omega)
      have : y * 1 ≤ y * (x / y) := Int.mul_le_mul_of_nonneg_left q (by omega)
      omega
    have h3 : 2 * (x % y).natAbs ≤ x.natAbs := by omega
    refine Nat.lt_of_le_of_lt ?_ h2
    calc y.natAbs * (x % y).natAbs * 2 ^ (i + 1) = y.natAbs * (2 * (x % y).natAbs) * 2 ^ i := by rw [Nat.pow_succ]; grind
      _ ≤ y.natAbs * x.natAbs * 2 ^ i := Nat.mul_le_mul_right _ (Nat.mul_le_mul_left _ h3)
      _ = x.natAbs * y.natAbs * 2 ^ i := by rw [Nat.mul_comm y.natAbs]
theorem laps_end {x y : Int} {n : Nat} (h0 : 0 ≤ y) (hy : y < x) (h : x.natAbs * y.natAbs * 2 ^ n < 2 ^ n) : y = 0 := by
  have : x.natAbs * y.natAbs < 1 := by
    have h2 : x.natAbs * y.natAbs * 2 ^ n < 1 * 2 ^ n := by simpa using h
    exact Nat.lt_of_mul_lt_mul_right h2
  have h3 : x.natAbs * y.natAbs = 0 := by omega
  rcases Nat.mul_eq_zero.mp h3 with e | e <;> omega
theorem gcd_step {x y : Int} (h0 : 0 ≤ x) (hy : 0 < y) : Nat.gcd y.natAbs (x % y).natAbs = Nat.gcd x.natAbs y.natAbs := by
  have e : (x % y).natAbs = x.natAbs % y.natAbs := by
    have := Int.natAbs_emod_of_nonneg h0 y
    exact this
  rw [e, Nat.gcd_comm y.natAbs, ← Nat.gcd_rec, Nat.gcd_comm]
end HwM
end

section
/-! Calls by name, in short. -/
namespace L2
open PySem PySem.Spec PyProof.Rows
/-- a def of the text, as it stands behind the top -/
abbrev FD (K : PySem.W.Frag) (st : Stmt) (x qual : Str) (f : Addr) (fd : FuncData) : Prop := FunD K x qual (defArgs st) (defBody st) (defScope st) [] [] f fd
section
variable {P : Program} {w : World} {K : PySem.W.Frag} {mg : Str → Option Value} {base : Heap} {x qual : Str} {params : Arguments} {body : List Stmt} {scope : Scope} {dvs : List V} {kws : List (Str × V)} {f : Addr} {fd : FuncData}
/-- a def that lets no exception out -/
theorem FunD.ok0 {N ps : List Str} {k : Nat} {sp : Sp} (F : FunD K x qual params body scope dvs kws f fd) (S : FnScope N ps scope) (len : ∀ vs H Q E, sp vs H Q E → vs.length = ps.length)
    (hbody : ∀ (cdv : Value) (A : Around) (outer : List Env) (s : Shared) (H : Hp) (vs : List V) (Q : VK) (E : XK), Room k (A.deeper (envOfC qual scope s.heap.objs.size f cdv)) → sp vs H Q E →
      ∃ t, PSs (cxOf (L2.CX P w) P w K mg base N qual scope f cdv A outer s H E).nox body t ∧ t { nx := fun _ H' => Q .non H', rt := Q } (start N vs) H) : FnOk P w K mg base (L2.CX P w) (k + 1) f fd ps sp :=
  FunD.ok F S len fun cdv A outer s H vs Q E hr hsp => let ⟨t, h, q⟩ := hbody cdv A outer s H vs Q E hr hsp; ⟨t, h.nox, q⟩
theorem FunD.okX {N ps : List Str} {k : Nat} {sp : Sp} (F : FunD K x qual params body scope dvs kws f fd) (S : FnScope N ps scope) (len : ∀ vs H Q E, sp vs H Q E → vs.length = ps.length)
    (hbody : ∀ (cdv : Value) (A : Around) (outer : List Env) (s : Shared) (H : Hp) (vs : List V) (Q : VK) (E : XK), Room k (A.deeper (envOfC qual scope s.heap.objs.size f cdv)) → sp vs H Q E →
      ∃ t, PSs (cxOf (L2.CX P w) P w K mg base N qual scope f cdv A outer s H E) body t ∧ t { nx := fun _ H' => Q .non H', rt := Q } (start N vs) H) : FnOk P w K mg base (L2.CX P w) (k + 1) f fd ps sp :=
  FunD.ok F S len hbody
end
/-- a def that stands at the module's name x and keeps the promise sp -/
structure Gf (P : Program) (w : World) (K : PySem.W.Frag) (mg : Str → Option Value) (base : Heap) (x : Str) (k : Nat) (ps : List Str) (sp : Sp) : Prop where
  ex : ∃ (f : Addr) (fd : FuncData), mg x = some (.ref f) ∧ PySem.W.keepIn K (.ref f) = true ∧ Binds K fd ps [] ∧ FnOk P w K mg base (L2.CX P w) k f fd ps sp
/-- a method of the class at C -/
structure Mf (P : Program) (w : World) (K : PySem.W.Frag) (mg : Str → Option Value) (base : Heap) (C : Addr) (m : Str) (k : Nat) (ps : List Str) (sp : Sp) : Prop where
  cl : Cls K C
  ex : ∃ (f : Addr) (fd : FuncData), Meth K C m f ∧ Binds K fd ps [] ∧ FnOk P w K mg base (L2.CX P w) k f fd ps sp
/-- a class whose __init__ keeps sp; dvs: the defaults that are filled in -/
structure Kf (P : Program) (w : World) (K : PySem.W.Frag) (mg : Str → Option Value) (base : Heap) (x : Str) (C : Addr) (k : Nat) (ps : List Str) (dvs : List V) (sp : Sp) : Prop where
  ex : ∃ (f : Addr) (fd : FuncData) (ds : List Value), mg x = some (.ref C) ∧ Mk K C f ∧ Binds K fd ps ds ∧ Vals dvs ds ∧ FnOk P w K mg base (L2.CX P w) k f fd ps sp
section
variable {X : Cx} {j k : Nat} {x m : Str} {C : Addr} {ps : List Str} {dvs : List V} {sp : Sp} {E : XK} {e o : Expr} {es : List Expr} {t : TA} {ta : TE} {p pos apos : Pos}
theorem pe_g (c : Gf X.prog X.w X.K X.mg X.base x k ps sp) (hr : Room j X.A) (hk : k ≤ j) (hx : Passes (L2.CX X.prog X.w) X E) (hg : Gl X x) (ha : PA X (e :: es) t) (hdb : (x == ("__debug__" : Str)) = false := by decide)
    (he : starEach (e :: es) X.env = (false, eval e X.env) :: starEach es X.env := by rfl) (hpl : (backTo pos (starEach es X.env)).any (·.1) = false := by rfl) : PE X (.Call (.Name x p) (e :: es) [] pos) (tCall sp [] E t) := by
  obtain ⟨f, fd, h1, h2, h3, h4⟩ := c.ex
  exact pe_call h4 (hr.mono hk) hg h1 h2 h3 .nil hx ha hdb he hpl
theorem pe_g0 (c : Gf X.prog X.w X.K X.mg X.base x k ps sp) (hr : Room j X.A) (hk : k ≤ j) (hx : Passes (L2.CX X.prog X.w) X E) (hg : Gl X x) (hdb : (x == ("__debug__" : Str)) = false := by decide) : PE X (.Call (.Name x p) [] [] pos) (tCall sp [] E tNil) := by
  obtain ⟨f, fd, h1, h2, h3, h4⟩ := c.ex
  exact pe_call0 h4 (hr.mono hk) hg h1 h2 h3 .nil hx hdb
theorem pe_m {pl : Sem Bool} (c : Mf X.prog X.w X.K X.mg X.base C m k ps sp) (hr : Room j X.A) (hk : k ≤ j) (hx : Passes (L2.CX X.prog X.w) X E) (he : PE X o ta) (ha : PA X (e :: es) t)
    (hst : starEach (e :: es) X.env = (false, eval e X.env) :: starEach es X.env := by rfl) (hpl : (backTo pos (starEach es X.env)).any (·.1) = false := by rfl)
    (ht : eval (.Call (.Attribute o m apos) (e :: es) [] pos) X.env = (do
      let ov ← eval o X.env
      standAt apos.atName
      let (f, first) ← holding [ov] (getMethod ov m pl)
      callWith pos f first (backTo pos (starEach (e :: es) X.env)) (backToKw pos (keywordEach [] X.env))) := by rfl) :
    PE X (.Call (.Attribute o m apos) (e :: es) [] pos) (tMeth C m sp [] E ta t) := by
  obtain ⟨f, fd, h1, h2, h3⟩ := c.ex
  exact pe_meth he c.cl h1 h3 (hr.mono hk) h2 .nil hx ha hst hpl ht
theorem pe_k (c : Kf X.prog X.w X.K X.mg X.base x C k ps dvs sp) (hr : Room j X.A) (hk : k + 1 ≤ j) (hx : Passes (L2.CX X.prog X.w) X E) (hg : Gl X x) (ha : PA X (e :: es) t) (hdb : (x == ("__debug__" : Str)) = false := by decide)
    (he : starEach (e :: es) X.env = (false, eval e X.env) :: starEach es X.env := by rfl) (hpl : (backTo pos (starEach es X.env)).any (·.1) = false := by rfl) : PE X (.Call (.Name x p) (e :: es) [] pos) (tMake C sp dvs E t) := by
  obtain ⟨f, fd, ds, h1, h2, h3, h4, h5⟩ := c.ex
  exact pe_make h2 h5 (hr.mono hk) hg h1 h3 h4 hx ha hdb he hpl
theorem cxOf_K {CX : CXT} {P : Program} {w : World} {K : PySem.W.Frag} {mg : Str → Option Value} {base : Heap} {N : List Str} {q : Str} {sc : Scope} {f : Addr} {cd : Value} {A : Around} {o : List Env} {s : Shared} {H : Hp} {E : XK} : (cxOf CX P w K mg base N q sc f cd A o s H E).K = K := rfl
/-- a tuple (top, bottom) -/
def qv (q : Rat) : List V := [.int q.num, .int (q.den : Int)]
theorem at0 {q : Rat} {v : V} : atI (qv q) 0 = some v ↔ v = .int q.num := by
  have e : atI (qv q) ((0 : Nat) : Int) = some (.int q.num) := atI_nat rfl
  have e2 : atI (qv q) 0 = some (.int q.num) := e
  rw [e2]
  exact ⟨fun z => (Option.some.inj z).symm, fun z => by rw [z]⟩
theorem at1 {q : Rat} {v : V} : atI (qv q) 1 = some v ↔ v = .int (q.den : Int) := by
  have e : atI (qv q) ((1 : Nat) : Int) = some (.int (q.den : Int)) := atI_nat rfl
  have e2 : atI (qv q) 1 = some (.int (q.den : Int)) := e
  rw [e2]
  exact ⟨fun z => (Option.some.inj z).symm, fun z => by rw [z]⟩
def rIxTH : R2 := fun x y H Q => ∃ p xs i v, x = .ref p ∧ y = .int i ∧ H p = some (.tup xs) ∧ atI xs i = some v ∧ Q v H
def rIxLH : R2 := fun x y H Q => ∃ p xs i v, x = .ref p ∧ y = .int i ∧ H p = some (.lst xs) ∧ atI xs i = some v ∧ Q v H
theorem ix_tupH {X : Cx} : IxR X rIxTH := fun va sl pins s σ H x y v u Q I rx ry h hs => by
  obtain ⟨p, xs, i, z, e1, e2, e3, e4, q⟩ := h
  exact ix_tup va sl pins s σ H x y v u Q I rx ry ⟨p, xs, i, z, e1, e2, SqT.of e3, e4, q⟩ hs
theorem ix_listH {X : Cx} : IxR X rIxLH := fun va sl pins s σ H x y v u Q I rx ry h hs => by
  obtain ⟨p, xs, i, z, e1, e2, e3, e4, q⟩ := h
  exact ix_list va sl pins s σ H x y v u Q I rx ry ⟨p, xs, i, z, e1, e2, SqL.of e3, e4, q⟩ hs
theorem call_isiE {X : Cx} {K : PySem.W.Frag} (h : X.K = K) : CallR X (.builtin "isinstance") (rIsi K) := by subst h; exact call_isi
theorem ne_nil {K : PySem.W.Frag} {H : Hp} {a b : Addr} {Q : VK} (ha : H a = some (.lst [])) (hb : H b = some (.lst [])) (k : Q (.bl false) H) : rNeD K (.ref a) (.ref b) H Q :=
  ⟨.list [], .list [], .lst (SqL.of ha) .nil, .lst (SqL.of hb) .nil, by rfl, by rfl, k⟩
theorem eq_pair {K : PySem.W.Frag} {H : Hp} {a b : Addr} {t1 b1 t2 b2 : Int} {Q : VK} (ha : H a = some (.tup [.int t1, .int b1])) (hb : H b = some (.tup [.int t2, .int b2])) (k : Q (.bl (decide (t1 = t2 ∧ b1 = b2))) H) : rEqD K (.ref a) (.ref b) H Q := by
  refine ⟨.tuple [.int t1, .int b1], .tuple [.int t2, .int b2], .tup (SqT.of ha) (.cons (.int _) (.cons (.int _) .nil)), .tup (SqT.of hb) (.cons (.int _) (.cons (.int _) .nil)), by rfl, by rfl, ?_⟩
  have e : PyData.eqv (.tuple [.int t1, .int b1]) (.tuple [.int t2, .int b2]) = decide (t1 = t2 ∧ b1 = b2) := by
    simp [PyData.eqv, PyData.eqvAll, Bool.beq_eq_decide_eq]
  rw [e]
  exact k
section
variable {K : PySem.W.Frag} {H : Hp} {R : Bool → Prop} {i : Int} {c : Bool}
theorem isi_ii (h : R true) : ∃ x x1, ClsV (.ty "int") x1 ∧ TyX K H (.int i) x ∧ ∃ b, PySem.W.kitOne K x x1 = some b ∧ R b := ⟨.type "int", .type "int", .ty _, .base (.int i), true, kit_ty (by decide +kernel), h⟩
theorem isi_ib (h : R false) : ∃ x x1, ClsV (.ty "bool") x1 ∧ TyX K H (.int i) x ∧ ∃ b, PySem.W.kitOne K x x1 = some b ∧ R b := ⟨.type "int", .type "bool", .ty _, .base (.int i), false, kit_ty (by decide +kernel), h⟩
theorem isi_bb (h : R true) : ∃ x x1, ClsV (.ty "bool") x1 ∧ TyX K H (.bl c) x ∧ ∃ b, PySem.W.kitOne K x x1 = some b ∧ R b := ⟨.type "bool", .type "bool", .ty _, .base (.bl c), true, kit_ty (by decide +kernel), h⟩
end
theorem eq_bl3 {K : PySem.W.Frag} {H : Hp} {a b : Addr} {x y z : Bool} {Q : VK} (ha : H a = some (.lst [.bl x, .bl y, .bl z])) (hb : H b = some (.lst [.bl x, .bl y, .bl z])) (k : Q (.bl true) H) : rEqD K (.ref a) (.ref b) H Q := by
  refine ⟨.list [.bool x, .bool y, .bool z], .list [.bool x, .bool y, .bool z], .lst (SqL.of ha) (.cons (.bl _) (.cons (.bl _) (.cons (.bl _) .nil))), .lst (SqL.of hb) (.cons (.bl _) (.cons (.bl _) (.cons (.bl _) .nil))), by rfl, by rfl, ?_⟩
  have e : PyData.eqv (.list [.bool x, .bool y, .bool z]) (.list [.bool x, .bool y, .bool z]) = true := by simp [PyData.eqv, PyData.eqvAll]
  rw [e]
  exact k
def gTupH (n : Nat) (t : TGs) : TG := fun v σ H Q => ∃ a xs, v = .ref a ∧ H a = some (.tup xs) ∧ xs.length = n ∧ t xs σ H Q
theorem pg_tupH {X : Cx} {es : List Expr} {k : Nat} {t : TGs} {n : Nat} {pos : Pos} (hc : X.calm = true) (h : PGs X es t)
    (hn : (assignEach es X.env).length = n := by rfl) (hst : (assignEach es X.env).findIdx? (·.1) = none := by rfl) : PG X (.Tuple es k pos) (gTupH n t) :=
  ⟨fun pins s σ H v u Q I r hw => by
    obtain ⟨a, xs, e1, e2, e3, e4⟩ := hw
    exact (pg_tup (pos := pos) (k := k) hc h hn hst).run pins s σ H v u Q I r ⟨a, xs, e1, SqT.of e2, e3, e4⟩⟩
theorem line_le {n : Nat} (h : n ≤ 1000) : n ≤ sizeLine := Nat.le_trans h (by decide)
theorem scal_ii {i j : Int} : scal (.int i) (.int j) = true := rfl
theorem scal_bb {i j : Bool} : scal (.bl i) (.bl j) = true := rfl
theorem scal_ss {i j : Str} : scal (.str i) (.str j) = true := rfl
theorem same_new {H : Hp} {p : Addr} {o : HO} (h : H p = none) : Same H (upd H p o) := fun b u e => by rw [upd_ne (ne_of_none e h)]; exact e
theorem seqL_same {K : PySem.W.Frag} {H H' : Hp} {a : Addr} {xs : List V} (e : Same H H') (h : SqL K H a xs) : SqL K H' a xs := e.seq h
theorem seqT_same {K : PySem.W.Frag} {H H' : Hp} {a : Addr} {xs : List V} (e : Same H H') (h : SqT K H a xs) : SqT K H' a xs :=
  h.elim (fun h => .inl (h.elim (fun h => .inl (e _ _ h)) fun ⟨o, h⟩ => .inr ⟨o, e _ _ h⟩)) fun h => .inr h
theorem upd_get {H : Hp} {p : Addr} {o u : HO} (h : H p = none) {b : Addr} (e : H b = some u) : upd H p o b = some u := by rw [upd_ne (ne_of_none e h)]; exact e
/-- floor division by any divisor below 2 ^ 9000 in size, not 0 -/
def CDivX (_ j : Int) : Prop := j ≠ 0 ∧ j.natAbs.log2 < 9000
theorem op_fdivX : OpR X (binaryOp .FloorDiv) (rI CDivX fun i j => .int (i.fdiv j)) := opI fun i j _ _ _ _ _ hc q => floordiv_int hc.1 q (.inl (PyProof.noPylong_of_log2 hc.2))
end

/-- an operator of the own class at C -/
structure Of (P : Program) (w : World) (K : PySem.W.Frag) (mg : Str → Option Value) (base : Heap) (C : Addr) (op : Operator) (k : Nat) (sp : Sp) : Prop where
  ex : ∃ (f : Addr) (fd : FuncData) (ps : List Str) (fo ro : Option Value), OpC K C op f ∧ Binds K fd ps [] ∧ FnOk P w K mg base (L2.CX P w) k f fd ps sp ∧
    PySem.W.findIn K (.type "int") (PySem.dunder op.info.2) = some fo ∧ PySem.W.findIn K (.type "int") (dunderR op.info.2) = some ro ∧ PySem.W.subIn K (.type "int") (.ref C) = some false
/-- -x of the own class at C -/
structure Nf (P : Program) (w : World) (K : PySem.W.Frag) (mg : Str → Option Value) (base : Heap) (C : Addr) (k : Nat) (sp : Sp) : Prop where
  ex : ∃ (f : Addr) (fd : FuncData) (ps : List Str), PySem.W.findIn K (.ref C) "__neg__" = some (some (.ref f)) ∧ PySem.W.isFn K (.ref f) = true ∧ Binds K fd ps [] ∧ FnOk P w K mg base (L2.CX P w) k f fd ps sp
/-- == of the own class at C -/
structure Ef (P : Program) (w : World) (K : PySem.W.Frag) (mg : Str → Option Value) (base : Heap) (C : Addr) (k : Nat) (sp : Sp) : Prop where
  ex : ∃ (f : Addr) (fd : FuncData) (ps : List Str), PySem.W.findIn K (.ref C) "__eq__" = some (some (.ref f)) ∧ PySem.W.isFn K (.ref f) = true ∧ Binds K fd ps [] ∧ FnOk P w K mg base (L2.CX P w) k f fd ps sp
/-- an own exception class at C, its __init__ keeps sp -/
structure Xf (P : Program) (w : World) (K : PySem.W.Frag) (mg : Str → Option Value) (base : Heap) (x : Str) (C : Addr) (k : Nat) (sp : Sp) : Prop where
  ex : ∃ (f : Addr) (fd : FuncData) (ps : List Str), mg x = some (.ref C) ∧ OexC K C ∧ PySem.W.findIn K (.ref C) "__init__" = some (some (.ref f)) ∧ PySem.W.typeIn K (.ref f) = some (.type "function") ∧ Binds K fd ps [] ∧ FnOk P w K mg base (L2.CX P w) k f fd ps sp
section
variable {X : Cx} {j k : Nat} {x : Str} {C : Addr} {sp : Sp} {E : XK} {op : Operator} {e : Expr} {es : List Expr} {t : TA} {p pos pos2 : Pos} {W : WX}
theorem op_o (c : Of X.prog X.w X.K X.mg X.base C op k sp) (hr : Room j X.A) (hk : k ≤ j) (hx : Passes (L2.CX X.prog X.w) X E) : OpR X (binaryOp op) (rOwn C sp E) := by
  obtain ⟨f, fd, ps, fo, ro, h1, h2, h3, h4, h5, h6⟩ := c.ex
  exact op_own h1 h3 (hr.mono hk) h2 hx h4 h5 h6
theorem un_o (c : Nf X.prog X.w X.K X.mg X.base C k sp) (hr : Room j X.A) (hk : k ≤ j) (hx : Passes (L2.CX X.prog X.w) X E) : UnR X (unaryOp .USub) (rOwn1 C sp E) := by
  obtain ⟨f, fd, ps, h1, h2, h3, h4⟩ := c.ex
  exact un_own h1 h2 h4 (hr.mono hk) h3 hx
theorem eq_o (c : Ef X.prog X.w X.K X.mg X.base C k sp) (hr : Room j X.A) (hk : k ≤ j) (hx : Passes (L2.CX X.prog X.w) X E) : OpR X (compareOp .Eq) (rOwnEq X.K C sp E) := by
  obtain ⟨f, fd, ps, h1, h2, h3, h4⟩ := c.ex
  exact op_ownEq h1 h2 h4 (hr.mono hk) h3 hx
theorem ps_raiseX (c : Xf X.prog X.w X.K X.mg X.base x C k sp) (hr : Room j X.A) (hk : k + 1 ≤ j) (hc : X.calm = true) (tk : Takes X W) (hg : Gl X x) (ha : PA X (e :: es) t)
    (hdb : (x == ("__debug__" : Str)) = false := by decide) (he : starEach (e :: es) X.env = (false, eval e X.env) :: starEach es X.env := by rfl) (hpl : (backTo pos (starEach es X.env)).any (·.1) = false := by rfl) :
    PS X (.Raise (some (.Call (.Name x p) (e :: es) [] pos)) none pos2) (fun _ σ H => tMkO C sp [] t σ H fun cls d H' => W cls d σ H') := by
  obtain ⟨f, fd, ps, h1, h2, h3, h4, h5, h6⟩ := c.ex
  exact ps_raise hc tk (pmk_oex h2 h3 h4 h6 (hr.mono hk) h5 .nil passL hg h1 ha hdb he hpl)
theorem passX (hs : X.stack = X.env :: X.outer) (hf : X.env.frame = some X.env.locals) (hex : X.ex = []) {E₁ : Value → Shared → Prop}
    (hx : X.xe = fun e s' => wpAny (model X.prog X.w) X.A (leaving X.env e) (fun _ s'' => CX X.prog X.w X.outer X.H_0 X.s_0 E e s'') E₁ s') : Passes (L2.CX X.prog X.w) X E :=
  passes_call (takes_of hs hf hex hx) fun _ _ _ _ z => z
end
/-! ### own exceptions with fields -/
/-- __init__(self, a, b): self.a = a; self.b = b -/
def spX2 (C : Addr) (f1 f2 : Str) : Sp := fun vs H Q _ => ∃ (a : Addr) (x y : V), vs = [.ref a, x, y] ∧ H a = some (exo a C none) ∧
  ∀ d, H d = none → d ≠ a → Q .non (upd (upd (upd H d (exd d [(f1, x)])) a (exo a C (some d))) d (exd d [(f2, y), (f1, x)]))
def spX1 (C : Addr) (f1 : Str) : Sp := fun vs H Q _ => ∃ (a : Addr) (x : V), vs = [.ref a, x] ∧ H a = some (exo a C none) ∧
  ∀ d, H d = none → d ≠ a → Q .non (upd (upd H d (exd d [(f1, x)])) a (exo a C (some d)))
theorem x2_made {H1 : Hp} {a d C : Addr} {f1 f2 : Str} {x y : V} {Q : XK} (ha : H1 a = none) (hd : H1 d = none) (hda : d ≠ a)
    (k : ∀ H', Same H1 H' → H' d = some (.xd [(f2, y), (f1, x)]) → Q (.ref C) (some d) H') :
    ∃ (d' : Addr), (upd (upd (upd (upd H1 a (exo a C none)) d (exd d [(f1, x)])) a (exo a C (some d))) d (exd d [(f2, y), (f1, x)])) a = some (exo a C (some d')) ∧ ∃ (fs : List (Str × V)),
      (upd (upd (upd (upd H1 a (exo a C none)) d (exd d [(f1, x)])) a (exo a C (some d))) d (exd d [(f2, y), (f1, x)])) d' = some (exd d' fs) ∧ H1 d' = none ∧
      Q (.ref C) (some d') (upd (del (upd (upd (upd (upd H1 a (exo a C none)) d (exd d [(f1, x)])) a (exo a C (some d))) d (exd d [(f2, y), (f1, x)])) a) d' (.xd fs)) := by
  refine ⟨d, by rw [upd_ne hda.symm, upd_same], _, upd_same, hd, k _ (fun b o e => ?_) upd_same⟩
  have n1 := ne_of_none e ha
  have n2 := ne_of_none e hd
  rw [upd_ne n2, del_ne n1, upd_ne n2, upd_ne n1, upd_ne n2, upd_ne n1]
  exact e
theorem x1_made {H1 : Hp} {a d C : Addr} {f1 : Str} {x : V} {Q : XK} (ha : H1 a = none) (hd : H1 d = none) (hda : d ≠ a)
    (k : ∀ H', Same H1 H' → H' d = some (.xd [(f1, x)]) → Q (.ref C) (some d) H') :
    ∃ (d' : Addr), (upd (upd (upd H1 a (exo a C none)) d (exd d [(f1, x)])) a (exo a C (some d))) a = some (exo a C (some d')) ∧ ∃ (fs : List (Str × V)),
      (upd (upd (upd H1 a (exo a C none)) d (exd d [(f1, x)])) a (exo a C (some d))) d' = some (exd d' fs) ∧ H1 d' = none ∧
      Q (.ref C) (some d') (upd (del (upd (upd (upd H1 a (exo a C none)) d (exd d [(f1, x)])) a (exo a C (some d))) a) d' (.xd fs)) := by
  refine ⟨d, upd_same, _, by rw [upd_ne hda, upd_same], hd, k _ (fun b o e => ?_) upd_same⟩
  have n1 := ne_of_none e ha
  have n2 := ne_of_none e hd
  rw [upd_ne n2, del_ne n1, upd_ne n1, upd_ne n2, upd_ne n1]
  exact e
end L2
end

section
/-! Lambdas handed to a def of the text; the tables of code objects beside a thing that changes. -/
namespace L2
open PySem PySem.Spec PyProof.Rows LamX
section
variable {P : Program} {w : World} {K : PySem.W.Frag} {mg : Str → Option Value} {base : Heap} {x qual : Str} {params : Arguments} {body : List Stmt} {scope : Scope} {dvs : List V} {kws : List (Str × V)} {f : Addr} {fd : FuncData}
/-- a def that lets no exception out, its code object named -/
theorem FunD.okC {N ps : List Str} {k : Nat} {sp : Sp} (F : FunD K x qual params body scope dvs kws f fd) (S : FnScope N ps scope) (len : ∀ vs H Q E, sp vs H Q E → vs.length = ps.length)
    (hbody : ∀ (A : Around) (outer : List Env) (s : Shared) (H : Hp) (vs : List V) (Q : VK) (E : XK), Room k (A.deeper (envOfC qual scope s.heap.objs.size f fd.code)) → sp vs H Q E →
      ∃ t, PSs (cxOf (L2.CX P w) P w K mg base N qual scope f fd.code A outer s H E).nox body t ∧ t { nx := fun _ H' => Q .non H', rt := Q } (start N vs) H) : FnOk P w K mg base (L2.CX P w) (k + 1) f fd ps sp := by
  obtain ⟨oc, od, dV, kV, doc, pm, an, cdv, ct, osl, rfl, lk, hcd, _, _⟩ := F.ex
  exact fn_of lk hcd S len fun A outer s H vs Q E hr hsp => let ⟨t, h, q⟩ := hbody A outer s H vs Q E hr hsp; ⟨t, h.nox, q⟩
end
section
variable {X : Cx}
/-- x(lambda: body), x a def of the text -/
theorem pe_lamF {T : List (Addr × Str)} {TT : (XK → Hp → VK → Prop) → Hp → VK → Prop} {x a : Str} {g c P : Addr} {fdg : FuncData} {k : Nat} {pg : Arguments} {bg : List Stmt} {sg : Scope} {Ng : List Str}
    {params : Arguments} {body : Expr} {scope : Scope} {t : XK → TE} {p lpos pos : Pos} (F : FunD X.K x x pg bg sg [] [] g fdg) (bB : Binds X.K fdg [a] []) (hg : Gl X x) (hm : X.mg x = some (.ref g)) (Sg : FnScope Ng [a] sg) (hNg : Ng[0]? = some a) (hva : Vis sg a)
    (hG : ∀ cdg : Value, GivesTo X Ng x sg g cdg bg a (X.env.qual ++ "<lambda>") TT)
    (TB : TabB X.base X.mg c P) (hcode : X.env.code = .ref c) (hmT : (P, X.env.qual ++ "<lambda>") ∈ T) (hu : ∀ p ∈ T, p.1 = P → p.2 = X.env.qual ++ "<lambda>") (hr : Room (k + 2) X.A) (L : LamS X.env.scope scope) (hdef : defaultsOf params X.env = ([], []))
    (hbind : ∀ (q : Str) (cl : List (Str × Addr)) (pm cv ctv : Value), bindArgs (PySem.W.kla_fn "<lambda>" q params body scope cl pm cv ctv) ⟨[], []⟩ = pure [])
    (hbody : ∀ (A : Around) (outer : List Env) (s : Shared) (H : Hp) (E : XK) (f c' : Addr), Room k (A.deeper (lamEnv X scope s.heap.objs.size f c')) → PE (lamCx X A outer s H E scope f c') body (t E))
    (hdb : (x == ("__debug__" : Str)) = false := by decide) (hd : (a == ("__debug__" : Str)) = false := by decide) (hcd : (a == ("__classdict__" : Str)) = false := by decide) :
    PE X (.Call (.Name x p) [.Lambda params body scope lpos] [] pos) (tLam T TT t) := by
  obtain ⟨oc, od, dV, kV, doc, pm, an, cdv, ct, osl, rfl, lk, hcg, _, _⟩ := F.ex
  exact pe_lamcall hg hm F.kp lk hcg bB Sg hNg hva (hG cdv) TB hcode hmT hu hr L hdef hbind hbody hdb hd hcd
end
/-- at a raise, all slots are there -/
theorem takes_len {X : Cx} {W : WX} (t : Takes X W) : Takes X (fun cls d σ H => σ.length = X.N.length → W cls d σ H) := fun e s1 h => by
  obtain ⟨a, B, sI, pins, σ', H', cls, d, e1, J, r1, r2, r3, r4, r5, r6, z⟩ := h
  exact t e s1 ⟨a, B, sI, pins, σ', H', cls, d, e1, J, r1, r2, r3, r4, r5, r6, z J.len⟩
theorem Room.u200 {k : Nat} {A : Around} (r : Room k A) : A.units + 200 < cLine := by have := r.un; omega
theorem mem1 {P : Addr} {q : Str} : ∀ p ∈ [(P, q)], p.1 = P → p.2 = q := fun p hp _ => by rw [List.mem_singleton.mp hp]
abbrev qL : Str := ("law" : Str) ++ ".<locals>." ++ "<lambda>"
/-- the tables, the heap changed at p only, which is neither a table nor a code object -/
theorem tabS_at {H H' : Hp} {T p : Addr} {q : Str} {o : HO} (t : TabS H T q) (hp : H p = some o) (h1 : ∀ ps, o ≠ .tbl ps) (h2 : ∀ c, o ≠ CodeO c q) (e : ∀ b u, b ≠ p → H b = some u → H' b = some u) : TabS H' T q := by
  obtain ⟨ps, e1, e2, e3⟩ := t
  refine ⟨ps, e _ _ (fun z => ?_) e1, e2, fun pos cv hc => ?_⟩
  · rw [z, hp] at e1
    exact h1 _ (Option.some.inj e1)
  · obtain ⟨c, r1, r2⟩ := e3 pos cv hc
    refine ⟨c, r1, e _ _ (fun z => ?_) r2⟩
    rw [z, hp] at r2
    exact h2 _ (Option.some.inj r2)
theorem tabs_at {T : List (Addr × Str)} {H H' : Hp} {p : Addr} {o : HO} (t : Tabs T H) (hp : H p = some o) (h1 : ∀ ps, o ≠ .tbl ps) (h2 : ∀ c q, o ≠ CodeO c q) (e : ∀ b u, b ≠ p → H b = some u → H' b = some u) : Tabs T H' :=
  fun z hz => tabS_at (t z hz) hp h1 (fun c => h2 c _) e
theorem ne_bls {K : PySem.W.Frag} {H : Hp} {a b : Addr} {Q : VK} (bs : List Bool) (ha : H a = some (.lst (bs.map V.bl))) (hb : H b = some (.lst (bs.map V.bl))) (sh : SeqAt.shaped (.list (bs.map PyData.bool)) = true) (k : Q (.bl false) H) : rNeD K (.ref a) (.ref b) H Q := by
  have d : ∀ (l : List Bool), DpAll K H (l.map V.bl) (l.map PyData.bool) := fun l => by
    induction l with
    | nil => exact .nil
    | cons x l ih => exact .cons (.bl x) ih
  refine ⟨.list (bs.map .bool), .list (bs.map .bool), .lst (SqL.of ha) (d bs), .lst (SqL.of hb) (d bs), sh, sh, ?_⟩
  have e : ∀ l : List Bool, PyData.eqvAll (l.map PyData.bool) (l.map PyData.bool) = true := fun l => by
    induction l with
    | nil => rfl
    | cons x l ih => simp [PyData.eqvAll, PyData.eqv, ih]
  have e2 : PyData.eqv (.list (bs.map PyData.bool)) (.list (bs.map PyData.bool)) = true := by simp [PyData.eqv, e]
  rw [e2]
  exact k
/-- what is asked of an own exception class whose fields are read -/
structure XrC (K : PySem.W.Frag) (C : Addr) (f1 f2 : Str) : Prop where
  T : XfC K C
  n1 : PySem.W.findIn K (.ref C) f1 = some none
  n2 : PySem.W.findIn K (.ref C) f2 = some none
  me : PySem.W.exmOne K (.ref C) (.ref C) = some true
/-- calls; only the exception with these two fields is wished -/
def TBot (CB : Addr) (f1 f2 : Str) (v1 v2 : V) : (XK → Hp → VK → Prop) → Hp → VK → Prop := fun tl H Q =>
  tl (fun cls d H' => cls = .ref CB ∧ ∃ dd, d = some dd ∧ H' dd = some (.xd [(f2, v2), (f1, v1)]) ∧ ∀ H'', Same H' H'' → Q (.bl true) H'') H fun _ H' => Q (.bl false) H'
theorem eq_sn {K : PySem.W.Frag} {H : Hp} {a b : Addr} {i j : Str} {m n : Int} {Q : VK} (ha : H a = some (.tup [.str i, .int m])) (hb : H b = some (.tup [.str j, .int n])) (si : SeqAt.shaped (.tuple [.str i, .int m]) = true) (sj : SeqAt.shaped (.tuple [.str j, .int n]) = true) (k : Q (.bl (decide (i = j ∧ m = n))) H) : rEqD K (.ref a) (.ref b) H Q := by
  refine ⟨.tuple [.str i, .int m], .tuple [.str j, .int n], .tup (SqT.of ha) (.cons (.str _) (.cons (.int _) .nil)), .tup (SqT.of hb) (.cons (.str _) (.cons (.int _) .nil)), si, sj, ?_⟩
  have e : PyData.eqv (.tuple [.str i, .int m]) (.tuple [.str j, .int n]) = decide (i = j ∧ m = n) := by
    simp [PyData.eqv, PyData.eqvAll, Bool.beq_eq_decide_eq]
  rw [e]
  exact k
end L2
end

section
/-! What the head's facts are asked beside the library's: exceptions with an __init__, operators. -/
namespace HwH
open PySem PySem.Spec PyProof.Rows L2 He
def oexB (K : PySem.W.Frag) (C : Addr) : Bool := (match K.lookup C with
  | some ⟨.type ty, _, .cls cd, sl⟩ => decide (ty = "type") && (cd.hasDict && (!cd.hasDel && ((match cd.mro with
    | .ref c :: bm => decide (c = C) && PySem.HandSPX.refsVE bm
    | _ => false) && (match sl.toList with
    | [_, _, _, _, some (.builtin nid), _] => decide (nid = "ValueError.__new__")
    | _ => false))))
  | _ => false) && (eqO (PySem.W.findIn K (.ref C) "__setattr__") (some (some (.builtin "object.__setattr__"))) && (decide (PySem.W.subIn K (.ref C) (.type "BaseException") = some true) && (decide (PySem.W.typeIn K (.ref C) = some (.type "type")) && PySem.W.keepIn K (.ref C))))
theorem oexB_ok {K : PySem.W.Frag} {C : Addr} (h : oexB K C = true) : OexC K C := by
  obtain ⟨h1, h⟩ := ba h
  obtain ⟨h2, h⟩ := ba h
  obtain ⟨h3, h⟩ := ba h
  obtain ⟨h4, h5⟩ := ba h
  refine ⟨?_, eqO_ok h2, of_decide_eq_true h3, of_decide_eq_true h4, h5⟩
  cases q : K.lookup C with
  | none =>
    rw [q] at h1
    cases h1
  | some o =>
    obtain ⟨oc, od, dt, sl⟩ := o
    rw [q] at h1
    cases oc with
    | type ty =>
      cases dt with
      | cls cd =>
        obtain ⟨nm, bs, mro, ns, qn, hd, sn, sub, ab, col, hdel⟩ := cd
        obtain ⟨g1, h1⟩ := ba h1
        obtain ⟨g2, h1⟩ := ba h1
        obtain ⟨g3, h1⟩ := ba h1
        obtain ⟨g4, g5⟩ := ba h1
        obtain ⟨sl⟩ := sl
        have e1 : ty = "type" := of_decide_eq_true g1
        have e2 : hd = true := g2
        have e3 : hdel = false := by
          have : (!hdel) = true := g3
          simpa using this
        subst e1 e2 e3
        match mro, g4 with
        | .ref c :: bm, g4 =>
          obtain ⟨g6, g7⟩ := ba g4
          have e4 : c = C := of_decide_eq_true g6
          subst e4
          match sl, g5 with
          | [k0, k1, k2, k3, some (.builtin nid), k5], g5 =>
            have e5 : nid = "ValueError.__new__" := of_decide_eq_true g5
            subst e5
            exact ⟨nm, qn, ns, bs, bm, sn, sub, ab, col, od, k0, k1, k2, k3, k5, rfl, g7⟩
      | _ => cases h1
    | _ => cases h1
def opB (K : PySem.W.Frag) (C : Addr) (op : Operator) : Bool := PySem.W.selfFirst K C && (eqO (PySem.W.findIn K (.ref C) (PySem.dunder op.info.2)) (some (some (.ref (ma K C (PySem.dunder op.info.2))))) && (PySem.W.isFn K (.ref (ma K C (PySem.dunder op.info.2))) && (eqO (PySem.W.findIn K (.ref C) (dunderR op.info.2)) (some none) &&
  ((PySem.W.findIn K (.type "int") (PySem.dunder op.info.2)).isSome && ((PySem.W.findIn K (.type "int") (dunderR op.info.2)).isSome && decide (PySem.W.subIn K (.type "int") (.ref C) = some false))))))
theorem opB_ok {K : PySem.W.Frag} {C : Addr} {op : Operator} (h : opB K C op = true) : OpC K C op (ma K C (PySem.dunder op.info.2)) ∧ ∃ fo ro, PySem.W.findIn K (.type "int") (PySem.dunder op.info.2) = some fo ∧ PySem.W.findIn K (.type "int") (dunderR op.info.2) = some ro ∧ PySem.W.subIn K (.type "int") (.ref C) = some false := by
  obtain ⟨h1, h⟩ := ba h
  obtain ⟨h2, h⟩ := ba h
  obtain ⟨h3, h⟩ := ba h
  obtain ⟨h4, h⟩ := ba h
  obtain ⟨h5, h⟩ := ba h
  obtain ⟨h6, h7⟩ := ba h
  obtain ⟨fo, e5⟩ := Option.isSome_iff_exists.mp h5
  obtain ⟨ro, e6⟩ := Option.isSome_iff_exists.mp h6
  exact ⟨⟨h1, eqO_ok h2, h3, eqO_ok h4⟩, fo, ro, e5, e6, of_decide_eq_true h7⟩
/-- a method that is reached through a special name -/
def spcB (K : PySem.W.Frag) (C : Addr) (m : Str) : Bool := eqO (PySem.W.findIn K (.ref C) m) (some (some (.ref (ma K C m)))) && PySem.W.isFn K (.ref (ma K C m))
theorem spcB_ok {K : PySem.W.Frag} {C : Addr} {m : Str} (h : spcB K C m = true) : PySem.W.findIn K (.ref C) m = some (some (.ref (ma K C m))) ∧ PySem.W.isFn K (.ref (ma K C m)) = true := by
  obtain ⟨h1, h2⟩ := ba h
  exact ⟨eqO_ok h1, h2⟩
def iniB (K : PySem.W.Frag) (C : Addr) : Bool := eqO (PySem.W.findIn K (.ref C) "__init__") (some (some (.ref (ma K C "__init__")))) && decide (PySem.W.typeIn K (.ref (ma K C "__init__")) = some (.type "function"))
theorem iniB_ok {K : PySem.W.Frag} {C : Addr} (h : iniB K C = true) : PySem.W.findIn K (.ref C) "__init__" = some (some (.ref (ma K C "__init__"))) ∧ PySem.W.typeIn K (.ref (ma K C "__init__")) = some (.type "function") := by
  obtain ⟨h1, h2⟩ := ba h
  exact ⟨eqO_ok h1, of_decide_eq_true h2⟩
def xrB (K : PySem.W.Frag) (C : Addr) (f1 f2 : Str) : Bool := xfB K C && (eqO (PySem.W.findIn K (.ref C) f1) (some none) && (eqO (PySem.W.findIn K (.ref C) f2) (some none) && decide (PySem.W.exmOne K (.ref C) (.ref C) = some true)))
theorem xrB_ok {K : PySem.W.Frag} {C : Addr} {f1 f2 : Str} (h : xrB K C f1 f2 = true) : XrC K C f1 f2 := by
  obtain ⟨h1, h⟩ := ba h
  obtain ⟨h2, h⟩ := ba h
  obtain ⟨h3, h4⟩ := ba h
  exact ⟨xfB_ok h1, eqO_ok h2, eqO_ok h3, of_decide_eq_true h4⟩
def bfunB (K : PySem.W.Frag) (x : Str) (id : String) : Bool := eqO (PySem.W.nsIn K mainGlobals x) (some (some (.builtin id)))
theorem bfunB_ok {K : PySem.W.Frag} {h : Heap} {mg : Str → Option Value} (X : K.In h) (G : h.Ns mainGlobals mg) {x : Str} {id : String} (c : bfunB K x id = true) : mg x = some (.builtin id) := PySem.W.mg_of X G (eqO_ok c)
/-- a def's code object, its table -/
theorem code_of {K : PySem.W.Frag} {p : Defn} {x qual : Str} {params : Arguments} {body : List Stmt} {scope : Scope} {dvs : List V} {kws : List (Str × V)} {fd : FuncData} (F : FunD K x qual params body scope dvs kws (fAd K p) fd) : fd.code = .ref (codeOf K p) := by
  obtain ⟨oc, od, dV, kV, doc, pm, an, cdv, ct, osl, rfl, lk, hcd, _, _⟩ := F.ex
  obtain ⟨c, rfl⟩ := codeIn_ref hcd
  rw [codeOf_eq lk rfl]
end HwH
end

section
namespace HwL
open PySem PySem.Spec PyProof.Rows L2 LamX
def top (i : Nat) : Stmt := PySem.Challenge.pw_hingeworks_k00_ratios.main.body.getD i (.Pass ⟨0, 0, 0, 0⟩)
variable {P : Program} {w : World} {K : PySem.W.Frag} {mg : Str → Option Value} {base : Heap}


end HwL
end

section
namespace HwL
open PySem PySem.Spec PyProof.Rows L2 LamX
variable {P : Program} {w : World} {K : PySem.W.Frag} {mg : Str → Option Value} {base : Heap}

/-! ### the pen -/
def penK (l : Addr) (i d c f : Int) : List (Key × V) := [(.inr "cells", .ref l), (.inr "at", .int i), (.inr "digits", .int d), (.inr "count", .int c), (.inr "fold", .int f)]
/-- a pen stands at p, drawn from at most c times -/
def PenAt (H : Hp) (p l : Addr) (c : Int) : Prop := ∃ (cs : List Int) (i d n f : Int), H p = some (.dK (penK l i d n f)) ∧ H l = some (.lst (cs.map V.int)) ∧ 0 ≤ i ∧ 0 ≤ d ∧ 0 ≤ n ∧ n ≤ c ∧ 0 ≤ f ∧ f < 2147483587
/-- all but p is as it was -/
def Ext (p : Addr) (H H' : Hp) : Prop := ∀ b o, b ≠ p → H b = some o → H' b = some o
theorem Ext.refl {p : Addr} {H : Hp} : Ext p H H := fun _ _ _ h => h
theorem Ext.trans {p : Addr} {H H1 H2 : Hp} (a : Ext p H H1) (b : Ext p H1 H2) : Ext p H H2 := fun c o n h => b c o n (a c o n h)
theorem Ext.of {p : Addr} {H H1 : Hp} (a : Same H H1) : Ext p H H1 := fun c o _ h => a c o h
theorem Ext.new {p q : Addr} {H H1 : Hp} {o : HO} (a : Ext p H H1) (h : H1 q = none) : Ext p H (upd H1 q o) := a.trans (.of (same_new h))
theorem PenAt.mono {H : Hp} {p l : Addr} {c d : Int} (h : PenAt H p l c) (e : c ≤ d) : PenAt H p l d := by
  obtain ⟨cs, i, dg, n, f, h1, h2, h3, h4, h5, h6, h7⟩ := h
  exact ⟨cs, i, dg, n, f, h1, h2, h3, h4, h5, by omega, h7⟩
theorem PenAt.same {H H' : Hp} {p l : Addr} {c : Int} (h : PenAt H p l c) (e : Same H H') : PenAt H' p l c := by
  obtain ⟨cs, i, dg, n, f, h1, h2, h3⟩ := h
  exact ⟨cs, i, dg, n, f, e _ _ h1, e _ _ h2, h3⟩
theorem PenAt.some {H : Hp} {p l : Addr} {c : Int} (h : PenAt H p l c) : ∃ o, H p = some o := by
  obtain ⟨cs, i, dg, n, f, h1, _⟩ := h
  exact ⟨_, h1⟩
theorem PenAt.put {H : Hp} {p l : Addr} {c : Int} (h : PenAt H p l c) {q : Addr} (n1 : q ≠ p) (n2 : q ≠ l) (o : HO) : PenAt (upd H q o) p l c := by
  obtain ⟨cs, i, dg, n, f, h1, h2, h3⟩ := h
  exact ⟨cs, i, dg, n, f, by rw [upd_ne n1.symm]; exact h1, by rw [upd_ne n2.symm]; exact h2, h3⟩
theorem PenAt.ne2 {H : Hp} {p q l : Addr} {c : Int} (h : PenAt H p l c) (n : H q = none) : q ≠ l := by
  obtain ⟨cs, i, dg, m, f, h1, h2, _⟩ := h
  exact fun z => by rw [z, h2] at n; cases n
theorem PenAt.ne {H : Hp} {p q l : Addr} {c : Int} (h : PenAt H p l c) (n : H q = none) : q ≠ p := by
  obtain ⟨o, e⟩ := h.some
  exact fun z => by rw [z, e] at n; cases n
theorem penK_put_count (l : Addr) (i d n f x : Int) : putK (penK l i d n f) (.inr "count") (.int x) = penK l i d x f := by
  unfold penK putK
  simp (decide := true)
theorem penK_put_at (l : Addr) (i d n f x : Int) : putK (penK l i d n f) (.inr "at") (.int x) = penK l x d n f := by
  unfold penK putK
  simp (decide := true)
theorem penK_put_digits (l : Addr) (i d n f x : Int) : putK (penK l i d n f) (.inr "digits") (.int x) = penK l i x n f := by
  unfold penK putK
  simp (decide := true)
theorem penK_put_fold (l : Addr) (i d n f x : Int) : putK (penK l i d n f) (.inr "fold") (.int x) = penK l i d n x := by
  unfold penK putK
  simp (decide := true)
section
variable {H : Hp} {p l : Addr} {i d n f x : Int} (h : H p = some (.dK (penK l i d n f)))
include h
theorem dg_cells : DGet H p (.str "cells") (some (.ref l)) := .inl ⟨_, .inr "cells", .inl h, rfl, by unfold penK valV; simp (decide := true)⟩
theorem dg_at : DGet H p (.str "at") (some (.int i)) := .inl ⟨_, .inr "at", .inl h, rfl, by unfold penK valV; simp (decide := true)⟩
theorem dg_digits : DGet H p (.str "digits") (some (.int d)) := .inl ⟨_, .inr "digits", .inl h, rfl, by unfold penK valV; simp (decide := true)⟩
theorem dg_count : DGet H p (.str "count") (some (.int n)) := .inl ⟨_, .inr "count", .inl h, rfl, by unfold penK valV; simp (decide := true)⟩
theorem dg_fold : DGet H p (.str "fold") (some (.int f)) := .inl ⟨_, .inr "fold", .inl h, rfl, by unfold penK valV; simp (decide := true)⟩
theorem dp_count : DPut H p (.str "count") (.int x) (upd H p (.dK (penK l i d x f))) := .inl ⟨_, .inr "count", h, rfl, by show 5 < sizeLine; decide, by rw [penK_put_count]⟩
theorem dp_at : DPut H p (.str "at") (.int x) (upd H p (.dK (penK l x d n f))) := .inl ⟨_, .inr "at", h, rfl, by show 5 < sizeLine; decide, by rw [penK_put_at]⟩
theorem dp_digits : DPut H p (.str "digits") (.int x) (upd H p (.dK (penK l i x n f))) := .inl ⟨_, .inr "digits", h, rfl, by show 5 < sizeLine; decide, by rw [penK_put_digits]⟩
theorem dp_fold : DPut H p (.str "fold") (.int x) (upd H p (.dK (penK l i d n x))) := .inl ⟨_, .inr "fold", h, rfl, by show 5 < sizeLine; decide, by rw [penK_put_fold]⟩
end
def spPen (K : PySem.W.Frag) : Sp := fun vs H Q _ => ∃ (a : Addr) (ns : List Int), vs = [.ref a] ∧ SqL K H a (ns.map V.int) ∧ ns.length ≤ 63 ∧
  ∀ H' p l, Same H H' → H p = none → PenAt H' p l 0 → Q (.ref p) H'
abbrev s_L_pen : Stmt := top 11
abbrev N_L_pen : List Str := ["_law_script", "_law_fold", "_law_cell"]
theorem sc_L_pen : FnScope N_L_pen ["_law_script"] (defScope s_L_pen) := ⟨rfl, rfl, rfl, by decide +kernel, rfl, by decide +kernel, by decide +kernel⟩
theorem st_L_pen {v0 : V} : L2.start N_L_pen [v0] = [some v0, none, none] := rfl
theorem ok_L_pen {f : Addr} {fd : FuncData} (F : FD K s_L_pen "_law_pen" "_law_pen" f fd) (z_list : mg "list" = none) (z_int : mg "int" = none) : FnOk P w K mg base (L2.CX P w) 1 f fd ["_law_script"] (spPen K) := by
  have nd := sc_L_pen.nd
  refine F.ok0 sc_L_pen (fun vs H Q E h => ?_) (fun cdv A outer s H vs Q E hr h => ?_)
  · obtain ⟨a, ns, rfl, _⟩ := h
    rfl
  · obtain ⟨a, ns, rfl, hS, hlen, k⟩ := h
    refine ⟨_, (pss_cons (ps_set (i := 1) nd rfl (Or.inl rfl) pe_int)
        (pss_cons (ps_for PassesOwn.never rfl (pi_list (pv 0)) (pg_name (i := 2) nd rfl (Or.inl rfl)) (pss_one (ps_set (i := 1) nd rfl (Or.inl rfl) (pe_op op_mod (pe_callTy call_int1 (by rfl) z_int (by decide +kernel) (pa_cons (pe_op op_add (pe_op op_mulW (pv 1) pe_int) (pv 2)) pa_nil)) pe_int))))
        (pss_one (ps_ret (pe_disp (pps_cons pe_str (pe_callTy call_list_of (by rfl) z_list (by decide +kernel) (pa_cons (pv 0) pa_nil)) (pps_cons pe_str pe_int (pps_cons pe_str pe_int (pps_cons pe_str pe_int (pps_cons pe_str (pv 1) pps_nil))))) (by rfl) (by rfl) (fun z => by cases z) (by decide)))))), ?_⟩
    refine ⟨_, rfl, a, rfl, ⟨_, hS⟩, for_list (K := K) (a := a) (xs := ns.map V.int) (fun i σ H' => ∃ (z : Int) (v : Option V), H' = H ∧ σ = [some (.ref a), some (.int z), v] ∧ 0 ≤ z ∧ z < 1000000007)
      ⟨0, none, rfl, rfl, by decide, by decide⟩ (fun i σ H' _ ⟨_, _, e, _⟩ => by rw [e]; exact hS) ?_ ?_⟩
    · rintro i y σ H' hi ⟨z, v, rfl, rfl, z0, z1⟩
      obtain ⟨u, rfl⟩ : ∃ u, y = V.int u := by
        rw [List.getElem?_map] at hi
        cases e : ns[i]? with
        | none =>
          rw [e] at hi
          cases hi
        | some u =>
          rw [e] at hi
          exact ⟨u, (Option.some.inj hi).symm⟩
      simp only [tVar, rIxTH, rIxLH, gTupH, line_le, HO.tup.injEq, HO.lst.injEq, List.length_cons, List.length_nil, at0, at1, rU, tOst, tTest, rIxL, rIxT, C8.tCut, cxOf_K, tC, tOp, tUn, tSeq, tAsg, tNext, tRet, tRetN, tDrop, tIfS, tNever, gName, gNil, gCons, gTup, gSub, tPar, rI, rI0, rU, rEq, rNe, tB, tAnd, tOr, tNot, tAndV, tOrV, tNotV, tIf, tTup, tLst, tNil, tCons, tCB, tCall, tMeth, tMake, tFld, sFld, tDGet, sDPut, tDisp, tPairs, tBreak, tCont, scal_ii, scal_bb, scal_ss, List.getElem?_cons_zero, List.getElem?_cons_succ, List.set_cons_zero, List.set_cons_succ, Option.some.injEq, exists_eq_left', exists_eq_left, exists_and_left, V.int.injEq, V.bl.injEq, V.ref.injEq, V.str.injEq, List.cons.injEq, and_true, true_and, Bool.true_eq, List.nil_append, List.append_nil, List.cons_append, exists_eq', and_self, reduceCtorEq, false_or, or_false, false_and, exists_false, exists_const, and_assoc, if_true, Bool.false_eq_true, if_false, Nat.reduceAdd, Nat.reduceLeDiff, Nat.zero_add, Nat.le_refl, forall_const, st_L_pen]
      refine ⟨wide_mul (a := 40) (b := 40) (by omega) (by decide) (by decide) (by decide) (by decide), by decide, by omega, by omega⟩
    · rintro σ H' ⟨z, v, rfl, rfl, z0, z1⟩
      simp only [tVar, rIxTH, rIxLH, gTupH, line_le, HO.tup.injEq, HO.lst.injEq, List.length_cons, List.length_nil, at0, at1, rU, tOst, tTest, rIxL, rIxT, C8.tCut, cxOf_K, tC, tOp, tUn, tSeq, tAsg, tNext, tRet, tRetN, tDrop, tIfS, tNever, gName, gNil, gCons, gTup, gSub, tPar, rI, rI0, rU, rEq, rNe, tB, tAnd, tOr, tNot, tAndV, tOrV, tNotV, tIf, tTup, tLst, tNil, tCons, tCB, tCall, tMeth, tMake, tFld, sFld, tDGet, sDPut, tDisp, tPairs, tBreak, tCont, scal_ii, scal_bb, scal_ss, List.getElem?_cons_zero, List.getElem?_cons_succ, List.set_cons_zero, List.set_cons_succ, Option.some.injEq, exists_eq_left', exists_eq_left, exists_and_left, V.int.injEq, V.bl.injEq, V.ref.injEq, V.str.injEq, List.cons.injEq, and_true, true_and, Bool.true_eq, List.nil_append, List.append_nil, List.cons_append, exists_eq', and_self, reduceCtorEq, false_or, or_false, false_and, exists_false, exists_const, and_assoc, if_true, Bool.false_eq_true, if_false, Nat.reduceAdd, Nat.reduceLeDiff, Nat.zero_add, Nat.le_refl, forall_const, st_L_pen]
      intro p hp
      refine ⟨ns.map V.int, .inl (seqL_same (same_new hp) hS), fun l hl => ⟨?_, penK l 0 0 0 z, rfl, by show 5 ≤ 15; decide, ?_⟩⟩
      · have npl : p ≠ l := fun e => by rw [e, upd_same] at hl; cases hl
        rw [upd_ne npl, upd_same]
      · have npl : p ≠ l := fun e => by rw [e, upd_same] at hl; cases hl
        have e : mergeK [] (penK l 0 0 0 z) = penK l 0 0 0 z := by unfold penK mergeK putK; simp (decide := true)
        rw [e]
        have hl0 : H' l = none := by rw [upd_ne npl.symm] at hl; exact hl
        refine k _ p l (fun b o e => ?_) hp ⟨ns, 0, 0, 0, z, upd_same, by rw [upd_ne npl.symm, upd_same], by omega, by omega, by omega, by omega, z0, by omega⟩
        rw [upd_ne (ne_of_none e hp), upd_ne (ne_of_none e hl0), upd_ne (ne_of_none e hp)]
        exact e
/-- one digit -/
def spDraw : Sp := fun vs H Q _ => ∃ (p l : Addr) (c m : Int), vs = [.ref p, .int m] ∧ PenAt H p l c ∧ c < 1000000000000 ∧ 0 < m ∧ m.natAbs < 2 ^ 9000 ∧
  ∀ H' r, Ext p H H' → PenAt H' p l (c + 1) → 0 ≤ r → r < m → Q (.int r) H'
abbrev s_L_draw : Stmt := top 12
abbrev N_L_draw : List Str := ["_law_pen_here", "_law_many", "_law_cell", "_law_digit", "_law_mixed"]
theorem sc_L_draw : FnScope N_L_draw ["_law_pen_here", "_law_many"] (defScope s_L_draw) := ⟨rfl, rfl, rfl, by decide +kernel, rfl, by decide +kernel, by decide +kernel⟩
theorem st_L_draw {v0 v1 : V} : L2.start N_L_draw [v0, v1] = [some v0, some v1, none, none, none] := rfl
theorem ok_L_draw {f : Addr} {fd : FuncData} (F : FD K s_L_draw "_law_draw" "_law_draw" f fd) (z_int : mg "int" = none) (z_len : mg "len" = none) : FnOk P w K mg base (L2.CX P w) 1 f fd ["_law_pen_here", "_law_many"] (spDraw) := by
  have nd := sc_L_draw.nd
  refine F.ok0 sc_L_draw (fun vs H Q E h => ?_) (fun cdv A outer s H vs Q E hr h => ?_)
  · obtain ⟨p, l, c, m, rfl, _⟩ := h
    rfl
  · obtain ⟨p, l, c, m, rfl, ⟨cs, i, d, n, f, hp, hl, hi, hd, hn, hnc, hf, hf2⟩, hc, hm, hm2, k⟩ := h
    have nlp : l ≠ p := fun e => by rw [e, hp] at hl; cases hl
    refine ⟨_, (pss_cons (ps_dput (hu_of hr) (pv 0) pe_str (pe_op op_add (pe_dget (hu_of hr) (pv 0) pe_str (fun _ _ => rfl)) pe_int) rfl)
        (C8.pss_cut (ps_if (PW.pt (pw_and (pt_cmpR op_eq (pe_dget (hu_of hr) (pv 0) pe_str (fun _ _ => rfl)) pe_int (nomark _)) (pw_and1 (pt_cmpR op_lt (pe_dget (hu_of hr) (pv 0) pe_str (fun _ _ => rfl)) (pe_callB call_len_seq (by rfl) z_len (by decide +kernel) (pa_cons (pe_dget (hu_of hr) (pv 0) pe_str (fun _ _ => rfl)) pa_nil)) (nomark _))))) (pss_cons (ps_set (i := 2) nd rfl (Or.inl rfl) (pe_ix ix_list (pe_dget (hu_of hr) (pv 0) pe_str (fun _ _ => rfl)) (pe_dget (hu_of hr) (pv 0) pe_str (fun _ _ => rfl)) (fun _ _ => rfl)))
        (pss_cons (ps_dput (hu_of hr) (pv 0) pe_str (pe_op op_add (pe_dget (hu_of hr) (pv 0) pe_str (fun _ _ => rfl)) pe_int) rfl)
        (pss_one (ps_if (pt_cmpR op_ge (pv 2) (pe_op op_pow pe_int pe_int) (nomark _)) (pss_one (ps_dput (hu_of hr) (pv 0) pe_str (pe_op op_sub (pv 2) (pe_op op_pow pe_int pe_int)) rfl)) (pss_one (ps_dput (hu_of hr) (pv 0) pe_str (pe_op op_mod (pe_callTy call_int1 (by rfl) z_int (by decide +kernel) (pa_cons (pe_op op_add (pe_op op_mulW (pe_dget (hu_of hr) (pv 0) pe_str (fun _ _ => rfl)) pe_int) (pv 2)) pa_nil)) pe_int) rfl)))))) pss_nil)
        (pss_cons (ps_if (pt_cmpR op_gt (pe_dget (hu_of hr) (pv 0) pe_str (fun _ _ => rfl)) pe_int (nomark _)) (pss_cons (ps_set (i := 3) nd rfl (Or.inl rfl) (pe_op op_mod (pe_callTy call_int1 (by rfl) z_int (by decide +kernel) (pa_cons (pe_dget (hu_of hr) (pv 0) pe_str (fun _ _ => rfl)) pa_nil)) (pv 1)))
        (pss_cons (ps_dput (hu_of hr) (pv 0) pe_str (pe_op op_fdivW (pe_dget (hu_of hr) (pv 0) pe_str (fun _ _ => rfl)) (pv 1)) rfl)
        (pss_one (ps_ret (pv 3))))) pss_nil)
        (pss_cons (ps_set (i := 4) nd rfl (Or.inl rfl) (pe_op op_add (pe_op op_add (pe_dget (hu_of hr) (pv 0) pe_str (fun _ _ => rfl)) (pe_op op_mulW (pe_dget (hu_of hr) (pv 0) pe_str (fun _ _ => rfl)) pe_int)) pe_int))
        (pss_one (ps_ret (pe_op op_mod (pe_op op_fdivW (pe_callTy call_int1 (by rfl) z_int (by decide +kernel) (pa_cons (pe_op op_mod (pe_op op_pow (pv 4) pe_int) pe_int) pa_nil)) pe_int) (pv 1)))))))), ?_⟩
    simp only [tVar, rIxTH, rIxLH, gTupH, line_le, HO.tup.injEq, HO.lst.injEq, List.length_cons, List.length_nil, at0, at1, rU, tOst, tTest, rIxL, rIxT, C8.tCut, cxOf_K, tC, tOp, tUn, tSeq, tAsg, tNext, tRet, tRetN, tDrop, tIfS, tNever, gName, gNil, gCons, gTup, gSub, tPar, rI, rI0, rU, rEq, rNe, tB, tAnd, tOr, tNot, tAndV, tOrV, tNotV, tIf, tTup, tLst, tNil, tCons, tCB, tCall, tMeth, tMake, tFld, sFld, tDGet, sDPut, tDisp, tPairs, tBreak, tCont, scal_ii, scal_bb, scal_ss, List.getElem?_cons_zero, List.getElem?_cons_succ, List.set_cons_zero, List.set_cons_succ, Option.some.injEq, exists_eq_left', exists_eq_left, exists_and_left, V.int.injEq, V.bl.injEq, V.ref.injEq, V.str.injEq, List.cons.injEq, and_true, true_and, Bool.true_eq, List.nil_append, List.append_nil, List.cons_append, exists_eq', and_self, reduceCtorEq, false_or, or_false, false_and, exists_false, exists_const, and_assoc, if_true, Bool.false_eq_true, if_false, Nat.reduceAdd, Nat.reduceLeDiff, Nat.zero_add, Nat.le_refl, forall_const, st_L_draw]
    refine ⟨_, dg_count hp, n, rfl, _, dp_count hp, fun σ' H' => ∃ (d' i' f' : Int) (v2 v3 v4 : Option V), σ' = [some (.ref p), some (.int m), v2, v3, v4] ∧ H' p = some (.dK (penK l i' d' (n + 1) f')) ∧ Ext p H H' ∧ 0 ≤ i' ∧ 0 ≤ d' ∧ 0 ≤ f' ∧ f' < 2147483587, ?_, ?_⟩
    · have hp1 : upd H p (.dK (penK l i d (n + 1) f)) p = some (.dK (penK l i d (n + 1) f)) := upd_same
      have hE : Ext p H (upd H p (.dK (penK l i d (n + 1) f))) := fun b o nb e => by rw [upd_ne nb]; exact e
      generalize upd H p (.dK (penK l i d (n + 1) f)) = H1 at hp1 hE
      have hl1 := hE _ _ nlp hl
      refine ⟨_, dg_digits hp1, rfl, ?_⟩
      have same : ∃ (d' i' f' : Int) (v2 v3 v4 : Option V), [some (V.ref p), some (V.int m), none, none, none] = [some (V.ref p), some (V.int m), v2, v3, v4] ∧ H1 p = some (.dK (penK l i' d' (n + 1) f')) ∧ Ext p H H1 ∧ 0 ≤ i' ∧ 0 ≤ d' ∧ 0 ≤ f' ∧ f' < 2147483587 :=
        ⟨d, i, f, none, none, none, rfl, hp1, hE, hi, hd, hf, hf2⟩
      refine ite2 (fun _ => ?_) (fun _ => same)
      refine ⟨_, dg_at hp1, _, dg_cells hp1, l, rfl, cs.map V.int, .inl (SqL.of hl1), i, rfl, ?_⟩
      refine ite2 (fun hlt => ?_) (fun _ => same)
      have hlt2 : i < ((cs.map V.int).length : Int) := of_decide_eq_true hlt
      obtain ⟨u, hu⟩ : ∃ u, cs[i.toNat]? = some u := ⟨_, List.getElem?_eq_getElem (by rw [List.length_map] at hlt2; omega)⟩
      refine ⟨_, dg_cells hp1, _, dg_at hp1, l, rfl, cs.map V.int, i, rfl, SqL.of hl1, .int u, at_of (j := i.toNat) (by omega) (by rw [List.getElem?_map, hu]; rfl), ?_⟩
      refine ⟨_, dg_at hp1, i, rfl, _, dp_at hp1, ?_⟩
      have hp2 : upd H1 p (.dK (penK l (i + 1) d (n + 1) f)) p = some (.dK (penK l (i + 1) d (n + 1) f)) := upd_same
      have hE2 : Ext p H (upd H1 p (.dK (penK l (i + 1) d (n + 1) f))) := fun b o nb e => by rw [upd_ne nb]; exact hE b o nb e
      generalize upd H1 p (.dK (penK l (i + 1) d (n + 1) f)) = H2 at hp2 hE2
      refine ⟨⟨by decide, by decide, by decide⟩, u, rfl, ?_⟩
      refine ite2 (fun hge => ?_) (fun _ => ?_)
      · have hge2 := of_decide_eq_true hge
        refine ⟨⟨by decide, by decide, by decide⟩, u, rfl, _, dp_digits hp2, ?_⟩
        refine ⟨u - 10 ^ (18 : Int).toNat, i + 1, f, _, _, _, rfl, upd_same, fun b o nb e => by rw [upd_ne nb]; exact hE2 b o nb e, by omega, by omega, hf, hf2⟩
      · refine ⟨_, dg_fold hp2, f, rfl, wide_mul (a := 40) (b := 40) (by omega) (by decide) (by decide) (by decide) (by decide), u, rfl, by decide, _, dp_fold hp2, ?_⟩
        refine ⟨d, i + 1, _, _, _, _, rfl, upd_same, fun b o nb e => by rw [upd_ne nb]; exact hE2 b o nb e, by omega, hd, by omega, by omega⟩
    · rintro σ' H' ⟨d', i', f', v2, v3, v4, rfl, hp', hE, hi', hd', hf', hf2'⟩
      have hl' := hE _ _ nlp hl
      simp only [tVar, rIxTH, rIxLH, gTupH, line_le, HO.tup.injEq, HO.lst.injEq, List.length_cons, List.length_nil, at0, at1, rU, tOst, tTest, rIxL, rIxT, C8.tCut, cxOf_K, tC, tOp, tUn, tSeq, tAsg, tNext, tRet, tRetN, tDrop, tIfS, tNever, gName, gNil, gCons, gTup, gSub, tPar, rI, rI0, rU, rEq, rNe, tB, tAnd, tOr, tNot, tAndV, tOrV, tNotV, tIf, tTup, tLst, tNil, tCons, tCB, tCall, tMeth, tMake, tFld, sFld, tDGet, sDPut, tDisp, tPairs, tBreak, tCont, scal_ii, scal_bb, scal_ss, List.getElem?_cons_zero, List.getElem?_cons_succ, List.set_cons_zero, List.set_cons_succ, Option.some.injEq, exists_eq_left', exists_eq_left, exists_and_left, V.int.injEq, V.bl.injEq, V.ref.injEq, V.str.injEq, List.cons.injEq, and_true, true_and, Bool.true_eq, List.nil_append, List.append_nil, List.cons_append, exists_eq', and_self, reduceCtorEq, false_or, or_false, false_and, exists_false, exists_const, and_assoc, if_true, Bool.false_eq_true, if_false, Nat.reduceAdd, Nat.reduceLeDiff, Nat.zero_add, Nat.le_refl, forall_const, st_L_draw]
      refine ⟨_, dg_digits hp', d', rfl, ?_⟩
      refine ite2 (fun hpos => ?_) (fun hneg => ?_)
      · have hpos2 := of_decide_eq_true hpos
        refine ⟨_, dg_digits hp', .inl ⟨d', rfl, hm, ?_⟩⟩
        refine ⟨_, dg_digits hp', d', rfl, ⟨hm, HwM.log2_lt (by decide) hm2⟩, _, dp_digits hp', ?_⟩
        refine k _ _ (fun b o nb e => by rw [upd_ne nb]; exact hE b o nb e) ⟨cs, i', d' / m, n + 1, f', upd_same, by rw [upd_ne nlp]; exact hl', hi', Int.ediv_nonneg hd' (by omega), by omega, by omega, hf', hf2'⟩ (Int.emod_nonneg _ (by omega)) (Int.emod_lt_of_pos _ hm)
      · refine ⟨_, dg_fold hp', _, dg_count hp', n + 1, rfl, wide_mul (a := 60) (b := 40) (by omega) (by decide) (by decide) (by decide) (by decide), f', rfl, ⟨by decide, by decide, by omega⟩, by decide, ?_⟩
        refine ⟨⟨by decide, by decide⟩, hm, ?_⟩
        refine k _ _ hE ⟨cs, i', d', n + 1, f', hp', hl', hi', hd', by omega, by omega, hf', hf2'⟩ (Int.emod_nonneg _ (by omega)) (Int.emod_lt_of_pos _ hm)


end HwL
end

section
namespace HwL
open PySem PySem.Spec PyProof.Rows L2 LamX
variable {P : Program} {w : World} {K : PySem.W.Frag} {mg : Str → Option Value} {base : Heap}

/-! ### kinds of values -/
/-- what the text says of the class Ratio, at C -/
structure RatC (K : PySem.W.Frag) (C : Addr) : Prop where
  cl : Cls K C
  nt : NoAttr K C "top"
  nb : NoAttr K C "bottom"
  ha : PySem.W.findIn K (.ref C) "__class__" = some (some (.builtin "object.__class__"))
  hn : PySem.W.specialIn K (.builtin "object.__class__") "__get__" = some (some (.builtin "getset_descriptor.__get__"))
  htk : PySem.W.takesIn K (.builtin "object.__class__") = some true
  hm : PySem.W.mroIn K C (.type "object") = some true
  kI : PySem.W.kitOne K (.ref C) (.type "int") = some false
  kB : PySem.W.kitOne K (.ref C) (.type "bool") = some false
  ki : PySem.W.kitOne K (.type "int") (.ref C) = some false
  kb : PySem.W.kitOne K (.type "bool") (.ref C) = some false
  ks : PySem.W.kitOne K (.type "str") (.ref C) = some false
  kn : PySem.W.kitOne K (.type "NoneType") (.ref C) = some false
  kt : PySem.W.kitOne K (.type "tuple") (.ref C) = some false
  kl : PySem.W.kitOne K (.type "list") (.ref C) = some false
  ni : PySem.W.notFirst K C (.type "int") = true
  nbo : PySem.W.notFirst K C (.type "bool") = true
  ns : PySem.W.notFirst K C (.type "str") = true
  nn : PySem.W.notFirst K C (.type "NoneType") = true
  ntu : PySem.W.notFirst K C (.type "tuple") = true
  nl : PySem.W.notFirst K C (.type "list") = true
/-- x's kind: its type t; whether it is an integer, a Ratio -/
structure Ty (K : PySem.W.Frag) (C : Addr) (H : Hp) (x : V) (isI isR : Bool) : Prop where
  ex : ∃ (t : Value) (bI bB : Bool), TyX K H x t ∧ PySem.W.kitOne K t (.type "int") = some bI ∧ PySem.W.kitOne K t (.type "bool") = some bB ∧ isI = (bI && !bB) ∧ PySem.W.kitOne K t (.ref C) = some isR ∧ PySem.W.notFirst K C t = true
/-- an object of class Ratio that is q -/
def ratF (q : Rat) : List (Str × V) := [("top", .int q.num), ("bottom", .int (q.den : Int))]
def IsR (C : Addr) (H : Hp) (x : V) (q : Rat) : Prop := ∃ a dx, x = .ref a ∧ H a = some (.ins C dx (ratF q))
/-- q as an object or an integer -/
def AsR (C : Addr) (H : Hp) (x : V) (q : Rat) : Prop := IsR C H x q ∨ ∃ i : Int, x = .int i ∧ q = (i : Rat)
theorem IsR.same {C : Addr} {H H' : Hp} {x : V} {q : Rat} (h : IsR C H x q) (e : Same H H') : IsR C H' x q := by
  obtain ⟨a, dx, h1, h2⟩ := h
  exact ⟨a, dx, h1, e _ _ h2⟩
theorem AsR.same {C : Addr} {H H' : Hp} {x : V} {q : Rat} (h : AsR C H x q) (e : Same H H') : AsR C H' x q := h.elim (fun h => .inl (h.same e)) .inr
theorem IsR.inst {C : Addr} {H : Hp} {x : V} {q : Rat} (h : IsR C H x q) : Inst H C x := by
  obtain ⟨a, dx, h1, h2⟩ := h
  exact ⟨a, dx, _, h1, h2⟩
theorem AsR.arg {C : Addr} {H : Hp} {x : V} {q : Rat} (h : AsR C H x q) : (∃ i, x = .int i) ∨ Inst H C x := by
  rcases h with h | ⟨i, h, _⟩
  · exact .inr h.inst
  · exact .inl ⟨i, h⟩
theorem ratF_top (q : Rat) : (ratF q).lookup ("top" : Str) = some (V.int q.num) := by unfold ratF; simp (decide := true) [List.lookup]
theorem ratF_bottom (q : Rat) : (ratF q).lookup ("bottom" : Str) = some (V.int (q.den : Int)) := by
  have e : (("bottom" : Str) == ("top" : Str)) = false := by decide
  unfold ratF
  simp [List.lookup, e]
theorem ratF_no (q : Rat) {m : Str} (h1 : (m == ("top" : Str)) = false) (h2 : (m == ("bottom" : Str)) = false) : (ratF q).lookup m = none := by unfold ratF; simp [List.lookup, h1, h2]
theorem ratF_put (t b : Int) (q : Rat) (h1 : t = q.num) (h2 : b = (q.den : Int)) : putF "bottom" (.int b) (putF "top" (.int t) []) = ratF q := by
  subst h1 h2
  unfold ratF putF
  simp (decide := true) [putF]
section
variable {K : PySem.W.Frag} {C : Addr} {H : Hp} (R : RatC K C)
include R
theorem ty_rat {x : V} (h : Inst H C x) : Ty K C H x false true := by
  obtain ⟨a, dx, fs, rfl, e⟩ := h
  exact ⟨.ref C, false, false, .base (.ins e R.cl R.ha R.hn R.htk R.hm), R.kI, R.kB, rfl, by unfold PySem.W.kitOne; simp, by unfold PySem.W.notFirst; simp⟩
theorem ty_int (i : Int) : Ty K C H (.int i) true false := ⟨.type "int", true, false, .base (.int i), kit_ty (by decide +kernel), kit_ty (by decide +kernel), rfl, R.ki, R.ni⟩
theorem ty_bl (b : Bool) : Ty K C H (.bl b) false false := ⟨.type "bool", true, true, .base (.bl b), kit_ty (by decide +kernel), kit_ty (by decide +kernel), rfl, R.kb, R.nbo⟩
theorem ty_str (x : Str) : Ty K C H (.str x) false false := ⟨.type "str", false, false, .base (.str x), kit_ty (by decide +kernel), kit_ty (by decide +kernel), rfl, R.ks, R.ns⟩
theorem ty_non : Ty K C H .non false false := ⟨.type "NoneType", false, false, .base .non, kit_ty (by decide +kernel), kit_ty (by decide +kernel), rfl, R.kn, R.nn⟩
theorem ty_tup {a : Addr} {xs : List V} (e : H a = some (.tup xs)) : Ty K C H (.ref a) false false := ⟨.type "tuple", false, false, .base (.tup e), kit_ty (by decide +kernel), kit_ty (by decide +kernel), rfl, R.kt, R.ntu⟩
theorem ty_lst {a : Addr} {xs : List V} (e : H a = some (.lst xs)) : Ty K C H (.ref a) false false := ⟨.type "list", false, false, .base (.lst e), kit_ty (by decide +kernel), kit_ty (by decide +kernel), rfl, R.kl, R.nl⟩
theorem ty_as {x : V} {q : Rat} (h : AsR C H x q) : ∃ i r, Ty K C H x i r ∧ (r || i) = true := by
  rcases h with h | ⟨i, rfl, _⟩
  · exact ⟨_, _, ty_rat R h.inst, rfl⟩
  · exact ⟨_, _, ty_int R i, rfl⟩
end
def ratB (K : PySem.W.Frag) (C : Addr) : Bool := PySem.W.plainGet K C Str.empty && (He.eqO (PySem.W.findIn K (.ref C) "__class__") (some (some (.builtin "object.__class__"))) && (He.eqO (PySem.W.specialIn K (.builtin "object.__class__") "__get__") (some (some (.builtin "getset_descriptor.__get__"))) && (decide (PySem.W.takesIn K (.builtin "object.__class__") = some true) && (decide (PySem.W.mroIn K C (.type "object") = some true) &&
  ((["int", "bool"].all fun n => decide (PySem.W.kitOne K (.ref C) (.type n) = some false)) && ((["int", "bool", "str", "NoneType", "tuple", "list"].all fun n => decide (PySem.W.kitOne K (.type n) (.ref C) = some false)) && (["int", "bool", "str", "NoneType", "tuple", "list"].all fun n => PySem.W.notFirst K C (.type n))))))))
theorem ratB_ok {K : PySem.W.Frag} {C : Addr} (cl : Cls K C) (nt : NoAttr K C "top") (nb : NoAttr K C "bottom") (h : ratB K C = true) : RatC K C := by
  obtain ⟨_, h⟩ := He.ba h
  obtain ⟨h1, h⟩ := He.ba h
  obtain ⟨h2, h⟩ := He.ba h
  obtain ⟨h3, h⟩ := He.ba h
  obtain ⟨h4, h⟩ := He.ba h
  obtain ⟨h5, h⟩ := He.ba h
  obtain ⟨h6, h7⟩ := He.ba h
  have a5 := List.all_eq_true.mp h5
  have a6 := List.all_eq_true.mp h6
  have a7 := List.all_eq_true.mp h7
  exact ⟨cl, nt, nb, He.eqO_ok h1, He.eqO_ok h2, of_decide_eq_true h3, of_decide_eq_true h4, of_decide_eq_true (a5 _ (by decide)), of_decide_eq_true (a5 _ (by decide)), of_decide_eq_true (a6 _ (by decide)), of_decide_eq_true (a6 _ (by decide)), of_decide_eq_true (a6 _ (by decide)), of_decide_eq_true (a6 _ (by decide)), of_decide_eq_true (a6 _ (by decide)), of_decide_eq_true (a6 _ (by decide)), a7 _ (by decide), a7 _ (by decide), a7 _ (by decide), a7 _ (by decide), a7 _ (by decide), a7 _ (by decide)⟩


end HwL
end

section
namespace HwL
open PySem PySem.Spec PyProof.Rows L2 LamX
variable {P : Program} {w : World} {K : PySem.W.Frag} {mg : Str → Option Value} {base : Heap}

/-! ### the package's errors and ratios -/
abbrev s_BadNumberD_initD : Stmt := inClass (top 4) 0
abbrev N_BadNumberD_initD : List Str := ["self", "what", "number"]
theorem sc_BadNumberD_initD : FnScope N_BadNumberD_initD ["self", "what", "number"] (defScope s_BadNumberD_initD) := ⟨rfl, rfl, rfl, by decide +kernel, rfl, by decide +kernel, by decide +kernel⟩
theorem st_BadNumberD_initD {v0 v1 v2 : V} : L2.start N_BadNumberD_initD [v0, v1, v2] = [some v0, some v1, some v2] := rfl
theorem ok_BadNumberD_initD {f : Addr} {fd : FuncData} (F : FD K s_BadNumberD_initD "__init__" "BadNumber.__init__" f fd) {C_BadNumber : Addr} (TX : OexC K C_BadNumber) (n1 : PySem.W.findIn K (.ref C_BadNumber) "what" = some none) (n2 : PySem.W.findIn K (.ref C_BadNumber) "number" = some none) : FnOk P w K mg base (L2.CX P w) 1 f fd ["self", "what", "number"] (spX2 C_BadNumber "what" "number") := by
  have nd := sc_BadNumberD_initD.nd
  refine F.ok0 sc_BadNumberD_initD (fun vs H Q E h => ?_) (fun cdv A outer s H vs Q E hr h => ?_)
  · obtain ⟨a, x, y, rfl, _⟩ := h
    rfl
  · obtain ⟨a, x, y, rfl, ha, k⟩ := h
    refine ⟨_, (pss_cons (ps_ost (pv 0) (pv 1))
        (pss_one (ps_ost (pv 0) (pv 2)))), ?_⟩
    simp only [tVar, rIxTH, rIxLH, gTupH, line_le, HO.tup.injEq, HO.lst.injEq, List.length_cons, List.length_nil, at0, at1, rU, tOst, tTest, rIxL, rIxT, C8.tCut, cxOf_K, tC, tOp, tUn, tSeq, tAsg, tNext, tRet, tRetN, tDrop, tIfS, tNever, gName, gNil, gCons, gTup, gSub, tPar, rI, rI0, rU, rEq, rNe, tB, tAnd, tOr, tNot, tAndV, tOrV, tNotV, tIf, tTup, tLst, tNil, tCons, tCB, tCall, tMeth, tMake, tFld, sFld, tDGet, sDPut, tDisp, tPairs, tBreak, tCont, scal_ii, scal_bb, scal_ss, List.getElem?_cons_zero, List.getElem?_cons_succ, List.set_cons_zero, List.set_cons_succ, Option.some.injEq, exists_eq_left', exists_eq_left, exists_and_left, V.int.injEq, V.bl.injEq, V.ref.injEq, V.str.injEq, List.cons.injEq, and_true, true_and, Bool.true_eq, List.nil_append, List.append_nil, List.cons_append, exists_eq', and_self, reduceCtorEq, false_or, or_false, false_and, exists_false, exists_const, and_assoc, if_true, Bool.false_eq_true, if_false, Nat.reduceAdd, Nat.reduceLeDiff, Nat.zero_add, Nat.le_refl, forall_const, st_BadNumberD_initD]
    refine ⟨C_BadNumber, TX, n1, .inl ⟨ha, fun d hd hda => ?_⟩⟩
    refine ⟨C_BadNumber, TX, n2, .inr ⟨d, upd_same, [("what", x)], by rw [upd_ne hda, upd_same], by show 1 ≤ 900; decide, ?_⟩⟩
    exact k d hd hda
/-- what is wished where a bottom is 0 -/
def Bot0 (CB : Addr) (H : Hp) (E : XK) : Prop := ∀ H' d, Same H H' → H' d = some (.xd [("number", .int 0), ("what", .str "bottom")]) → E (.ref CB) (some d) H'
/-- Ratio(t, b): in lowest terms -/
def spInit (C CB : Addr) : Sp := fun vs H Q E => ∃ (p dx : Addr) (t b : Int), vs = [.ref p, .int t, .int b] ∧ H p = some (.ins C dx []) ∧ b.natAbs < 2 ^ 9000 ∧
  (b ≠ 0 → Q .non (upd H p (.ins C dx (ratF (Rat.divInt t b))))) ∧ (b = 0 → Bot0 CB H E)
abbrev s_RatioD_initD : Stmt := inClass (top 6) 0
abbrev N_RatioD_initD : List Str := ["self", "top", "bottom", "common"]
theorem sc_RatioD_initD : FnScope N_RatioD_initD ["self", "top", "bottom"] (defScope s_RatioD_initD) := ⟨rfl, rfl, rfl, by decide +kernel, rfl, by decide +kernel, by decide +kernel⟩
theorem st_RatioD_initD {v0 v1 v2 : V} : L2.start N_RatioD_initD [v0, v1, v2] = [some v0, some v1, some v2, none] := rfl
theorem ok_RatioD_initD {f : Addr} {fd : FuncData} (F : FunD K "__init__" "Ratio.__init__" (defArgs s_RatioD_initD) (defBody s_RatioD_initD) (defScope s_RatioD_initD) [.int 1] [] f fd) {C_Ratio : Addr} (R : RatC K C_Ratio) (m_gcd : mg "gcd" = some (.builtin "math.gcd")) (g_BadNumber : Xf P w K mg base "BadNumber" C_BadNumber 1 (spX2 C_BadNumber "what" "number")) : FnOk P w K mg base (L2.CX P w) 3 f fd ["self", "top", "bottom"] (spInit C_Ratio C_BadNumber) := by
  have nd := sc_RatioD_initD.nd
  refine F.okX sc_RatioD_initD (fun vs H Q E h => ?_) (fun cdv A outer s H vs Q E hr h => ?_)
  · obtain ⟨p, dx, t, b, rfl, _⟩ := h
    rfl
  · obtain ⟨p, dx, t, b, rfl, hp, hb, k, ke⟩ := h
    refine ⟨_, (pss_cons (ps_if (pt_cmpR op_eq (pv 2) pe_int (nomark _)) (pss_one (ps_raiseX g_BadNumber hr (by decide) rfl (takes_of rfl rfl rfl rfl) rfl (pa_cons pe_str (pa_cons pe_int pa_nil)))) pss_nil)
        (pss_cons (ps_set (i := 3) nd rfl (Or.inl rfl) (pe_callBfun cr_gcd rfl m_gcd (pa_cons (pv 1) (pa_cons (pv 2) pa_nil))))
        (C8.pss_cut (ps_if (pt_cmpR op_lt (pv 2) pe_int (nomark _)) (pss_one (ps_set (i := 3) nd rfl (Or.inl rfl) (pe_un un_neg (pv 3)))) pss_nil)
        (pss_cons (ps_fld (pv 0) (pe_op op_fdivX (pv 1) (pv 3)) rfl)
        (pss_one (ps_fld (pv 0) (pe_op op_fdivX (pv 2) (pv 3)) rfl)))))), ?_⟩
    simp only [tVar, rIxTH, rIxLH, gTupH, line_le, HO.tup.injEq, HO.lst.injEq, List.length_cons, List.length_nil, at0, at1, rU, tOst, tTest, rIxL, rIxT, C8.tCut, cxOf_K, tC, tOp, tUn, tSeq, tAsg, tNext, tRet, tRetN, tDrop, tIfS, tNever, gName, gNil, gCons, gTup, gSub, tPar, rI, rI0, rU, rEq, rNe, tB, tAnd, tOr, tNot, tAndV, tOrV, tNotV, tIf, tTup, tLst, tNil, tCons, tCB, tCall, tMeth, tMake, tFld, sFld, tDGet, sDPut, tDisp, tPairs, tBreak, tCont, scal_ii, scal_bb, scal_ss, List.getElem?_cons_zero, List.getElem?_cons_succ, List.set_cons_zero, List.set_cons_succ, Option.some.injEq, exists_eq_left', exists_eq_left, exists_and_left, V.int.injEq, V.bl.injEq, V.ref.injEq, V.str.injEq, List.cons.injEq, and_true, true_and, Bool.true_eq, List.nil_append, List.append_nil, List.cons_append, exists_eq', and_self, reduceCtorEq, false_or, or_false, false_and, exists_false, exists_const, and_assoc, if_true, Bool.false_eq_true, if_false, Nat.reduceAdd, Nat.reduceLeDiff, Nat.zero_add, Nat.le_refl, forall_const, st_RatioD_initD, rGcd, tMkO, CDivX, upd_same]
    refine ite2 (fun hb0 => ?_) (fun hb0 => ?_)
    · have hb1 : b = 0 := by simpa using hb0
      refine fun a ha => ⟨a, _, _, rfl, upd_same, fun d hd hda => ⟨rfl, x2_made ha (by rw [upd_ne hda] at hd; exact hd) hda fun H2 e1 e2 => ke hb1 H2 d e1 e2⟩⟩
    · have hb1 : b ≠ 0 := by simpa using hb0
      refine ⟨fun σ' H' => H' = H ∧ σ' = [some (.ref p), some (.int t), some (.int b), some (.int (if b < 0 then -((Nat.gcd t.natAbs b.natAbs : Nat) : Int) else ((Nat.gcd t.natAbs b.natAbs : Nat) : Int)))], ?_, ?_⟩
      · by_cases hn : b < 0
        · simp only [hn, decide_true, if_true]
          exact ⟨trivial, trivial⟩
        · simp only [hn, decide_false, if_false, Bool.false_eq_true]
          exact ⟨trivial, trivial⟩
      · rintro σ' H' ⟨rfl, rfl⟩
        have l2 := HwM.log2_lt (k := 9000) (by decide) (Nat.lt_of_le_of_lt (HwM.gcd_le (t := t) hb1) hb)
        simp only [tVar, rIxTH, rIxLH, gTupH, line_le, HO.tup.injEq, HO.lst.injEq, List.length_cons, List.length_nil, at0, at1, rU, tOst, tTest, rIxL, rIxT, C8.tCut, cxOf_K, tC, tOp, tUn, tSeq, tAsg, tNext, tRet, tRetN, tDrop, tIfS, tNever, gName, gNil, gCons, gTup, gSub, tPar, rI, rI0, rU, rEq, rNe, tB, tAnd, tOr, tNot, tAndV, tOrV, tNotV, tIf, tTup, tLst, tNil, tCons, tCB, tCall, tMeth, tMake, tFld, sFld, tDGet, sDPut, tDisp, tPairs, tBreak, tCont, scal_ii, scal_bb, scal_ss, List.getElem?_cons_zero, List.getElem?_cons_succ, List.set_cons_zero, List.set_cons_succ, Option.some.injEq, exists_eq_left', exists_eq_left, exists_and_left, V.int.injEq, V.bl.injEq, V.ref.injEq, V.str.injEq, List.cons.injEq, and_true, true_and, Bool.true_eq, List.nil_append, List.append_nil, List.cons_append, exists_eq', and_self, reduceCtorEq, false_or, or_false, false_and, exists_false, exists_const, and_assoc, if_true, Bool.false_eq_true, if_false, Nat.reduceAdd, Nat.reduceLeDiff, Nat.zero_add, Nat.le_refl, forall_const, st_RatioD_initD, CDivX, upd_same]
        refine ⟨HwM.gcd_ne hb1, l2, _, _, _, hp, R.cl, R.nt, by decide, HwM.gcd_ne hb1, l2, _, _, _, rfl, R.cl, R.nb, by show 1 < 1000; decide, ?_⟩
        rw [upd_upd, HwM.num_fdiv hb1, HwM.den_fdiv hb1, ratF_put _ _ (Rat.divInt t b) rfl rfl]
        exact k hb1
theorem made_rat {C CB : Addr} {H : Hp} {t b : Int} {Q : VK} {E : XK} (hb : b.natAbs < 2 ^ 9000) (k : b ≠ 0 → ∀ H' x, Same H H' → IsR C H' x (Rat.divInt t b) → Q x H') (ke : b = 0 → Bot0 CB H E) (x dx : Addr) (hx : H x = none) (hd : H dx = none) (hne : dx ≠ x) :
    spInit C CB [.ref x, .int t, .int b] (upd (upd H dx (.own x)) x (.ins C dx [])) (fun v H2 => v = .non ∧ Q (.ref x) H2) E := by
  have sm : Same H (upd (upd H dx (.own x)) x (.ins C dx [])) := fun c o e => by rw [upd_ne (ne_of_none e hx), upd_ne (ne_of_none e hd)]; exact e
  refine ⟨x, dx, t, b, rfl, upd_same, hb, fun h => ⟨rfl, k h _ _ (fun c o e => ?_) ⟨x, dx, rfl, upd_same⟩⟩, fun h H' d e1 e2 => ke h H' d (sm.trans e1) e2⟩
  rw [upd_ne (ne_of_none e hx)]
  exact sm _ _ e
def spIsInt (K : PySem.W.Frag) (C : Addr) : Sp := fun vs H Q _ => ∃ (x : V) (i r : Bool), vs = [x] ∧ Ty K C H x i r ∧ Q (.bl i) H
abbrev s_is_integer : Stmt := top 7
abbrev N_is_integer : List Str := ["value"]
theorem sc_is_integer : FnScope N_is_integer ["value"] (defScope s_is_integer) := ⟨rfl, rfl, rfl, by decide +kernel, rfl, by decide +kernel, by decide +kernel⟩
theorem st_is_integer {v0 : V} : L2.start N_is_integer [v0] = [some v0] := rfl
theorem ok_is_integer {f : Addr} {fd : FuncData} (F : FD K s_is_integer "is_integer" "is_integer" f fd) {C_Ratio : Addr} (z_isinstance : mg "isinstance" = none) (z_bool : mg "bool" = none) (z_int : mg "int" = none) : FnOk P w K mg base (L2.CX P w) 1 f fd ["value"] (spIsInt K C_Ratio) := by
  have nd := sc_is_integer.nd
  refine F.ok0 sc_is_integer (fun vs H Q E h => ?_) (fun cdv A outer s H vs Q E hr h => ?_)
  · obtain ⟨x, i, r, rfl, _⟩ := h
    rfl
  · obtain ⟨x, i, r, rfl, hT, k⟩ := h
    obtain ⟨t, bI, bB, ty, e1, e2, rfl, e3, nf⟩ := hT.ex
    refine ⟨_, (pss_one (ps_ret (pe_and (pe_callB (id := "isinstance") (r := rIsi K) (call_isiE rfl) (by rfl) z_isinstance (by decide +kernel) (pa_cons (pv 0) (pa_cons (pe_bltn (v := .ty "int") rfl z_int (by decide +kernel) rfl) pa_nil))) (pe_one (pe_not (pe_callB (id := "isinstance") (r := rIsi K) (call_isiE rfl) (by rfl) z_isinstance (by decide +kernel) (pa_cons (pv 0) (pa_cons (pe_bltn (v := .ty "bool") rfl z_bool (by decide +kernel) rfl) pa_nil)))))))), ?_⟩
    simp only [tVar, rIxTH, rIxLH, gTupH, line_le, HO.tup.injEq, HO.lst.injEq, List.length_cons, List.length_nil, at0, at1, rU, tOst, tTest, rIxL, rIxT, C8.tCut, cxOf_K, tC, tOp, tUn, tSeq, tAsg, tNext, tRet, tRetN, tDrop, tIfS, tNever, gName, gNil, gCons, gTup, gSub, tPar, rI, rI0, rU, rEq, rNe, tB, tAnd, tOr, tNot, tAndV, tOrV, tNotV, tIf, tTup, tLst, tNil, tCons, tCB, tCall, tMeth, tMake, tFld, sFld, tDGet, sDPut, tDisp, tPairs, tBreak, tCont, scal_ii, scal_bb, scal_ss, List.getElem?_cons_zero, List.getElem?_cons_succ, List.set_cons_zero, List.set_cons_succ, Option.some.injEq, exists_eq_left', exists_eq_left, exists_and_left, V.int.injEq, V.bl.injEq, V.ref.injEq, V.str.injEq, List.cons.injEq, and_true, true_and, Bool.true_eq, List.nil_append, List.append_nil, List.cons_append, exists_eq', and_self, reduceCtorEq, false_or, or_false, false_and, exists_false, exists_const, and_assoc, if_true, Bool.false_eq_true, if_false, Nat.reduceAdd, Nat.reduceLeDiff, Nat.zero_add, Nat.le_refl, forall_const, st_is_integer, rIsi]
    refine ⟨t, .type "int", .ty _, ty, bI, e1, ?_⟩
    cases bI with
    | true => exact iteT ⟨t, .type "bool", .ty _, ty, bB, e2, by simpa using k⟩
    | false => exact iteF (by simpa using k)
def spIsRat (K : PySem.W.Frag) (C : Addr) : Sp := fun vs H Q _ => ∃ (x : V) (i r : Bool), vs = [x] ∧ Ty K C H x i r ∧ Q (.bl (r || i)) H
abbrev s_is_ratio : Stmt := top 8
abbrev N_is_ratio : List Str := ["value"]
theorem sc_is_ratio : FnScope N_is_ratio ["value"] (defScope s_is_ratio) := ⟨rfl, rfl, rfl, by decide +kernel, rfl, by decide +kernel, by decide +kernel⟩
theorem st_is_ratio {v0 : V} : L2.start N_is_ratio [v0] = [some v0] := rfl
theorem ok_is_ratio {f : Addr} {fd : FuncData} (F : FD K s_is_ratio "is_ratio" "is_ratio" f fd) {C_Ratio : Addr} (z_isinstance : mg "isinstance" = none) (m_Ratio : mg "Ratio" = some (.ref C_Ratio)) (g_is_integer : Gf P w K mg base "is_integer" 1 ["value"] (spIsInt K C_Ratio)) : FnOk P w K mg base (L2.CX P w) 2 f fd ["value"] (spIsRat K C_Ratio) := by
  have nd := sc_is_ratio.nd
  refine F.ok0 sc_is_ratio (fun vs H Q E h => ?_) (fun cdv A outer s H vs Q E hr h => ?_)
  · obtain ⟨x, i, r, rfl, _⟩ := h
    rfl
  · obtain ⟨x, i, r, rfl, hT, k⟩ := h
    obtain ⟨t, bI, bB, ty, e1, e2, e4, e3, nf⟩ := hT.ex
    refine ⟨_, (pss_one (ps_ret (pe_or (pe_callB (id := "isinstance") (r := rIsi K) (call_isiE rfl) (by rfl) z_isinstance (by decide +kernel) (pa_cons (pv 0) (pa_cons (pe_glob (v := .ref C_Ratio) rfl m_Ratio rfl) pa_nil))) (pe_one (pe_g g_is_integer hr (by decide) passL rfl (pa_cons (pv 0) pa_nil)))))), ?_⟩
    simp only [tVar, rIxTH, rIxLH, gTupH, line_le, HO.tup.injEq, HO.lst.injEq, List.length_cons, List.length_nil, at0, at1, rU, tOst, tTest, rIxL, rIxT, C8.tCut, cxOf_K, tC, tOp, tUn, tSeq, tAsg, tNext, tRet, tRetN, tDrop, tIfS, tNever, gName, gNil, gCons, gTup, gSub, tPar, rI, rI0, rU, rEq, rNe, tB, tAnd, tOr, tNot, tAndV, tOrV, tNotV, tIf, tTup, tLst, tNil, tCons, tCB, tCall, tMeth, tMake, tFld, sFld, tDGet, sDPut, tDisp, tPairs, tBreak, tCont, scal_ii, scal_bb, scal_ss, List.getElem?_cons_zero, List.getElem?_cons_succ, List.set_cons_zero, List.set_cons_succ, Option.some.injEq, exists_eq_left', exists_eq_left, exists_and_left, V.int.injEq, V.bl.injEq, V.ref.injEq, V.str.injEq, List.cons.injEq, and_true, true_and, Bool.true_eq, List.nil_append, List.append_nil, List.cons_append, exists_eq', and_self, reduceCtorEq, false_or, or_false, false_and, exists_false, exists_const, and_assoc, if_true, Bool.false_eq_true, if_false, Nat.reduceAdd, Nat.reduceLeDiff, Nat.zero_add, Nat.le_refl, forall_const, st_is_ratio, rIsi]
    refine ⟨t, .ref C_Ratio, .own _, ty, r, e3, ?_⟩
    cases r with
    | true => exact iteT k
    | false => exact iteF ⟨x, i, false, rfl, hT, k⟩
def spAs (C : Addr) : Sp := fun vs H Q _ => ∃ (x : V) (q : Rat), vs = [x] ∧ AsR C H x q ∧ ∀ H' y, Same H H' → IsR C H' y q → Q y H'
abbrev s_as_ratio : Stmt := top 9
abbrev N_as_ratio : List Str := ["value"]
theorem sc_as_ratio : FnScope N_as_ratio ["value"] (defScope s_as_ratio) := ⟨rfl, rfl, rfl, by decide +kernel, rfl, by decide +kernel, by decide +kernel⟩
theorem st_as_ratio {v0 : V} : L2.start N_as_ratio [v0] = [some v0] := rfl
theorem ok_as_ratio {f : Addr} {fd : FuncData} (F : FD K s_as_ratio "as_ratio" "as_ratio" f fd) {C_Ratio C_BadNumber : Addr} (R : RatC K C_Ratio) (z_isinstance : mg "isinstance" = none) (m_Ratio : mg "Ratio" = some (.ref C_Ratio)) (g_Ratio1 : Kf P w K mg base "Ratio" C_Ratio 3 ["self", "top", "bottom"] [.int 1] (spInit C_Ratio C_BadNumber)) : FnOk P w K mg base (L2.CX P w) 5 f fd ["value"] (spAs C_Ratio) := by
  have nd := sc_as_ratio.nd
  refine F.ok0 sc_as_ratio (fun vs H Q E h => ?_) (fun cdv A outer s H vs Q E hr h => ?_)
  · obtain ⟨x, q, rfl, _⟩ := h
    rfl
  · obtain ⟨x, q, rfl, hx, k⟩ := h
    refine ⟨_, (pss_one (ps_ret (pe_ifExp (pt_val (pe_callB (id := "isinstance") (r := rIsi K) (call_isiE rfl) (by rfl) z_isinstance (by decide +kernel) (pa_cons (pv 0) (pa_cons (pe_glob (v := .ref C_Ratio) rfl m_Ratio rfl) pa_nil)))) (pv 0) (pe_k g_Ratio1 hr (by decide) passL rfl (pa_cons (pv 0) pa_nil))))), ?_⟩
    simp only [tVar, rIxTH, rIxLH, gTupH, line_le, HO.tup.injEq, HO.lst.injEq, List.length_cons, List.length_nil, at0, at1, rU, tOst, tTest, rIxL, rIxT, C8.tCut, cxOf_K, tC, tOp, tUn, tSeq, tAsg, tNext, tRet, tRetN, tDrop, tIfS, tNever, gName, gNil, gCons, gTup, gSub, tPar, rI, rI0, rU, rEq, rNe, tB, tAnd, tOr, tNot, tAndV, tOrV, tNotV, tIf, tTup, tLst, tNil, tCons, tCB, tCall, tMeth, tMake, tFld, sFld, tDGet, sDPut, tDisp, tPairs, tBreak, tCont, scal_ii, scal_bb, scal_ss, List.getElem?_cons_zero, List.getElem?_cons_succ, List.set_cons_zero, List.set_cons_succ, Option.some.injEq, exists_eq_left', exists_eq_left, exists_and_left, V.int.injEq, V.bl.injEq, V.ref.injEq, V.str.injEq, List.cons.injEq, and_true, true_and, Bool.true_eq, List.nil_append, List.append_nil, List.cons_append, exists_eq', and_self, reduceCtorEq, false_or, or_false, false_and, exists_false, exists_const, and_assoc, if_true, Bool.false_eq_true, if_false, Nat.reduceAdd, Nat.reduceLeDiff, Nat.zero_add, Nat.le_refl, forall_const, st_as_ratio, rIsi]
    rcases hx with hx | ⟨i, rfl, rfl⟩
    · obtain ⟨t, bI, bB, ty, e1, e2, e4, e3, nf⟩ := (ty_rat R hx.inst).ex
      exact ⟨t, .ref C_Ratio, .own _, ty, true, e3, iteT (k _ _ (Same.refl _) hx)⟩
    · obtain ⟨t, bI, bB, ty, e1, e2, e4, e3, nf⟩ := (ty_int R (H := H) i).ex
      refine ⟨t, .ref C_Ratio, .own _, ty, false, e3, iteF ?_⟩
      exact made_rat (by decide) (fun _ H' y e1 e2 => k H' y e1 (by rw [HwM.int_eq] at e2; exact e2)) (fun z => by cases z)


end HwL
end

section
namespace HwL
open PySem PySem.Spec PyProof.Rows L2 LamX
variable {P : Program} {w : World} {K : PySem.W.Frag} {mg : Str → Option Value} {base : Heap}

def spBin (C : Addr) (g : Rat → Rat → Rat) : Sp := fun vs H Q _ => ∃ (x y : V) (q r : Rat), vs = [x, y] ∧ IsR C H x q ∧ AsR C H y r ∧ HwM.Bd 4000 q ∧ HwM.Bd 4000 r ∧ ∀ H' z, Same H H' → IsR C H' z (g q r) → Q z H'
theorem cm_nd {q r : Rat} (a : HwM.Bd 4000 q) (b : HwM.Bd 4000 r) : CMulW q.num (r.den : Int) := wide_mul a.1 (by simpa using b.2) (by decide) (by decide) (by decide)
theorem cm_dn {q r : Rat} (a : HwM.Bd 4000 q) (b : HwM.Bd 4000 r) : CMulW (q.den : Int) r.num := wide_mul (by simpa using a.2) b.1 (by decide) (by decide) (by decide)
theorem cm_dd {q r : Rat} (a : HwM.Bd 4000 q) (b : HwM.Bd 4000 r) : CMulW (q.den : Int) (r.den : Int) := wide_mul (by simpa using a.2) (by simpa using b.2) (by decide) (by decide) (by decide)
theorem cm_nn {q r : Rat} (a : HwM.Bd 4000 q) (b : HwM.Bd 4000 r) : CMulW q.num r.num := wide_mul a.1 b.1 (by decide) (by decide) (by decide)
theorem big_dd {q r : Rat} (a : HwM.Bd 4000 q) (b : HwM.Bd 4000 r) : ((q.den : Int) * r.den).natAbs < 2 ^ 9000 := HwM.lt_mono (HwM.den_bd a b) (by decide)
abbrev s_RatioD_addD : Stmt := inClass (top 6) 2
abbrev N_RatioD_addD : List Str := ["self", "other", "term"]
theorem sc_RatioD_addD : FnScope N_RatioD_addD ["self", "other"] (defScope s_RatioD_addD) := ⟨rfl, rfl, rfl, by decide +kernel, rfl, by decide +kernel, by decide +kernel⟩
theorem st_RatioD_addD {v0 v1 : V} : L2.start N_RatioD_addD [v0, v1] = [some v0, some v1, none] := rfl
theorem ok_RatioD_addD {f : Addr} {fd : FuncData} (F : FD K s_RatioD_addD "__add__" "Ratio.__add__" f fd) {C_Ratio C_BadNumber : Addr} (R : RatC K C_Ratio) (g_Ratio : Kf P w K mg base "Ratio" C_Ratio 3 ["self", "top", "bottom"] [] (spInit C_Ratio C_BadNumber)) (g_as_ratio : Gf P w K mg base "as_ratio" 5 ["value"] (spAs C_Ratio)) (g_is_ratio : Gf P w K mg base "is_ratio" 2 ["value"] (spIsRat K C_Ratio)) : FnOk P w K mg base (L2.CX P w) 6 f fd ["self", "other"] (spBin C_Ratio (fun q r => q + r)) := by
  have nd := sc_RatioD_addD.nd
  refine F.ok0 sc_RatioD_addD (fun vs H Q E h => ?_) (fun cdv A outer s H vs Q E hr h => ?_)
  · obtain ⟨x, y, q, r, rfl, _⟩ := h
    rfl
  · obtain ⟨x, y, q, r, rfl, hx, hy, bq, br, k⟩ := h
    obtain ⟨i, b, hT, hir⟩ := ty_as R hy
    refine ⟨_, (pss_cons (ps_if (pt_not (pt_val (pe_g g_is_ratio hr (by decide) passL rfl (pa_cons (pv 1) pa_nil)))) (pss_one (ps_never)) pss_nil)
        (pss_cons (ps_set (i := 2) nd rfl (Or.inl rfl) (pe_g g_as_ratio hr (by decide) passL rfl (pa_cons (pv 1) pa_nil)))
        (pss_one (ps_ret (pe_k g_Ratio hr (by decide) passL rfl (pa_cons (pe_op op_add (pe_op op_mulW (pe_fld (pv 0) rfl) (pe_fld (pv 2) rfl)) (pe_op op_mulW (pe_fld (pv 2) rfl) (pe_fld (pv 0) rfl))) (pa_cons (pe_op op_mulW (pe_fld (pv 0) rfl) (pe_fld (pv 2) rfl)) pa_nil))))))), ?_⟩
    simp only [tVar, rIxTH, rIxLH, gTupH, line_le, HO.tup.injEq, HO.lst.injEq, List.length_cons, List.length_nil, at0, at1, rU, tOst, tTest, rIxL, rIxT, C8.tCut, cxOf_K, tC, tOp, tUn, tSeq, tAsg, tNext, tRet, tRetN, tDrop, tIfS, tNever, gName, gNil, gCons, gTup, gSub, tPar, rI, rI0, rU, rEq, rNe, tB, tAnd, tOr, tNot, tAndV, tOrV, tNotV, tIf, tTup, tLst, tNil, tCons, tCB, tCall, tMeth, tMake, tFld, sFld, tDGet, sDPut, tDisp, tPairs, tBreak, tCont, scal_ii, scal_bb, scal_ss, List.getElem?_cons_zero, List.getElem?_cons_succ, List.set_cons_zero, List.set_cons_succ, Option.some.injEq, exists_eq_left', exists_eq_left, exists_and_left, V.int.injEq, V.bl.injEq, V.ref.injEq, V.str.injEq, List.cons.injEq, and_true, true_and, Bool.true_eq, List.nil_append, List.append_nil, List.cons_append, exists_eq', and_self, reduceCtorEq, false_or, or_false, false_and, exists_false, exists_const, and_assoc, if_true, Bool.false_eq_true, if_false, Nat.reduceAdd, Nat.reduceLeDiff, Nat.zero_add, Nat.le_refl, forall_const, st_RatioD_addD]
    refine ⟨y, i, b, rfl, hT, _, rfl, ?_⟩
    rw [hir]
    refine iteF ?_
    refine ⟨y, r, rfl, hy, fun H1 z s1 hz => ?_⟩
    obtain ⟨a, dx, rfl, ha⟩ := hx.same s1
    obtain ⟨c, dz, rfl, hc⟩ := hz
    simp only [tVar, rIxTH, rIxLH, gTupH, line_le, HO.tup.injEq, HO.lst.injEq, List.length_cons, List.length_nil, at0, at1, rU, tOst, tTest, rIxL, rIxT, C8.tCut, cxOf_K, tC, tOp, tUn, tSeq, tAsg, tNext, tRet, tRetN, tDrop, tIfS, tNever, gName, gNil, gCons, gTup, gSub, tPar, rI, rI0, rU, rEq, rNe, tB, tAnd, tOr, tNot, tAndV, tOrV, tNotV, tIf, tTup, tLst, tNil, tCons, tCB, tCall, tMeth, tMake, tFld, sFld, tDGet, sDPut, tDisp, tPairs, tBreak, tCont, scal_ii, scal_bb, scal_ss, List.getElem?_cons_zero, List.getElem?_cons_succ, List.set_cons_zero, List.set_cons_succ, Option.some.injEq, exists_eq_left', exists_eq_left, exists_and_left, V.int.injEq, V.bl.injEq, V.ref.injEq, V.str.injEq, List.cons.injEq, and_true, true_and, Bool.true_eq, List.nil_append, List.append_nil, List.cons_append, exists_eq', and_self, reduceCtorEq, false_or, or_false, false_and, exists_false, exists_const, and_assoc, if_true, Bool.false_eq_true, if_false, Nat.reduceAdd, Nat.reduceLeDiff, Nat.zero_add, Nat.le_refl, forall_const, st_RatioD_addD, HO.ins.injEq, R.cl, R.nt, R.nb, ratF_top, ratF_bottom, ha, hc, cm_nd bq br, cm_nd br bq, cm_dd bq br, cm_nn bq br]
    exact made_rat (big_dd bq br) (fun _ H2 z e1 e2 => k H2 z (s1.trans e1) (by rw [HwM.add_eq] at e2; exact e2)) (fun z => absurd z (HwM.dens_ne q r))
abbrev s_RatioD_subD : Stmt := inClass (top 6) 3
abbrev N_RatioD_subD : List Str := ["self", "other", "term"]
theorem sc_RatioD_subD : FnScope N_RatioD_subD ["self", "other"] (defScope s_RatioD_subD) := ⟨rfl, rfl, rfl, by decide +kernel, rfl, by decide +kernel, by decide +kernel⟩
theorem st_RatioD_subD {v0 v1 : V} : L2.start N_RatioD_subD [v0, v1] = [some v0, some v1, none] := rfl
theorem ok_RatioD_subD {f : Addr} {fd : FuncData} (F : FD K s_RatioD_subD "__sub__" "Ratio.__sub__" f fd) {C_Ratio C_BadNumber : Addr} (R : RatC K C_Ratio) (g_Ratio : Kf P w K mg base "Ratio" C_Ratio 3 ["self", "top", "bottom"] [] (spInit C_Ratio C_BadNumber)) (g_as_ratio : Gf P w K mg base "as_ratio" 5 ["value"] (spAs C_Ratio)) (g_is_ratio : Gf P w K mg base "is_ratio" 2 ["value"] (spIsRat K C_Ratio)) : FnOk P w K mg base (L2.CX P w) 6 f fd ["self", "other"] (spBin C_Ratio (fun q r => q - r)) := by
  have nd := sc_RatioD_subD.nd
  refine F.ok0 sc_RatioD_subD (fun vs H Q E h => ?_) (fun cdv A outer s H vs Q E hr h => ?_)
  · obtain ⟨x, y, q, r, rfl, _⟩ := h
    rfl
  · obtain ⟨x, y, q, r, rfl, hx, hy, bq, br, k⟩ := h
    obtain ⟨i, b, hT, hir⟩ := ty_as R hy
    refine ⟨_, (pss_cons (ps_if (pt_not (pt_val (pe_g g_is_ratio hr (by decide) passL rfl (pa_cons (pv 1) pa_nil)))) (pss_one (ps_never)) pss_nil)
        (pss_cons (ps_set (i := 2) nd rfl (Or.inl rfl) (pe_g g_as_ratio hr (by decide) passL rfl (pa_cons (pv 1) pa_nil)))
        (pss_one (ps_ret (pe_k g_Ratio hr (by decide) passL rfl (pa_cons (pe_op op_sub (pe_op op_mulW (pe_fld (pv 0) rfl) (pe_fld (pv 2) rfl)) (pe_op op_mulW (pe_fld (pv 2) rfl) (pe_fld (pv 0) rfl))) (pa_cons (pe_op op_mulW (pe_fld (pv 0) rfl) (pe_fld (pv 2) rfl)) pa_nil))))))), ?_⟩
    simp only [tVar, rIxTH, rIxLH, gTupH, line_le, HO.tup.injEq, HO.lst.injEq, List.length_cons, List.length_nil, at0, at1, rU, tOst, tTest, rIxL, rIxT, C8.tCut, cxOf_K, tC, tOp, tUn, tSeq, tAsg, tNext, tRet, tRetN, tDrop, tIfS, tNever, gName, gNil, gCons, gTup, gSub, tPar, rI, rI0, rU, rEq, rNe, tB, tAnd, tOr, tNot, tAndV, tOrV, tNotV, tIf, tTup, tLst, tNil, tCons, tCB, tCall, tMeth, tMake, tFld, sFld, tDGet, sDPut, tDisp, tPairs, tBreak, tCont, scal_ii, scal_bb, scal_ss, List.getElem?_cons_zero, List.getElem?_cons_succ, List.set_cons_zero, List.set_cons_succ, Option.some.injEq, exists_eq_left', exists_eq_left, exists_and_left, V.int.injEq, V.bl.injEq, V.ref.injEq, V.str.injEq, List.cons.injEq, and_true, true_and, Bool.true_eq, List.nil_append, List.append_nil, List.cons_append, exists_eq', and_self, reduceCtorEq, false_or, or_false, false_and, exists_false, exists_const, and_assoc, if_true, Bool.false_eq_true, if_false, Nat.reduceAdd, Nat.reduceLeDiff, Nat.zero_add, Nat.le_refl, forall_const, st_RatioD_subD]
    refine ⟨y, i, b, rfl, hT, _, rfl, ?_⟩
    rw [hir]
    refine iteF ?_
    refine ⟨y, r, rfl, hy, fun H1 z s1 hz => ?_⟩
    obtain ⟨a, dx, rfl, ha⟩ := hx.same s1
    obtain ⟨c, dz, rfl, hc⟩ := hz
    simp only [tVar, rIxTH, rIxLH, gTupH, line_le, HO.tup.injEq, HO.lst.injEq, List.length_cons, List.length_nil, at0, at1, rU, tOst, tTest, rIxL, rIxT, C8.tCut, cxOf_K, tC, tOp, tUn, tSeq, tAsg, tNext, tRet, tRetN, tDrop, tIfS, tNever, gName, gNil, gCons, gTup, gSub, tPar, rI, rI0, rU, rEq, rNe, tB, tAnd, tOr, tNot, tAndV, tOrV, tNotV, tIf, tTup, tLst, tNil, tCons, tCB, tCall, tMeth, tMake, tFld, sFld, tDGet, sDPut, tDisp, tPairs, tBreak, tCont, scal_ii, scal_bb, scal_ss, List.getElem?_cons_zero, List.getElem?_cons_succ, List.set_cons_zero, List.set_cons_succ, Option.some.injEq, exists_eq_left', exists_eq_left, exists_and_left, V.int.injEq, V.bl.injEq, V.ref.injEq, V.str.injEq, List.cons.injEq, and_true, true_and, Bool.true_eq, List.nil_append, List.append_nil, List.cons_append, exists_eq', and_self, reduceCtorEq, false_or, or_false, false_and, exists_false, exists_const, and_assoc, if_true, Bool.false_eq_true, if_false, Nat.reduceAdd, Nat.reduceLeDiff, Nat.zero_add, Nat.le_refl, forall_const, st_RatioD_subD, HO.ins.injEq, R.cl, R.nt, R.nb, ratF_top, ratF_bottom, ha, hc, cm_nd bq br, cm_nd br bq, cm_dd bq br, cm_nn bq br]
    exact made_rat (big_dd bq br) (fun _ H2 z e1 e2 => k H2 z (s1.trans e1) (by rw [HwM.sub_eq] at e2; exact e2)) (fun z => absurd z (HwM.dens_ne q r))
abbrev s_RatioD_mulD : Stmt := inClass (top 6) 4
abbrev N_RatioD_mulD : List Str := ["self", "other", "factor"]
theorem sc_RatioD_mulD : FnScope N_RatioD_mulD ["self", "other"] (defScope s_RatioD_mulD) := ⟨rfl, rfl, rfl, by decide +kernel, rfl, by decide +kernel, by decide +kernel⟩
theorem st_RatioD_mulD {v0 v1 : V} : L2.start N_RatioD_mulD [v0, v1] = [some v0, some v1, none] := rfl
theorem ok_RatioD_mulD {f : Addr} {fd : FuncData} (F : FD K s_RatioD_mulD "__mul__" "Ratio.__mul__" f fd) {C_Ratio C_BadNumber : Addr} (R : RatC K C_Ratio) (g_Ratio : Kf P w K mg base "Ratio" C_Ratio 3 ["self", "top", "bottom"] [] (spInit C_Ratio C_BadNumber)) (g_as_ratio : Gf P w K mg base "as_ratio" 5 ["value"] (spAs C_Ratio)) (g_is_ratio : Gf P w K mg base "is_ratio" 2 ["value"] (spIsRat K C_Ratio)) : FnOk P w K mg base (L2.CX P w) 6 f fd ["self", "other"] (spBin C_Ratio (fun q r => q * r)) := by
  have nd := sc_RatioD_mulD.nd
  refine F.ok0 sc_RatioD_mulD (fun vs H Q E h => ?_) (fun cdv A outer s H vs Q E hr h => ?_)
  · obtain ⟨x, y, q, r, rfl, _⟩ := h
    rfl
  · obtain ⟨x, y, q, r, rfl, hx, hy, bq, br, k⟩ := h
    obtain ⟨i, b, hT, hir⟩ := ty_as R hy
    refine ⟨_, (pss_cons (ps_if (pt_not (pt_val (pe_g g_is_ratio hr (by decide) passL rfl (pa_cons (pv 1) pa_nil)))) (pss_one (ps_never)) pss_nil)
        (pss_cons (ps_set (i := 2) nd rfl (Or.inl rfl) (pe_g g_as_ratio hr (by decide) passL rfl (pa_cons (pv 1) pa_nil)))
        (pss_one (ps_ret (pe_k g_Ratio hr (by decide) passL rfl (pa_cons (pe_op op_mulW (pe_fld (pv 0) rfl) (pe_fld (pv 2) rfl)) (pa_cons (pe_op op_mulW (pe_fld (pv 0) rfl) (pe_fld (pv 2) rfl)) pa_nil))))))), ?_⟩
    simp only [tVar, rIxTH, rIxLH, gTupH, line_le, HO.tup.injEq, HO.lst.injEq, List.length_cons, List.length_nil, at0, at1, rU, tOst, tTest, rIxL, rIxT, C8.tCut, cxOf_K, tC, tOp, tUn, tSeq, tAsg, tNext, tRet, tRetN, tDrop, tIfS, tNever, gName, gNil, gCons, gTup, gSub, tPar, rI, rI0, rU, rEq, rNe, tB, tAnd, tOr, tNot, tAndV, tOrV, tNotV, tIf, tTup, tLst, tNil, tCons, tCB, tCall, tMeth, tMake, tFld, sFld, tDGet, sDPut, tDisp, tPairs, tBreak, tCont, scal_ii, scal_bb, scal_ss, List.getElem?_cons_zero, List.getElem?_cons_succ, List.set_cons_zero, List.set_cons_succ, Option.some.injEq, exists_eq_left', exists_eq_left, exists_and_left, V.int.injEq, V.bl.injEq, V.ref.injEq, V.str.injEq, List.cons.injEq, and_true, true_and, Bool.true_eq, List.nil_append, List.append_nil, List.cons_append, exists_eq', and_self, reduceCtorEq, false_or, or_false, false_and, exists_false, exists_const, and_assoc, if_true, Bool.false_eq_true, if_false, Nat.reduceAdd, Nat.reduceLeDiff, Nat.zero_add, Nat.le_refl, forall_const, st_RatioD_mulD]
    refine ⟨y, i, b, rfl, hT, _, rfl, ?_⟩
    rw [hir]
    refine iteF ?_
    refine ⟨y, r, rfl, hy, fun H1 z s1 hz => ?_⟩
    obtain ⟨a, dx, rfl, ha⟩ := hx.same s1
    obtain ⟨c, dz, rfl, hc⟩ := hz
    simp only [tVar, rIxTH, rIxLH, gTupH, line_le, HO.tup.injEq, HO.lst.injEq, List.length_cons, List.length_nil, at0, at1, rU, tOst, tTest, rIxL, rIxT, C8.tCut, cxOf_K, tC, tOp, tUn, tSeq, tAsg, tNext, tRet, tRetN, tDrop, tIfS, tNever, gName, gNil, gCons, gTup, gSub, tPar, rI, rI0, rU, rEq, rNe, tB, tAnd, tOr, tNot, tAndV, tOrV, tNotV, tIf, tTup, tLst, tNil, tCons, tCB, tCall, tMeth, tMake, tFld, sFld, tDGet, sDPut, tDisp, tPairs, tBreak, tCont, scal_ii, scal_bb, scal_ss, List.getElem?_cons_zero, List.getElem?_cons_succ, List.set_cons_zero, List.set_cons_succ, Option.some.injEq, exists_eq_left', exists_eq_left, exists_and_left, V.int.injEq, V.bl.injEq, V.ref.injEq, V.str.injEq, List.cons.injEq, and_true, true_and, Bool.true_eq, List.nil_append, List.append_nil, List.cons_append, exists_eq', and_self, reduceCtorEq, false_or, or_false, false_and, exists_false, exists_const, and_assoc, if_true, Bool.false_eq_true, if_false, Nat.reduceAdd, Nat.reduceLeDiff, Nat.zero_add, Nat.le_refl, forall_const, st_RatioD_mulD, HO.ins.injEq, R.cl, R.nt, R.nb, ratF_top, ratF_bottom, ha, hc, cm_nd bq br, cm_nd br bq, cm_dd bq br, cm_nn bq br]
    exact made_rat (big_dd bq br) (fun _ H2 z e1 e2 => k H2 z (s1.trans e1) (by rw [HwM.mul_eq] at e2; exact e2)) (fun z => absurd z (HwM.dens_ne q r))
def spNeg (C : Addr) : Sp := fun vs H Q _ => ∃ (x : V) (q : Rat), vs = [x] ∧ IsR C H x q ∧ HwM.Bd 4000 q ∧ ∀ H' z, Same H H' → IsR C H' z (-q) → Q z H'
abbrev s_RatioD_negD : Stmt := inClass (top 6) 5
abbrev N_RatioD_negD : List Str := ["self"]
theorem sc_RatioD_negD : FnScope N_RatioD_negD ["self"] (defScope s_RatioD_negD) := ⟨rfl, rfl, rfl, by decide +kernel, rfl, by decide +kernel, by decide +kernel⟩
theorem st_RatioD_negD {v0 : V} : L2.start N_RatioD_negD [v0] = [some v0] := rfl
theorem ok_RatioD_negD {f : Addr} {fd : FuncData} (F : FD K s_RatioD_negD "__neg__" "Ratio.__neg__" f fd) {C_Ratio C_BadNumber : Addr} (R : RatC K C_Ratio) (g_Ratio : Kf P w K mg base "Ratio" C_Ratio 3 ["self", "top", "bottom"] [] (spInit C_Ratio C_BadNumber)) : FnOk P w K mg base (L2.CX P w) 5 f fd ["self"] (spNeg C_Ratio) := by
  have nd := sc_RatioD_negD.nd
  refine F.ok0 sc_RatioD_negD (fun vs H Q E h => ?_) (fun cdv A outer s H vs Q E hr h => ?_)
  · obtain ⟨x, q, rfl, _⟩ := h
    rfl
  · obtain ⟨x, q, rfl, hx, bq, k⟩ := h
    obtain ⟨a, dx, rfl, ha⟩ := hx
    refine ⟨_, (pss_one (ps_ret (pe_k g_Ratio hr (by decide) passL rfl (pa_cons (pe_un un_neg (pe_fld (pv 0) rfl)) (pa_cons (pe_fld (pv 0) rfl) pa_nil))))), ?_⟩
    simp only [tVar, rIxTH, rIxLH, gTupH, line_le, HO.tup.injEq, HO.lst.injEq, List.length_cons, List.length_nil, at0, at1, rU, tOst, tTest, rIxL, rIxT, C8.tCut, cxOf_K, tC, tOp, tUn, tSeq, tAsg, tNext, tRet, tRetN, tDrop, tIfS, tNever, gName, gNil, gCons, gTup, gSub, tPar, rI, rI0, rU, rEq, rNe, tB, tAnd, tOr, tNot, tAndV, tOrV, tNotV, tIf, tTup, tLst, tNil, tCons, tCB, tCall, tMeth, tMake, tFld, sFld, tDGet, sDPut, tDisp, tPairs, tBreak, tCont, scal_ii, scal_bb, scal_ss, List.getElem?_cons_zero, List.getElem?_cons_succ, List.set_cons_zero, List.set_cons_succ, Option.some.injEq, exists_eq_left', exists_eq_left, exists_and_left, V.int.injEq, V.bl.injEq, V.ref.injEq, V.str.injEq, List.cons.injEq, and_true, true_and, Bool.true_eq, List.nil_append, List.append_nil, List.cons_append, exists_eq', and_self, reduceCtorEq, false_or, or_false, false_and, exists_false, exists_const, and_assoc, if_true, Bool.false_eq_true, if_false, Nat.reduceAdd, Nat.reduceLeDiff, Nat.zero_add, Nat.le_refl, forall_const, st_RatioD_negD, HO.ins.injEq, R.cl, R.nt, R.nb, ratF_top, ratF_bottom, ha]
    exact made_rat (HwM.lt_mono (by simpa using bq.2) (by decide)) (fun _ H2 z e1 e2 => k H2 z e1 (by rw [HwM.neg_eq] at e2; exact e2)) (fun z => absurd z (HwM.den_ne q))
/-- == with a value of any kind: whether it is the same number -/
def spEqR (K : PySem.W.Frag) (C : Addr) : Sp := fun vs H Q _ => ∃ (x y : V) (q : Rat), vs = [x, y] ∧ IsR C H x q ∧
  ((∃ r, AsR C H y r ∧ Q (.bl (decide (q = r))) H) ∨ (Ty K C H y false false ∧ Q (.bl false) H))
abbrev s_RatioD_eqD : Stmt := inClass (top 6) 1
abbrev N_RatioD_eqD : List Str := ["self", "other"]
theorem sc_RatioD_eqD : FnScope N_RatioD_eqD ["self", "other"] (defScope s_RatioD_eqD) := ⟨rfl, rfl, rfl, by decide +kernel, rfl, by decide +kernel, by decide +kernel⟩
theorem st_RatioD_eqD {v0 v1 : V} : L2.start N_RatioD_eqD [v0, v1] = [some v0, some v1] := rfl
theorem ok_RatioD_eqD {f : Addr} {fd : FuncData} (F : FD K s_RatioD_eqD "__eq__" "Ratio.__eq__" f fd) {C_Ratio : Addr} (R : RatC K C_Ratio) (z_isinstance : mg "isinstance" = none) (m_Ratio : mg "Ratio" = some (.ref C_Ratio)) (g_is_integer : Gf P w K mg base "is_integer" 1 ["value"] (spIsInt K C_Ratio)) : FnOk P w K mg base (L2.CX P w) 2 f fd ["self", "other"] (spEqR K C_Ratio) := by
  have nd := sc_RatioD_eqD.nd
  refine F.ok0 sc_RatioD_eqD (fun vs H Q E h => ?_) (fun cdv A outer s H vs Q E hr h => ?_)
  · obtain ⟨x, y, q, rfl, _⟩ := h
    rfl
  · obtain ⟨x, y, q, rfl, hx, hy⟩ := h
    obtain ⟨a, dx, rfl, ha⟩ := hx
    refine ⟨_, (pss_cons (ps_if (pt_val (pe_g g_is_integer hr (by decide) passL rfl (pa_cons (pv 1) pa_nil))) (pss_one (ps_ret (pe_and (pe_cmpR op_eq (pe_fld (pv 0) rfl) pe_int (nomark _)) (pe_one (pe_cmpR op_eq (pe_fld (pv 0) rfl) (pv 1) (nomark _)))))) pss_nil)
        (pss_one (ps_ret (pe_and (pe_callB (id := "isinstance") (r := rIsi K) (call_isiE rfl) (by rfl) z_isinstance (by decide +kernel) (pa_cons (pv 1) (pa_cons (pe_glob (v := .ref C_Ratio) rfl m_Ratio rfl) pa_nil))) (pe_and (pe_cmpR op_eq (pe_fld (pv 0) rfl) (pe_fld (pv 1) rfl) (nomark _)) (pe_one (pe_cmpR op_eq (pe_fld (pv 0) rfl) (pe_fld (pv 1) rfl) (nomark _)))))))), ?_⟩
    simp only [tVar, rIxTH, rIxLH, gTupH, line_le, HO.tup.injEq, HO.lst.injEq, List.length_cons, List.length_nil, at0, at1, rU, tOst, tTest, rIxL, rIxT, C8.tCut, cxOf_K, tC, tOp, tUn, tSeq, tAsg, tNext, tRet, tRetN, tDrop, tIfS, tNever, gName, gNil, gCons, gTup, gSub, tPar, rI, rI0, rU, rEq, rNe, tB, tAnd, tOr, tNot, tAndV, tOrV, tNotV, tIf, tTup, tLst, tNil, tCons, tCB, tCall, tMeth, tMake, tFld, sFld, tDGet, sDPut, tDisp, tPairs, tBreak, tCont, scal_ii, scal_bb, scal_ss, List.getElem?_cons_zero, List.getElem?_cons_succ, List.set_cons_zero, List.set_cons_succ, Option.some.injEq, exists_eq_left', exists_eq_left, exists_and_left, V.int.injEq, V.bl.injEq, V.ref.injEq, V.str.injEq, List.cons.injEq, and_true, true_and, Bool.true_eq, List.nil_append, List.append_nil, List.cons_append, exists_eq', and_self, reduceCtorEq, false_or, or_false, false_and, exists_false, exists_const, and_assoc, if_true, Bool.false_eq_true, if_false, Nat.reduceAdd, Nat.reduceLeDiff, Nat.zero_add, Nat.le_refl, forall_const, st_RatioD_eqD, HO.ins.injEq, R.cl, R.nt, R.nb, ratF_top, ratF_bottom, ha, rIsi]
    rcases hy with ⟨r, hr1 | ⟨i, rfl, rfl⟩, k⟩ | ⟨hT, k⟩
    · refine ⟨y, false, true, rfl, ty_rat R hr1.inst, _, rfl, iteF ?_⟩
      obtain ⟨b, dy, rfl, hb⟩ := hr1
      obtain ⟨t, bI, bB, ty, e1, e2, e4, e3, nf⟩ := (ty_rat R (⟨b, dy, _, rfl, hb⟩ : Inst H C_Ratio (.ref b))).ex
      refine ⟨t, .ref C_Ratio, .own _, ty, true, e3, iteT ?_⟩
      simp only [tVar, rIxTH, rIxLH, gTupH, line_le, HO.tup.injEq, HO.lst.injEq, List.length_cons, List.length_nil, at0, at1, rU, tOst, tTest, rIxL, rIxT, C8.tCut, cxOf_K, tC, tOp, tUn, tSeq, tAsg, tNext, tRet, tRetN, tDrop, tIfS, tNever, gName, gNil, gCons, gTup, gSub, tPar, rI, rI0, rU, rEq, rNe, tB, tAnd, tOr, tNot, tAndV, tOrV, tNotV, tIf, tTup, tLst, tNil, tCons, tCB, tCall, tMeth, tMake, tFld, sFld, tDGet, sDPut, tDisp, tPairs, tBreak, tCont, scal_ii, scal_bb, scal_ss, List.getElem?_cons_zero, List.getElem?_cons_succ, List.set_cons_zero, List.set_cons_succ, Option.some.injEq, exists_eq_left', exists_eq_left, exists_and_left, V.int.injEq, V.bl.injEq, V.ref.injEq, V.str.injEq, List.cons.injEq, and_true, true_and, Bool.true_eq, List.nil_append, List.append_nil, List.cons_append, exists_eq', and_self, reduceCtorEq, false_or, or_false, false_and, exists_false, exists_const, and_assoc, if_true, Bool.false_eq_true, if_false, Nat.reduceAdd, Nat.reduceLeDiff, Nat.zero_add, Nat.le_refl, forall_const, st_RatioD_eqD, HO.ins.injEq, R.cl, R.nt, R.nb, ratF_top, ratF_bottom, ha, hb]
      refine ite2 (fun h1 => ?_) (fun h1 => ?_)
      · have h1 : q.num = r.num := by simpa using h1
        have e : decide ((q.den : Int) = (r.den : Int)) = decide (q = r) := by
          refine decide_eq_decide.mpr ⟨fun z => Rat.ext h1 (by omega), fun z => by rw [z]⟩
        rw [e]
        exact k
      · have e : decide (q = r) = false := decide_eq_false fun z => h1 (by rw [z]; simp)
        rw [e] at k
        exact k
    · refine ⟨.int i, true, false, rfl, ty_int R i, _, rfl, iteT ?_⟩
      simp only [tVar, rIxTH, rIxLH, gTupH, line_le, HO.tup.injEq, HO.lst.injEq, List.length_cons, List.length_nil, at0, at1, rU, tOst, tTest, rIxL, rIxT, C8.tCut, cxOf_K, tC, tOp, tUn, tSeq, tAsg, tNext, tRet, tRetN, tDrop, tIfS, tNever, gName, gNil, gCons, gTup, gSub, tPar, rI, rI0, rU, rEq, rNe, tB, tAnd, tOr, tNot, tAndV, tOrV, tNotV, tIf, tTup, tLst, tNil, tCons, tCB, tCall, tMeth, tMake, tFld, sFld, tDGet, sDPut, tDisp, tPairs, tBreak, tCont, scal_ii, scal_bb, scal_ss, List.getElem?_cons_zero, List.getElem?_cons_succ, List.set_cons_zero, List.set_cons_succ, Option.some.injEq, exists_eq_left', exists_eq_left, exists_and_left, V.int.injEq, V.bl.injEq, V.ref.injEq, V.str.injEq, List.cons.injEq, and_true, true_and, Bool.true_eq, List.nil_append, List.append_nil, List.cons_append, exists_eq', and_self, reduceCtorEq, false_or, or_false, false_and, exists_false, exists_const, and_assoc, if_true, Bool.false_eq_true, if_false, Nat.reduceAdd, Nat.reduceLeDiff, Nat.zero_add, Nat.le_refl, forall_const, st_RatioD_eqD, HO.ins.injEq, R.cl, R.nt, R.nb, ratF_top, ratF_bottom, ha]
      refine ite2 (fun h1 => ?_) (fun h1 => ?_)
      · have h1 : (q.den : Int) = 1 := by simpa using h1
        have e : decide (q.num = i) = decide (q = (i : Rat)) := by
          refine decide_eq_decide.mpr ⟨fun z => Rat.ext (by simpa using z) (by simp; omega), fun z => by rw [z]; simp⟩
        rw [e]
        exact k
      · have e : decide (q = (i : Rat)) = false := decide_eq_false fun z => h1 (by rw [z]; simp)
        rw [e] at k
        exact k
    · refine ⟨y, false, false, rfl, hT, _, rfl, iteF ?_⟩
      obtain ⟨t, bI, bB, ty, e1, e2, e4, e3, nf⟩ := hT.ex
      exact ⟨t, .ref C_Ratio, .own _, ty, false, e3, iteF k⟩
/-- self divided by other -/
def spOver (C CB : Addr) : Sp := fun vs H Q E => ∃ (x y : V) (q r : Rat), vs = [x, y] ∧ IsR C H x q ∧ AsR C H y r ∧ HwM.Bd 4000 q ∧ HwM.Bd 4000 r ∧ (r ≠ 0 → ∀ H' z, Same H H' → IsR C H' z (q / r) → Q z H') ∧ (r = 0 → Bot0 CB H E)
theorem Bot0.same {CB : Addr} {H H1 : Hp} {E : XK} (h : Bot0 CB H E) (e : Same H H1) : Bot0 CB H1 E := fun H' d e1 e2 => h H' d (e.trans e1) e2
abbrev s_Ratio_over : Stmt := inClass (top 6) 6
abbrev N_Ratio_over : List Str := ["self", "other", "part"]
theorem sc_Ratio_over : FnScope N_Ratio_over ["self", "other"] (defScope s_Ratio_over) := ⟨rfl, rfl, rfl, by decide +kernel, rfl, by decide +kernel, by decide +kernel⟩
theorem st_Ratio_over {v0 v1 : V} : L2.start N_Ratio_over [v0, v1] = [some v0, some v1, none] := rfl
theorem ok_Ratio_over {f : Addr} {fd : FuncData} (F : FD K s_Ratio_over "over" "Ratio.over" f fd) {C_Ratio C_BadNumber : Addr} (R : RatC K C_Ratio) (g_Ratio : Kf P w K mg base "Ratio" C_Ratio 3 ["self", "top", "bottom"] [] (spInit C_Ratio C_BadNumber)) (g_as_ratio : Gf P w K mg base "as_ratio" 5 ["value"] (spAs C_Ratio)) : FnOk P w K mg base (L2.CX P w) 6 f fd ["self", "other"] (spOver C_Ratio C_BadNumber) := by
  have nd := sc_Ratio_over.nd
  refine F.okX sc_Ratio_over (fun vs H Q E h => ?_) (fun cdv A outer s H vs Q E hr h => ?_)
  · obtain ⟨x, y, q, r, rfl, _⟩ := h
    rfl
  · obtain ⟨x, y, q, r, rfl, hx, hy, bq, br, k, ke⟩ := h
    refine ⟨_, (pss_cons (ps_set (i := 2) nd rfl (Or.inl rfl) (pe_g g_as_ratio hr (by decide) passL rfl (pa_cons (pv 1) pa_nil)))
        (pss_one (ps_ret (pe_k g_Ratio hr (by decide) (passX rfl rfl rfl rfl) rfl (pa_cons (pe_op op_mulW (pe_fld (pv 0) rfl) (pe_fld (pv 2) rfl)) (pa_cons (pe_op op_mulW (pe_fld (pv 0) rfl) (pe_fld (pv 2) rfl)) pa_nil)))))), ?_⟩
    simp only [tVar, rIxTH, rIxLH, gTupH, line_le, HO.tup.injEq, HO.lst.injEq, List.length_cons, List.length_nil, at0, at1, rU, tOst, tTest, rIxL, rIxT, C8.tCut, cxOf_K, tC, tOp, tUn, tSeq, tAsg, tNext, tRet, tRetN, tDrop, tIfS, tNever, gName, gNil, gCons, gTup, gSub, tPar, rI, rI0, rU, rEq, rNe, tB, tAnd, tOr, tNot, tAndV, tOrV, tNotV, tIf, tTup, tLst, tNil, tCons, tCB, tCall, tMeth, tMake, tFld, sFld, tDGet, sDPut, tDisp, tPairs, tBreak, tCont, scal_ii, scal_bb, scal_ss, List.getElem?_cons_zero, List.getElem?_cons_succ, List.set_cons_zero, List.set_cons_succ, Option.some.injEq, exists_eq_left', exists_eq_left, exists_and_left, V.int.injEq, V.bl.injEq, V.ref.injEq, V.str.injEq, List.cons.injEq, and_true, true_and, Bool.true_eq, List.nil_append, List.append_nil, List.cons_append, exists_eq', and_self, reduceCtorEq, false_or, or_false, false_and, exists_false, exists_const, and_assoc, if_true, Bool.false_eq_true, if_false, Nat.reduceAdd, Nat.reduceLeDiff, Nat.zero_add, Nat.le_refl, forall_const, st_Ratio_over]
    refine ⟨y, r, rfl, hy, fun H1 z s1 hz => ?_⟩
    obtain ⟨a, dx, rfl, ha⟩ := hx.same s1
    obtain ⟨c, dz, rfl, hc⟩ := hz
    simp only [tVar, rIxTH, rIxLH, gTupH, line_le, HO.tup.injEq, HO.lst.injEq, List.length_cons, List.length_nil, at0, at1, rU, tOst, tTest, rIxL, rIxT, C8.tCut, cxOf_K, tC, tOp, tUn, tSeq, tAsg, tNext, tRet, tRetN, tDrop, tIfS, tNever, gName, gNil, gCons, gTup, gSub, tPar, rI, rI0, rU, rEq, rNe, tB, tAnd, tOr, tNot, tAndV, tOrV, tNotV, tIf, tTup, tLst, tNil, tCons, tCB, tCall, tMeth, tMake, tFld, sFld, tDGet, sDPut, tDisp, tPairs, tBreak, tCont, scal_ii, scal_bb, scal_ss, List.getElem?_cons_zero, List.getElem?_cons_succ, List.set_cons_zero, List.set_cons_succ, Option.some.injEq, exists_eq_left', exists_eq_left, exists_and_left, V.int.injEq, V.bl.injEq, V.ref.injEq, V.str.injEq, List.cons.injEq, and_true, true_and, Bool.true_eq, List.nil_append, List.append_nil, List.cons_append, exists_eq', and_self, reduceCtorEq, false_or, or_false, false_and, exists_false, exists_const, and_assoc, if_true, Bool.false_eq_true, if_false, Nat.reduceAdd, Nat.reduceLeDiff, Nat.zero_add, Nat.le_refl, forall_const, st_Ratio_over, HO.ins.injEq, R.cl, R.nt, R.nb, ratF_top, ratF_bottom, ha, hc, cm_nd bq br, cm_dn bq br]
    have big : ((q.den : Int) * r.num).natAbs < 2 ^ 9000 := by
      rw [Int.natAbs_mul]
      exact HwM.lt_mono (HwM.mul_lt (by simpa using bq.2) br.1) (by decide)
    exact made_rat big (fun h H2 z e1 e2 => k (fun z => h (by rw [z]; simp)) H2 z (s1.trans e1) (by rw [HwM.div_eq] at e2; exact e2))
      (fun z => (ke (by rcases Int.mul_eq_zero.mp z with z | z; exact absurd z (HwM.den_ne q); exact Rat.num_eq_zero.mp z)).same s1)
def spCmp (C : Addr) (g : Rat → Rat → V) : Sp := fun vs H Q _ => ∃ (x y : V) (q r : Rat), vs = [x, y] ∧ IsR C H x q ∧ AsR C H y r ∧ HwM.Bd 4000 q ∧ HwM.Bd 4000 r ∧ ∀ H', Same H H' → Q (g q r) H'
abbrev s_Ratio_compared : Stmt := inClass (top 6) 7
abbrev N_Ratio_compared : List Str := ["self", "other", "beside", "gap"]
theorem sc_Ratio_compared : FnScope N_Ratio_compared ["self", "other"] (defScope s_Ratio_compared) := ⟨rfl, rfl, rfl, by decide +kernel, rfl, by decide +kernel, by decide +kernel⟩
theorem st_Ratio_compared {v0 v1 : V} : L2.start N_Ratio_compared [v0, v1] = [some v0, some v1, none, none] := rfl
theorem ok_Ratio_compared {f : Addr} {fd : FuncData} (F : FD K s_Ratio_compared "compared" "Ratio.compared" f fd) {C_Ratio : Addr} (R : RatC K C_Ratio) (g_as_ratio : Gf P w K mg base "as_ratio" 5 ["value"] (spAs C_Ratio)) : FnOk P w K mg base (L2.CX P w) 6 f fd ["self", "other"] (spCmp C_Ratio (fun q r => .int (HwM.cmp q r))) := by
  have nd := sc_Ratio_compared.nd
  refine F.ok0 sc_Ratio_compared (fun vs H Q E h => ?_) (fun cdv A outer s H vs Q E hr h => ?_)
  · obtain ⟨x, y, q, r, rfl, _⟩ := h
    rfl
  · obtain ⟨x, y, q, r, rfl, hx, hy, bq, br, k⟩ := h
    refine ⟨_, (pss_cons (ps_set (i := 2) nd rfl (Or.inl rfl) (pe_g g_as_ratio hr (by decide) passL rfl (pa_cons (pv 1) pa_nil)))
        (pss_cons (ps_set (i := 3) nd rfl (Or.inl rfl) (pe_op op_sub (pe_op op_mulW (pe_fld (pv 0) rfl) (pe_fld (pv 2) rfl)) (pe_op op_mulW (pe_fld (pv 2) rfl) (pe_fld (pv 0) rfl))))
        (pss_cons (ps_if (pt_cmpR op_lt (pv 3) pe_int (nomark _)) (pss_one (ps_ret (pe_un un_neg pe_int))) pss_nil)
        (pss_one (ps_ret (pe_ifExp (pt_cmpR op_gt (pv 3) pe_int (nomark _)) pe_int pe_int)))))), ?_⟩
    simp only [tVar, rIxTH, rIxLH, gTupH, line_le, HO.tup.injEq, HO.lst.injEq, List.length_cons, List.length_nil, at0, at1, rU, tOst, tTest, rIxL, rIxT, C8.tCut, cxOf_K, tC, tOp, tUn, tSeq, tAsg, tNext, tRet, tRetN, tDrop, tIfS, tNever, gName, gNil, gCons, gTup, gSub, tPar, rI, rI0, rU, rEq, rNe, tB, tAnd, tOr, tNot, tAndV, tOrV, tNotV, tIf, tTup, tLst, tNil, tCons, tCB, tCall, tMeth, tMake, tFld, sFld, tDGet, sDPut, tDisp, tPairs, tBreak, tCont, scal_ii, scal_bb, scal_ss, List.getElem?_cons_zero, List.getElem?_cons_succ, List.set_cons_zero, List.set_cons_succ, Option.some.injEq, exists_eq_left', exists_eq_left, exists_and_left, V.int.injEq, V.bl.injEq, V.ref.injEq, V.str.injEq, List.cons.injEq, and_true, true_and, Bool.true_eq, List.nil_append, List.append_nil, List.cons_append, exists_eq', and_self, reduceCtorEq, false_or, or_false, false_and, exists_false, exists_const, and_assoc, if_true, Bool.false_eq_true, if_false, Nat.reduceAdd, Nat.reduceLeDiff, Nat.zero_add, Nat.le_refl, forall_const, st_Ratio_compared]
    refine ⟨y, r, rfl, hy, fun H1 z s1 hz => ?_⟩
    obtain ⟨a, dx, rfl, ha⟩ := hx.same s1
    obtain ⟨c, dz, rfl, hc⟩ := hz
    simp only [tVar, rIxTH, rIxLH, gTupH, line_le, HO.tup.injEq, HO.lst.injEq, List.length_cons, List.length_nil, at0, at1, rU, tOst, tTest, rIxL, rIxT, C8.tCut, cxOf_K, tC, tOp, tUn, tSeq, tAsg, tNext, tRet, tRetN, tDrop, tIfS, tNever, gName, gNil, gCons, gTup, gSub, tPar, rI, rI0, rU, rEq, rNe, tB, tAnd, tOr, tNot, tAndV, tOrV, tNotV, tIf, tTup, tLst, tNil, tCons, tCB, tCall, tMeth, tMake, tFld, sFld, tDGet, sDPut, tDisp, tPairs, tBreak, tCont, scal_ii, scal_bb, scal_ss, List.getElem?_cons_zero, List.getElem?_cons_succ, List.set_cons_zero, List.set_cons_succ, Option.some.injEq, exists_eq_left', exists_eq_left, exists_and_left, V.int.injEq, V.bl.injEq, V.ref.injEq, V.str.injEq, List.cons.injEq, and_true, true_and, Bool.true_eq, List.nil_append, List.append_nil, List.cons_append, exists_eq', and_self, reduceCtorEq, false_or, or_false, false_and, exists_false, exists_const, and_assoc, if_true, Bool.false_eq_true, if_false, Nat.reduceAdd, Nat.reduceLeDiff, Nat.zero_add, Nat.le_refl, forall_const, st_Ratio_compared, HO.ins.injEq, R.cl, R.nt, R.nb, ratF_top, ratF_bottom, ha, hc, cm_nd bq br, cm_nd br bq]
    have k1 := k H1 s1
    unfold HwM.cmp at k1
    refine ite2 (fun h1 => ?_) (fun h1 => ?_)
    · have h1 : q < r := (HwM.gap_neg q r).mp (by simpa using h1)
      simpa [h1] using k1
    · have h1 : ¬ q < r := fun z => h1 (by simpa using (HwM.gap_neg q r).mpr z)
      refine ite2 (fun h2 => ?_) (fun h2 => ?_)
      · have h2 : r < q := (HwM.gap_pos q r).mp (by simpa using h2)
        simpa [h1, h2] using k1
      · have h2 : ¬ r < q := fun z => h2 (by simpa using (HwM.gap_pos q r).mpr z)
        simpa [h1, h2] using k1
abbrev s_Ratio_under : Stmt := inClass (top 6) 8
abbrev N_Ratio_under : List Str := ["self", "other"]
theorem sc_Ratio_under : FnScope N_Ratio_under ["self", "other"] (defScope s_Ratio_under) := ⟨rfl, rfl, rfl, by decide +kernel, rfl, by decide +kernel, by decide +kernel⟩
theorem st_Ratio_under {v0 v1 : V} : L2.start N_Ratio_under [v0, v1] = [some v0, some v1] := rfl
theorem ok_Ratio_under {f : Addr} {fd : FuncData} (F : FD K s_Ratio_under "under" "Ratio.under" f fd) {C_Ratio : Addr} (R : RatC K C_Ratio) (g_Ratio_compared : Mf P w K mg base C_Ratio "compared" 6 ["self", "other"] (spCmp C_Ratio (fun q r => .int (HwM.cmp q r)))) : FnOk P w K mg base (L2.CX P w) 7 f fd ["self", "other"] (spCmp C_Ratio (fun q r => .bl (decide (q < r)))) := by
  have nd := sc_Ratio_under.nd
  refine F.ok0 sc_Ratio_under (fun vs H Q E h => ?_) (fun cdv A outer s H vs Q E hr h => ?_)
  · obtain ⟨x, y, q, r, rfl, _⟩ := h
    rfl
  · obtain ⟨x, y, q, r, rfl, hx, hy, bq, br, k⟩ := h
    obtain ⟨a, dx, rfl, ha⟩ := id hx
    refine ⟨_, (pss_one (ps_ret (pe_cmpR op_lt (pe_m g_Ratio_compared hr (by decide) passL (pv 0) (pa_cons (pv 1) pa_nil)) pe_int (nomark _)))), ?_⟩
    simp only [tVar, rIxTH, rIxLH, gTupH, line_le, HO.tup.injEq, HO.lst.injEq, List.length_cons, List.length_nil, at0, at1, rU, tOst, tTest, rIxL, rIxT, C8.tCut, cxOf_K, tC, tOp, tUn, tSeq, tAsg, tNext, tRet, tRetN, tDrop, tIfS, tNever, gName, gNil, gCons, gTup, gSub, tPar, rI, rI0, rU, rEq, rNe, tB, tAnd, tOr, tNot, tAndV, tOrV, tNotV, tIf, tTup, tLst, tNil, tCons, tCB, tCall, tMeth, tMake, tFld, sFld, tDGet, sDPut, tDisp, tPairs, tBreak, tCont, scal_ii, scal_bb, scal_ss, List.getElem?_cons_zero, List.getElem?_cons_succ, List.set_cons_zero, List.set_cons_succ, Option.some.injEq, exists_eq_left', exists_eq_left, exists_and_left, V.int.injEq, V.bl.injEq, V.ref.injEq, V.str.injEq, List.cons.injEq, and_true, true_and, Bool.true_eq, List.nil_append, List.append_nil, List.cons_append, exists_eq', and_self, reduceCtorEq, false_or, or_false, false_and, exists_false, exists_const, and_assoc, if_true, Bool.false_eq_true, if_false, Nat.reduceAdd, Nat.reduceLeDiff, Nat.zero_add, Nat.le_refl, forall_const, st_Ratio_under, HO.ins.injEq, R.cl, R.nt, R.nb, ratF_top, ratF_bottom, ha, ratF_no q (m := "compared") (by decide) (by decide)]
    refine ⟨.ref a, y, q, r, rfl, hx, hy, bq, br, fun H1 s1 => ?_⟩
    have e : decide (HwM.cmp q r < 0) = decide (q < r) := decide_eq_decide.mpr (HwM.cmp_lt q r)
    simp only [tVar, rIxTH, rIxLH, gTupH, line_le, HO.tup.injEq, HO.lst.injEq, List.length_cons, List.length_nil, at0, at1, rU, tOst, tTest, rIxL, rIxT, C8.tCut, cxOf_K, tC, tOp, tUn, tSeq, tAsg, tNext, tRet, tRetN, tDrop, tIfS, tNever, gName, gNil, gCons, gTup, gSub, tPar, rI, rI0, rU, rEq, rNe, tB, tAnd, tOr, tNot, tAndV, tOrV, tNotV, tIf, tTup, tLst, tNil, tCons, tCB, tCall, tMeth, tMake, tFld, sFld, tDGet, sDPut, tDisp, tPairs, tBreak, tCont, scal_ii, scal_bb, scal_ss, List.getElem?_cons_zero, List.getElem?_cons_succ, List.set_cons_zero, List.set_cons_succ, Option.some.injEq, exists_eq_left', exists_eq_left, exists_and_left, V.int.injEq, V.bl.injEq, V.ref.injEq, V.str.injEq, List.cons.injEq, and_true, true_and, Bool.true_eq, List.nil_append, List.append_nil, List.cons_append, exists_eq', and_self, reduceCtorEq, false_or, or_false, false_and, exists_false, exists_const, and_assoc, if_true, Bool.false_eq_true, if_false, Nat.reduceAdd, Nat.reduceLeDiff, Nat.zero_add, Nat.le_refl, forall_const, st_Ratio_under, e]
    exact k H1 s1
abbrev s_Ratio_at_most : Stmt := inClass (top 6) 9
abbrev N_Ratio_at_most : List Str := ["self", "other"]
theorem sc_Ratio_at_most : FnScope N_Ratio_at_most ["self", "other"] (defScope s_Ratio_at_most) := ⟨rfl, rfl, rfl, by decide +kernel, rfl, by decide +kernel, by decide +kernel⟩
theorem st_Ratio_at_most {v0 v1 : V} : L2.start N_Ratio_at_most [v0, v1] = [some v0, some v1] := rfl
theorem ok_Ratio_at_most {f : Addr} {fd : FuncData} (F : FD K s_Ratio_at_most "at_most" "Ratio.at_most" f fd) {C_Ratio : Addr} (R : RatC K C_Ratio) (g_Ratio_compared : Mf P w K mg base C_Ratio "compared" 6 ["self", "other"] (spCmp C_Ratio (fun q r => .int (HwM.cmp q r)))) : FnOk P w K mg base (L2.CX P w) 7 f fd ["self", "other"] (spCmp C_Ratio (fun q r => .bl (decide (q ≤ r)))) := by
  have nd := sc_Ratio_at_most.nd
  refine F.ok0 sc_Ratio_at_most (fun vs H Q E h => ?_) (fun cdv A outer s H vs Q E hr h => ?_)
  · obtain ⟨x, y, q, r, rfl, _⟩ := h
    rfl
  · obtain ⟨x, y, q, r, rfl, hx, hy, bq, br, k⟩ := h
    obtain ⟨a, dx, rfl, ha⟩ := id hx
    refine ⟨_, (pss_one (ps_ret (pe_cmpR op_le (pe_m g_Ratio_compared hr (by decide) passL (pv 0) (pa_cons (pv 1) pa_nil)) pe_int (nomark _)))), ?_⟩
    simp only [tVar, rIxTH, rIxLH, gTupH, line_le, HO.tup.injEq, HO.lst.injEq, List.length_cons, List.length_nil, at0, at1, rU, tOst, tTest, rIxL, rIxT, C8.tCut, cxOf_K, tC, tOp, tUn, tSeq, tAsg, tNext, tRet, tRetN, tDrop, tIfS, tNever, gName, gNil, gCons, gTup, gSub, tPar, rI, rI0, rU, rEq, rNe, tB, tAnd, tOr, tNot, tAndV, tOrV, tNotV, tIf, tTup, tLst, tNil, tCons, tCB, tCall, tMeth, tMake, tFld, sFld, tDGet, sDPut, tDisp, tPairs, tBreak, tCont, scal_ii, scal_bb, scal_ss, List.getElem?_cons_zero, List.getElem?_cons_succ, List.set_cons_zero, List.set_cons_succ, Option.some.injEq, exists_eq_left', exists_eq_left, exists_and_left, V.int.injEq, V.bl.injEq, V.ref.injEq, V.str.injEq, List.cons.injEq, and_true, true_and, Bool.true_eq, List.nil_append, List.append_nil, List.cons_append, exists_eq', and_self, reduceCtorEq, false_or, or_false, false_and, exists_false, exists_const, and_assoc, if_true, Bool.false_eq_true, if_false, Nat.reduceAdd, Nat.reduceLeDiff, Nat.zero_add, Nat.le_refl, forall_const, st_Ratio_at_most, HO.ins.injEq, R.cl, R.nt, R.nb, ratF_top, ratF_bottom, ha, ratF_no q (m := "compared") (by decide) (by decide)]
    refine ⟨.ref a, y, q, r, rfl, hx, hy, bq, br, fun H1 s1 => ?_⟩
    have e : decide (HwM.cmp q r ≤ 0) = decide (q ≤ r) := decide_eq_decide.mpr (HwM.cmp_le q r)
    simp only [tVar, rIxTH, rIxLH, gTupH, line_le, HO.tup.injEq, HO.lst.injEq, List.length_cons, List.length_nil, at0, at1, rU, tOst, tTest, rIxL, rIxT, C8.tCut, cxOf_K, tC, tOp, tUn, tSeq, tAsg, tNext, tRet, tRetN, tDrop, tIfS, tNever, gName, gNil, gCons, gTup, gSub, tPar, rI, rI0, rU, rEq, rNe, tB, tAnd, tOr, tNot, tAndV, tOrV, tNotV, tIf, tTup, tLst, tNil, tCons, tCB, tCall, tMeth, tMake, tFld, sFld, tDGet, sDPut, tDisp, tPairs, tBreak, tCont, scal_ii, scal_bb, scal_ss, List.getElem?_cons_zero, List.getElem?_cons_succ, List.set_cons_zero, List.set_cons_succ, Option.some.injEq, exists_eq_left', exists_eq_left, exists_and_left, V.int.injEq, V.bl.injEq, V.ref.injEq, V.str.injEq, List.cons.injEq, and_true, true_and, Bool.true_eq, List.nil_append, List.append_nil, List.cons_append, exists_eq', and_self, reduceCtorEq, false_or, or_false, false_and, exists_false, exists_const, and_assoc, if_true, Bool.false_eq_true, if_false, Nat.reduceAdd, Nat.reduceLeDiff, Nat.zero_add, Nat.le_refl, forall_const, st_Ratio_at_most, e]
    exact k H1 s1


end HwL
end

section
namespace HwL
open PySem PySem.Spec PyProof.Rows L2 LamX
variable {P : Program} {w : World} {K : PySem.W.Frag} {mg : Str → Option Value} {base : Heap}

/-! ### the law's own fractions -/
def spGcd : Sp := fun vs H Q _ => ∃ a b : Int, vs = [.int a, .int b] ∧ a.natAbs < 2 ^ 9000 ∧ b.natAbs < 2 ^ 9000 ∧ Q (.int ((Nat.gcd a.natAbs b.natAbs : Nat) : Int)) H
abbrev s_L_gcd : Stmt := top 13
abbrev N_L_gcd : List Str := ["_law_one", "_law_two", "_law_lap"]
theorem sc_L_gcd : FnScope N_L_gcd ["_law_one", "_law_two"] (defScope s_L_gcd) := ⟨rfl, rfl, rfl, by decide +kernel, rfl, by decide +kernel, by decide +kernel⟩
theorem st_L_gcd {v0 v1 : V} : L2.start N_L_gcd [v0, v1] = [some v0, some v1, none] := rfl
theorem ok_L_gcd {f : Addr} {fd : FuncData} (F : FD K s_L_gcd "_law_gcd" "_law_gcd" f fd) (z_range : mg "range" = none) (z_int : mg "int" = none) (z_abs : mg "abs" = none) : FnOk P w K mg base (L2.CX P w) 1 f fd ["_law_one", "_law_two"] (spGcd) := by
  have nd := sc_L_gcd.nd
  refine F.ok0 sc_L_gcd (fun vs H Q E h => ?_) (fun cdv A outer s H vs Q E hr h => ?_)
  · obtain ⟨a, b, rfl, _⟩ := h
    rfl
  · obtain ⟨a, b, rfl, ha, hb, k⟩ := h
    refine ⟨_, (C8.pss_cut (ps_par (i := 0) (j := 1) (by rfl) nd rfl rfl (by decide) rfl rfl (pa_cons (pe_callB call_abs (by rfl) z_abs (by decide +kernel) (pa_cons (pv 0) pa_nil)) (pa_cons (pe_callB call_abs (by rfl) z_abs (by decide +kernel) (pa_cons (pv 1) pa_nil)) pa_nil)) (by rfl))
        (pss_cons (ps_for PassesOwn.never rfl (pi_range1 rfl z_range (pa_cons pe_int pa_nil)) (pg_name (i := 2) nd rfl (Or.inl rfl)) (pss_cons (ps_if (pt_cmpR op_eq (pv 1) pe_int (nomark _)) (pss_one ps_break) pss_nil)
        (pss_one (ps_par (i := 0) (j := 1) (by rfl) nd rfl rfl (by decide) rfl rfl (pa_cons (pv 1) (pa_cons (pe_op op_mod (pe_callTy call_int1 (by rfl) z_int (by decide +kernel) (pa_cons (pv 0) pa_nil)) (pv 1)) pa_nil)) (by rfl)))))
        (pss_one (ps_ret (pv 0))))), ?_⟩
    refine ⟨fun σ' H' => H' = H ∧ σ' = [some (.int (a.natAbs : Int)), some (.int (b.natAbs : Int)), none], ?_, ?_⟩
    · have ea : (if a < 0 then -a else a) = (a.natAbs : Int) := by split <;> omega
      have eb : (if b < 0 then -b else b) = (b.natAbs : Int) := by split <;> omega
      simp only [tVar, rIxTH, rIxLH, gTupH, line_le, HO.tup.injEq, HO.lst.injEq, List.length_cons, List.length_nil, at0, at1, rU, tOst, tTest, rIxL, rIxT, C8.tCut, cxOf_K, tC, tOp, tUn, tSeq, tAsg, tNext, tRet, tRetN, tDrop, tIfS, tNever, gName, gNil, gCons, gTup, gSub, tPar, rI, rI0, rU, rEq, rNe, tB, tAnd, tOr, tNot, tAndV, tOrV, tNotV, tIf, tTup, tLst, tNil, tCons, tCB, tCall, tMeth, tMake, tFld, sFld, tDGet, sDPut, tDisp, tPairs, tBreak, tCont, scal_ii, scal_bb, scal_ss, List.getElem?_cons_zero, List.getElem?_cons_succ, List.set_cons_zero, List.set_cons_succ, Option.some.injEq, exists_eq_left', exists_eq_left, exists_and_left, V.int.injEq, V.bl.injEq, V.ref.injEq, V.str.injEq, List.cons.injEq, and_true, true_and, Bool.true_eq, List.nil_append, List.append_nil, List.cons_append, exists_eq', and_self, reduceCtorEq, false_or, or_false, false_and, exists_false, exists_const, and_assoc, if_true, Bool.false_eq_true, if_false, Nat.reduceAdd, Nat.reduceLeDiff, Nat.zero_add, Nat.le_refl, forall_const, st_L_gcd, ea, eb]
    · rintro σ' H' ⟨rfl, rfl⟩
      refine ⟨_, rfl, by decide, by decide, for_range (lo := 0) (n := 60000) (fun i σ' H2 => ∃ (x y : Int) (v : Option V), H2 = H' ∧ σ' = [some (.int x), some (.int y), v] ∧ 0 ≤ x ∧ 0 ≤ y ∧ y.natAbs < 2 ^ 9000 ∧
        Nat.gcd x.natAbs y.natAbs = Nat.gcd a.natAbs b.natAbs ∧ (i = 0 ∨ y = 0 ∨ (y < x ∧ x.natAbs * y.natAbs * 2 ^ i < 2 ^ (2 * 9000 + 2)))) ?_ ?_ ?_⟩
      · exact ⟨_, _, none, rfl, rfl, by omega, by omega, by simpa using hb, by simp, .inl rfl⟩
      · rintro i σ' H2 hi ⟨x, y, v, rfl, rfl, x0, y0, yb, eg, hl⟩
        simp only [tVar, rIxTH, rIxLH, gTupH, line_le, HO.tup.injEq, HO.lst.injEq, List.length_cons, List.length_nil, at0, at1, rU, tOst, tTest, rIxL, rIxT, C8.tCut, cxOf_K, tC, tOp, tUn, tSeq, tAsg, tNext, tRet, tRetN, tDrop, tIfS, tNever, gName, gNil, gCons, gTup, gSub, tPar, rI, rI0, rU, rEq, rNe, tB, tAnd, tOr, tNot, tAndV, tOrV, tNotV, tIf, tTup, tLst, tNil, tCons, tCB, tCall, tMeth, tMake, tFld, sFld, tDGet, sDPut, tDisp, tPairs, tBreak, tCont, scal_ii, scal_bb, scal_ss, List.getElem?_cons_zero, List.getElem?_cons_succ, List.set_cons_zero, List.set_cons_succ, Option.some.injEq, exists_eq_left', exists_eq_left, exists_and_left, V.int.injEq, V.bl.injEq, V.ref.injEq, V.str.injEq, List.cons.injEq, and_true, true_and, Bool.true_eq, List.nil_append, List.append_nil, List.cons_append, exists_eq', and_self, reduceCtorEq, false_or, or_false, false_and, exists_false, exists_const, and_assoc, if_true, Bool.false_eq_true, if_false, Nat.reduceAdd, Nat.reduceLeDiff, Nat.zero_add, Nat.le_refl, forall_const, st_L_gcd]
        refine ite2 (fun hz => ?_) (fun hz => ?_)
        · have hz : y = 0 := by simpa using hz
          subst hz
          have e : x = ((Nat.gcd a.natAbs b.natAbs : Nat) : Int) := by
            rw [← eg]
            simp
            omega
          rw [e]
          exact k
        · have hz : ¬ y = 0 := by simpa using hz
          have yp : 0 < y := by omega
          have hl2 : i = 0 ∨ (y < x ∧ x.natAbs * y.natAbs * 2 ^ i < 2 ^ (2 * 9000 + 2)) := by
            rcases hl with h | h | h
            · exact .inl h
            · exact absurd h hz
            · exact .inr h
          obtain ⟨l1, l2, l3, l4⟩ := HwM.lap x0 yp yb hl2
          refine ⟨yp, y0, l2, l3, by rw [HwM.gcd_step x0 yp, eg], .inr ⟨l1, l4⟩⟩
      · rintro σ' H2 ⟨x, y, v, rfl, rfl, x0, y0, yb, eg, hl⟩
        have hz : y = 0 := by
          rcases hl with h | h | ⟨h1, h2⟩
          · cases h
          · exact h
          · exact HwM.laps_end (n := 60000) y0 h1 (HwM.lt_mono h2 (by decide))
        subst hz
        have e : x = ((Nat.gcd a.natAbs b.natAbs : Nat) : Int) := by
          rw [← eg]
          simp
          omega
        simp only [tVar, rIxTH, rIxLH, gTupH, line_le, HO.tup.injEq, HO.lst.injEq, List.length_cons, List.length_nil, at0, at1, rU, tOst, tTest, rIxL, rIxT, C8.tCut, cxOf_K, tC, tOp, tUn, tSeq, tAsg, tNext, tRet, tRetN, tDrop, tIfS, tNever, gName, gNil, gCons, gTup, gSub, tPar, rI, rI0, rU, rEq, rNe, tB, tAnd, tOr, tNot, tAndV, tOrV, tNotV, tIf, tTup, tLst, tNil, tCons, tCB, tCall, tMeth, tMake, tFld, sFld, tDGet, sDPut, tDisp, tPairs, tBreak, tCont, scal_ii, scal_bb, scal_ss, List.getElem?_cons_zero, List.getElem?_cons_succ, List.set_cons_zero, List.set_cons_succ, Option.some.injEq, exists_eq_left', exists_eq_left, exists_and_left, V.int.injEq, V.bl.injEq, V.ref.injEq, V.str.injEq, List.cons.injEq, and_true, true_and, Bool.true_eq, List.nil_append, List.append_nil, List.cons_append, exists_eq', and_self, reduceCtorEq, false_or, or_false, false_and, exists_false, exists_const, and_assoc, if_true, Bool.false_eq_true, if_false, Nat.reduceAdd, Nat.reduceLeDiff, Nat.zero_add, Nat.le_refl, forall_const, st_L_gcd, e]
        exact k
/-- (top, bottom) in lowest terms -/
def spQ : Sp := fun vs H Q _ => ∃ t b : Int, vs = [.int t, .int b] ∧ b ≠ 0 ∧ t.natAbs < 2 ^ 9000 ∧ b.natAbs < 2 ^ 9000 ∧ ∀ p, H p = none → Q (.ref p) (upd H p (.tup (qv (Rat.divInt t b))))
abbrev s_L_q : Stmt := top 14
abbrev N_L_q : List Str := ["_law_top", "_law_bottom", "_law_by"]
theorem sc_L_q : FnScope N_L_q ["_law_top", "_law_bottom"] (defScope s_L_q) := ⟨rfl, rfl, rfl, by decide +kernel, rfl, by decide +kernel, by decide +kernel⟩
theorem st_L_q {v0 v1 : V} : L2.start N_L_q [v0, v1] = [some v0, some v1, none] := rfl
theorem ok_L_q {f : Addr} {fd : FuncData} (F : FD K s_L_q "_law_q" "_law_q" f fd) (g_L_gcd : Gf P w K mg base "_law_gcd" 1 ["_law_one", "_law_two"] (spGcd)) : FnOk P w K mg base (L2.CX P w) 2 f fd ["_law_top", "_law_bottom"] (spQ) := by
  have nd := sc_L_q.nd
  refine F.ok0 sc_L_q (fun vs H Q E h => ?_) (fun cdv A outer s H vs Q E hr h => ?_)
  · obtain ⟨t, b, rfl, _⟩ := h
    rfl
  · obtain ⟨t, b, rfl, hb, ht, hb2, k⟩ := h
    refine ⟨_, (pss_cons (ps_set (i := 2) nd rfl (Or.inl rfl) (pe_g g_L_gcd hr (by decide) passL rfl (pa_cons (pv 0) (pa_cons (pv 1) pa_nil))))
        (C8.pss_cut (ps_if (pt_cmpR op_lt (pv 1) pe_int (nomark _)) (pss_one (ps_set (i := 2) nd rfl (Or.inl rfl) (pe_un un_neg (pv 2)))) pss_nil)
        (pss_one (ps_ret (pe_tup (pa_cons (pe_op op_fdivX (pv 0) (pv 2)) (pa_cons (pe_op op_fdivX (pv 1) (pv 2)) pa_nil))))))), ?_⟩
    simp only [tVar, rIxTH, rIxLH, gTupH, line_le, HO.tup.injEq, HO.lst.injEq, List.length_cons, List.length_nil, at0, at1, rU, tOst, tTest, rIxL, rIxT, C8.tCut, cxOf_K, tC, tOp, tUn, tSeq, tAsg, tNext, tRet, tRetN, tDrop, tIfS, tNever, gName, gNil, gCons, gTup, gSub, tPar, rI, rI0, rU, rEq, rNe, tB, tAnd, tOr, tNot, tAndV, tOrV, tNotV, tIf, tTup, tLst, tNil, tCons, tCB, tCall, tMeth, tMake, tFld, sFld, tDGet, sDPut, tDisp, tPairs, tBreak, tCont, scal_ii, scal_bb, scal_ss, List.getElem?_cons_zero, List.getElem?_cons_succ, List.set_cons_zero, List.set_cons_succ, Option.some.injEq, exists_eq_left', exists_eq_left, exists_and_left, V.int.injEq, V.bl.injEq, V.ref.injEq, V.str.injEq, List.cons.injEq, and_true, true_and, Bool.true_eq, List.nil_append, List.append_nil, List.cons_append, exists_eq', and_self, reduceCtorEq, false_or, or_false, false_and, exists_false, exists_const, and_assoc, if_true, Bool.false_eq_true, if_false, Nat.reduceAdd, Nat.reduceLeDiff, Nat.zero_add, Nat.le_refl, forall_const, st_L_q]
    refine ⟨t, b, rfl, ht, hb2, fun σ' H' => H' = H ∧ σ' = [some (.int t), some (.int b), some (.int (if b < 0 then -((Nat.gcd t.natAbs b.natAbs : Nat) : Int) else ((Nat.gcd t.natAbs b.natAbs : Nat) : Int)))], ?_, ?_⟩
    · by_cases hn : b < 0
      · simp only [tVar, rIxTH, rIxLH, gTupH, line_le, HO.tup.injEq, HO.lst.injEq, List.length_cons, List.length_nil, at0, at1, rU, tOst, tTest, rIxL, rIxT, C8.tCut, cxOf_K, tC, tOp, tUn, tSeq, tAsg, tNext, tRet, tRetN, tDrop, tIfS, tNever, gName, gNil, gCons, gTup, gSub, tPar, rI, rI0, rU, rEq, rNe, tB, tAnd, tOr, tNot, tAndV, tOrV, tNotV, tIf, tTup, tLst, tNil, tCons, tCB, tCall, tMeth, tMake, tFld, sFld, tDGet, sDPut, tDisp, tPairs, tBreak, tCont, scal_ii, scal_bb, scal_ss, List.getElem?_cons_zero, List.getElem?_cons_succ, List.set_cons_zero, List.set_cons_succ, Option.some.injEq, exists_eq_left', exists_eq_left, exists_and_left, V.int.injEq, V.bl.injEq, V.ref.injEq, V.str.injEq, List.cons.injEq, and_true, true_and, Bool.true_eq, List.nil_append, List.append_nil, List.cons_append, exists_eq', and_self, reduceCtorEq, false_or, or_false, false_and, exists_false, exists_const, and_assoc, if_true, Bool.false_eq_true, if_false, Nat.reduceAdd, Nat.reduceLeDiff, Nat.zero_add, Nat.le_refl, forall_const, st_L_q, rU, hn, decide_true, if_true]
      · simp only [tVar, rIxTH, rIxLH, gTupH, line_le, HO.tup.injEq, HO.lst.injEq, List.length_cons, List.length_nil, at0, at1, rU, tOst, tTest, rIxL, rIxT, C8.tCut, cxOf_K, tC, tOp, tUn, tSeq, tAsg, tNext, tRet, tRetN, tDrop, tIfS, tNever, gName, gNil, gCons, gTup, gSub, tPar, rI, rI0, rU, rEq, rNe, tB, tAnd, tOr, tNot, tAndV, tOrV, tNotV, tIf, tTup, tLst, tNil, tCons, tCB, tCall, tMeth, tMake, tFld, sFld, tDGet, sDPut, tDisp, tPairs, tBreak, tCont, scal_ii, scal_bb, scal_ss, List.getElem?_cons_zero, List.getElem?_cons_succ, List.set_cons_zero, List.set_cons_succ, Option.some.injEq, exists_eq_left', exists_eq_left, exists_and_left, V.int.injEq, V.bl.injEq, V.ref.injEq, V.str.injEq, List.cons.injEq, and_true, true_and, Bool.true_eq, List.nil_append, List.append_nil, List.cons_append, exists_eq', and_self, reduceCtorEq, false_or, or_false, false_and, exists_false, exists_const, and_assoc, if_true, Bool.false_eq_true, if_false, Nat.reduceAdd, Nat.reduceLeDiff, Nat.zero_add, Nat.le_refl, forall_const, st_L_q, rU, hn, decide_false, if_false, Bool.false_eq_true]
    · rintro σ' H' ⟨rfl, rfl⟩
      have l2 := HwM.log2_lt (k := 9000) (by decide) (Nat.lt_of_le_of_lt (HwM.gcd_le (t := t) hb) hb2)
      simp only [tVar, rIxTH, rIxLH, gTupH, line_le, HO.tup.injEq, HO.lst.injEq, List.length_cons, List.length_nil, at0, at1, rU, tOst, tTest, rIxL, rIxT, C8.tCut, cxOf_K, tC, tOp, tUn, tSeq, tAsg, tNext, tRet, tRetN, tDrop, tIfS, tNever, gName, gNil, gCons, gTup, gSub, tPar, rI, rI0, rU, rEq, rNe, tB, tAnd, tOr, tNot, tAndV, tOrV, tNotV, tIf, tTup, tLst, tNil, tCons, tCB, tCall, tMeth, tMake, tFld, sFld, tDGet, sDPut, tDisp, tPairs, tBreak, tCont, scal_ii, scal_bb, scal_ss, List.getElem?_cons_zero, List.getElem?_cons_succ, List.set_cons_zero, List.set_cons_succ, Option.some.injEq, exists_eq_left', exists_eq_left, exists_and_left, V.int.injEq, V.bl.injEq, V.ref.injEq, V.str.injEq, List.cons.injEq, and_true, true_and, Bool.true_eq, List.nil_append, List.append_nil, List.cons_append, exists_eq', and_self, reduceCtorEq, false_or, or_false, false_and, exists_false, exists_const, and_assoc, if_true, Bool.false_eq_true, if_false, Nat.reduceAdd, Nat.reduceLeDiff, Nat.zero_add, Nat.le_refl, forall_const, st_L_q, CDivX]
      refine ⟨HwM.gcd_ne hb, l2, HwM.gcd_ne hb, l2, fun p hp => ?_⟩
      have z := k p hp
      unfold qv at z
      rw [HwM.num_fdiv hb, HwM.den_fdiv hb]
      exact z
def spQ2 (g : Rat → Rat → Rat) : Sp := fun vs H Q _ => ∃ (a b : Addr) (q r : Rat), vs = [.ref a, .ref b] ∧ H a = some (.tup (qv q)) ∧ H b = some (.tup (qv r)) ∧ HwM.Bd 4000 q ∧ HwM.Bd 4000 r ∧ ∀ p, H p = none → Q (.ref p) (upd H p (.tup (qv (g q r))))
abbrev s_L_plus : Stmt := top 15
abbrev N_L_plus : List Str := ["_law_one", "_law_two"]
theorem sc_L_plus : FnScope N_L_plus ["_law_one", "_law_two"] (defScope s_L_plus) := ⟨rfl, rfl, rfl, by decide +kernel, rfl, by decide +kernel, by decide +kernel⟩
theorem st_L_plus {v0 v1 : V} : L2.start N_L_plus [v0, v1] = [some v0, some v1] := rfl
theorem ok_L_plus {f : Addr} {fd : FuncData} (F : FD K s_L_plus "_law_plus" "_law_plus" f fd) (g_L_q : Gf P w K mg base "_law_q" 2 ["_law_top", "_law_bottom"] (spQ)) : FnOk P w K mg base (L2.CX P w) 3 f fd ["_law_one", "_law_two"] (spQ2 (fun q r => q + r)) := by
  have nd := sc_L_plus.nd
  refine F.ok0 sc_L_plus (fun vs H Q E h => ?_) (fun cdv A outer s H vs Q E hr h => ?_)
  · obtain ⟨a, b, q, r, rfl, _⟩ := h
    rfl
  · obtain ⟨a, b, q, r, rfl, ha, hb, bq, br, k⟩ := h
    refine ⟨_, (pss_one (ps_ret (pe_g g_L_q hr (by decide) passL rfl (pa_cons (pe_op op_add (pe_op op_mulW (pe_ix ix_tupH (pv 0) pe_int (fun _ _ => rfl)) (pe_ix ix_tupH (pv 1) pe_int (fun _ _ => rfl))) (pe_op op_mulW (pe_ix ix_tupH (pv 1) pe_int (fun _ _ => rfl)) (pe_ix ix_tupH (pv 0) pe_int (fun _ _ => rfl)))) (pa_cons (pe_op op_mulW (pe_ix ix_tupH (pv 0) pe_int (fun _ _ => rfl)) (pe_ix ix_tupH (pv 1) pe_int (fun _ _ => rfl))) pa_nil))))), ?_⟩
    simp only [tVar, rIxTH, rIxLH, gTupH, line_le, HO.tup.injEq, HO.lst.injEq, List.length_cons, List.length_nil, at0, at1, rU, tOst, tTest, rIxL, rIxT, C8.tCut, cxOf_K, tC, tOp, tUn, tSeq, tAsg, tNext, tRet, tRetN, tDrop, tIfS, tNever, gName, gNil, gCons, gTup, gSub, tPar, rI, rI0, rU, rEq, rNe, tB, tAnd, tOr, tNot, tAndV, tOrV, tNotV, tIf, tTup, tLst, tNil, tCons, tCB, tCall, tMeth, tMake, tFld, sFld, tDGet, sDPut, tDisp, tPairs, tBreak, tCont, scal_ii, scal_bb, scal_ss, List.getElem?_cons_zero, List.getElem?_cons_succ, List.set_cons_zero, List.set_cons_succ, Option.some.injEq, exists_eq_left', exists_eq_left, exists_and_left, V.int.injEq, V.bl.injEq, V.ref.injEq, V.str.injEq, List.cons.injEq, and_true, true_and, Bool.true_eq, List.nil_append, List.append_nil, List.cons_append, exists_eq', and_self, reduceCtorEq, false_or, or_false, false_and, exists_false, exists_const, and_assoc, if_true, Bool.false_eq_true, if_false, Nat.reduceAdd, Nat.reduceLeDiff, Nat.zero_add, Nat.le_refl, forall_const, st_L_plus, ha, hb, cm_nd bq br, cm_nd br bq, cm_dd bq br, cm_nn bq br]
    exact ⟨_, _, rfl, HwM.dens_ne q r, HwM.lt_mono (HwM.num_add_bd bq br) (by decide), big_dd bq br, fun p hp => by rw [HwM.add_eq]; exact k p hp⟩
abbrev s_L_minus : Stmt := top 16
abbrev N_L_minus : List Str := ["_law_one", "_law_two"]
theorem sc_L_minus : FnScope N_L_minus ["_law_one", "_law_two"] (defScope s_L_minus) := ⟨rfl, rfl, rfl, by decide +kernel, rfl, by decide +kernel, by decide +kernel⟩
theorem st_L_minus {v0 v1 : V} : L2.start N_L_minus [v0, v1] = [some v0, some v1] := rfl
theorem ok_L_minus {f : Addr} {fd : FuncData} (F : FD K s_L_minus "_law_minus" "_law_minus" f fd) (g_L_q : Gf P w K mg base "_law_q" 2 ["_law_top", "_law_bottom"] (spQ)) : FnOk P w K mg base (L2.CX P w) 3 f fd ["_law_one", "_law_two"] (spQ2 (fun q r => q - r)) := by
  have nd := sc_L_minus.nd
  refine F.ok0 sc_L_minus (fun vs H Q E h => ?_) (fun cdv A outer s H vs Q E hr h => ?_)
  · obtain ⟨a, b, q, r, rfl, _⟩ := h
    rfl
  · obtain ⟨a, b, q, r, rfl, ha, hb, bq, br, k⟩ := h
    refine ⟨_, (pss_one (ps_ret (pe_g g_L_q hr (by decide) passL rfl (pa_cons (pe_op op_sub (pe_op op_mulW (pe_ix ix_tupH (pv 0) pe_int (fun _ _ => rfl)) (pe_ix ix_tupH (pv 1) pe_int (fun _ _ => rfl))) (pe_op op_mulW (pe_ix ix_tupH (pv 1) pe_int (fun _ _ => rfl)) (pe_ix ix_tupH (pv 0) pe_int (fun _ _ => rfl)))) (pa_cons (pe_op op_mulW (pe_ix ix_tupH (pv 0) pe_int (fun _ _ => rfl)) (pe_ix ix_tupH (pv 1) pe_int (fun _ _ => rfl))) pa_nil))))), ?_⟩
    simp only [tVar, rIxTH, rIxLH, gTupH, line_le, HO.tup.injEq, HO.lst.injEq, List.length_cons, List.length_nil, at0, at1, rU, tOst, tTest, rIxL, rIxT, C8.tCut, cxOf_K, tC, tOp, tUn, tSeq, tAsg, tNext, tRet, tRetN, tDrop, tIfS, tNever, gName, gNil, gCons, gTup, gSub, tPar, rI, rI0, rU, rEq, rNe, tB, tAnd, tOr, tNot, tAndV, tOrV, tNotV, tIf, tTup, tLst, tNil, tCons, tCB, tCall, tMeth, tMake, tFld, sFld, tDGet, sDPut, tDisp, tPairs, tBreak, tCont, scal_ii, scal_bb, scal_ss, List.getElem?_cons_zero, List.getElem?_cons_succ, List.set_cons_zero, List.set_cons_succ, Option.some.injEq, exists_eq_left', exists_eq_left, exists_and_left, V.int.injEq, V.bl.injEq, V.ref.injEq, V.str.injEq, List.cons.injEq, and_true, true_and, Bool.true_eq, List.nil_append, List.append_nil, List.cons_append, exists_eq', and_self, reduceCtorEq, false_or, or_false, false_and, exists_false, exists_const, and_assoc, if_true, Bool.false_eq_true, if_false, Nat.reduceAdd, Nat.reduceLeDiff, Nat.zero_add, Nat.le_refl, forall_const, st_L_minus, ha, hb, cm_nd bq br, cm_nd br bq, cm_dd bq br, cm_nn bq br]
    exact ⟨_, _, rfl, HwM.dens_ne q r, HwM.lt_mono (HwM.num_sub_bd bq br) (by decide), big_dd bq br, fun p hp => by rw [HwM.sub_eq]; exact k p hp⟩
abbrev s_L_times : Stmt := top 17
abbrev N_L_times : List Str := ["_law_one", "_law_two"]
theorem sc_L_times : FnScope N_L_times ["_law_one", "_law_two"] (defScope s_L_times) := ⟨rfl, rfl, rfl, by decide +kernel, rfl, by decide +kernel, by decide +kernel⟩
theorem st_L_times {v0 v1 : V} : L2.start N_L_times [v0, v1] = [some v0, some v1] := rfl
theorem ok_L_times {f : Addr} {fd : FuncData} (F : FD K s_L_times "_law_times" "_law_times" f fd) (g_L_q : Gf P w K mg base "_law_q" 2 ["_law_top", "_law_bottom"] (spQ)) : FnOk P w K mg base (L2.CX P w) 3 f fd ["_law_one", "_law_two"] (spQ2 (fun q r => q * r)) := by
  have nd := sc_L_times.nd
  refine F.ok0 sc_L_times (fun vs H Q E h => ?_) (fun cdv A outer s H vs Q E hr h => ?_)
  · obtain ⟨a, b, q, r, rfl, _⟩ := h
    rfl
  · obtain ⟨a, b, q, r, rfl, ha, hb, bq, br, k⟩ := h
    refine ⟨_, (pss_one (ps_ret (pe_g g_L_q hr (by decide) passL rfl (pa_cons (pe_op op_mulW (pe_ix ix_tupH (pv 0) pe_int (fun _ _ => rfl)) (pe_ix ix_tupH (pv 1) pe_int (fun _ _ => rfl))) (pa_cons (pe_op op_mulW (pe_ix ix_tupH (pv 0) pe_int (fun _ _ => rfl)) (pe_ix ix_tupH (pv 1) pe_int (fun _ _ => rfl))) pa_nil))))), ?_⟩
    simp only [tVar, rIxTH, rIxLH, gTupH, line_le, HO.tup.injEq, HO.lst.injEq, List.length_cons, List.length_nil, at0, at1, rU, tOst, tTest, rIxL, rIxT, C8.tCut, cxOf_K, tC, tOp, tUn, tSeq, tAsg, tNext, tRet, tRetN, tDrop, tIfS, tNever, gName, gNil, gCons, gTup, gSub, tPar, rI, rI0, rU, rEq, rNe, tB, tAnd, tOr, tNot, tAndV, tOrV, tNotV, tIf, tTup, tLst, tNil, tCons, tCB, tCall, tMeth, tMake, tFld, sFld, tDGet, sDPut, tDisp, tPairs, tBreak, tCont, scal_ii, scal_bb, scal_ss, List.getElem?_cons_zero, List.getElem?_cons_succ, List.set_cons_zero, List.set_cons_succ, Option.some.injEq, exists_eq_left', exists_eq_left, exists_and_left, V.int.injEq, V.bl.injEq, V.ref.injEq, V.str.injEq, List.cons.injEq, and_true, true_and, Bool.true_eq, List.nil_append, List.append_nil, List.cons_append, exists_eq', and_self, reduceCtorEq, false_or, or_false, false_and, exists_false, exists_const, and_assoc, if_true, Bool.false_eq_true, if_false, Nat.reduceAdd, Nat.reduceLeDiff, Nat.zero_add, Nat.le_refl, forall_const, st_L_times, ha, hb, cm_nd bq br, cm_nd br bq, cm_dd bq br, cm_nn bq br]
    exact ⟨_, _, rfl, HwM.dens_ne q r, HwM.lt_mono (HwM.num_mul_bd bq br) (by decide), big_dd bq br, fun p hp => by rw [HwM.mul_eq]; exact k p hp⟩
abbrev s_L_sign : Stmt := top 18
abbrev N_L_sign : List Str := ["_law_one"]
theorem sc_L_sign : FnScope N_L_sign ["_law_one"] (defScope s_L_sign) := ⟨rfl, rfl, rfl, by decide +kernel, rfl, by decide +kernel, by decide +kernel⟩
theorem st_L_sign {v0 : V} : L2.start N_L_sign [v0] = [some v0] := rfl
theorem ok_L_sign {f : Addr} {fd : FuncData} (F : FD K s_L_sign "_law_sign" "_law_sign" f fd) (z_int : mg "int" = none) : FnOk P w K mg base (L2.CX P w) 1 f fd ["_law_one"] (fun vs H Q _ => ∃ (a : Addr) (q : Rat), vs = [.ref a] ∧ H a = some (.tup (qv q)) ∧ Q (.int (HwM.cmp q 0)) H) := by
  have nd := sc_L_sign.nd
  refine F.ok0 sc_L_sign (fun vs H Q E h => ?_) (fun cdv A outer s H vs Q E hr h => ?_)
  · obtain ⟨a, q, rfl, _⟩ := h
    rfl
  · obtain ⟨a, q, rfl, ha, k⟩ := h
    refine ⟨_, (pss_one (ps_ret (pe_op op_sub (pe_callTy call_int1 (by rfl) z_int (by decide +kernel) (pa_cons (pe_cmpR op_gt (pe_ix ix_tupH (pv 0) pe_int (fun _ _ => rfl)) pe_int (nomark _)) pa_nil)) (pe_callTy call_int1 (by rfl) z_int (by decide +kernel) (pa_cons (pe_cmpR op_lt (pe_ix ix_tupH (pv 0) pe_int (fun _ _ => rfl)) pe_int (nomark _)) pa_nil))))), ?_⟩
    simp only [tVar, rIxTH, rIxLH, gTupH, line_le, HO.tup.injEq, HO.lst.injEq, List.length_cons, List.length_nil, at0, at1, rU, tOst, tTest, rIxL, rIxT, C8.tCut, cxOf_K, tC, tOp, tUn, tSeq, tAsg, tNext, tRet, tRetN, tDrop, tIfS, tNever, gName, gNil, gCons, gTup, gSub, tPar, rI, rI0, rU, rEq, rNe, tB, tAnd, tOr, tNot, tAndV, tOrV, tNotV, tIf, tTup, tLst, tNil, tCons, tCB, tCall, tMeth, tMake, tFld, sFld, tDGet, sDPut, tDisp, tPairs, tBreak, tCont, scal_ii, scal_bb, scal_ss, List.getElem?_cons_zero, List.getElem?_cons_succ, List.set_cons_zero, List.set_cons_succ, Option.some.injEq, exists_eq_left', exists_eq_left, exists_and_left, V.int.injEq, V.bl.injEq, V.ref.injEq, V.str.injEq, List.cons.injEq, and_true, true_and, Bool.true_eq, List.nil_append, List.append_nil, List.cons_append, exists_eq', and_self, reduceCtorEq, false_or, or_false, false_and, exists_false, exists_const, and_assoc, if_true, Bool.false_eq_true, if_false, Nat.reduceAdd, Nat.reduceLeDiff, Nat.zero_add, Nat.le_refl, forall_const, st_L_sign, ha]
    have e : ((if decide (0 < q.num) = true then (1 : Int) else 0) - if decide (q.num < 0) = true then 1 else 0) = HwM.cmp q 0 := by
      unfold HwM.cmp
      simp only [← (HwM.sign_num q).1, ← (HwM.sign_num q).2, decide_eq_true_eq]
      split <;> split <;> first | omega | rfl
    rw [e]
    exact k
/-- whether the object is just this fraction -/
def spIsR (C : Addr) : Sp := fun vs H Q _ => ∃ (x : V) (b : Addr) (q r : Rat), vs = [x, .ref b] ∧ IsR C H x q ∧ H b = some (.tup (qv r)) ∧ ∀ H', Same H H' → Q (.bl (decide (q = r))) H'
abbrev s_L_is_ratio : Stmt := top 19
abbrev N_L_is_ratio : List Str := ["_law_value", "_law_due", "_law_parts", "_law_part"]
theorem sc_L_is_ratio : FnScope N_L_is_ratio ["_law_value", "_law_due"] (defScope s_L_is_ratio) := ⟨rfl, rfl, rfl, by decide +kernel, rfl, by decide +kernel, by decide +kernel⟩
theorem st_L_is_ratio {v0 v1 : V} : L2.start N_L_is_ratio [v0, v1] = [some v0, some v1, none, none] := rfl
theorem ok_L_is_ratio {f : Addr} {fd : FuncData} (F : FD K s_L_is_ratio "_law_is_ratio" "_law_is_ratio" f fd) {C_Ratio : Addr} (R : RatC K C_Ratio) (z_isinstance : mg "isinstance" = none) (z_bool : mg "bool" = none) (z_int : mg "int" = none) (m_Ratio : mg "Ratio" = some (.ref C_Ratio)) : FnOk P w K mg base (L2.CX P w) 1 f fd ["_law_value", "_law_due"] (spIsR C_Ratio) := by
  have nd := sc_L_is_ratio.nd
  refine F.ok0 sc_L_is_ratio (fun vs H Q E h => ?_) (fun cdv A outer s H vs Q E hr h => ?_)
  · obtain ⟨x, b, q, r, rfl, _⟩ := h
    rfl
  · obtain ⟨x, b, q, r, rfl, hx, hb, k⟩ := h
    obtain ⟨t, bI, bB, ty, e1, e2, e4, e3, nf⟩ := (ty_rat R hx.inst).ex
    obtain ⟨a, dx, rfl, ha⟩ := hx
    refine ⟨_, (pss_cons (ps_if (pt_not (pt_val (pe_callB (id := "isinstance") (r := rIsi K) (call_isiE rfl) (by rfl) z_isinstance (by decide +kernel) (pa_cons (pv 0) (pa_cons (pe_glob (v := .ref C_Ratio) rfl m_Ratio rfl) pa_nil))))) (pss_one (ps_ret pe_bl)) pss_nil)
        (pss_cons (ps_set (i := 2) nd rfl (Or.inl rfl) (pe_lst (pa_cons (pe_fld (pv 0) rfl) (pa_cons (pe_fld (pv 0) rfl) pa_nil))))
        (pss_cons (ps_if (pt_cmpR (op_neD hr.units) (pe_lc (own := [("_law_part", 3)]) rfl nd (pi_list (pv 2)) (blkOk_by (own := [("_law_part", 3)]) (N := N_L_is_ratio) (sc := defScope s_L_is_ratio) (by decide +kernel)) (fun _ _ _ _ _ => (pg_name (i := 3) nd rfl (Or.inl rfl))) (fun _ _ _ _ _ => pts_one (PW.pt (pw_or (pt_not (pt_val (pe_callB (id := "isinstance") (r := rIsi K) (call_isiE rfl) (by rfl) z_isinstance (by decide +kernel) (pa_cons (pv 3) (pa_cons (pe_bltn (v := .ty "int") rfl z_int (by decide +kernel) rfl) pa_nil))))) (pw_or1 (pt_val (pe_callB (id := "isinstance") (r := rIsi K) (call_isiE rfl) (by rfl) z_isinstance (by decide +kernel) (pa_cons (pv 3) (pa_cons (pe_bltn (v := .ty "bool") rfl z_bool (by decide +kernel) rfl) pa_nil)))))))) (fun _ _ _ _ _ => (pv 3))) (pe_lst pa_nil) (nomark _)) (pss_one (ps_ret pe_bl)) pss_nil)
        (pss_one (ps_ret (pe_cmpR (op_eqD hr.units) (pe_tup (pa_cons (pe_fld (pv 0) rfl) (pa_cons (pe_fld (pv 0) rfl) pa_nil))) (pv 1) (nomark _))))))), ?_⟩
    simp only [tVar, rIxTH, rIxLH, gTupH, line_le, HO.tup.injEq, HO.lst.injEq, List.length_cons, List.length_nil, at0, at1, rU, tOst, tTest, rIxL, rIxT, C8.tCut, cxOf_K, tC, tOp, tUn, tSeq, tAsg, tNext, tRet, tRetN, tDrop, tIfS, tNever, gName, gNil, gCons, gTup, gSub, tPar, rI, rI0, rU, rEq, rNe, tB, tAnd, tOr, tNot, tAndV, tOrV, tNotV, tIf, tTup, tLst, tNil, tCons, tCB, tCall, tMeth, tMake, tFld, sFld, tDGet, sDPut, tDisp, tPairs, tBreak, tCont, scal_ii, scal_bb, scal_ss, List.getElem?_cons_zero, List.getElem?_cons_succ, List.set_cons_zero, List.set_cons_succ, Option.some.injEq, exists_eq_left', exists_eq_left, exists_and_left, V.int.injEq, V.bl.injEq, V.ref.injEq, V.str.injEq, List.cons.injEq, and_true, true_and, Bool.true_eq, List.nil_append, List.append_nil, List.cons_append, exists_eq', and_self, reduceCtorEq, false_or, or_false, false_and, exists_false, exists_const, and_assoc, if_true, Bool.false_eq_true, if_false, Nat.reduceAdd, Nat.reduceLeDiff, Nat.zero_add, Nat.le_refl, forall_const, st_L_is_ratio, HO.ins.injEq, R.cl, R.nt, R.nb, ratF_top, ratF_bottom, ha, rIsi]
    refine ⟨t, .ref C_Ratio, .own _, ty, true, e3, iteF fun p hp => ?_⟩
    refine ⟨.ref p, rfl, p, rfl, ⟨_, SqL.of upd_same⟩, fun D hD => lc_list (K := K) (a := p) (xs := [V.int q.num, V.int (q.den : Int)])
      (fun i H' => H' = upd (upd H p (.lst [V.int q.num, V.int (q.den : Int)])) D (.lst [])) rfl (fun i H' _ e => by rw [e]; exact SqL.of (upd_get hD upd_same)) ?_ ?_⟩
    · rintro i y H' hi rfl
      obtain ⟨z, rfl⟩ : ∃ z, y = V.int z := by
        match i, hi with
        | 0, e => exact ⟨_, (Option.some.inj e).symm⟩
        | 1, e => exact ⟨_, (Option.some.inj e).symm⟩
      simp only [tVar, rIxTH, rIxLH, gTupH, line_le, HO.tup.injEq, HO.lst.injEq, List.length_cons, List.length_nil, at0, at1, rU, tOst, tTest, rIxL, rIxT, C8.tCut, cxOf_K, tC, tOp, tUn, tSeq, tAsg, tNext, tRet, tRetN, tDrop, tIfS, tNever, gName, gNil, gCons, gTup, gSub, tPar, rI, rI0, rU, rEq, rNe, tB, tAnd, tOr, tNot, tAndV, tOrV, tNotV, tIf, tTup, tLst, tNil, tCons, tCB, tCall, tMeth, tMake, tFld, sFld, tDGet, sDPut, tDisp, tPairs, tBreak, tCont, scal_ii, scal_bb, scal_ss, List.getElem?_cons_zero, List.getElem?_cons_succ, List.set_cons_zero, List.set_cons_succ, Option.some.injEq, exists_eq_left', exists_eq_left, exists_and_left, V.int.injEq, V.bl.injEq, V.ref.injEq, V.str.injEq, List.cons.injEq, and_true, true_and, Bool.true_eq, List.nil_append, List.append_nil, List.cons_append, exists_eq', and_self, reduceCtorEq, false_or, or_false, false_and, exists_false, exists_const, and_assoc, if_true, Bool.false_eq_true, if_false, Nat.reduceAdd, Nat.reduceLeDiff, Nat.zero_add, Nat.le_refl, forall_const, st_L_is_ratio, rIsi, wipe, List.map_cons, List.map_nil]
      refine ⟨.type "int", .type "int", .ty _, .base (.int _), true, kit_ty (by decide +kernel), iteF ⟨.type "int", .type "bool", .ty _, .base (.int _), false, kit_ty (by decide +kernel), iteF trivial⟩⟩
    · rintro H' rfl
      intro p2 hp2
      have npD : p ≠ D := fun e => by rw [e, upd_same] at hD; cases hD
      have s2 : Same H (upd (upd (upd H p (.lst [V.int q.num, V.int (q.den : Int)])) D (.lst [])) p2 (.lst [])) :=
        ((same_new hp).trans (same_new hD)).trans (same_new hp2)
      refine ne_nil (by rw [upd_ne (ne_of_none upd_same hp2), upd_same]) upd_same ?_
      have ha2 := s2 _ _ ha
      have hb2 := s2 _ _ hb
      simp only [tVar, rIxTH, rIxLH, gTupH, line_le, HO.tup.injEq, HO.lst.injEq, List.length_cons, List.length_nil, at0, at1, rU, tOst, tTest, rIxL, rIxT, C8.tCut, cxOf_K, tC, tOp, tUn, tSeq, tAsg, tNext, tRet, tRetN, tDrop, tIfS, tNever, gName, gNil, gCons, gTup, gSub, tPar, rI, rI0, rU, rEq, rNe, tB, tAnd, tOr, tNot, tAndV, tOrV, tNotV, tIf, tTup, tLst, tNil, tCons, tCB, tCall, tMeth, tMake, tFld, sFld, tDGet, sDPut, tDisp, tPairs, tBreak, tCont, scal_ii, scal_bb, scal_ss, List.getElem?_cons_zero, List.getElem?_cons_succ, List.set_cons_zero, List.set_cons_succ, Option.some.injEq, exists_eq_left', exists_eq_left, exists_and_left, V.int.injEq, V.bl.injEq, V.ref.injEq, V.str.injEq, List.cons.injEq, and_true, true_and, Bool.true_eq, List.nil_append, List.append_nil, List.cons_append, exists_eq', and_self, reduceCtorEq, false_or, or_false, false_and, exists_false, exists_const, and_assoc, if_true, Bool.false_eq_true, if_false, Nat.reduceAdd, Nat.reduceLeDiff, Nat.zero_add, Nat.le_refl, forall_const, st_L_is_ratio, HO.ins.injEq, R.cl, R.nt, R.nb, ratF_top, ratF_bottom, ha2]
      intro p3 hp3
      refine eq_pair upd_same (upd_get hp3 hb2) ?_
      have e : decide (q.num = r.num ∧ (q.den : Int) = (r.den : Int)) = decide (q = r) := decide_eq_decide.mpr ⟨fun ⟨h1, h2⟩ => Rat.ext h1 (by omega), fun h => by rw [h]; exact ⟨rfl, rfl⟩⟩
      rw [e]
      exact k _ (s2.trans (same_new hp3))


end HwL
end

section
namespace HwL
open PySem PySem.Spec PyProof.Rows L2 LamX
variable {P : Program} {w : World} {K : PySem.W.Frag} {mg : Str → Option Value} {base : Heap}

/-! ### what the law draws -/
def spInteger : Sp := fun vs H Q _ => ∃ (p l : Addr) (c : Int), vs = [.ref p] ∧ PenAt H p l c ∧ c < 100000000 ∧ ∀ H' i, Ext p H H' → PenAt H' p l (c + 4) → i.natAbs < 2 ^ 140 → Q (.int i) H'
abbrev s_L_integer : Stmt := top 20
abbrev N_L_integer : List Str := ["_law_pen_here"]
theorem sc_L_integer : FnScope N_L_integer ["_law_pen_here"] (defScope s_L_integer) := ⟨rfl, rfl, rfl, by decide +kernel, rfl, by decide +kernel, by decide +kernel⟩
theorem st_L_integer {v0 : V} : L2.start N_L_integer [v0] = [some v0] := rfl
theorem ok_L_integer {f : Addr} {fd : FuncData} (F : FD K s_L_integer "_law_integer" "_law_integer" f fd) (g_L_draw : Gf P w K mg base "_law_draw" 1 ["_law_pen_here", "_law_many"] (spDraw)) : FnOk P w K mg base (L2.CX P w) 2 f fd ["_law_pen_here"] (spInteger) := by
  have nd := sc_L_integer.nd
  refine F.ok0 sc_L_integer (fun vs H Q E h => ?_) (fun cdv A outer s H vs Q E hr h => ?_)
  · obtain ⟨p, l, c, rfl, _⟩ := h
    rfl
  · obtain ⟨p, l, c, rfl, hp, hc, k⟩ := h
    refine ⟨_, (pss_cons (ps_if (pt_cmpR op_gt (pe_g g_L_draw hr (by decide) passL rfl (pa_cons (pv 0) (pa_cons pe_int pa_nil))) pe_int (nomark _)) (pss_one (ps_ret (pe_op op_sub (pe_g g_L_draw hr (by decide) passL rfl (pa_cons (pv 0) (pa_cons pe_int pa_nil))) pe_int))) pss_nil)
        (pss_one (ps_ret (pe_op op_mulW (pe_op op_add (pe_op op_mulW (pe_g g_L_draw hr (by decide) passL rfl (pa_cons (pv 0) (pa_cons (pe_op op_pow pe_int pe_int) pa_nil))) (pe_op op_pow pe_int pe_int)) (pe_g g_L_draw hr (by decide) passL rfl (pa_cons (pv 0) (pa_cons (pe_op op_pow pe_int pe_int) pa_nil)))) (pe_op op_sub pe_int (pe_op op_mulW pe_int (pe_g g_L_draw hr (by decide) passL rfl (pa_cons (pv 0) (pa_cons pe_int pa_nil))))))))), ?_⟩
    simp only [tVar, rIxTH, rIxLH, gTupH, line_le, HO.tup.injEq, HO.lst.injEq, List.length_cons, List.length_nil, at0, at1, rU, tOst, tTest, rIxL, rIxT, C8.tCut, cxOf_K, tC, tOp, tUn, tSeq, tAsg, tNext, tRet, tRetN, tDrop, tIfS, tNever, gName, gNil, gCons, gTup, gSub, tPar, rI, rI0, rU, rEq, rNe, tB, tAnd, tOr, tNot, tAndV, tOrV, tNotV, tIf, tTup, tLst, tNil, tCons, tCB, tCall, tMeth, tMake, tFld, sFld, tDGet, sDPut, tDisp, tPairs, tBreak, tCont, scal_ii, scal_bb, scal_ss, List.getElem?_cons_zero, List.getElem?_cons_succ, List.set_cons_zero, List.set_cons_succ, Option.some.injEq, exists_eq_left', exists_eq_left, exists_and_left, V.int.injEq, V.bl.injEq, V.ref.injEq, V.str.injEq, List.cons.injEq, and_true, true_and, Bool.true_eq, List.nil_append, List.append_nil, List.cons_append, exists_eq', and_self, reduceCtorEq, false_or, or_false, false_and, exists_false, exists_const, and_assoc, if_true, Bool.false_eq_true, if_false, Nat.reduceAdd, Nat.reduceLeDiff, Nat.zero_add, Nat.le_refl, forall_const, st_L_integer, CPow]
    refine ⟨p, l, c, 3, rfl, hp, by omega, by decide, by decide, fun H1 r x1 p1 r0 r1 => ?_⟩
    simp only [tVar, rIxTH, rIxLH, gTupH, line_le, HO.tup.injEq, HO.lst.injEq, List.length_cons, List.length_nil, at0, at1, rU, tOst, tTest, rIxL, rIxT, C8.tCut, cxOf_K, tC, tOp, tUn, tSeq, tAsg, tNext, tRet, tRetN, tDrop, tIfS, tNever, gName, gNil, gCons, gTup, gSub, tPar, rI, rI0, rU, rEq, rNe, tB, tAnd, tOr, tNot, tAndV, tOrV, tNotV, tIf, tTup, tLst, tNil, tCons, tCB, tCall, tMeth, tMake, tFld, sFld, tDGet, sDPut, tDisp, tPairs, tBreak, tCont, scal_ii, scal_bb, scal_ss, List.getElem?_cons_zero, List.getElem?_cons_succ, List.set_cons_zero, List.set_cons_succ, Option.some.injEq, exists_eq_left', exists_eq_left, exists_and_left, V.int.injEq, V.bl.injEq, V.ref.injEq, V.str.injEq, List.cons.injEq, and_true, true_and, Bool.true_eq, List.nil_append, List.append_nil, List.cons_append, exists_eq', and_self, reduceCtorEq, false_or, or_false, false_and, exists_false, exists_const, and_assoc, if_true, Bool.false_eq_true, if_false, Nat.reduceAdd, Nat.reduceLeDiff, Nat.zero_add, Nat.le_refl, forall_const, st_L_integer, CPow]
    refine ite2 (fun _ => ?_) (fun _ => ?_)
    · refine ⟨p, l, c + 1, 15, rfl, p1, by omega, by decide, by decide, fun H2 r x2 p2 r0 r1 => ?_⟩
      simp only [tVar, rIxTH, rIxLH, gTupH, line_le, HO.tup.injEq, HO.lst.injEq, List.length_cons, List.length_nil, at0, at1, rU, tOst, tTest, rIxL, rIxT, C8.tCut, cxOf_K, tC, tOp, tUn, tSeq, tAsg, tNext, tRet, tRetN, tDrop, tIfS, tNever, gName, gNil, gCons, gTup, gSub, tPar, rI, rI0, rU, rEq, rNe, tB, tAnd, tOr, tNot, tAndV, tOrV, tNotV, tIf, tTup, tLst, tNil, tCons, tCB, tCall, tMeth, tMake, tFld, sFld, tDGet, sDPut, tDisp, tPairs, tBreak, tCont, scal_ii, scal_bb, scal_ss, List.getElem?_cons_zero, List.getElem?_cons_succ, List.set_cons_zero, List.set_cons_succ, Option.some.injEq, exists_eq_left', exists_eq_left, exists_and_left, V.int.injEq, V.bl.injEq, V.ref.injEq, V.str.injEq, List.cons.injEq, and_true, true_and, Bool.true_eq, List.nil_append, List.append_nil, List.cons_append, exists_eq', and_self, reduceCtorEq, false_or, or_false, false_and, exists_false, exists_const, and_assoc, if_true, Bool.false_eq_true, if_false, Nat.reduceAdd, Nat.reduceLeDiff, Nat.zero_add, Nat.le_refl, forall_const, st_L_integer]
      refine k _ _ (x1.trans x2) (p2.mono (by omega)) (Nat.lt_of_lt_of_le (show (r - 7).natAbs < 2 ^ 10 by omega) (Nat.pow_le_pow_right (by decide) (by decide)))
    · refine ⟨by decide, by decide, by decide, p, l, c + 1, 10 ^ (20 : Int).toNat, rfl, p1, by omega, by decide, by decide, fun H2 u x2 p2 u0 u1 => ?_⟩
      simp only [tVar, rIxTH, rIxLH, gTupH, line_le, HO.tup.injEq, HO.lst.injEq, List.length_cons, List.length_nil, at0, at1, rU, tOst, tTest, rIxL, rIxT, C8.tCut, cxOf_K, tC, tOp, tUn, tSeq, tAsg, tNext, tRet, tRetN, tDrop, tIfS, tNever, gName, gNil, gCons, gTup, gSub, tPar, rI, rI0, rU, rEq, rNe, tB, tAnd, tOr, tNot, tAndV, tOrV, tNotV, tIf, tTup, tLst, tNil, tCons, tCB, tCall, tMeth, tMake, tFld, sFld, tDGet, sDPut, tDisp, tPairs, tBreak, tCont, scal_ii, scal_bb, scal_ss, List.getElem?_cons_zero, List.getElem?_cons_succ, List.set_cons_zero, List.set_cons_succ, Option.some.injEq, exists_eq_left', exists_eq_left, exists_and_left, V.int.injEq, V.bl.injEq, V.ref.injEq, V.str.injEq, List.cons.injEq, and_true, true_and, Bool.true_eq, List.nil_append, List.append_nil, List.cons_append, exists_eq', and_self, reduceCtorEq, false_or, or_false, false_and, exists_false, exists_const, and_assoc, if_true, Bool.false_eq_true, if_false, Nat.reduceAdd, Nat.reduceLeDiff, Nat.zero_add, Nat.le_refl, forall_const, st_L_integer, CPow]
      have e20 : (10 : Int) ^ (20 : Int).toNat = 100000000000000000000 := by decide
      rw [e20] at u1
      simp only [e20]
      refine ⟨by decide, by decide, by decide, wide_mul (a := 70) (b := 70) (by omega) (by decide) (by decide) (by decide) (by decide), by decide, by decide, by decide, p, l, c + 2, _, rfl, p2.mono (by omega), by omega, by decide, by decide, fun H3 u2 x3 p3 v0 v1 => ?_⟩
      simp only [tVar, rIxTH, rIxLH, gTupH, line_le, HO.tup.injEq, HO.lst.injEq, List.length_cons, List.length_nil, at0, at1, rU, tOst, tTest, rIxL, rIxT, C8.tCut, cxOf_K, tC, tOp, tUn, tSeq, tAsg, tNext, tRet, tRetN, tDrop, tIfS, tNever, gName, gNil, gCons, gTup, gSub, tPar, rI, rI0, rU, rEq, rNe, tB, tAnd, tOr, tNot, tAndV, tOrV, tNotV, tIf, tTup, tLst, tNil, tCons, tCB, tCall, tMeth, tMake, tFld, sFld, tDGet, sDPut, tDisp, tPairs, tBreak, tCont, scal_ii, scal_bb, scal_ss, List.getElem?_cons_zero, List.getElem?_cons_succ, List.set_cons_zero, List.set_cons_succ, Option.some.injEq, exists_eq_left', exists_eq_left, exists_and_left, V.int.injEq, V.bl.injEq, V.ref.injEq, V.str.injEq, List.cons.injEq, and_true, true_and, Bool.true_eq, List.nil_append, List.append_nil, List.cons_append, exists_eq', and_self, reduceCtorEq, false_or, or_false, false_and, exists_false, exists_const, and_assoc, if_true, Bool.false_eq_true, if_false, Nat.reduceAdd, Nat.reduceLeDiff, Nat.zero_add, Nat.le_refl, forall_const, st_L_integer]
      refine ⟨p, l, c + 3, 2, rfl, p3.mono (by omega), by omega, by decide, by decide, fun H4 s2 x4 p4 s0 s1 => ?_⟩
      simp only [tVar, rIxTH, rIxLH, gTupH, line_le, HO.tup.injEq, HO.lst.injEq, List.length_cons, List.length_nil, at0, at1, rU, tOst, tTest, rIxL, rIxT, C8.tCut, cxOf_K, tC, tOp, tUn, tSeq, tAsg, tNext, tRet, tRetN, tDrop, tIfS, tNever, gName, gNil, gCons, gTup, gSub, tPar, rI, rI0, rU, rEq, rNe, tB, tAnd, tOr, tNot, tAndV, tOrV, tNotV, tIf, tTup, tLst, tNil, tCons, tCB, tCall, tMeth, tMake, tFld, sFld, tDGet, sDPut, tDisp, tPairs, tBreak, tCont, scal_ii, scal_bb, scal_ss, List.getElem?_cons_zero, List.getElem?_cons_succ, List.set_cons_zero, List.set_cons_succ, Option.some.injEq, exists_eq_left', exists_eq_left, exists_and_left, V.int.injEq, V.bl.injEq, V.ref.injEq, V.str.injEq, List.cons.injEq, and_true, true_and, Bool.true_eq, List.nil_append, List.append_nil, List.cons_append, exists_eq', and_self, reduceCtorEq, false_or, or_false, false_and, exists_false, exists_const, and_assoc, if_true, Bool.false_eq_true, if_false, Nat.reduceAdd, Nat.reduceLeDiff, Nat.zero_add, Nat.le_refl, forall_const, st_L_integer]
      have hu : u * 100000000000000000000 + u2 < 10000000000000000000000000000000000000000 := by omega
      have hu0 : 0 ≤ u * 100000000000000000000 + u2 := by omega
      have hs : s2 = 0 ∨ s2 = 1 := by omega
      refine ⟨wide_mul (a := 70) (b := 70) (by decide) (by omega) (by decide) (by decide) (by decide), wide_mul (a := 140) (b := 70) (by omega) (by omega) (by decide) (by decide) (by decide), ?_⟩
      refine k _ _ (((x1.trans x2).trans x3).trans x4) (p4.mono (by omega)) ?_
      rcases hs with rfl | rfl <;> omega
/-- a Ratio made of the fraction, both multiplied by a drawn number -/
def spMade (C : Addr) : Sp := fun vs H Q _ => ∃ (p l b : Addr) (c : Int) (q : Rat), vs = [.ref p, .ref b] ∧ PenAt H p l c ∧ c < 100000000 ∧ H b = some (.tup (qv q)) ∧ HwM.Bd 4000 q ∧ ∀ H' x, Ext p H H' → PenAt H' p l (c + 1) → IsR C H' x q → Q x H'
abbrev s_L_made : Stmt := top 21
abbrev N_L_made : List Str := ["_law_pen_here", "_law_pair", "_law_by"]
theorem sc_L_made : FnScope N_L_made ["_law_pen_here", "_law_pair"] (defScope s_L_made) := ⟨rfl, rfl, rfl, by decide +kernel, rfl, by decide +kernel, by decide +kernel⟩
theorem st_L_made {v0 v1 : V} : L2.start N_L_made [v0, v1] = [some v0, some v1, none] := rfl
theorem ok_L_made {f : Addr} {fd : FuncData} (F : FD K s_L_made "_law_made" "_law_made" f fd) {C_Ratio C_BadNumber : Addr} (g_Ratio : Kf P w K mg base "Ratio" C_Ratio 3 ["self", "top", "bottom"] [] (spInit C_Ratio C_BadNumber)) (g_L_draw : Gf P w K mg base "_law_draw" 1 ["_law_pen_here", "_law_many"] (spDraw)) : FnOk P w K mg base (L2.CX P w) 5 f fd ["_law_pen_here", "_law_pair"] (spMade C_Ratio) := by
  have nd := sc_L_made.nd
  refine F.ok0 sc_L_made (fun vs H Q E h => ?_) (fun cdv A outer s H vs Q E hr h => ?_)
  · obtain ⟨p, pl, b, c, q, rfl, _⟩ := h
    rfl
  · obtain ⟨p, pl, b, c, q, rfl, hp, hc, hb, bq, k⟩ := h
    refine ⟨_, (pss_cons (ps_set (i := 2) nd rfl (Or.inl rfl) (pe_ix ix_listH (pe_lst (pa_cons pe_int (pa_cons pe_int (pa_cons pe_int (pa_cons (pe_un un_neg pe_int) (pa_cons pe_int (pa_cons (pe_un un_neg pe_int) pa_nil))))))) (pe_g g_L_draw hr (by decide) passL rfl (pa_cons (pv 0) (pa_cons pe_int pa_nil))) (fun _ _ => rfl)))
        (pss_one (ps_ret (pe_k g_Ratio hr (by decide) passL rfl (pa_cons (pe_op op_mulW (pe_ix ix_tupH (pv 1) pe_int (fun _ _ => rfl)) (pv 2)) (pa_cons (pe_op op_mulW (pe_ix ix_tupH (pv 1) pe_int (fun _ _ => rfl)) (pv 2)) pa_nil)))))), ?_⟩
    simp only [tVar, rIxTH, rIxLH, gTupH, line_le, HO.tup.injEq, HO.lst.injEq, List.length_cons, List.length_nil, at0, at1, rU, tOst, tTest, rIxL, rIxT, C8.tCut, cxOf_K, tC, tOp, tUn, tSeq, tAsg, tNext, tRet, tRetN, tDrop, tIfS, tNever, gName, gNil, gCons, gTup, gSub, tPar, rI, rI0, rU, rEq, rNe, tB, tAnd, tOr, tNot, tAndV, tOrV, tNotV, tIf, tTup, tLst, tNil, tCons, tCB, tCall, tMeth, tMake, tFld, sFld, tDGet, sDPut, tDisp, tPairs, tBreak, tCont, scal_ii, scal_bb, scal_ss, List.getElem?_cons_zero, List.getElem?_cons_succ, List.set_cons_zero, List.set_cons_succ, Option.some.injEq, exists_eq_left', exists_eq_left, exists_and_left, V.int.injEq, V.bl.injEq, V.ref.injEq, V.str.injEq, List.cons.injEq, and_true, true_and, Bool.true_eq, List.nil_append, List.append_nil, List.cons_append, exists_eq', and_self, reduceCtorEq, false_or, or_false, false_and, exists_false, exists_const, and_assoc, if_true, Bool.false_eq_true, if_false, Nat.reduceAdd, Nat.reduceLeDiff, Nat.zero_add, Nat.le_refl, forall_const, st_L_made, rU]
    intro l hl
    have s1 := same_new (o := .lst [V.int 1, V.int 1, V.int 2, V.int (-1), V.int 6, V.int (-3)]) hl
    refine ⟨p, pl, c, 6, rfl, hp.same s1, by omega, by decide, by decide, fun H1 r x1 p1 r0 r1 => ?_⟩
    have nlp : l ≠ p := hp.ne hl
    have nbp : b ≠ p := fun e => by
      obtain ⟨cs, i, dg, n, f, h1, _⟩ := hp
      rw [e, h1] at hb
      cases hb
    have hl1 := x1 _ _ nlp upd_same
    have hb1 := x1 _ _ nbp (s1 _ _ hb)
    obtain ⟨z, hz, z0, zb⟩ : ∃ z : Int, atI [V.int 1, V.int 1, V.int 2, V.int (-1), V.int 6, V.int (-3)] r = some (.int z) ∧ z ≠ 0 ∧ z.natAbs < 2 ^ 4 := by
      have hr : r = 0 ∨ r = 1 ∨ r = 2 ∨ r = 3 ∨ r = 4 ∨ r = 5 := by omega
      rcases hr with rfl | rfl | rfl | rfl | rfl | rfl
      · exact ⟨1, atI_nat (j := 0) rfl, by decide, by decide⟩
      · exact ⟨1, atI_nat (j := 1) rfl, by decide, by decide⟩
      · exact ⟨2, atI_nat (j := 2) rfl, by decide, by decide⟩
      · exact ⟨-1, atI_nat (j := 3) rfl, by decide, by decide⟩
      · exact ⟨6, atI_nat (j := 4) rfl, by decide, by decide⟩
      · exact ⟨-3, atI_nat (j := 5) rfl, by decide, by decide⟩
    simp only [tVar, rIxTH, rIxLH, gTupH, line_le, HO.tup.injEq, HO.lst.injEq, List.length_cons, List.length_nil, at0, at1, rU, tOst, tTest, rIxL, rIxT, C8.tCut, cxOf_K, tC, tOp, tUn, tSeq, tAsg, tNext, tRet, tRetN, tDrop, tIfS, tNever, gName, gNil, gCons, gTup, gSub, tPar, rI, rI0, rU, rEq, rNe, tB, tAnd, tOr, tNot, tAndV, tOrV, tNotV, tIf, tTup, tLst, tNil, tCons, tCB, tCall, tMeth, tMake, tFld, sFld, tDGet, sDPut, tDisp, tPairs, tBreak, tCont, scal_ii, scal_bb, scal_ss, List.getElem?_cons_zero, List.getElem?_cons_succ, List.set_cons_zero, List.set_cons_succ, Option.some.injEq, exists_eq_left', exists_eq_left, exists_and_left, V.int.injEq, V.bl.injEq, V.ref.injEq, V.str.injEq, List.cons.injEq, and_true, true_and, Bool.true_eq, List.nil_append, List.append_nil, List.cons_append, exists_eq', and_self, reduceCtorEq, false_or, or_false, false_and, exists_false, exists_const, and_assoc, if_true, Bool.false_eq_true, if_false, Nat.reduceAdd, Nat.reduceLeDiff, Nat.zero_add, Nat.le_refl, forall_const, st_L_made, hl1, hb1, hz]
    refine ⟨wide_mul bq.1 zb (by decide) (by decide) (by decide), wide_mul (by simpa using bq.2) zb (by decide) (by decide) (by decide), ?_⟩
    have big : ((q.den : Int) * z).natAbs < 2 ^ 9000 := by
      rw [Int.natAbs_mul]
      exact HwM.lt_mono (HwM.mul_lt (by simpa using bq.2) zb) (by decide)
    exact made_rat big (fun _ H2 x e1 e2 => k H2 x (((Ext.of s1).trans x1).trans (.of e1)) (p1.same e1) (by rw [HwM.scale_eq q z0] at e2; exact e2)) (fun h => absurd h (Int.mul_ne_zero (HwM.den_ne q) z0))
/-- the order of a Ratio and a value beside it -/
def spOrder (C : Addr) : Sp := fun vs H Q _ => ∃ (x y : V) (q r : Rat), vs = [x, y, .int (HwM.cmp q r)] ∧ IsR C H x q ∧ AsR C H y r ∧ HwM.Bd 4000 q ∧ HwM.Bd 4000 r ∧ ∀ H', Same H H' → Q (.bl true) H'
abbrev s_L_is_order : Stmt := top 23
abbrev N_L_is_order : List Str := ["_law_one", "_law_other", "_law_due", "_law_told", "_law_answers", "_law_answer"]
theorem sc_L_is_order : FnScope N_L_is_order ["_law_one", "_law_other", "_law_due"] (defScope s_L_is_order) := ⟨rfl, rfl, rfl, by decide +kernel, rfl, by decide +kernel, by decide +kernel⟩
theorem st_L_is_order {v0 v1 v2 : V} : L2.start N_L_is_order [v0, v1, v2] = [some v0, some v1, some v2, none, none, none] := rfl
theorem ok_L_is_order {f : Addr} {fd : FuncData} (F : FD K s_L_is_order "_law_is_order" "_law_is_order" f fd) {C_Ratio : Addr} (R : RatC K C_Ratio) (z_isinstance : mg "isinstance" = none) (z_bool : mg "bool" = none) (z_int : mg "int" = none) (g_RatioD_eqD : Ef P w K mg base C_Ratio 2 (spEqR K C_Ratio)) (g_Ratio_at_most : Mf P w K mg base C_Ratio "at_most" 7 ["self", "other"] (spCmp C_Ratio (fun q r => .bl (decide (q ≤ r))))) (g_Ratio_under : Mf P w K mg base C_Ratio "under" 7 ["self", "other"] (spCmp C_Ratio (fun q r => .bl (decide (q < r))))) (g_Ratio_compared : Mf P w K mg base C_Ratio "compared" 6 ["self", "other"] (spCmp C_Ratio (fun q r => .int (HwM.cmp q r)))) : FnOk P w K mg base (L2.CX P w) 8 f fd ["_law_one", "_law_other", "_law_due"] (spOrder C_Ratio) := by
  have nd := sc_L_is_order.nd
  refine F.ok0 sc_L_is_order (fun vs H Q E h => ?_) (fun cdv A outer s H vs Q E hr h => ?_)
  · obtain ⟨x, y, q, r, rfl, _⟩ := h
    rfl
  · obtain ⟨x, y, q, r, rfl, hx, hy, bq, br, k⟩ := h
    obtain ⟨a, dx, rfl, ha⟩ := id hx
    refine ⟨_, (pss_cons (ps_set (i := 3) nd rfl (Or.inl rfl) (pe_m g_Ratio_compared hr (by decide) passL (pv 0) (pa_cons (pv 1) pa_nil)))
        (pss_cons (ps_if (PW.pt (pw_or (pt_not (pt_val (pe_callB (id := "isinstance") (r := rIsi K) (call_isiE rfl) (by rfl) z_isinstance (by decide +kernel) (pa_cons (pv 3) (pa_cons (pe_bltn (v := .ty "int") rfl z_int (by decide +kernel) rfl) pa_nil))))) (pw_or (pt_val (pe_callB (id := "isinstance") (r := rIsi K) (call_isiE rfl) (by rfl) z_isinstance (by decide +kernel) (pa_cons (pv 3) (pa_cons (pe_bltn (v := .ty "bool") rfl z_bool (by decide +kernel) rfl) pa_nil)))) (pw_or1 (pt_cmpR op_ne (pv 3) (pv 2) (nomark _)))))) (pss_one (ps_ret pe_bl)) pss_nil)
        (pss_cons (ps_set (i := 4) nd rfl (Or.inl rfl) (pe_lst (pa_cons (pe_m g_Ratio_under hr (by decide) passL (pv 0) (pa_cons (pv 1) pa_nil)) (pa_cons (pe_m g_Ratio_at_most hr (by decide) passL (pv 0) (pa_cons (pv 1) pa_nil)) (pa_cons (pe_cmpR (eq_o g_RatioD_eqD hr (by decide) passL) (pv 0) (pv 1) (nomark _)) pa_nil)))))
        (pss_cons (ps_if (pt_cmpR (op_neD hr.units) (pe_lc (own := [("_law_answer", 5)]) rfl nd (pi_list (pv 4)) (blkOk_by (own := [("_law_answer", 5)]) (N := N_L_is_order) (sc := defScope s_L_is_order) (by decide +kernel)) (fun _ _ _ _ _ => (pg_name (i := 5) nd rfl (Or.inl rfl))) (fun _ _ _ _ _ => pts_one (pt_not (pt_val (pe_callB (id := "isinstance") (r := rIsi K) (call_isiE rfl) (by rfl) z_isinstance (by decide +kernel) (pa_cons (pv 5) (pa_cons (pe_bltn (v := .ty "bool") rfl z_bool (by decide +kernel) rfl) pa_nil)))))) (fun _ _ _ _ _ => pe_int)) (pe_lst pa_nil) (nomark _)) (pss_one (ps_ret pe_bl)) pss_nil)
        (pss_one (ps_ret (pe_cmpR (op_eqD hr.units) (pv 4) (pe_lst (pa_cons (pe_cmpR op_lt (pv 2) pe_int (nomark _)) (pa_cons (pe_cmpR op_le (pv 2) pe_int (nomark _)) (pa_cons (pe_cmpR op_eq (pv 2) pe_int (nomark _)) pa_nil)))) (nomark _)))))))), ?_⟩
    simp only [tVar, rIxTH, rIxLH, gTupH, line_le, HO.tup.injEq, HO.lst.injEq, List.length_cons, List.length_nil, at0, at1, rU, tOst, tTest, rIxL, rIxT, C8.tCut, cxOf_K, tC, tOp, tUn, tSeq, tAsg, tNext, tRet, tRetN, tDrop, tIfS, tNever, gName, gNil, gCons, gTup, gSub, tPar, rI, rI0, rU, rEq, rNe, tB, tAnd, tOr, tNot, tAndV, tOrV, tNotV, tIf, tTup, tLst, tNil, tCons, tCB, tCall, tMeth, tMake, tFld, sFld, tDGet, sDPut, tDisp, tPairs, tBreak, tCont, scal_ii, scal_bb, scal_ss, List.getElem?_cons_zero, List.getElem?_cons_succ, List.set_cons_zero, List.set_cons_succ, Option.some.injEq, exists_eq_left', exists_eq_left, exists_and_left, V.int.injEq, V.bl.injEq, V.ref.injEq, V.str.injEq, List.cons.injEq, and_true, true_and, Bool.true_eq, List.nil_append, List.append_nil, List.cons_append, exists_eq', and_self, reduceCtorEq, false_or, or_false, false_and, exists_false, exists_const, and_assoc, if_true, Bool.false_eq_true, if_false, Nat.reduceAdd, Nat.reduceLeDiff, Nat.zero_add, Nat.le_refl, forall_const, st_L_is_order, HO.ins.injEq, R.cl, R.nt, R.nb, ratF_top, ratF_bottom, ha, ratF_no q (m := "compared") (by decide) (by decide)]
    refine ⟨_, y, q, r, rfl, hx, hy, bq, br, fun H1 s1 => ?_⟩
    have ha1 := s1 _ _ ha
    simp only [tVar, rIxTH, rIxLH, gTupH, line_le, HO.tup.injEq, HO.lst.injEq, List.length_cons, List.length_nil, at0, at1, rU, tOst, tTest, rIxL, rIxT, C8.tCut, cxOf_K, tC, tOp, tUn, tSeq, tAsg, tNext, tRet, tRetN, tDrop, tIfS, tNever, gName, gNil, gCons, gTup, gSub, tPar, rI, rI0, rU, rEq, rNe, tB, tAnd, tOr, tNot, tAndV, tOrV, tNotV, tIf, tTup, tLst, tNil, tCons, tCB, tCall, tMeth, tMake, tFld, sFld, tDGet, sDPut, tDisp, tPairs, tBreak, tCont, scal_ii, scal_bb, scal_ss, List.getElem?_cons_zero, List.getElem?_cons_succ, List.set_cons_zero, List.set_cons_succ, Option.some.injEq, exists_eq_left', exists_eq_left, exists_and_left, V.int.injEq, V.bl.injEq, V.ref.injEq, V.str.injEq, List.cons.injEq, and_true, true_and, Bool.true_eq, List.nil_append, List.append_nil, List.cons_append, exists_eq', and_self, reduceCtorEq, false_or, or_false, false_and, exists_false, exists_const, and_assoc, if_true, Bool.false_eq_true, if_false, Nat.reduceAdd, Nat.reduceLeDiff, Nat.zero_add, Nat.le_refl, forall_const, st_L_is_order, HO.ins.injEq, R.cl, R.nt, R.nb, ratF_top, ratF_bottom, ha1, rIsi, ratF_no q (m := "under") (by decide) (by decide)]
    refine isi_ii (iteF (isi_ib (iteF ?_)))
    simp only [tVar, rIxTH, rIxLH, gTupH, line_le, HO.tup.injEq, HO.lst.injEq, List.length_cons, List.length_nil, at0, at1, rU, tOst, tTest, rIxL, rIxT, C8.tCut, cxOf_K, tC, tOp, tUn, tSeq, tAsg, tNext, tRet, tRetN, tDrop, tIfS, tNever, gName, gNil, gCons, gTup, gSub, tPar, rI, rI0, rU, rEq, rNe, tB, tAnd, tOr, tNot, tAndV, tOrV, tNotV, tIf, tTup, tLst, tNil, tCons, tCB, tCall, tMeth, tMake, tFld, sFld, tDGet, sDPut, tDisp, tPairs, tBreak, tCont, scal_ii, scal_bb, scal_ss, List.getElem?_cons_zero, List.getElem?_cons_succ, List.set_cons_zero, List.set_cons_succ, Option.some.injEq, exists_eq_left', exists_eq_left, exists_and_left, V.int.injEq, V.bl.injEq, V.ref.injEq, V.str.injEq, List.cons.injEq, and_true, true_and, Bool.true_eq, List.nil_append, List.append_nil, List.cons_append, exists_eq', and_self, reduceCtorEq, false_or, or_false, false_and, exists_false, exists_const, and_assoc, if_true, Bool.false_eq_true, if_false, Nat.reduceAdd, Nat.reduceLeDiff, Nat.zero_add, Nat.le_refl, forall_const, st_L_is_order, decide_true, Bool.not_true]
    refine ⟨_, y, q, r, rfl, hx.same s1, hy.same s1, bq, br, fun H2 s2 => ?_⟩
    have s2 := s1.trans s2
    have ha2 := s2 _ _ ha
    simp only [tVar, rIxTH, rIxLH, gTupH, line_le, HO.tup.injEq, HO.lst.injEq, List.length_cons, List.length_nil, at0, at1, rU, tOst, tTest, rIxL, rIxT, C8.tCut, cxOf_K, tC, tOp, tUn, tSeq, tAsg, tNext, tRet, tRetN, tDrop, tIfS, tNever, gName, gNil, gCons, gTup, gSub, tPar, rI, rI0, rU, rEq, rNe, tB, tAnd, tOr, tNot, tAndV, tOrV, tNotV, tIf, tTup, tLst, tNil, tCons, tCB, tCall, tMeth, tMake, tFld, sFld, tDGet, sDPut, tDisp, tPairs, tBreak, tCont, scal_ii, scal_bb, scal_ss, List.getElem?_cons_zero, List.getElem?_cons_succ, List.set_cons_zero, List.set_cons_succ, Option.some.injEq, exists_eq_left', exists_eq_left, exists_and_left, V.int.injEq, V.bl.injEq, V.ref.injEq, V.str.injEq, List.cons.injEq, and_true, true_and, Bool.true_eq, List.nil_append, List.append_nil, List.cons_append, exists_eq', and_self, reduceCtorEq, false_or, or_false, false_and, exists_false, exists_const, and_assoc, if_true, Bool.false_eq_true, if_false, Nat.reduceAdd, Nat.reduceLeDiff, Nat.zero_add, Nat.le_refl, forall_const, st_L_is_order, HO.ins.injEq, R.cl, R.nt, R.nb, ratF_top, ratF_bottom, ha2, ratF_no q (m := "at_most") (by decide) (by decide)]
    refine ⟨_, y, q, r, rfl, hx.same s2, hy.same s2, bq, br, fun H3 s3 => ?_⟩
    have s3 := s2.trans s3
    have hy3 := hy.same s3
    obtain ⟨i, b, hT, hir⟩ := ty_as R hy3
    obtain ⟨t, bI, bB, ty, e1, e2, e4, e3, nf⟩ := hT.ex
    refine ⟨(hx.same s3).inst, ⟨t, ty, nf⟩, _, y, q, rfl, hx.same s3, .inl ⟨r, hy3, ?_⟩⟩
    intro p hp
    have ec : ([V.bl (decide (q < r)), V.bl (decide (q ≤ r)), V.bl (decide (q = r))] : List V) = [V.bl (decide (HwM.cmp q r < 0)), V.bl (decide (HwM.cmp q r ≤ 0)), V.bl (decide (HwM.cmp q r = 0))] := by
      simp only [HwM.cmp_lt, HwM.cmp_le, HwM.cmp_zero]
    rw [ec]
    refine ⟨.ref p, rfl, p, rfl, ⟨_, SqL.of upd_same⟩, fun D hD => lc_list (K := K) (a := p) (xs := [V.bl (decide (HwM.cmp q r < 0)), V.bl (decide (HwM.cmp q r ≤ 0)), V.bl (decide (HwM.cmp q r = 0))])
      (fun i H' => H' = upd (upd H3 p (.lst [V.bl (decide (HwM.cmp q r < 0)), V.bl (decide (HwM.cmp q r ≤ 0)), V.bl (decide (HwM.cmp q r = 0))])) D (.lst [])) rfl (fun i H' _ e => by rw [e]; exact SqL.of (upd_get hD upd_same)) ?_ ?_⟩
    · rintro i y H' hi rfl
      obtain ⟨z, rfl⟩ : ∃ z, y = V.bl z := by
        match i, hi with
        | 0, e => exact ⟨_, (Option.some.inj e).symm⟩
        | 1, e => exact ⟨_, (Option.some.inj e).symm⟩
        | 2, e => exact ⟨_, (Option.some.inj e).symm⟩
      simp only [tVar, rIxTH, rIxLH, gTupH, line_le, HO.tup.injEq, HO.lst.injEq, List.length_cons, List.length_nil, at0, at1, rU, tOst, tTest, rIxL, rIxT, C8.tCut, cxOf_K, tC, tOp, tUn, tSeq, tAsg, tNext, tRet, tRetN, tDrop, tIfS, tNever, gName, gNil, gCons, gTup, gSub, tPar, rI, rI0, rU, rEq, rNe, tB, tAnd, tOr, tNot, tAndV, tOrV, tNotV, tIf, tTup, tLst, tNil, tCons, tCB, tCall, tMeth, tMake, tFld, sFld, tDGet, sDPut, tDisp, tPairs, tBreak, tCont, scal_ii, scal_bb, scal_ss, List.getElem?_cons_zero, List.getElem?_cons_succ, List.set_cons_zero, List.set_cons_succ, Option.some.injEq, exists_eq_left', exists_eq_left, exists_and_left, V.int.injEq, V.bl.injEq, V.ref.injEq, V.str.injEq, List.cons.injEq, and_true, true_and, Bool.true_eq, List.nil_append, List.append_nil, List.cons_append, exists_eq', and_self, reduceCtorEq, false_or, or_false, false_and, exists_false, exists_const, and_assoc, if_true, Bool.false_eq_true, if_false, Nat.reduceAdd, Nat.reduceLeDiff, Nat.zero_add, Nat.le_refl, forall_const, st_L_is_order, rIsi, wipe, List.map_cons, List.map_nil]
      exact isi_bb (iteF trivial)
    · rintro H' rfl
      intro p2 hp2
      have npD : p ≠ D := fun e => by rw [e, upd_same] at hD; cases hD
      refine ne_nil (by rw [upd_ne (ne_of_none upd_same hp2), upd_same]) upd_same ?_
      simp only [tVar, rIxTH, rIxLH, gTupH, line_le, HO.tup.injEq, HO.lst.injEq, List.length_cons, List.length_nil, at0, at1, rU, tOst, tTest, rIxL, rIxT, C8.tCut, cxOf_K, tC, tOp, tUn, tSeq, tAsg, tNext, tRet, tRetN, tDrop, tIfS, tNever, gName, gNil, gCons, gTup, gSub, tPar, rI, rI0, rU, rEq, rNe, tB, tAnd, tOr, tNot, tAndV, tOrV, tNotV, tIf, tTup, tLst, tNil, tCons, tCB, tCall, tMeth, tMake, tFld, sFld, tDGet, sDPut, tDisp, tPairs, tBreak, tCont, scal_ii, scal_bb, scal_ss, List.getElem?_cons_zero, List.getElem?_cons_succ, List.set_cons_zero, List.set_cons_succ, Option.some.injEq, exists_eq_left', exists_eq_left, exists_and_left, V.int.injEq, V.bl.injEq, V.ref.injEq, V.str.injEq, List.cons.injEq, and_true, true_and, Bool.true_eq, List.nil_append, List.append_nil, List.cons_append, exists_eq', and_self, reduceCtorEq, false_or, or_false, false_and, exists_false, exists_const, and_assoc, if_true, Bool.false_eq_true, if_false, Nat.reduceAdd, Nat.reduceLeDiff, Nat.zero_add, Nat.le_refl, forall_const, st_L_is_order]
      intro p3 hp3
      refine eq_bl3 (upd_get hp3 (upd_get hp2 (upd_get hD upd_same))) upd_same ?_
      exact k _ ((((s3.trans (same_new hp)).trans (same_new hD)).trans (same_new hp2)).trans (same_new hp3))
theorem qv_int (i : Int) : ([V.int i, V.int 1] : List V) = qv (i : Rat) := by unfold qv; simp
/-- one operation of the program beside the law's own -/
theorem chk {C : Addr} {g : Rat → Rat → Rat} {H : Hp} {x y : V} {b d : Addr} {q r : Rat} {A B : Hp → Prop} {E1 E2 E3 : XK} (hx : IsR C H x q) (hy : AsR C H y r) (bq : HwM.Bd 4000 q) (br : HwM.Bd 4000 r) (hb : H b = some (.tup (qv q))) (hd : H d = some (.tup (qv r)))
    (k : ∀ H', Same H H' → B H') : rOwn C (spBin C g) E1 x y H fun z H1 => spQ2 g [.ref b, .ref d] H1 (fun u H2 => spIsR C [z, u] H2 (fun v H3 => ∃ c, v = .bl c ∧ if (!c) = true then A H3 else B H3) E3) E2 := by
  refine ⟨hx.inst, hy.arg, x, y, q, r, rfl, hx, hy, bq, br, fun H1 z s1 hz => ?_⟩
  refine ⟨b, d, q, r, rfl, s1 _ _ hb, s1 _ _ hd, bq, br, fun p hp => ?_⟩
  refine ⟨z, p, g q r, g q r, rfl, hz.same (same_new hp), upd_same, fun H3 s3 => ?_⟩
  refine ⟨true, by simp, ?_⟩
  exact iteF (k H3 ((s1.trans (same_new hp)).trans s3))
def spWithInt (C : Addr) : Sp := fun vs H Q _ => ∃ (x : V) (b : Addr) (q : Rat) (i : Int), vs = [x, .ref b, .int i] ∧ IsR C H x q ∧ H b = some (.tup (qv q)) ∧ HwM.Bd 1000 q ∧ i.natAbs < 2 ^ 1000 ∧ ∀ H', Same H H' → Q (.bl true) H'
abbrev s_L_with_integer : Stmt := top 24
abbrev N_L_with_integer : List Str := ["_law_one", "_law_pair", "_law_number", "_law_due"]
theorem sc_L_with_integer : FnScope N_L_with_integer ["_law_one", "_law_pair", "_law_number"] (defScope s_L_with_integer) := ⟨rfl, rfl, rfl, by decide +kernel, rfl, by decide +kernel, by decide +kernel⟩
theorem st_L_with_integer {v0 v1 v2 : V} : L2.start N_L_with_integer [v0, v1, v2] = [some v0, some v1, some v2, none] := rfl
theorem ok_L_with_integer {f : Addr} {fd : FuncData} (F : FD K s_L_with_integer "_law_with_integer" "_law_with_integer" f fd) {C_Ratio C_BadNumber : Addr} (R : RatC K C_Ratio) (g_L_is_order : Gf P w K mg base "_law_is_order" 8 ["_law_one", "_law_other", "_law_due"] (spOrder C_Ratio)) (g_L_sign : Gf P w K mg base "_law_sign" 1 ["_law_one"] (fun vs H Q _ => ∃ (a : Addr) (q : Rat), vs = [.ref a] ∧ H a = some (.tup (qv q)) ∧ Q (.int (HwM.cmp q 0)) H)) (g_L_minus : Gf P w K mg base "_law_minus" 3 ["_law_one", "_law_two"] (spQ2 (fun q r => q - r))) (g_L_is_ratio : Gf P w K mg base "_law_is_ratio" 1 ["_law_value", "_law_due"] (spIsR C_Ratio)) (g_L_q : Gf P w K mg base "_law_q" 2 ["_law_top", "_law_bottom"] (spQ)) (g_Ratio_over : Mf P w K mg base C_Ratio "over" 6 ["self", "other"] (spOver C_Ratio C_BadNumber)) (g_L_times : Gf P w K mg base "_law_times" 3 ["_law_one", "_law_two"] (spQ2 (fun q r => q * r))) (g_RatioD_mulD : Of P w K mg base C_Ratio .Mult 6 (spBin C_Ratio (fun q r => q * r))) (g_RatioD_subD : Of P w K mg base C_Ratio .Sub 6 (spBin C_Ratio (fun q r => q - r))) (g_L_plus : Gf P w K mg base "_law_plus" 3 ["_law_one", "_law_two"] (spQ2 (fun q r => q + r))) (g_RatioD_addD : Of P w K mg base C_Ratio .Add 6 (spBin C_Ratio (fun q r => q + r))) : FnOk P w K mg base (L2.CX P w) 9 f fd ["_law_one", "_law_pair", "_law_number"] (spWithInt C_Ratio) := by
  have nd := sc_L_with_integer.nd
  refine F.ok0 sc_L_with_integer (fun vs H Q E h => ?_) (fun cdv A outer s H vs Q E hr h => ?_)
  · obtain ⟨x, b, q, i, rfl, _⟩ := h
    rfl
  · obtain ⟨x, b, q, i, rfl, hx, hb, bq, bi, k⟩ := h
    obtain ⟨a, dx, rfl, ha⟩ := id hx
    have bi2 : HwM.Bd 1000 (i : Rat) := HwM.int_bd (by decide) bi
    have bq4 : HwM.Bd 4000 q := bq.mono (by decide)
    have bi4 : HwM.Bd 4000 (i : Rat) := bi2.mono (by decide)
    refine ⟨_, (pss_cons (ps_set (i := 3) nd rfl (Or.inl rfl) (pe_tup (pa_cons (pv 2) (pa_cons pe_int pa_nil))))
        (pss_cons (ps_if (PW.pt (pw_or (pt_not (pt_val (pe_g g_L_is_ratio hr (by decide) passL rfl (pa_cons (pe_op (op_o g_RatioD_addD hr (by decide) passL) (pv 0) (pv 2)) (pa_cons (pe_g g_L_plus hr (by decide) passL rfl (pa_cons (pv 1) (pa_cons (pv 3) pa_nil))) pa_nil))))) (pw_or1 (pt_not (pt_val (pe_g g_L_is_ratio hr (by decide) passL rfl (pa_cons (pe_op (op_o g_RatioD_subD hr (by decide) passL) (pv 0) (pv 2)) (pa_cons (pe_g g_L_minus hr (by decide) passL rfl (pa_cons (pv 1) (pa_cons (pv 3) pa_nil))) pa_nil)))))))) (pss_one (ps_ret pe_bl)) pss_nil)
        (pss_cons (ps_if (pt_not (pt_val (pe_g g_L_is_ratio hr (by decide) passL rfl (pa_cons (pe_op (op_o g_RatioD_mulD hr (by decide) passL) (pv 0) (pv 2)) (pa_cons (pe_g g_L_times hr (by decide) passL rfl (pa_cons (pv 1) (pa_cons (pv 3) pa_nil))) pa_nil))))) (pss_one (ps_ret pe_bl)) pss_nil)
        (pss_cons (ps_if (PW.pt (pw_and (pt_cmpR op_ne (pv 2) pe_int (nomark _)) (pw_and1 (pt_not (pt_val (pe_g g_L_is_ratio hr (by decide) passL rfl (pa_cons (pe_m g_Ratio_over hr (by decide) passL (pv 0) (pa_cons (pv 2) pa_nil)) (pa_cons (pe_g g_L_q hr (by decide) passL rfl (pa_cons (pe_ix ix_tupH (pv 1) pe_int (fun _ _ => rfl)) (pa_cons (pe_op op_mulW (pe_ix ix_tupH (pv 1) pe_int (fun _ _ => rfl)) (pv 2)) pa_nil))) pa_nil)))))))) (pss_one (ps_ret pe_bl)) pss_nil)
        (pss_one (ps_ret (pe_g g_L_is_order hr (by decide) passL rfl (pa_cons (pv 0) (pa_cons (pv 2) (pa_cons (pe_g g_L_sign hr (by decide) passL rfl (pa_cons (pe_g g_L_minus hr (by decide) passL rfl (pa_cons (pv 1) (pa_cons (pv 3) pa_nil))) pa_nil)) pa_nil)))))))))), ?_⟩
    simp only [tVar, rIxTH, rIxLH, gTupH, line_le, HO.tup.injEq, HO.lst.injEq, List.length_cons, List.length_nil, at0, at1, rU, tOst, tTest, rIxL, rIxT, C8.tCut, cxOf_K, tC, tOp, tUn, tSeq, tAsg, tNext, tRet, tRetN, tDrop, tIfS, tNever, gName, gNil, gCons, gTup, gSub, tPar, rI, rI0, rU, rEq, rNe, tB, tAnd, tOr, tNot, tAndV, tOrV, tNotV, tIf, tTup, tLst, tNil, tCons, tCB, tCall, tMeth, tMake, tFld, sFld, tDGet, sDPut, tDisp, tPairs, tBreak, tCont, scal_ii, scal_bb, scal_ss, List.getElem?_cons_zero, List.getElem?_cons_succ, List.set_cons_zero, List.set_cons_succ, Option.some.injEq, exists_eq_left', exists_eq_left, exists_and_left, V.int.injEq, V.bl.injEq, V.ref.injEq, V.str.injEq, List.cons.injEq, and_true, true_and, Bool.true_eq, List.nil_append, List.append_nil, List.cons_append, exists_eq', and_self, reduceCtorEq, false_or, or_false, false_and, exists_false, exists_const, and_assoc, if_true, Bool.false_eq_true, if_false, Nat.reduceAdd, Nat.reduceLeDiff, Nat.zero_add, Nat.le_refl, forall_const, st_L_with_integer, qv_int]
    intro d hd
    have s0 := same_new (o := .tup (qv (i : Rat))) hd
    have hd0 : upd H d (.tup (qv (i : Rat))) d = some (.tup (qv (i : Rat))) := upd_same
    generalize upd H d (.tup (qv (i : Rat))) = H0 at s0 hd0
    refine chk (r := (i : Rat)) (hx.same s0) (.inr ⟨i, rfl, rfl⟩) bq4 bi4 (s0 _ _ hb) hd0 fun H1 s1 => ?_
    have t1 := s0.trans s1
    refine chk (r := (i : Rat)) (hx.same t1) (.inr ⟨i, rfl, rfl⟩) bq4 bi4 (t1 _ _ hb) (s1 _ _ hd0) fun H2 s2 => ?_
    have t2 := t1.trans s2
    have d2 := s2 _ _ (s1 _ _ hd0)
    refine chk (r := (i : Rat)) (hx.same t2) (.inr ⟨i, rfl, rfl⟩) bq4 bi4 (t2 _ _ hb) d2 fun H3 s3 => ?_
    have t3 := t2.trans s3
    have d3 := s3 _ _ d2
    have last : ∀ H4, Same H3 H4 → spQ2 (fun q r => q - r) [V.ref b, V.ref d] H4 (fun x1 H5 => ∃ a_1, x1 = V.ref a_1 ∧ ∃ x2, H5 a_1 = some (HO.tup (qv x2)) ∧ spOrder C_Ratio [V.ref a, V.int i, V.int (HwM.cmp x2 0)] H5 Q E0) E0 := fun H4 s4 => by
      have t4 := t3.trans s4
      refine ⟨b, d, q, (i : Rat), rfl, t4 _ _ hb, s4 _ _ d3, bq4, bi4, fun p hp => ?_⟩
      have t5 := t4.trans (same_new (o := .tup (qv (q - (i : Rat)))) hp)
      refine ⟨p, rfl, q - (i : Rat), upd_same, ?_⟩
      rw [HwM.cmp_sub]
      exact ⟨.ref a, .int i, q, (i : Rat), rfl, hx.same t5, .inr ⟨i, rfl, rfl⟩, bq4, bi4, fun H6 s6 => k H6 (t5.trans s6)⟩
    refine ite2 (fun hi => ?_) (fun _ => last H3 (Same.refl _))
    have hi : i ≠ 0 := by simpa using hi
    have ha3 := t3 _ _ ha
    simp only [tVar, rIxTH, rIxLH, gTupH, line_le, HO.tup.injEq, HO.lst.injEq, List.length_cons, List.length_nil, at0, at1, rU, tOst, tTest, rIxL, rIxT, C8.tCut, cxOf_K, tC, tOp, tUn, tSeq, tAsg, tNext, tRet, tRetN, tDrop, tIfS, tNever, gName, gNil, gCons, gTup, gSub, tPar, rI, rI0, rU, rEq, rNe, tB, tAnd, tOr, tNot, tAndV, tOrV, tNotV, tIf, tTup, tLst, tNil, tCons, tCB, tCall, tMeth, tMake, tFld, sFld, tDGet, sDPut, tDisp, tPairs, tBreak, tCont, scal_ii, scal_bb, scal_ss, List.getElem?_cons_zero, List.getElem?_cons_succ, List.set_cons_zero, List.set_cons_succ, Option.some.injEq, exists_eq_left', exists_eq_left, exists_and_left, V.int.injEq, V.bl.injEq, V.ref.injEq, V.str.injEq, List.cons.injEq, and_true, true_and, Bool.true_eq, List.nil_append, List.append_nil, List.cons_append, exists_eq', and_self, reduceCtorEq, false_or, or_false, false_and, exists_false, exists_const, and_assoc, if_true, Bool.false_eq_true, if_false, Nat.reduceAdd, Nat.reduceLeDiff, Nat.zero_add, Nat.le_refl, forall_const, st_L_with_integer, HO.ins.injEq, R.cl, R.nt, R.nb, ratF_top, ratF_bottom, ha3, ratF_no q (m := "over") (by decide) (by decide)]
    refine ⟨_, .int i, q, (i : Rat), rfl, hx.same t3, .inr ⟨i, rfl, rfl⟩, bq4, bi4, fun _ H4 z s4 hz => ?_, fun h => ?_⟩
    · have t4 := t3.trans s4
      have hb4 := t4 _ _ hb
      simp only [tVar, rIxTH, rIxLH, gTupH, line_le, HO.tup.injEq, HO.lst.injEq, List.length_cons, List.length_nil, at0, at1, rU, tOst, tTest, rIxL, rIxT, C8.tCut, cxOf_K, tC, tOp, tUn, tSeq, tAsg, tNext, tRet, tRetN, tDrop, tIfS, tNever, gName, gNil, gCons, gTup, gSub, tPar, rI, rI0, rU, rEq, rNe, tB, tAnd, tOr, tNot, tAndV, tOrV, tNotV, tIf, tTup, tLst, tNil, tCons, tCB, tCall, tMeth, tMake, tFld, sFld, tDGet, sDPut, tDisp, tPairs, tBreak, tCont, scal_ii, scal_bb, scal_ss, List.getElem?_cons_zero, List.getElem?_cons_succ, List.set_cons_zero, List.set_cons_succ, Option.some.injEq, exists_eq_left', exists_eq_left, exists_and_left, V.int.injEq, V.bl.injEq, V.ref.injEq, V.str.injEq, List.cons.injEq, and_true, true_and, Bool.true_eq, List.nil_append, List.append_nil, List.cons_append, exists_eq', and_self, reduceCtorEq, false_or, or_false, false_and, exists_false, exists_const, and_assoc, if_true, Bool.false_eq_true, if_false, Nat.reduceAdd, Nat.reduceLeDiff, Nat.zero_add, Nat.le_refl, forall_const, st_L_with_integer, hb4]
      refine ⟨wide_mul (by simpa using bq.2) bi (by decide) (by decide) (by decide), ?_⟩
      refine ⟨_, _, rfl, Int.mul_ne_zero (HwM.den_ne q) hi, HwM.lt_mono bq.1 (by decide), ?_, fun p hp => ?_⟩
      · rw [Int.natAbs_mul]
        exact HwM.lt_mono (HwM.mul_lt (by simpa using bq.2) bi) (by decide)
      · have e : Rat.divInt q.num ((q.den : Int) * i) = q / (i : Rat) := by
          have := HwM.div_eq q (i : Rat)
          simpa using this
        rw [e]
        refine ⟨z, p, _, _, rfl, hz.same (same_new hp), upd_same, fun H5 s5 => ⟨true, by simp, iteF ?_⟩⟩
        exact last H5 ((s4.trans (same_new hp)).trans s5)
    · exact absurd (by simpa using h) hi


end HwL
end

section
namespace HwL
open PySem PySem.Spec PyProof.Rows L2 LamX
variable {P : Program} {w : World} {K : PySem.W.Frag} {mg : Str → Option Value} {base : Heap}

abbrev s_L_bottom_named : Stmt := top 22
abbrev N_L_bottom_named : List Str := ["_law_action", "e"]
theorem sc_L_bottom_named : FnScope N_L_bottom_named ["_law_action"] (defScope s_L_bottom_named) := ⟨rfl, rfl, rfl, by decide +kernel, rfl, by decide +kernel, by decide +kernel⟩
theorem st_L_bottom_named {v0 : V} : L2.start N_L_bottom_named [v0] = [some v0, none] := rfl
theorem bot_gives {X : Cx} {q : Str} {g : Addr} {C_BadNumber : Addr} (B : XrC X.K C_BadNumber "what" "number") (m_B : X.mg "BadNumber" = some (.ref C_BadNumber)) (z_isi : X.mg "isinstance" = none) (z_bool : X.mg "bool" = none) (hu : X.A.units + 200 < cLine) (cdg : Value) :
    GivesTo X N_L_bottom_named "_law_bottom_named" (defScope s_L_bottom_named) g cdg (defBody s_L_bottom_named) "_law_action" q (TBot C_BadNumber "what" "number" (.str "bottom") (.int 0)) := by
  intro f c' s H Q tl act hc h
  have nd := sc_L_bottom_named.nd
  refine ⟨_, pss_cons (ps_try_as (i := 1) (c := .ref C_BadNumber)
      (tb := fun W D σ H => ∃ Ech : XK, (∀ cls d σ' H', Ech cls d H' → σ'.length = 2 → W cls d σ' H') ∧ σ[0]? = some (some (V.ref f)) ∧ H c' = some (CodeO c' q) ∧ tl Ech H (fun _ H' => D.nx σ H'))
      rfl rfl nd rfl rfl ⟨rfl, by decide, .inl m_B⟩ L2.takes0 (fun W pn xe tk _ => ⟨fun pins s' σ H' D I h' => let ⟨Ech, hW, h1, h2, h3⟩ := h'
        (pss_one (ps_expr (act _ pn xe Ech _ _ (takes_len tk) hW))).run pins s' σ H' D I ⟨h1, h2, h3⟩⟩)
      (fun a oe cls d pn hz hf => pss_one (ps_ret (pe_and (pe_cmpR (show OpR _ _ (rEqD X.K) from op_eqD (X := (cxOf C8.CX0 X.prog X.w X.K X.mg X.base N_L_bottom_named "_law_bottom_named" (defScope s_L_bottom_named) g cdg X.A X.stack s H C8.E0).nox.suite a ((a, oe) :: pn)) (by show X.A.units + 3 + 64 < cLine; omega)) (pe_tup (pa_cons (pe_xf B.T B.n1 hz hf (pv 1)) (pa_cons (pe_xf B.T B.n2 hz hf (pv 1)) pa_nil))) (pe_tup (pa_cons pe_str (pa_cons pe_int pa_nil))) (nomark _))
      (pe_one (pe_not (pe_callB (id := "isinstance") (r := rIsi X.K) (call_isiE rfl) (by rfl) z_isi (by decide +kernel) (pa_cons (pe_xf B.T B.n2 hz hf (pv 1)) (pa_cons (pe_bltn (v := .ty "bool") rfl z_bool (by decide +kernel) rfl) pa_nil))))))))) (pss_one (ps_ret pe_bl)), ?_⟩
  rw [st_L_bottom_named]
  refine ⟨fun cls d H' => cls = .ref C_BadNumber ∧ ∃ dd, d = some dd ∧ H' dd = some (.xd [("number", .int 0), ("what", .str "bottom")]) ∧ ∀ H'', Same H' H'' → Q (.bl true) H'', ?_, rfl, hc, h⟩
  rintro cls d σ' H' ⟨rfl, dd, rfl, hd, k⟩ hl
  refine ⟨true, B.me, fun _ a ha => ?_, fun z => by cases z⟩
  have e1 : (List.set σ' 1 (some (V.ref a)))[1]? = some (some (V.ref a)) := List.getElem?_set_self (by omega)
  have l1 : List.lookup ("what" : Str) [(("number" : Str), V.int 0), ("what", V.str "bottom")] = some (V.str "bottom") := by
    have e : (("what" : Str) == ("number" : Str)) = false := by decide
    simp [List.lookup, e]
  have l2 : List.lookup ("number" : Str) [(("number" : Str), V.int 0), ("what", V.str "bottom")] = some (V.int 0) := by simp [List.lookup]
  simp only [tVar, rIxTH, rIxLH, gTupH, line_le, HO.tup.injEq, HO.lst.injEq, List.length_cons, List.length_nil, at0, at1, rU, tOst, tTest, rIxL, rIxT, C8.tCut, cxOf_K, tC, tOp, tUn, tSeq, tAsg, tNext, tRet, tRetN, tDrop, tIfS, tNever, gName, gNil, gCons, gTup, gSub, tPar, rI, rI0, rU, rEq, rNe, tB, tAnd, tOr, tNot, tAndV, tOrV, tNotV, tIf, tTup, tLst, tNil, tCons, tCB, tCall, tMeth, tMake, tFld, sFld, tDGet, sDPut, tDisp, tPairs, tBreak, tCont, scal_ii, scal_bb, scal_ss, List.getElem?_cons_zero, List.getElem?_cons_succ, List.set_cons_zero, List.set_cons_succ, Option.some.injEq, exists_eq_left', exists_eq_left, exists_and_left, V.int.injEq, V.bl.injEq, V.ref.injEq, V.str.injEq, List.cons.injEq, and_true, true_and, Bool.true_eq, List.nil_append, List.append_nil, List.cons_append, exists_eq', and_self, reduceCtorEq, false_or, or_false, false_and, exists_false, exists_const, and_assoc, if_true, Bool.false_eq_true, if_false, Nat.reduceAdd, Nat.reduceLeDiff, Nat.zero_add, Nat.le_refl, forall_const, tXf, rIsi, e1, hd, HO.xd.injEq, l1, l2]
  refine fun p hp p2 hp2 => eq_sn (by rw [upd_ne (ne_of_none upd_same hp2), upd_same]) upd_same (by decide +kernel) (by decide +kernel) ?_
  have hd2 := upd_get (o := .tup [V.str "bottom", V.int 0]) hp2 (upd_get (o := .tup [V.str "bottom", V.int 0]) hp hd)
  simp only [tVar, rIxTH, rIxLH, gTupH, line_le, HO.tup.injEq, HO.lst.injEq, List.length_cons, List.length_nil, at0, at1, rU, tOst, tTest, rIxL, rIxT, C8.tCut, cxOf_K, tC, tOp, tUn, tSeq, tAsg, tNext, tRet, tRetN, tDrop, tIfS, tNever, gName, gNil, gCons, gTup, gSub, tPar, rI, rI0, rU, rEq, rNe, tB, tAnd, tOr, tNot, tAndV, tOrV, tNotV, tIf, tTup, tLst, tNil, tCons, tCB, tCall, tMeth, tMake, tFld, sFld, tDGet, sDPut, tDisp, tPairs, tBreak, tCont, scal_ii, scal_bb, scal_ss, List.getElem?_cons_zero, List.getElem?_cons_succ, List.set_cons_zero, List.set_cons_succ, Option.some.injEq, exists_eq_left', exists_eq_left, exists_and_left, V.int.injEq, V.bl.injEq, V.ref.injEq, V.str.injEq, List.cons.injEq, and_true, true_and, Bool.true_eq, List.nil_append, List.append_nil, List.cons_append, exists_eq', and_self, reduceCtorEq, false_or, or_false, false_and, exists_false, exists_const, and_assoc, if_true, Bool.false_eq_true, if_false, Nat.reduceAdd, Nat.reduceLeDiff, Nat.zero_add, Nat.le_refl, forall_const, decide_true, hd2, HO.xd.injEq, l2]
  exact isi_ib (k _ ((same_new hp).trans (same_new hp2)))


end HwL
end

section
namespace HwL
open PySem PySem.Spec PyProof.Rows L2 LamX
variable {P : Program} {w : World} {K : PySem.W.Frag} {mg : Str → Option Value} {base : Heap}

theorem PenAt.no {H : Hp} {p l b : Addr} {c : Int} {xs : List V} (h : PenAt H p l c) (e : H b = Option.some (.tup xs)) : b ≠ p := by
  obtain ⟨cs, i, dg, n, f, h1, _⟩ := h
  exact fun z => by rw [z, h1] at e; cases e
theorem PenAt.noI {H : Hp} {p l b C dx : Addr} {c : Int} {fs : List (Str × V)} (h : PenAt H p l c) (e : H b = Option.some (.ins C dx fs)) : b ≠ p := by
  obtain ⟨cs, i, dg, n, f, h1, _⟩ := h
  exact fun z => by rw [z, h1] at e; cases e
theorem tabs_ext {T : List (Addr × Str)} {H H' : Hp} {p l : Addr} {c : Int} (t : Tabs T H) (hp : PenAt H p l c) (e : Ext p H H') : Tabs T H' := by
  obtain ⟨cs, i, dg, n, f, h1, _⟩ := hp
  exact tabs_at t h1 (fun ps z => by cases z) (fun c q z => by unfold CodeO at z; cases z) e
theorem PenAt.extN {H H' : Hp} {p l : Addr} {c : Int} (h : PenAt H p l c) (e : ExtN H H') : PenAt H' p l c := by
  obtain ⟨cs, i, dg, n, f, h1, h2, h3⟩ := h
  exact ⟨cs, i, dg, n, f, e _ _ h1 (fun _ z => by cases z), e _ _ h2 (fun _ z => by cases z), h3⟩
theorem IsR.extN {C : Addr} {H H' : Hp} {x : V} {q : Rat} (h : IsR C H x q) (e : ExtN H H') : IsR C H' x q := by
  obtain ⟨a, dx, h1, h2⟩ := h
  exact ⟨a, dx, h1, e _ _ h2 (fun _ z => by cases z)⟩
/-- behind the first drawing -/
def LA (a p l PT : Addr) (c : Int) (σ : L2.St) (H : Hp) : Prop := ∃ (i a1 a2 a3 a4 : Int) (v7 v8 v9 v10 v11 v12 : Option V), σ = [some (.ref a), some (.ref p), some (.int i), some (.int a1), some (.int a2), some (.int a3), some (.int a4), v7, v8, v9, v10, v11, v12] ∧
  a1.natAbs < 2 ^ 140 ∧ a2.natAbs < 2 ^ 140 ∧ a3.natAbs < 2 ^ 140 ∧ a4.natAbs < 2 ^ 140 ∧ PenAt H p l c ∧ Tabs [(PT, qL)] H
/-- .. with two fractions -/
def LB (a p l PT : Addr) (c : Int) (σ : L2.St) (H : Hp) : Prop := ∃ (i a1 a2 a3 a4 : Int) (b1 b2 : Addr) (q r : Rat) (v9 v10 v11 v12 : Option V), σ = [some (.ref a), some (.ref p), some (.int i), some (.int a1), some (.int a2), some (.int a3), some (.int a4), some (.ref b1), some (.ref b2), v9, v10, v11, v12] ∧
  a1.natAbs < 2 ^ 140 ∧ HwM.Bd 140 q ∧ HwM.Bd 140 r ∧ H b1 = some (.tup (qv q)) ∧ H b2 = some (.tup (qv r)) ∧ PenAt H p l c ∧ Tabs [(PT, qL)] H
/-- .. and both made -/
def LC (C a p l PT : Addr) (c : Int) (σ : L2.St) (H : Hp) : Prop := ∃ (i a1 a2 a3 a4 : Int) (b1 b2 x1 x2 dx1 dx2 : Addr) (q r : Rat) (v11 v12 : Option V), σ = [some (.ref a), some (.ref p), some (.int i), some (.int a1), some (.int a2), some (.int a3), some (.int a4), some (.ref b1), some (.ref b2), some (.ref x1), some (.ref x2), v11, v12] ∧
  a1.natAbs < 2 ^ 140 ∧ HwM.Bd 140 q ∧ HwM.Bd 140 r ∧ H b1 = some (.tup (qv q)) ∧ H b2 = some (.tup (qv r)) ∧ H x1 = some (.ins C dx1 (ratF q)) ∧ H x2 = some (.ins C dx2 (ratF r)) ∧ PenAt H p l c ∧ Tabs [(PT, qL)] H
def LD (C a p l PT : Addr) (c : Int) (σ : L2.St) (H : Hp) : Prop := LC C a p l PT c σ H ∧ ∃ k, σ[11]? = some (some (.ref k)) ∧ H k = some (.lst [V.bl true, V.bl false, V.bl false, V.bl false, V.bl false, V.bl false])
theorem Ty.argT {K : PySem.W.Frag} {C : Addr} {H : Hp} {x : V} {i r : Bool} (h : Ty K C H x i r) : ∃ t, TyX K H x t ∧ PySem.W.notFirst K C t = true := by
  obtain ⟨t, bI, bB, ty, e1, e2, e4, e3, nf⟩ := h.ex
  exact ⟨t, ty, nf⟩
theorem AsR.argT {K : PySem.W.Frag} {C : Addr} {H : Hp} {x : V} {q : Rat} (h : AsR C H x q) (R : RatC K C) : ∃ t, TyX K H x t ∧ PySem.W.notFirst K C t = true := by
  obtain ⟨i, r, t, _⟩ := ty_as R h
  exact t.argT
theorem made_rat2 {C CB : Addr} {H : Hp} {t b : Int} {Q : Addr → Hp → Prop} {E : XK} (hb : b.natAbs < 2 ^ 9000) (k : b ≠ 0 → ∀ H' x, Same H H' → IsR C H' (.ref x) (Rat.divInt t b) → Q x H') (ke : b = 0 → Bot0 CB H E) (x dx : Addr) (hx : H x = none) (hd : H dx = none) (hne : dx ≠ x) :
    spInit C CB [.ref x, .int t, .int b] (upd (upd H dx (.own x)) x (.ins C dx [])) (fun v H2 => v = .non ∧ Q x H2) E := by
  have sm : Same H (upd (upd H dx (.own x)) x (.ins C dx [])) := fun c o e => by rw [upd_ne (ne_of_none e hx), upd_ne (ne_of_none e hd)]; exact e
  refine ⟨x, dx, t, b, rfl, upd_same, hb, fun h => ⟨rfl, k h _ _ (fun c o e => ?_) ⟨x, dx, rfl, upd_same⟩⟩, fun h H' d e1 e2 => ke h H' d (sm.trans e1) e2⟩
  rw [upd_ne (ne_of_none e hx)]
  exact sm _ _ e
theorem LC.same {C a p l PT : Addr} {c : Int} {σ : L2.St} {H H' : Hp} (h : LC C a p l PT c σ H) (e : Same H H') : LC C a p l PT c σ H' := by
  obtain ⟨i, a1, a2, a3, a4, b1, b2, x1, x2, dx1, dx2, q, r, v11, v12, rfl, h1, h2, h3, e1, e2, e3, e4, hp, ht⟩ := h
  exact ⟨i, a1, a2, a3, a4, b1, b2, x1, x2, dx1, dx2, q, r, v11, v12, rfl, h1, h2, h3, e _ _ e1, e _ _ e2, e _ _ e3, e _ _ e4, hp.same e, ht.ext e⟩
theorem LC.extN {C a p l PT : Addr} {c : Int} {σ : L2.St} {H H' : Hp} (h : LC C a p l PT c σ H) (e : ExtN H H') (t : Tabs [(PT, qL)] H') : LC C a p l PT c σ H' := by
  obtain ⟨i, a1, a2, a3, a4, b1, b2, x1, x2, dx1, dx2, q, r, v11, v12, rfl, h1, h2, h3, e1, e2, e3, e4, hp, ht⟩ := h
  exact ⟨i, a1, a2, a3, a4, b1, b2, x1, x2, dx1, dx2, q, r, v11, v12, rfl, h1, h2, h3, e _ _ e1 (fun _ z => by cases z), e _ _ e2 (fun _ z => by cases z), e _ _ e3 (fun _ z => by cases z), e _ _ e4 (fun _ z => by cases z), hp.extN e, t⟩
def spLaw (K : PySem.W.Frag) (PT : Addr) : Sp := fun vs H Q _ => ∃ (a : Addr) (ns : List Int), vs = [.ref a] ∧ SqL K H a (ns.map V.int) ∧ ns.length ≤ 63 ∧ Tabs [(PT, qL)] H ∧ ∀ H', Q (.bl true) H'
abbrev s_law : Stmt := top 25
abbrev N_law : List Str := ["_law_script", "_law_pen_here", "_law_turn", "_law_a", "_law_b", "_law_c", "_law_d", "_law_first", "_law_second", "_law_one", "_law_two", "_law_kept", "_law_k"]
theorem sc_law : FnScope N_law ["_law_script"] (defScope s_law) := ⟨rfl, rfl, rfl, by decide +kernel, rfl, by decide +kernel, by decide +kernel⟩
theorem st_law {v0 : V} : L2.start N_law [v0] = [some v0, none, none, none, none, none, none, none, none, none, none, none, none] := rfl
theorem ok_law {f : Addr} {fd : FuncData} (F : FD K s_law "law" "law" f fd) {C_Ratio C_BadNumber : Addr} (R : RatC K C_Ratio) {gB : Addr} {fdB : FuncData} {PT cL : Addr} (F_bot : FD K s_L_bottom_named "_law_bottom_named" "_law_bottom_named" gB fdB) (B_bot : Binds K fdB ["_law_action"] []) (m_bot : mg "_law_bottom_named" = some (.ref gB)) (BX : XrC K C_BadNumber "what" "number") (TB : TabB base mg cL PT) (hcode : fd.code = .ref cL) (z_range : mg "range" = none) (z_isinstance : mg "isinstance" = none) (z_bool : mg "bool" = none) (m_BadNumber : mg "BadNumber" = some (.ref C_BadNumber)) (g_L_is_ratio : Gf P w K mg base "_law_is_ratio" 1 ["_law_value", "_law_due"] (spIsR C_Ratio)) (g_Ratio1 : Kf P w K mg base "Ratio" C_Ratio 3 ["self", "top", "bottom"] [.int 1] (spInit C_Ratio C_BadNumber)) (g_RatioD_eqD : Ef P w K mg base C_Ratio 2 (spEqR K C_Ratio)) (g_Ratio : Kf P w K mg base "Ratio" C_Ratio 3 ["self", "top", "bottom"] [] (spInit C_Ratio C_BadNumber)) (g_Ratio_over : Mf P w K mg base C_Ratio "over" 6 ["self", "other"] (spOver C_Ratio C_BadNumber)) (g_L_with_integer : Gf P w K mg base "_law_with_integer" 9 ["_law_one", "_law_pair", "_law_number"] (spWithInt C_Ratio)) (g_L_is_order : Gf P w K mg base "_law_is_order" 8 ["_law_one", "_law_other", "_law_due"] (spOrder C_Ratio)) (g_L_sign : Gf P w K mg base "_law_sign" 1 ["_law_one"] (fun vs H Q _ => ∃ (a : Addr) (q : Rat), vs = [.ref a] ∧ H a = some (.tup (qv q)) ∧ Q (.int (HwM.cmp q 0)) H)) (g_L_minus : Gf P w K mg base "_law_minus" 3 ["_law_one", "_law_two"] (spQ2 (fun q r => q - r))) (g_L_q : Gf P w K mg base "_law_q" 2 ["_law_top", "_law_bottom"] (spQ)) (g_L_times : Gf P w K mg base "_law_times" 3 ["_law_one", "_law_two"] (spQ2 (fun q r => q * r))) (g_RatioD_mulD : Of P w K mg base C_Ratio .Mult 6 (spBin C_Ratio (fun q r => q * r))) (g_RatioD_subD : Of P w K mg base C_Ratio .Sub 6 (spBin C_Ratio (fun q r => q - r))) (g_L_plus : Gf P w K mg base "_law_plus" 3 ["_law_one", "_law_two"] (spQ2 (fun q r => q + r))) (g_RatioD_addD : Of P w K mg base C_Ratio .Add 6 (spBin C_Ratio (fun q r => q + r))) (g_RatioD_negD : Nf P w K mg base C_Ratio 5 (spNeg C_Ratio)) (g_L_made : Gf P w K mg base "_law_made" 5 ["_law_pen_here", "_law_pair"] (spMade C_Ratio)) (g_L_draw : Gf P w K mg base "_law_draw" 1 ["_law_pen_here", "_law_many"] (spDraw)) (g_L_integer : Gf P w K mg base "_law_integer" 2 ["_law_pen_here"] (spInteger)) (g_L_pen : Gf P w K mg base "_law_pen" 1 ["_law_script"] (spPen K)) : FnOk P w K mg base (L2.CX P w) 10 f fd ["_law_script"] (spLaw K PT) := by
  have nd := sc_law.nd
  refine F.okC sc_law (fun vs H Q E h => ?_) (fun A outer s H vs Q E hr h => ?_)
  · obtain ⟨a, ns, rfl, _⟩ := h
    rfl
  · obtain ⟨a, ns, rfl, hS, hlen, hT, k⟩ := h
    refine ⟨_, (pss_cons (ps_set (i := 1) nd rfl (Or.inr rfl) (pe_g g_L_pen hr (by decide) passL rfl (pa_cons (pv 0) pa_nil)))
        (pss_cons (ps_for PassesOwn.never rfl (pi_range1 rfl z_range (pa_cons pe_int pa_nil)) (pg_name (i := 2) nd rfl (Or.inl rfl)) (C8.pss_cut (ps_asg (pe_lc (own := [("_law_k", 12)]) rfl nd (pi_range1 rfl z_range (pa_cons pe_int pa_nil)) (blkOk_by (own := [("_law_k", 12)]) (N := N_law) (sc := defScope s_law) (by decide +kernel)) (fun _ _ _ _ _ => (pg_name (i := 12) nd rfl (Or.inl rfl))) (fun _ _ _ _ _ => pts_nil) (fun _ _ _ _ _ => (pe_g g_L_integer hr (by decide) passL rfl (pa_cons (pv 1) pa_nil)))) (pg_unl rfl (pgs_cons (pg_name (i := 3) nd rfl (Or.inr rfl)) (pgs_cons (pg_name (i := 4) nd rfl (Or.inl rfl)) (pgs_cons (pg_name (i := 5) nd rfl (Or.inl rfl)) (pgs_cons (pg_name (i := 6) nd rfl (Or.inl rfl)) pgs_nil))))))
        (C8.pss_cut (ps_par (i := 7) (j := 8) (by rfl) nd rfl rfl (by decide) rfl rfl (pa_cons (pe_g g_L_q hr (by decide) passL rfl (pa_cons (pv 3) (pa_cons (pe_ifExp (pt_cmpR op_ne (pv 4) pe_int (nomark _)) (pv 4) pe_int) pa_nil))) (pa_cons (pe_g g_L_q hr (by decide) passL rfl (pa_cons (pv 5) (pa_cons (pe_ifExp (pt_cmpR op_ne (pv 6) pe_int (nomark _)) (pv 6) (pe_un un_neg pe_int)) pa_nil))) pa_nil)) (by rfl))
        (C8.pss_cut (ps_if (pt_cmpR op_eq (pe_g g_L_draw hr (by decide) passL rfl (pa_cons (pv 1) (pa_cons pe_int pa_nil))) pe_int (nomark _)) (pss_one (ps_set (i := 8) nd rfl (Or.inl rfl) (pv 7))) pss_nil)
        (C8.pss_cut (ps_asg (pe_tup (pa_cons (pe_g g_L_made hr (by decide) passL rfl (pa_cons (pv 1) (pa_cons (pv 7) pa_nil))) (pa_cons (pe_g g_L_made hr (by decide) passL rfl (pa_cons (pv 1) (pa_cons (pv 8) pa_nil))) pa_nil))) (pg_tupH rfl (pgs_cons (pg_name (i := 9) nd rfl (Or.inr rfl)) (pgs_cons (pg_name (i := 10) nd rfl (Or.inr rfl)) pgs_nil))))
        (C8.pss_cut (ps_if (PW.pt (pw_or (pt_not (pt_val (pe_g g_L_is_ratio hr (by decide) passL rfl (pa_cons (pv 9) (pa_cons (pv 7) pa_nil))))) (pw_or1 (pt_not (pt_val (pe_g g_L_is_ratio hr (by decide) passL rfl (pa_cons (pe_un (un_o g_RatioD_negD hr (by decide) passL) (pv 9)) (pa_cons (pe_tup (pa_cons (pe_un un_neg (pe_ix ix_tupH (pv 7) pe_int (fun _ _ => rfl))) (pa_cons (pe_ix ix_tupH (pv 7) pe_int (fun _ _ => rfl)) pa_nil))) pa_nil)))))))) (pss_one (ps_ret pe_bl)) pss_nil)
        (C8.pss_cut (ps_if (pt_not (pt_val (pe_g g_L_is_ratio hr (by decide) passL rfl (pa_cons (pe_op (op_o g_RatioD_addD hr (by decide) passL) (pv 9) (pv 10)) (pa_cons (pe_g g_L_plus hr (by decide) passL rfl (pa_cons (pv 7) (pa_cons (pv 8) pa_nil))) pa_nil))))) (pss_one (ps_ret pe_bl)) pss_nil)
        (C8.pss_cut (ps_if (pt_not (pt_val (pe_g g_L_is_ratio hr (by decide) passL rfl (pa_cons (pe_op (op_o g_RatioD_subD hr (by decide) passL) (pv 9) (pv 10)) (pa_cons (pe_g g_L_minus hr (by decide) passL rfl (pa_cons (pv 7) (pa_cons (pv 8) pa_nil))) pa_nil))))) (pss_one (ps_ret pe_bl)) pss_nil)
        (C8.pss_cut (ps_if (pt_not (pt_val (pe_g g_L_is_ratio hr (by decide) passL rfl (pa_cons (pe_op (op_o g_RatioD_mulD hr (by decide) passL) (pv 9) (pv 10)) (pa_cons (pe_g g_L_times hr (by decide) passL rfl (pa_cons (pv 7) (pa_cons (pv 8) pa_nil))) pa_nil))))) (pss_one (ps_ret pe_bl)) pss_nil)
        (C8.pss_cut (ps_if (pt_cmpR op_eq (pe_ix ix_tupH (pv 8) pe_int (fun _ _ => rfl)) pe_int (nomark _)) (pss_one (ps_if (pt_not (pt_val (pe_lamF (k := 6) (T := [(PT, qL)]) F_bot B_bot rfl m_bot sc_L_bottom_named rfl (Or.inl rfl) (fun cdg => bot_gives BX m_BadNumber z_isinstance z_bool hr.u200 cdg) TB hcode List.mem_cons_self mem1 (hr.mono (by decide)) (lamS_by (sc := defScope s_law) (by decide +kernel)) rfl (fun _ _ _ _ _ => rfl) (fun _ _ _ _ E _ _ hr => (pe_m g_Ratio_over hr (by decide) (passX rfl rfl rfl rfl) (pv 9) (pa_cons (pv 10) pa_nil)))))) (pss_one (ps_ret pe_bl)) pss_nil)) (pss_one (ps_if (pt_not (pt_val (pe_g g_L_is_ratio hr (by decide) passL rfl (pa_cons (pe_m g_Ratio_over hr (by decide) passL (pv 9) (pa_cons (pv 10) pa_nil)) (pa_cons (pe_g g_L_q hr (by decide) passL rfl (pa_cons (pe_op op_mulW (pe_ix ix_tupH (pv 7) pe_int (fun _ _ => rfl)) (pe_ix ix_tupH (pv 8) pe_int (fun _ _ => rfl))) (pa_cons (pe_op op_mulW (pe_ix ix_tupH (pv 7) pe_int (fun _ _ => rfl)) (pe_ix ix_tupH (pv 8) pe_int (fun _ _ => rfl))) pa_nil))) pa_nil))))) (pss_one (ps_ret pe_bl)) pss_nil)))
        (C8.pss_cut (ps_if (pt_not (pt_val (pe_g g_L_is_order hr (by decide) passL rfl (pa_cons (pv 9) (pa_cons (pv 10) (pa_cons (pe_g g_L_sign hr (by decide) passL rfl (pa_cons (pe_g g_L_minus hr (by decide) passL rfl (pa_cons (pv 7) (pa_cons (pv 8) pa_nil))) pa_nil)) pa_nil)))))) (pss_one (ps_ret pe_bl)) pss_nil)
        (C8.pss_cut (ps_if (PW.pt (pw_or (pt_not (pt_val (pe_g g_L_with_integer hr (by decide) passL rfl (pa_cons (pv 9) (pa_cons (pv 7) (pa_cons (pv 3) pa_nil)))))) (pw_or1 (pt_not (pt_val (pe_g g_L_with_integer hr (by decide) passL rfl (pa_cons (pv 9) (pa_cons (pv 7) (pa_cons (pe_op op_fdivX (pe_ix ix_tupH (pv 7) pe_int (fun _ _ => rfl)) (pe_ix ix_tupH (pv 7) pe_int (fun _ _ => rfl))) pa_nil))))))))) (pss_one (ps_ret pe_bl)) pss_nil)
        (C8.pss_cut (ps_if (pt_not (pt_val (pe_lamF (k := 6) (T := [(PT, qL)]) F_bot B_bot rfl m_bot sc_L_bottom_named rfl (Or.inl rfl) (fun cdg => bot_gives BX m_BadNumber z_isinstance z_bool hr.u200 cdg) TB hcode List.mem_cons_self mem1 (hr.mono (by decide)) (lamS_by (sc := defScope s_law) (by decide +kernel)) rfl (fun _ _ _ _ _ => rfl) (fun _ _ _ _ E _ _ hr => (pe_m g_Ratio_over hr (by decide) (passX rfl rfl rfl rfl) (pv 9) (pa_cons pe_int pa_nil)))))) (pss_one (ps_ret pe_bl)) pss_nil)
        (C8.pss_cut (ps_if (pt_not (pt_val (pe_lamF (k := 4) (T := [(PT, qL)]) F_bot B_bot rfl m_bot sc_L_bottom_named rfl (Or.inl rfl) (fun cdg => bot_gives BX m_BadNumber z_isinstance z_bool hr.u200 cdg) TB hcode List.mem_cons_self mem1 (hr.mono (by decide)) (lamS_by (sc := defScope s_law) (by decide +kernel)) rfl (fun _ _ _ _ _ => rfl) (fun _ _ _ _ E _ _ hr => (pe_k g_Ratio hr (by decide) (passX rfl rfl rfl rfl) rfl (pa_cons (pv 3) (pa_cons pe_int pa_nil))))))) (pss_one (ps_ret pe_bl)) pss_nil)
        (C8.pss_cut (ps_set (i := 11) nd rfl (Or.inl rfl) (pe_lst (pa_cons (pe_cmpR (eq_o g_RatioD_eqD hr (by decide) passL) (pe_k g_Ratio1 hr (by decide) passL rfl (pa_cons (pv 3) pa_nil)) (pv 3) (nomark _)) (pa_cons (pe_cmpR (eq_o g_RatioD_eqD hr (by decide) passL) (pe_k g_Ratio1 hr (by decide) passL rfl (pa_cons pe_int pa_nil)) pe_bl (nomark _)) (pa_cons (pe_cmpR (eq_o g_RatioD_eqD hr (by decide) passL) (pe_k g_Ratio1 hr (by decide) passL rfl (pa_cons pe_int pa_nil)) pe_bl (nomark _)) (pa_cons (pe_cmpR (eq_o g_RatioD_eqD hr (by decide) passL) (pv 9) pe_str (nomark _)) (pa_cons (pe_cmpR (eq_o g_RatioD_eqD hr (by decide) passL) (pv 9) pe_non (nomark _)) (pa_cons (pe_cmpR (eq_o g_RatioD_eqD hr (by decide) passL) (pv 9) (pe_tup (pa_cons (pv 3) (pa_cons pe_int pa_nil))) (nomark _)) pa_nil))))))))
        (C8.pss_cut (ps_if (PW.pt (pw_or (pt_cmpR (op_neD hr.units) (pv 11) (pe_lst (pa_cons pe_bl (pa_cons pe_bl (pa_cons pe_bl (pa_cons pe_bl (pa_cons pe_bl (pa_cons pe_bl pa_nil))))))) (nomark _)) (pw_or1 (pt_not (pt_val (pe_g g_L_is_ratio hr (by decide) passL rfl (pa_cons (pe_k g_Ratio1 hr (by decide) passL rfl (pa_cons (pv 3) pa_nil)) (pa_cons (pe_tup (pa_cons (pv 3) (pa_cons pe_int pa_nil))) pa_nil)))))))) (pss_one (ps_ret pe_bl)) pss_nil)
        (pss_one (ps_if (PW.pt (pw_or (pt_not (pt_val (pe_g g_L_is_ratio hr (by decide) passL rfl (pa_cons (pv 9) (pa_cons (pv 7) pa_nil))))) (pw_or1 (pt_not (pt_val (pe_g g_L_is_ratio hr (by decide) passL rfl (pa_cons (pv 10) (pa_cons (pv 8) pa_nil)))))))) (pss_one (ps_ret pe_bl)) pss_nil))))))))))))))))))
        (pss_one (ps_ret pe_bl)))), ?_⟩
    simp only [tVar, rIxTH, rIxLH, gTupH, line_le, HO.tup.injEq, HO.lst.injEq, List.length_cons, List.length_nil, at0, at1, rU, tOst, tTest, rIxL, rIxT, C8.tCut, cxOf_K, tC, tOp, tUn, tSeq, tAsg, tNext, tRet, tRetN, tDrop, tIfS, tNever, gName, gNil, gCons, gTup, gSub, tPar, rI, rI0, rU, rEq, rNe, tB, tAnd, tOr, tNot, tAndV, tOrV, tNotV, tIf, tTup, tLst, tNil, tCons, tCB, tCall, tMeth, tMake, tFld, sFld, tDGet, sDPut, tDisp, tPairs, tBreak, tCont, scal_ii, scal_bb, scal_ss, List.getElem?_cons_zero, List.getElem?_cons_succ, List.set_cons_zero, List.set_cons_succ, Option.some.injEq, exists_eq_left', exists_eq_left, exists_and_left, V.int.injEq, V.bl.injEq, V.ref.injEq, V.str.injEq, List.cons.injEq, and_true, true_and, Bool.true_eq, List.nil_append, List.append_nil, List.cons_append, exists_eq', and_self, reduceCtorEq, false_or, or_false, false_and, exists_false, exists_const, and_assoc, if_true, Bool.false_eq_true, if_false, Nat.reduceAdd, Nat.reduceLeDiff, Nat.zero_add, Nat.le_refl, forall_const, st_law]
    refine ⟨a, ns, rfl, hS, hlen, fun H0 p l s0 hp0 hpen => ?_⟩
    have hT0 := hT.ext s0
    clear hS hT s0 hp0
    refine ⟨4, rfl, by decide, by decide, ?_⟩
    refine for_range (lo := 0) (n := 4) (fun i σ H' => ∃ v2 v3 v4 v5 v6 v7 v8 v9 v10 v11 v12, σ = [some (.ref a), some (.ref p), v2, v3, v4, v5, v6, v7, v8, v9, v10, v11, v12] ∧ PenAt H' p l (40 * i) ∧ Tabs [(PT, qL)] H') ?_ ?_ ?_
    · exact ⟨_, _, _, _, _, _, _, _, _, _, _, rfl, hpen, hT0⟩
    · rintro tn σ H1 hi ⟨v2, v3, v4, v5, v6, v7, v8, v9, v10, v11, v12, rfl, p1, t1⟩
      refine ⟨LA a p l PT (40 * tn + 16), ?_, ?_⟩
      · simp only [tVar, rIxTH, rIxLH, gTupH, line_le, HO.tup.injEq, HO.lst.injEq, List.length_cons, List.length_nil, at0, at1, rU, tOst, tTest, rIxL, rIxT, C8.tCut, cxOf_K, tC, tOp, tUn, tSeq, tAsg, tNext, tRet, tRetN, tDrop, tIfS, tNever, gName, gNil, gCons, gTup, gSub, tPar, rI, rI0, rU, rEq, rNe, tB, tAnd, tOr, tNot, tAndV, tOrV, tNotV, tIf, tTup, tLst, tNil, tCons, tCB, tCall, tMeth, tMake, tFld, sFld, tDGet, sDPut, tDisp, tPairs, tBreak, tCont, scal_ii, scal_bb, scal_ss, List.getElem?_cons_zero, List.getElem?_cons_succ, List.set_cons_zero, List.set_cons_succ, Option.some.injEq, exists_eq_left', exists_eq_left, exists_and_left, V.int.injEq, V.bl.injEq, V.ref.injEq, V.str.injEq, List.cons.injEq, and_true, true_and, Bool.true_eq, List.nil_append, List.append_nil, List.cons_append, exists_eq', and_self, reduceCtorEq, false_or, or_false, false_and, exists_false, exists_const, and_assoc, if_true, Bool.false_eq_true, if_false, Nat.reduceAdd, Nat.reduceLeDiff, Nat.zero_add, Nat.le_refl, forall_const, st_law]
        refine ⟨4, rfl, by decide, by decide, fun D hD => lc_range (lo := 0) (n := 4) (D := D) (fun j H' => ∃ acc : List Int, H' D = some (.lst (acc.map V.int)) ∧ acc.length = j ∧ (∀ z ∈ acc, z.natAbs < 2 ^ 140) ∧ PenAt H' p l (40 * tn + 4 * j) ∧ Tabs [(PT, qL)] H') ?_ ?_ ?_⟩
        · exact ⟨[], upd_same, rfl, by simp, by simpa using p1.same (same_new hD), t1.ext (same_new hD)⟩
        · rintro j H2 hj ⟨acc, hacc, hl, hb, p2, t2⟩
          have nDp : D ≠ p := p1.ne hD
          have nDl : D ≠ l := p1.ne2 hD
          simp only [tVar, rIxTH, rIxLH, gTupH, line_le, HO.tup.injEq, HO.lst.injEq, List.length_cons, List.length_nil, at0, at1, rU, tOst, tTest, rIxL, rIxT, C8.tCut, cxOf_K, tC, tOp, tUn, tSeq, tAsg, tNext, tRet, tRetN, tDrop, tIfS, tNever, gName, gNil, gCons, gTup, gSub, tPar, rI, rI0, rU, rEq, rNe, tB, tAnd, tOr, tNot, tAndV, tOrV, tNotV, tIf, tTup, tLst, tNil, tCons, tCB, tCall, tMeth, tMake, tFld, sFld, tDGet, sDPut, tDisp, tPairs, tBreak, tCont, scal_ii, scal_bb, scal_ss, List.getElem?_cons_zero, List.getElem?_cons_succ, List.set_cons_zero, List.set_cons_succ, Option.some.injEq, exists_eq_left', exists_eq_left, exists_and_left, V.int.injEq, V.bl.injEq, V.ref.injEq, V.str.injEq, List.cons.injEq, and_true, true_and, Bool.true_eq, List.nil_append, List.append_nil, List.cons_append, exists_eq', and_self, reduceCtorEq, false_or, or_false, false_and, exists_false, exists_const, and_assoc, if_true, Bool.false_eq_true, if_false, Nat.reduceAdd, Nat.reduceLeDiff, Nat.zero_add, Nat.le_refl, forall_const, st_law, wipe, List.map_cons, List.map_nil]
          refine ⟨p, l, 40 * tn + 4 * j, rfl, p2, by omega, fun H3 z x3 p3 hz => ?_⟩
          have t3 := tabs_ext t2 p2 x3
          have hacc3 := x3 _ _ nDp hacc
          refine ⟨acc.map V.int, hacc3, by rw [List.length_map, hl]; exact line_le (by omega), acc ++ [z], by rw [upd_same, List.map_append]; rfl, by rw [List.length_append, hl]; rfl, ?_, ?_, ?_⟩
          · intro u hu
            rcases List.mem_append.mp hu with h | h
            · exact hb u h
            · rw [List.mem_singleton.mp h]
              exact hz
          · exact (p3.put nDp nDl _).mono (by omega)
          · exact tabs_at t3 hacc3 (fun ps z => by cases z) (fun c q z => by unfold CodeO at z; cases z) fun b u nb e => by rw [upd_ne nb]; exact e
        · rintro H2 ⟨acc, hacc, hl, hb, p2, t2⟩
          obtain ⟨a1, a2, a3, a4, rfl⟩ : ∃ a1 a2 a3 a4, acc = [a1, a2, a3, a4] := by
            match acc, hl with
            | [a1, a2, a3, a4], _ => exact ⟨a1, a2, a3, a4, rfl⟩
          have b1 := hb a1 (by simp)
          have b2 := hb a2 (by simp)
          have b3 := hb a3 (by simp)
          have b4 := hb a4 (by simp)
          clear hb hl
          refine ⟨D, _, rfl, SqL.of hacc, rfl, ?_⟩
          simp only [tVar, rIxTH, rIxLH, gTupH, line_le, HO.tup.injEq, HO.lst.injEq, List.length_cons, List.length_nil, at0, at1, rU, tOst, tTest, rIxL, rIxT, C8.tCut, cxOf_K, tC, tOp, tUn, tSeq, tAsg, tNext, tRet, tRetN, tDrop, tIfS, tNever, gName, gNil, gCons, gTup, gSub, tPar, rI, rI0, rU, rEq, rNe, tB, tAnd, tOr, tNot, tAndV, tOrV, tNotV, tIf, tTup, tLst, tNil, tCons, tCB, tCall, tMeth, tMake, tFld, sFld, tDGet, sDPut, tDisp, tPairs, tBreak, tCont, scal_ii, scal_bb, scal_ss, List.getElem?_cons_zero, List.getElem?_cons_succ, List.set_cons_zero, List.set_cons_succ, Option.some.injEq, exists_eq_left', exists_eq_left, exists_and_left, V.int.injEq, V.bl.injEq, V.ref.injEq, V.str.injEq, List.cons.injEq, and_true, true_and, Bool.true_eq, List.nil_append, List.append_nil, List.cons_append, exists_eq', and_self, reduceCtorEq, false_or, or_false, false_and, exists_false, exists_const, and_assoc, if_true, Bool.false_eq_true, if_false, Nat.reduceAdd, Nat.reduceLeDiff, Nat.zero_add, Nat.le_refl, forall_const, st_law, List.map_cons, List.map_nil]
          exact ⟨_, a1, a2, a3, a4, v7, v8, v9, v10, v11, v12, rfl, b1, b2, b3, b4, p2.mono (by omega), t2⟩
      clear p1 t1
      refine fun σ H1 h1 => ⟨LB a p l PT (40 * tn + 16), ?_, ?_⟩
      · obtain ⟨i, a1, a2, a3, a4, v7, v8, v9, v10, v11, v12, rfl, c1, c2, c3, c4, p1, t1⟩ := h1
        simp only [tVar, rIxTH, rIxLH, gTupH, line_le, HO.tup.injEq, HO.lst.injEq, List.length_cons, List.length_nil, at0, at1, rU, tOst, tTest, rIxL, rIxT, C8.tCut, cxOf_K, tC, tOp, tUn, tSeq, tAsg, tNext, tRet, tRetN, tDrop, tIfS, tNever, gName, gNil, gCons, gTup, gSub, tPar, rI, rI0, rU, rEq, rNe, tB, tAnd, tOr, tNot, tAndV, tOrV, tNotV, tIf, tTup, tLst, tNil, tCons, tCB, tCall, tMeth, tMake, tFld, sFld, tDGet, sDPut, tDisp, tPairs, tBreak, tCont, scal_ii, scal_bb, scal_ss, List.getElem?_cons_zero, List.getElem?_cons_succ, List.set_cons_zero, List.set_cons_succ, Option.some.injEq, exists_eq_left', exists_eq_left, exists_and_left, V.int.injEq, V.bl.injEq, V.ref.injEq, V.str.injEq, List.cons.injEq, and_true, true_and, Bool.true_eq, List.nil_append, List.append_nil, List.cons_append, exists_eq', and_self, reduceCtorEq, false_or, or_false, false_and, exists_false, exists_const, and_assoc, if_true, Bool.false_eq_true, if_false, Nat.reduceAdd, Nat.reduceLeDiff, Nat.zero_add, Nat.le_refl, forall_const, st_law]
        have m9 : ∀ {z : Int}, z.natAbs < 2 ^ 140 → z.natAbs < 2 ^ 9000 := fun h => HwM.lt_mono h (by decide)
        have fin : ∀ (d1 d2 : Int) (b1 b2 : Addr), d1.natAbs < 2 ^ 140 → d2.natAbs < 2 ^ 140 → H1 b1 = none → upd H1 b1 (.tup (qv (Rat.divInt a1 d1))) b2 = none →
            LB a p l PT (40 * tn + 16) [some (.ref a), some (.ref p), some (.int i), some (.int a1), some (.int a2), some (.int a3), some (.int a4), some (.ref b1), some (.ref b2), v9, v10, v11, v12] (upd (upd H1 b1 (.tup (qv (Rat.divInt a1 d1)))) b2 (.tup (qv (Rat.divInt a3 d2)))) :=
          fun d1 d2 b1 b2 h1 h2 n1 n2 => ⟨i, a1, a2, a3, a4, b1, b2, _, _, v9, v10, v11, v12, rfl, c1, HwM.divInt_bd (by decide) c1 h1, HwM.divInt_bd (by decide) c3 h2, by rw [upd_ne (ne_of_none upd_same n2), upd_same], upd_same, (p1.same (same_new n1)).same (same_new n2), (t1.ext (same_new n1)).ext (same_new n2)⟩
        have z1 : (1 : Int).natAbs < 2 ^ 140 := by decide
        have z3 : (-3 : Int).natAbs < 2 ^ 140 := by decide
        refine ite2 (fun h2 => ?_) (fun _ => ?_)
        · refine ⟨a1, a2, rfl, by simpa using h2, m9 c1, m9 c2, fun b1 n1 => ite2 (fun h4 => ?_) (fun _ => ?_)⟩
          · exact ⟨a3, a4, rfl, by simpa using h4, m9 c3, m9 c4, fun b2 n2 => fin a2 a4 b1 b2 c2 c4 n1 n2⟩
          · exact ⟨a3, -3, rfl, by decide, m9 c3, m9 z3, fun b2 n2 => fin a2 (-3) b1 b2 c2 z3 n1 n2⟩
        · refine ⟨a1, 1, rfl, by decide, m9 c1, m9 z1, fun b1 n1 => ite2 (fun h4 => ?_) (fun _ => ?_)⟩
          · exact ⟨a3, a4, rfl, by simpa using h4, m9 c3, m9 c4, fun b2 n2 => fin 1 a4 b1 b2 z1 c4 n1 n2⟩
          · exact ⟨a3, -3, rfl, by decide, m9 c3, m9 z3, fun b2 n2 => fin 1 (-3) b1 b2 z1 z3 n1 n2⟩
      clear h1
      refine fun σ H1 h1 => ⟨LB a p l PT (40 * tn + 17), ?_, ?_⟩
      · obtain ⟨i, a1, a2, a3, a4, b1, b2, q, r, v9, v10, v11, v12, rfl, c1, bq, br, e1, e2, p1, t1⟩ := h1
        simp only [tVar, rIxTH, rIxLH, gTupH, line_le, HO.tup.injEq, HO.lst.injEq, List.length_cons, List.length_nil, at0, at1, rU, tOst, tTest, rIxL, rIxT, C8.tCut, cxOf_K, tC, tOp, tUn, tSeq, tAsg, tNext, tRet, tRetN, tDrop, tIfS, tNever, gName, gNil, gCons, gTup, gSub, tPar, rI, rI0, rU, rEq, rNe, tB, tAnd, tOr, tNot, tAndV, tOrV, tNotV, tIf, tTup, tLst, tNil, tCons, tCB, tCall, tMeth, tMake, tFld, sFld, tDGet, sDPut, tDisp, tPairs, tBreak, tCont, scal_ii, scal_bb, scal_ss, List.getElem?_cons_zero, List.getElem?_cons_succ, List.set_cons_zero, List.set_cons_succ, Option.some.injEq, exists_eq_left', exists_eq_left, exists_and_left, V.int.injEq, V.bl.injEq, V.ref.injEq, V.str.injEq, List.cons.injEq, and_true, true_and, Bool.true_eq, List.nil_append, List.append_nil, List.cons_append, exists_eq', and_self, reduceCtorEq, false_or, or_false, false_and, exists_false, exists_const, and_assoc, if_true, Bool.false_eq_true, if_false, Nat.reduceAdd, Nat.reduceLeDiff, Nat.zero_add, Nat.le_refl, forall_const, st_law]
        refine ⟨p, l, _, 5, rfl, p1, by omega, by decide, by decide, fun H2 z x2 p2 z0 z1 => ?_⟩
        have n1 := p1.no e1
        have n2 := p1.no e2
        have t2 := tabs_ext t1 p1 x2
        simp only [tVar, rIxTH, rIxLH, gTupH, line_le, HO.tup.injEq, HO.lst.injEq, List.length_cons, List.length_nil, at0, at1, rU, tOst, tTest, rIxL, rIxT, C8.tCut, cxOf_K, tC, tOp, tUn, tSeq, tAsg, tNext, tRet, tRetN, tDrop, tIfS, tNever, gName, gNil, gCons, gTup, gSub, tPar, rI, rI0, rU, rEq, rNe, tB, tAnd, tOr, tNot, tAndV, tOrV, tNotV, tIf, tTup, tLst, tNil, tCons, tCB, tCall, tMeth, tMake, tFld, sFld, tDGet, sDPut, tDisp, tPairs, tBreak, tCont, scal_ii, scal_bb, scal_ss, List.getElem?_cons_zero, List.getElem?_cons_succ, List.set_cons_zero, List.set_cons_succ, Option.some.injEq, exists_eq_left', exists_eq_left, exists_and_left, V.int.injEq, V.bl.injEq, V.ref.injEq, V.str.injEq, List.cons.injEq, and_true, true_and, Bool.true_eq, List.nil_append, List.append_nil, List.cons_append, exists_eq', and_self, reduceCtorEq, false_or, or_false, false_and, exists_false, exists_const, and_assoc, if_true, Bool.false_eq_true, if_false, Nat.reduceAdd, Nat.reduceLeDiff, Nat.zero_add, Nat.le_refl, forall_const, st_law]
        refine ite2 (fun _ => ?_) (fun _ => ?_)
        · exact ⟨i, a1, a2, a3, a4, b1, b1, q, q, v9, v10, v11, v12, rfl, c1, bq, bq, x2 _ _ n1 e1, x2 _ _ n1 e1, p2.mono (by omega), t2⟩
        · exact ⟨i, a1, a2, a3, a4, b1, b2, q, r, v9, v10, v11, v12, rfl, c1, bq, br, x2 _ _ n1 e1, x2 _ _ n2 e2, p2.mono (by omega), t2⟩
      clear h1
      refine fun σ H1 h1 => ⟨LC C_Ratio a p l PT (40 * tn + 19), ?_, ?_⟩
      · obtain ⟨i, a1, a2, a3, a4, b1, b2, q, r, v9, v10, v11, v12, rfl, c1, bq, br, e1, e2, p1, t1⟩ := h1
        simp only [tVar, rIxTH, rIxLH, gTupH, line_le, HO.tup.injEq, HO.lst.injEq, List.length_cons, List.length_nil, at0, at1, rU, tOst, tTest, rIxL, rIxT, C8.tCut, cxOf_K, tC, tOp, tUn, tSeq, tAsg, tNext, tRet, tRetN, tDrop, tIfS, tNever, gName, gNil, gCons, gTup, gSub, tPar, rI, rI0, rU, rEq, rNe, tB, tAnd, tOr, tNot, tAndV, tOrV, tNotV, tIf, tTup, tLst, tNil, tCons, tCB, tCall, tMeth, tMake, tFld, sFld, tDGet, sDPut, tDisp, tPairs, tBreak, tCont, scal_ii, scal_bb, scal_ss, List.getElem?_cons_zero, List.getElem?_cons_succ, List.set_cons_zero, List.set_cons_succ, Option.some.injEq, exists_eq_left', exists_eq_left, exists_and_left, V.int.injEq, V.bl.injEq, V.ref.injEq, V.str.injEq, List.cons.injEq, and_true, true_and, Bool.true_eq, List.nil_append, List.append_nil, List.cons_append, exists_eq', and_self, reduceCtorEq, false_or, or_false, false_and, exists_false, exists_const, and_assoc, if_true, Bool.false_eq_true, if_false, Nat.reduceAdd, Nat.reduceLeDiff, Nat.zero_add, Nat.le_refl, forall_const, st_law]
        refine ⟨p, l, b1, _, q, rfl, p1, by omega, e1, bq.mono (by decide), fun H2 x x2 p2 hx => ?_⟩
        have n1 := p1.no e1
        have n2 := p1.no e2
        have t2 := tabs_ext t1 p1 x2
        refine ⟨p, l, b2, _, r, rfl, p2, by omega, x2 _ _ n2 e2, br.mono (by decide), fun H3 y x3 p3 hy => ?_⟩
        obtain ⟨x1, dx1, rfl, hx⟩ := hx
        obtain ⟨x2', dx2, rfl, hy⟩ := hy
        have hx3 := x3 _ _ (p2.noI hx) hx
        have t3 := tabs_ext t2 p2 x3
        refine fun d hd => ?_
        have sd := same_new (o := .tup [V.ref x1, V.ref x2']) hd
        simp only [tVar, rIxTH, rIxLH, gTupH, line_le, HO.tup.injEq, HO.lst.injEq, List.length_cons, List.length_nil, at0, at1, rU, tOst, tTest, rIxL, rIxT, C8.tCut, cxOf_K, tC, tOp, tUn, tSeq, tAsg, tNext, tRet, tRetN, tDrop, tIfS, tNever, gName, gNil, gCons, gTup, gSub, tPar, rI, rI0, rU, rEq, rNe, tB, tAnd, tOr, tNot, tAndV, tOrV, tNotV, tIf, tTup, tLst, tNil, tCons, tCB, tCall, tMeth, tMake, tFld, sFld, tDGet, sDPut, tDisp, tPairs, tBreak, tCont, scal_ii, scal_bb, scal_ss, List.getElem?_cons_zero, List.getElem?_cons_succ, List.set_cons_zero, List.set_cons_succ, Option.some.injEq, exists_eq_left', exists_eq_left, exists_and_left, V.int.injEq, V.bl.injEq, V.ref.injEq, V.str.injEq, List.cons.injEq, and_true, true_and, Bool.true_eq, List.nil_append, List.append_nil, List.cons_append, exists_eq', and_self, reduceCtorEq, false_or, or_false, false_and, exists_false, exists_const, and_assoc, if_true, Bool.false_eq_true, if_false, Nat.reduceAdd, Nat.reduceLeDiff, Nat.zero_add, Nat.le_refl, forall_const, st_law, upd_same]
        exact ⟨rfl, i, a1, a2, a3, a4, b1, b2, x1, x2', dx1, dx2, q, r, v11, v12, rfl, c1, bq, br, sd _ _ (x3 _ _ n1 (x2 _ _ n1 e1)), sd _ _ (x3 _ _ n2 (x2 _ _ n2 e2)), sd _ _ hx3, sd _ _ hy, (p3.same sd).mono (by omega), t3.ext sd⟩
      clear h1
      refine fun σ H1 h1 => ⟨LC C_Ratio a p l PT (40 * tn + 19), ?_, ?_⟩
      · have hm := h1
        obtain ⟨i, a1, a2, a3, a4, b1, b2, x1, x2, dx1, dx2, q, r, v11, v12, rfl, c1, bq, br, e1, e2, f1, f2, p1, t1⟩ := h1
        simp only [tVar, rIxTH, rIxLH, gTupH, line_le, HO.tup.injEq, HO.lst.injEq, List.length_cons, List.length_nil, at0, at1, rU, tOst, tTest, rIxL, rIxT, C8.tCut, cxOf_K, tC, tOp, tUn, tSeq, tAsg, tNext, tRet, tRetN, tDrop, tIfS, tNever, gName, gNil, gCons, gTup, gSub, tPar, rI, rI0, rU, rEq, rNe, tB, tAnd, tOr, tNot, tAndV, tOrV, tNotV, tIf, tTup, tLst, tNil, tCons, tCB, tCall, tMeth, tMake, tFld, sFld, tDGet, sDPut, tDisp, tPairs, tBreak, tCont, scal_ii, scal_bb, scal_ss, List.getElem?_cons_zero, List.getElem?_cons_succ, List.set_cons_zero, List.set_cons_succ, Option.some.injEq, exists_eq_left', exists_eq_left, exists_and_left, V.int.injEq, V.bl.injEq, V.ref.injEq, V.str.injEq, List.cons.injEq, and_true, true_and, Bool.true_eq, List.nil_append, List.append_nil, List.cons_append, exists_eq', and_self, reduceCtorEq, false_or, or_false, false_and, exists_false, exists_const, and_assoc, if_true, Bool.false_eq_true, if_false, Nat.reduceAdd, Nat.reduceLeDiff, Nat.zero_add, Nat.le_refl, forall_const, st_law, e1, e2]
        refine ⟨.ref x1, b1, q, q, rfl, ⟨x1, dx1, rfl, f1⟩, e1, fun H2 s2 => ?_⟩
        refine ⟨true, by simp, iteF ?_⟩
        have f2' := s2 _ _ f1
        refine ⟨⟨x1, dx1, _, rfl, f2'⟩, .ref x1, q, rfl, ⟨x1, dx1, rfl, f2'⟩, bq.mono (by decide), fun H3 z s3 hz => ?_⟩
        have e1' := s3 _ _ (s2 _ _ e1)
        simp only [tVar, rIxTH, rIxLH, gTupH, line_le, HO.tup.injEq, HO.lst.injEq, List.length_cons, List.length_nil, at0, at1, rU, tOst, tTest, rIxL, rIxT, C8.tCut, cxOf_K, tC, tOp, tUn, tSeq, tAsg, tNext, tRet, tRetN, tDrop, tIfS, tNever, gName, gNil, gCons, gTup, gSub, tPar, rI, rI0, rU, rEq, rNe, tB, tAnd, tOr, tNot, tAndV, tOrV, tNotV, tIf, tTup, tLst, tNil, tCons, tCB, tCall, tMeth, tMake, tFld, sFld, tDGet, sDPut, tDisp, tPairs, tBreak, tCont, scal_ii, scal_bb, scal_ss, List.getElem?_cons_zero, List.getElem?_cons_succ, List.set_cons_zero, List.set_cons_succ, Option.some.injEq, exists_eq_left', exists_eq_left, exists_and_left, V.int.injEq, V.bl.injEq, V.ref.injEq, V.str.injEq, List.cons.injEq, and_true, true_and, Bool.true_eq, List.nil_append, List.append_nil, List.cons_append, exists_eq', and_self, reduceCtorEq, false_or, or_false, false_and, exists_false, exists_const, and_assoc, if_true, Bool.false_eq_true, if_false, Nat.reduceAdd, Nat.reduceLeDiff, Nat.zero_add, Nat.le_refl, forall_const, st_law, e1']
        refine fun b hb => ⟨z, b, -q, -q, rfl, hz.same (same_new hb), ?_, fun H4 s4 => ?_⟩
        · rw [upd_same]
          unfold qv
          simp
        · exact ⟨true, by simp, iteF (hm.same (((s2.trans s3).trans (same_new hb)).trans s4))⟩
      refine fun σ H1 h1 => ⟨LC C_Ratio a p l PT (40 * tn + 19), ?_, ?_⟩
      · have hm := h1
        obtain ⟨i, a1, a2, a3, a4, b1, b2, x1, x2, dx1, dx2, q, r, v11, v12, rfl, c1, bq, br, e1, e2, f1, f2, p1, t1⟩ := h1
        simp only [tVar, rIxTH, rIxLH, gTupH, line_le, HO.tup.injEq, HO.lst.injEq, List.length_cons, List.length_nil, at0, at1, rU, tOst, tTest, rIxL, rIxT, C8.tCut, cxOf_K, tC, tOp, tUn, tSeq, tAsg, tNext, tRet, tRetN, tDrop, tIfS, tNever, gName, gNil, gCons, gTup, gSub, tPar, rI, rI0, rU, rEq, rNe, tB, tAnd, tOr, tNot, tAndV, tOrV, tNotV, tIf, tTup, tLst, tNil, tCons, tCB, tCall, tMeth, tMake, tFld, sFld, tDGet, sDPut, tDisp, tPairs, tBreak, tCont, scal_ii, scal_bb, scal_ss, List.getElem?_cons_zero, List.getElem?_cons_succ, List.set_cons_zero, List.set_cons_succ, Option.some.injEq, exists_eq_left', exists_eq_left, exists_and_left, V.int.injEq, V.bl.injEq, V.ref.injEq, V.str.injEq, List.cons.injEq, and_true, true_and, Bool.true_eq, List.nil_append, List.append_nil, List.cons_append, exists_eq', and_self, reduceCtorEq, false_or, or_false, false_and, exists_false, exists_const, and_assoc, if_true, Bool.false_eq_true, if_false, Nat.reduceAdd, Nat.reduceLeDiff, Nat.zero_add, Nat.le_refl, forall_const, st_law, e1, e2]
        exact chk (H := H1) ⟨x1, dx1, rfl, f1⟩ (.inl ⟨x2, dx2, rfl, f2⟩) (bq.mono (by decide)) (br.mono (by decide)) e1 e2 fun H2 s2 => hm.same s2
      refine fun σ H1 h1 => ⟨LC C_Ratio a p l PT (40 * tn + 19), ?_, ?_⟩
      · have hm := h1
        obtain ⟨i, a1, a2, a3, a4, b1, b2, x1, x2, dx1, dx2, q, r, v11, v12, rfl, c1, bq, br, e1, e2, f1, f2, p1, t1⟩ := h1
        simp only [tVar, rIxTH, rIxLH, gTupH, line_le, HO.tup.injEq, HO.lst.injEq, List.length_cons, List.length_nil, at0, at1, rU, tOst, tTest, rIxL, rIxT, C8.tCut, cxOf_K, tC, tOp, tUn, tSeq, tAsg, tNext, tRet, tRetN, tDrop, tIfS, tNever, gName, gNil, gCons, gTup, gSub, tPar, rI, rI0, rU, rEq, rNe, tB, tAnd, tOr, tNot, tAndV, tOrV, tNotV, tIf, tTup, tLst, tNil, tCons, tCB, tCall, tMeth, tMake, tFld, sFld, tDGet, sDPut, tDisp, tPairs, tBreak, tCont, scal_ii, scal_bb, scal_ss, List.getElem?_cons_zero, List.getElem?_cons_succ, List.set_cons_zero, List.set_cons_succ, Option.some.injEq, exists_eq_left', exists_eq_left, exists_and_left, V.int.injEq, V.bl.injEq, V.ref.injEq, V.str.injEq, List.cons.injEq, and_true, true_and, Bool.true_eq, List.nil_append, List.append_nil, List.cons_append, exists_eq', and_self, reduceCtorEq, false_or, or_false, false_and, exists_false, exists_const, and_assoc, if_true, Bool.false_eq_true, if_false, Nat.reduceAdd, Nat.reduceLeDiff, Nat.zero_add, Nat.le_refl, forall_const, st_law, e1, e2]
        exact chk (H := H1) ⟨x1, dx1, rfl, f1⟩ (.inl ⟨x2, dx2, rfl, f2⟩) (bq.mono (by decide)) (br.mono (by decide)) e1 e2 fun H2 s2 => hm.same s2
      refine fun σ H1 h1 => ⟨LC C_Ratio a p l PT (40 * tn + 19), ?_, ?_⟩
      · have hm := h1
        obtain ⟨i, a1, a2, a3, a4, b1, b2, x1, x2, dx1, dx2, q, r, v11, v12, rfl, c1, bq, br, e1, e2, f1, f2, p1, t1⟩ := h1
        simp only [tVar, rIxTH, rIxLH, gTupH, line_le, HO.tup.injEq, HO.lst.injEq, List.length_cons, List.length_nil, at0, at1, rU, tOst, tTest, rIxL, rIxT, C8.tCut, cxOf_K, tC, tOp, tUn, tSeq, tAsg, tNext, tRet, tRetN, tDrop, tIfS, tNever, gName, gNil, gCons, gTup, gSub, tPar, rI, rI0, rU, rEq, rNe, tB, tAnd, tOr, tNot, tAndV, tOrV, tNotV, tIf, tTup, tLst, tNil, tCons, tCB, tCall, tMeth, tMake, tFld, sFld, tDGet, sDPut, tDisp, tPairs, tBreak, tCont, scal_ii, scal_bb, scal_ss, List.getElem?_cons_zero, List.getElem?_cons_succ, List.set_cons_zero, List.set_cons_succ, Option.some.injEq, exists_eq_left', exists_eq_left, exists_and_left, V.int.injEq, V.bl.injEq, V.ref.injEq, V.str.injEq, List.cons.injEq, and_true, true_and, Bool.true_eq, List.nil_append, List.append_nil, List.cons_append, exists_eq', and_self, reduceCtorEq, false_or, or_false, false_and, exists_false, exists_const, and_assoc, if_true, Bool.false_eq_true, if_false, Nat.reduceAdd, Nat.reduceLeDiff, Nat.zero_add, Nat.le_refl, forall_const, st_law, e1, e2]
        exact chk (H := H1) ⟨x1, dx1, rfl, f1⟩ (.inl ⟨x2, dx2, rfl, f2⟩) (bq.mono (by decide)) (br.mono (by decide)) e1 e2 fun H2 s2 => hm.same s2
      refine fun σ H1 h1 => ⟨LC C_Ratio a p l PT (40 * tn + 19), ?_, ?_⟩
      · have hm := h1
        obtain ⟨i, a1, a2, a3, a4, b1, b2, x1, x2, dx1, dx2, q, r, v11, v12, rfl, c1, bq, br, e1, e2, f1, f2, p1, t1⟩ := h1
        simp only [tVar, rIxTH, rIxLH, gTupH, line_le, HO.tup.injEq, HO.lst.injEq, List.length_cons, List.length_nil, at0, at1, rU, tOst, tTest, rIxL, rIxT, C8.tCut, cxOf_K, tC, tOp, tUn, tSeq, tAsg, tNext, tRet, tRetN, tDrop, tIfS, tNever, gName, gNil, gCons, gTup, gSub, tPar, rI, rI0, rU, rEq, rNe, tB, tAnd, tOr, tNot, tAndV, tOrV, tNotV, tIf, tTup, tLst, tNil, tCons, tCB, tCall, tMeth, tMake, tFld, sFld, tDGet, sDPut, tDisp, tPairs, tBreak, tCont, scal_ii, scal_bb, scal_ss, List.getElem?_cons_zero, List.getElem?_cons_succ, List.set_cons_zero, List.set_cons_succ, Option.some.injEq, exists_eq_left', exists_eq_left, exists_and_left, V.int.injEq, V.bl.injEq, V.ref.injEq, V.str.injEq, List.cons.injEq, and_true, true_and, Bool.true_eq, List.nil_append, List.append_nil, List.cons_append, exists_eq', and_self, reduceCtorEq, false_or, or_false, false_and, exists_false, exists_const, and_assoc, if_true, Bool.false_eq_true, if_false, Nat.reduceAdd, Nat.reduceLeDiff, Nat.zero_add, Nat.le_refl, forall_const, st_law, e1, e2]
        have hx : ∀ {H2}, ExtN H1 H2 → IsR C_Ratio H2 (.ref x1) q := fun eN => ⟨x1, dx1, rfl, eN _ _ f1 (fun _ z => by cases z)⟩
        have hy : ∀ {H2}, ExtN H1 H2 → AsR C_Ratio H2 (.ref x2) r := fun eN => .inl ⟨x2, dx2, rfl, eN _ _ f2 (fun _ z => by cases z)⟩
        refine ite2 (fun h0 => ?_) (fun h0 => ?_)
        · have h0 : r = 0 := Rat.num_eq_zero.mp (by simpa using h0)
          refine ⟨t1, fun H2 eN t2 => ?_⟩
          have f3 := eN _ _ f1 (fun _ z => by cases z)
          simp only [TBot, tVar, rIxTH, rIxLH, gTupH, line_le, HO.tup.injEq, HO.lst.injEq, List.length_cons, List.length_nil, at0, at1, rU, tOst, tTest, rIxL, rIxT, C8.tCut, cxOf_K, tC, tOp, tUn, tSeq, tAsg, tNext, tRet, tRetN, tDrop, tIfS, tNever, gName, gNil, gCons, gTup, gSub, tPar, rI, rI0, rU, rEq, rNe, tB, tAnd, tOr, tNot, tAndV, tOrV, tNotV, tIf, tTup, tLst, tNil, tCons, tCB, tCall, tMeth, tMake, tFld, sFld, tDGet, sDPut, tDisp, tPairs, tBreak, tCont, scal_ii, scal_bb, scal_ss, List.getElem?_cons_zero, List.getElem?_cons_succ, List.set_cons_zero, List.set_cons_succ, Option.some.injEq, exists_eq_left', exists_eq_left, exists_and_left, V.int.injEq, V.bl.injEq, V.ref.injEq, V.str.injEq, List.cons.injEq, and_true, true_and, Bool.true_eq, List.nil_append, List.append_nil, List.cons_append, exists_eq', and_self, reduceCtorEq, false_or, or_false, false_and, exists_false, exists_const, and_assoc, if_true, Bool.false_eq_true, if_false, Nat.reduceAdd, Nat.reduceLeDiff, Nat.zero_add, Nat.le_refl, forall_const, st_law, HO.ins.injEq, R.cl, R.nt, R.nb, ratF_top, ratF_bottom, f3, ratF_no q (m := "over") (by decide) (by decide)]
          exact ⟨.ref x1, .ref x2, q, r, rfl, hx eN, hy eN, bq.mono (by decide), br.mono (by decide), fun h => absurd h0 h, fun _ H3 d s3 hd => ⟨rfl, d, rfl, hd, fun H4 s4 => iteF ((hm.extN eN t2).same (s3.trans s4))⟩⟩
        · have h0 : r ≠ 0 := fun z => h0 (by rw [z]; simp)
          simp only [tVar, rIxTH, rIxLH, gTupH, line_le, HO.tup.injEq, HO.lst.injEq, List.length_cons, List.length_nil, at0, at1, rU, tOst, tTest, rIxL, rIxT, C8.tCut, cxOf_K, tC, tOp, tUn, tSeq, tAsg, tNext, tRet, tRetN, tDrop, tIfS, tNever, gName, gNil, gCons, gTup, gSub, tPar, rI, rI0, rU, rEq, rNe, tB, tAnd, tOr, tNot, tAndV, tOrV, tNotV, tIf, tTup, tLst, tNil, tCons, tCB, tCall, tMeth, tMake, tFld, sFld, tDGet, sDPut, tDisp, tPairs, tBreak, tCont, scal_ii, scal_bb, scal_ss, List.getElem?_cons_zero, List.getElem?_cons_succ, List.set_cons_zero, List.set_cons_succ, Option.some.injEq, exists_eq_left', exists_eq_left, exists_and_left, V.int.injEq, V.bl.injEq, V.ref.injEq, V.str.injEq, List.cons.injEq, and_true, true_and, Bool.true_eq, List.nil_append, List.append_nil, List.cons_append, exists_eq', and_self, reduceCtorEq, false_or, or_false, false_and, exists_false, exists_const, and_assoc, if_true, Bool.false_eq_true, if_false, Nat.reduceAdd, Nat.reduceLeDiff, Nat.zero_add, Nat.le_refl, forall_const, st_law, HO.ins.injEq, R.cl, R.nt, R.nb, ratF_top, ratF_bottom, f1, ratF_no q (m := "over") (by decide) (by decide)]
          refine ⟨.ref x1, .ref x2, q, r, rfl, hx (ExtN.refl _), hy (ExtN.refl _), bq.mono (by decide), br.mono (by decide), fun _ H2 z s2 hz => ?_, fun h => absurd h h0⟩
          have e1' := s2 _ _ e1
          have e2' := s2 _ _ e2
          simp only [tVar, rIxTH, rIxLH, gTupH, line_le, HO.tup.injEq, HO.lst.injEq, List.length_cons, List.length_nil, at0, at1, rU, tOst, tTest, rIxL, rIxT, C8.tCut, cxOf_K, tC, tOp, tUn, tSeq, tAsg, tNext, tRet, tRetN, tDrop, tIfS, tNever, gName, gNil, gCons, gTup, gSub, tPar, rI, rI0, rU, rEq, rNe, tB, tAnd, tOr, tNot, tAndV, tOrV, tNotV, tIf, tTup, tLst, tNil, tCons, tCB, tCall, tMeth, tMake, tFld, sFld, tDGet, sDPut, tDisp, tPairs, tBreak, tCont, scal_ii, scal_bb, scal_ss, List.getElem?_cons_zero, List.getElem?_cons_succ, List.set_cons_zero, List.set_cons_succ, Option.some.injEq, exists_eq_left', exists_eq_left, exists_and_left, V.int.injEq, V.bl.injEq, V.ref.injEq, V.str.injEq, List.cons.injEq, and_true, true_and, Bool.true_eq, List.nil_append, List.append_nil, List.cons_append, exists_eq', and_self, reduceCtorEq, false_or, or_false, false_and, exists_false, exists_const, and_assoc, if_true, Bool.false_eq_true, if_false, Nat.reduceAdd, Nat.reduceLeDiff, Nat.zero_add, Nat.le_refl, forall_const, st_law, e1', e2']
          have g1 : q.num.natAbs < 2 ^ 140 := bq.1
          have g2 : ((q.den : Int)).natAbs < 2 ^ 140 := by simpa using bq.2
          have g3 : r.num.natAbs < 2 ^ 140 := br.1
          have g4 : ((r.den : Int)).natAbs < 2 ^ 140 := by simpa using br.2
          refine ⟨wide_mul g1 g4 (by decide) (by decide) (by decide), wide_mul g2 g3 (by decide) (by decide) (by decide), ?_⟩
          refine ⟨_, _, rfl, Int.mul_ne_zero (HwM.den_ne q) (fun z => h0 (Rat.num_eq_zero.mp z)), ?_, ?_, fun b hb => ?_⟩
          · rw [Int.natAbs_mul]
            exact HwM.lt_mono (HwM.mul_lt g1 g4) (by decide)
          · rw [Int.natAbs_mul]
            exact HwM.lt_mono (HwM.mul_lt g2 g3) (by decide)
          · rw [HwM.div_eq]
            exact ⟨z, b, _, _, rfl, hz.same (same_new hb), upd_same, fun H3 s3 => ⟨true, by simp, iteF (hm.same ((s2.trans (same_new hb)).trans s3))⟩⟩
      refine fun σ H1 h1 => ⟨LC C_Ratio a p l PT (40 * tn + 19), ?_, ?_⟩
      · have hm := h1
        obtain ⟨i, a1, a2, a3, a4, b1, b2, x1, x2, dx1, dx2, q, r, v11, v12, rfl, c1, bq, br, e1, e2, f1, f2, p1, t1⟩ := h1
        simp only [tVar, rIxTH, rIxLH, gTupH, line_le, HO.tup.injEq, HO.lst.injEq, List.length_cons, List.length_nil, at0, at1, rU, tOst, tTest, rIxL, rIxT, C8.tCut, cxOf_K, tC, tOp, tUn, tSeq, tAsg, tNext, tRet, tRetN, tDrop, tIfS, tNever, gName, gNil, gCons, gTup, gSub, tPar, rI, rI0, rU, rEq, rNe, tB, tAnd, tOr, tNot, tAndV, tOrV, tNotV, tIf, tTup, tLst, tNil, tCons, tCB, tCall, tMeth, tMake, tFld, sFld, tDGet, sDPut, tDisp, tPairs, tBreak, tCont, scal_ii, scal_bb, scal_ss, List.getElem?_cons_zero, List.getElem?_cons_succ, List.set_cons_zero, List.set_cons_succ, Option.some.injEq, exists_eq_left', exists_eq_left, exists_and_left, V.int.injEq, V.bl.injEq, V.ref.injEq, V.str.injEq, List.cons.injEq, and_true, true_and, Bool.true_eq, List.nil_append, List.append_nil, List.cons_append, exists_eq', and_self, reduceCtorEq, false_or, or_false, false_and, exists_false, exists_const, and_assoc, if_true, Bool.false_eq_true, if_false, Nat.reduceAdd, Nat.reduceLeDiff, Nat.zero_add, Nat.le_refl, forall_const, st_law, e1, e2]
        refine ⟨b1, b2, q, r, rfl, e1, e2, bq.mono (by decide), br.mono (by decide), fun d hd => ⟨d, rfl, q - r, upd_same, ?_⟩⟩
        have sd := same_new (o := .tup (qv (q - r))) hd
        rw [HwM.cmp_sub]
        exact ⟨.ref x1, .ref x2, q, r, rfl, ⟨x1, dx1, rfl, sd _ _ f1⟩, .inl ⟨x2, dx2, rfl, sd _ _ f2⟩, bq.mono (by decide), br.mono (by decide), fun H3 s3 => ⟨true, by simp, iteF (hm.same (sd.trans s3))⟩⟩
      refine fun σ H1 h1 => ⟨LC C_Ratio a p l PT (40 * tn + 19), ?_, ?_⟩
      · have hm := h1
        obtain ⟨i, a1, a2, a3, a4, b1, b2, x1, x2, dx1, dx2, q, r, v11, v12, rfl, c1, bq, br, e1, e2, f1, f2, p1, t1⟩ := h1
        simp only [tVar, rIxTH, rIxLH, gTupH, line_le, HO.tup.injEq, HO.lst.injEq, List.length_cons, List.length_nil, at0, at1, rU, tOst, tTest, rIxL, rIxT, C8.tCut, cxOf_K, tC, tOp, tUn, tSeq, tAsg, tNext, tRet, tRetN, tDrop, tIfS, tNever, gName, gNil, gCons, gTup, gSub, tPar, rI, rI0, rU, rEq, rNe, tB, tAnd, tOr, tNot, tAndV, tOrV, tNotV, tIf, tTup, tLst, tNil, tCons, tCB, tCall, tMeth, tMake, tFld, sFld, tDGet, sDPut, tDisp, tPairs, tBreak, tCont, scal_ii, scal_bb, scal_ss, List.getElem?_cons_zero, List.getElem?_cons_succ, List.set_cons_zero, List.set_cons_succ, Option.some.injEq, exists_eq_left', exists_eq_left, exists_and_left, V.int.injEq, V.bl.injEq, V.ref.injEq, V.str.injEq, List.cons.injEq, and_true, true_and, Bool.true_eq, List.nil_append, List.append_nil, List.cons_append, exists_eq', and_self, reduceCtorEq, false_or, or_false, false_and, exists_false, exists_const, and_assoc, if_true, Bool.false_eq_true, if_false, Nat.reduceAdd, Nat.reduceLeDiff, Nat.zero_add, Nat.le_refl, forall_const, st_law, e1, e2]
        refine ⟨.ref x1, b1, q, a1, rfl, ⟨x1, dx1, rfl, f1⟩, e1, bq.mono (by decide), HwM.lt_mono c1 (by decide), fun H2 s2 => ⟨true, by simp, iteF ?_⟩⟩
        have e1' := s2 _ _ e1
        simp only [tVar, rIxTH, rIxLH, gTupH, line_le, HO.tup.injEq, HO.lst.injEq, List.length_cons, List.length_nil, at0, at1, rU, tOst, tTest, rIxL, rIxT, C8.tCut, cxOf_K, tC, tOp, tUn, tSeq, tAsg, tNext, tRet, tRetN, tDrop, tIfS, tNever, gName, gNil, gCons, gTup, gSub, tPar, rI, rI0, rU, rEq, rNe, tB, tAnd, tOr, tNot, tAndV, tOrV, tNotV, tIf, tTup, tLst, tNil, tCons, tCB, tCall, tMeth, tMake, tFld, sFld, tDGet, sDPut, tDisp, tPairs, tBreak, tCont, scal_ii, scal_bb, scal_ss, List.getElem?_cons_zero, List.getElem?_cons_succ, List.set_cons_zero, List.set_cons_succ, Option.some.injEq, exists_eq_left', exists_eq_left, exists_and_left, V.int.injEq, V.bl.injEq, V.ref.injEq, V.str.injEq, List.cons.injEq, and_true, true_and, Bool.true_eq, List.nil_append, List.append_nil, List.cons_append, exists_eq', and_self, reduceCtorEq, false_or, or_false, false_and, exists_false, exists_const, and_assoc, if_true, Bool.false_eq_true, if_false, Nat.reduceAdd, Nat.reduceLeDiff, Nat.zero_add, Nat.le_refl, forall_const, st_law, e1', CDivX]
        have l2 := HwM.log2_lt (k := 9000) (by decide) (HwM.lt_mono (show (q.den : Int).natAbs < 2 ^ 140 by simpa using bq.2) (by decide))
        refine ⟨HwM.den_ne q, l2, .ref x1, b1, q, _, rfl, ⟨x1, dx1, rfl, s2 _ _ f1⟩, e1', bq.mono (by decide), ?_, fun H3 s3 => ⟨true, by simp, iteF (hm.same (s2.trans s3))⟩⟩
        exact HwM.lt_mono (Nat.lt_of_le_of_lt (HwM.fdiv_le _ (by have := q.den_pos; omega)) bq.1) (by decide)
      refine fun σ H1 h1 => ⟨LC C_Ratio a p l PT (40 * tn + 19), ?_, ?_⟩
      · have hm := h1
        obtain ⟨i, a1, a2, a3, a4, b1, b2, x1, x2, dx1, dx2, q, r, v11, v12, rfl, c1, bq, br, e1, e2, f1, f2, p1, t1⟩ := h1
        simp only [tVar, rIxTH, rIxLH, gTupH, line_le, HO.tup.injEq, HO.lst.injEq, List.length_cons, List.length_nil, at0, at1, rU, tOst, tTest, rIxL, rIxT, C8.tCut, cxOf_K, tC, tOp, tUn, tSeq, tAsg, tNext, tRet, tRetN, tDrop, tIfS, tNever, gName, gNil, gCons, gTup, gSub, tPar, rI, rI0, rU, rEq, rNe, tB, tAnd, tOr, tNot, tAndV, tOrV, tNotV, tIf, tTup, tLst, tNil, tCons, tCB, tCall, tMeth, tMake, tFld, sFld, tDGet, sDPut, tDisp, tPairs, tBreak, tCont, scal_ii, scal_bb, scal_ss, List.getElem?_cons_zero, List.getElem?_cons_succ, List.set_cons_zero, List.set_cons_succ, Option.some.injEq, exists_eq_left', exists_eq_left, exists_and_left, V.int.injEq, V.bl.injEq, V.ref.injEq, V.str.injEq, List.cons.injEq, and_true, true_and, Bool.true_eq, List.nil_append, List.append_nil, List.cons_append, exists_eq', and_self, reduceCtorEq, false_or, or_false, false_and, exists_false, exists_const, and_assoc, if_true, Bool.false_eq_true, if_false, Nat.reduceAdd, Nat.reduceLeDiff, Nat.zero_add, Nat.le_refl, forall_const, st_law, e1, e2]
        refine ⟨t1, fun H2 eN t2 => ?_⟩
        have f3 := eN _ _ f1 (fun _ z => by cases z)
        simp only [TBot, tVar, rIxTH, rIxLH, gTupH, line_le, HO.tup.injEq, HO.lst.injEq, List.length_cons, List.length_nil, at0, at1, rU, tOst, tTest, rIxL, rIxT, C8.tCut, cxOf_K, tC, tOp, tUn, tSeq, tAsg, tNext, tRet, tRetN, tDrop, tIfS, tNever, gName, gNil, gCons, gTup, gSub, tPar, rI, rI0, rU, rEq, rNe, tB, tAnd, tOr, tNot, tAndV, tOrV, tNotV, tIf, tTup, tLst, tNil, tCons, tCB, tCall, tMeth, tMake, tFld, sFld, tDGet, sDPut, tDisp, tPairs, tBreak, tCont, scal_ii, scal_bb, scal_ss, List.getElem?_cons_zero, List.getElem?_cons_succ, List.set_cons_zero, List.set_cons_succ, Option.some.injEq, exists_eq_left', exists_eq_left, exists_and_left, V.int.injEq, V.bl.injEq, V.ref.injEq, V.str.injEq, List.cons.injEq, and_true, true_and, Bool.true_eq, List.nil_append, List.append_nil, List.cons_append, exists_eq', and_self, reduceCtorEq, false_or, or_false, false_and, exists_false, exists_const, and_assoc, if_true, Bool.false_eq_true, if_false, Nat.reduceAdd, Nat.reduceLeDiff, Nat.zero_add, Nat.le_refl, forall_const, st_law, HO.ins.injEq, R.cl, R.nt, R.nb, ratF_top, ratF_bottom, f3, ratF_no q (m := "over") (by decide) (by decide)]
        exact ⟨.ref x1, .int 0, q, 0, rfl, ⟨x1, dx1, rfl, f3⟩, .inr ⟨0, rfl, rfl⟩, bq.mono (by decide), HwM.int_bd (i := 0) (by decide) (by decide), fun h => absurd rfl h, fun _ H3 d s3 hd => ⟨rfl, d, rfl, hd, fun H4 s4 => iteF ((hm.extN eN t2).same (s3.trans s4))⟩⟩
      refine fun σ H1 h1 => ⟨LC C_Ratio a p l PT (40 * tn + 19), ?_, ?_⟩
      · have hm := h1
        obtain ⟨i, a1, a2, a3, a4, b1, b2, x1, x2, dx1, dx2, q, r, v11, v12, rfl, c1, bq, br, e1, e2, f1, f2, p1, t1⟩ := h1
        simp only [tVar, rIxTH, rIxLH, gTupH, line_le, HO.tup.injEq, HO.lst.injEq, List.length_cons, List.length_nil, at0, at1, rU, tOst, tTest, rIxL, rIxT, C8.tCut, cxOf_K, tC, tOp, tUn, tSeq, tAsg, tNext, tRet, tRetN, tDrop, tIfS, tNever, gName, gNil, gCons, gTup, gSub, tPar, rI, rI0, rU, rEq, rNe, tB, tAnd, tOr, tNot, tAndV, tOrV, tNotV, tIf, tTup, tLst, tNil, tCons, tCB, tCall, tMeth, tMake, tFld, sFld, tDGet, sDPut, tDisp, tPairs, tBreak, tCont, scal_ii, scal_bb, scal_ss, List.getElem?_cons_zero, List.getElem?_cons_succ, List.set_cons_zero, List.set_cons_succ, Option.some.injEq, exists_eq_left', exists_eq_left, exists_and_left, V.int.injEq, V.bl.injEq, V.ref.injEq, V.str.injEq, List.cons.injEq, and_true, true_and, Bool.true_eq, List.nil_append, List.append_nil, List.cons_append, exists_eq', and_self, reduceCtorEq, false_or, or_false, false_and, exists_false, exists_const, and_assoc, if_true, Bool.false_eq_true, if_false, Nat.reduceAdd, Nat.reduceLeDiff, Nat.zero_add, Nat.le_refl, forall_const, st_law, e1, e2]
        refine ⟨t1, fun H2 eN t2 => ?_⟩
        simp only [TBot, tVar, rIxTH, rIxLH, gTupH, line_le, HO.tup.injEq, HO.lst.injEq, List.length_cons, List.length_nil, at0, at1, rU, tOst, tTest, rIxL, rIxT, C8.tCut, cxOf_K, tC, tOp, tUn, tSeq, tAsg, tNext, tRet, tRetN, tDrop, tIfS, tNever, gName, gNil, gCons, gTup, gSub, tPar, rI, rI0, rU, rEq, rNe, tB, tAnd, tOr, tNot, tAndV, tOrV, tNotV, tIf, tTup, tLst, tNil, tCons, tCB, tCall, tMeth, tMake, tFld, sFld, tDGet, sDPut, tDisp, tPairs, tBreak, tCont, scal_ii, scal_bb, scal_ss, List.getElem?_cons_zero, List.getElem?_cons_succ, List.set_cons_zero, List.set_cons_succ, Option.some.injEq, exists_eq_left', exists_eq_left, exists_and_left, V.int.injEq, V.bl.injEq, V.ref.injEq, V.str.injEq, List.cons.injEq, and_true, true_and, Bool.true_eq, List.nil_append, List.append_nil, List.cons_append, exists_eq', and_self, reduceCtorEq, false_or, or_false, false_and, exists_false, exists_const, and_assoc, if_true, Bool.false_eq_true, if_false, Nat.reduceAdd, Nat.reduceLeDiff, Nat.zero_add, Nat.le_refl, forall_const, st_law]
        exact made_rat2 (C := C_Ratio) (CB := C_BadNumber) (by decide) (fun h => absurd rfl h) (fun _ H3 d s3 hd => ⟨rfl, d, rfl, hd, fun H4 s4 => iteF ((hm.extN eN t2).same (s3.trans s4))⟩)
      refine fun σ H1 h1 => ⟨LD C_Ratio a p l PT (40 * tn + 19), ?_, ?_⟩
      · have hm := h1
        obtain ⟨i, a1, a2, a3, a4, b1, b2, x1, x2, dx1, dx2, q, r, v11, v12, rfl, c1, bq, br, e1, e2, f1, f2, p1, t1⟩ := h1
        simp only [tVar, rIxTH, rIxLH, gTupH, line_le, HO.tup.injEq, HO.lst.injEq, List.length_cons, List.length_nil, at0, at1, rU, tOst, tTest, rIxL, rIxT, C8.tCut, cxOf_K, tC, tOp, tUn, tSeq, tAsg, tNext, tRet, tRetN, tDrop, tIfS, tNever, gName, gNil, gCons, gTup, gSub, tPar, rI, rI0, rU, rEq, rNe, tB, tAnd, tOr, tNot, tAndV, tOrV, tNotV, tIf, tTup, tLst, tNil, tCons, tCB, tCall, tMeth, tMake, tFld, sFld, tDGet, sDPut, tDisp, tPairs, tBreak, tCont, scal_ii, scal_bb, scal_ss, List.getElem?_cons_zero, List.getElem?_cons_succ, List.set_cons_zero, List.set_cons_succ, Option.some.injEq, exists_eq_left', exists_eq_left, exists_and_left, V.int.injEq, V.bl.injEq, V.ref.injEq, V.str.injEq, List.cons.injEq, and_true, true_and, Bool.true_eq, List.nil_append, List.append_nil, List.cons_append, exists_eq', and_self, reduceCtorEq, false_or, or_false, false_and, exists_false, exists_const, and_assoc, if_true, Bool.false_eq_true, if_false, Nat.reduceAdd, Nat.reduceLeDiff, Nat.zero_add, Nat.le_refl, forall_const, st_law, e1, e2]
        have ri : ∀ {H2} {i : Int}, AsR C_Ratio H2 (.int i) (i : Rat) := .inr ⟨_, rfl, rfl⟩
        refine made_rat2 (b := 1) (by decide) (fun _ H2 y1 s2 r1 => ?_) (fun h => by cases h)
        rw [HwM.int_eq] at r1
        refine ⟨r1.inst, AsR.argT ri R, .ref y1, _, _, rfl, r1, .inl ⟨_, ri, ?_⟩⟩
        refine made_rat2 (b := 1) (by decide) (fun _ H3 y2 s3 r2 => ?_) (fun h => by cases h)
        refine ⟨r2.inst, (ty_bl R true).argT, .ref y2, _, _, rfl, r2, .inr ⟨ty_bl R true, ?_⟩⟩
        refine made_rat2 (b := 1) (by decide) (fun _ H4 y3 s4 r3 => ?_) (fun h => by cases h)
        refine ⟨r3.inst, (ty_bl R false).argT, .ref y3, _, _, rfl, r3, .inr ⟨ty_bl R false, ?_⟩⟩
        have s24 := (s2.trans s3).trans s4
        have rx : IsR C_Ratio H4 (.ref x1) q := ⟨x1, dx1, rfl, s24 _ _ f1⟩
        refine ⟨rx.inst, (ty_str R "1").argT, _, _, _, rfl, rx, .inr ⟨ty_str R "1", ?_⟩⟩
        refine ⟨rx.inst, (ty_non R).argT, _, _, _, rfl, rx, .inr ⟨ty_non R, ?_⟩⟩
        refine fun d hd => ?_
        have rx2 := rx.same (same_new (o := .tup [V.int a1, V.int 1]) hd)
        have td := ty_tup R (H := upd H4 d (.tup [V.int a1, V.int 1])) upd_same
        refine ⟨rx2.inst, td.argT, _, _, _, rfl, rx2, .inr ⟨td, fun d2 hd2 => ?_⟩⟩
        refine ⟨?_, d2, rfl, by simp [upd_same]⟩
        have h2 := hm.same ((s24.trans (same_new (o := .tup [V.int a1, V.int 1]) hd)).trans (same_new (o := .lst [V.bl (decide ((a1 : Rat) = (a1 : Rat))), V.bl false, V.bl false, V.bl false, V.bl false, V.bl false]) hd2))
        obtain ⟨i', a1', a2', a3', a4', b1', b2', x1', x2', dx1', dx2', q', r', v11', v12', es, g⟩ := h2
        cases es
        exact ⟨i, a1, a2, a3, a4, b1, b2, x1, x2, dx1', dx2', q', r', _, v12, rfl, g⟩
      refine fun σ H1 h1 => ⟨LC C_Ratio a p l PT (40 * tn + 19), ?_, ?_⟩
      · have hm := h1
        obtain ⟨hm, k2, hk1, hk2⟩ := h1
        obtain ⟨i, a1, a2, a3, a4, b1, b2, x1, x2, dx1, dx2, q, r, v11, v12, rfl, c1, bq, br, e1, e2, f1, f2, p1, t1⟩ := id hm
        obtain rfl : v11 = some (.ref k2) := Option.some.inj hk1
        simp only [tVar, rIxTH, rIxLH, gTupH, line_le, HO.tup.injEq, HO.lst.injEq, List.length_cons, List.length_nil, at0, at1, rU, tOst, tTest, rIxL, rIxT, C8.tCut, cxOf_K, tC, tOp, tUn, tSeq, tAsg, tNext, tRet, tRetN, tDrop, tIfS, tNever, gName, gNil, gCons, gTup, gSub, tPar, rI, rI0, rU, rEq, rNe, tB, tAnd, tOr, tNot, tAndV, tOrV, tNotV, tIf, tTup, tLst, tNil, tCons, tCB, tCall, tMeth, tMake, tFld, sFld, tDGet, sDPut, tDisp, tPairs, tBreak, tCont, scal_ii, scal_bb, scal_ss, List.getElem?_cons_zero, List.getElem?_cons_succ, List.set_cons_zero, List.set_cons_succ, Option.some.injEq, exists_eq_left', exists_eq_left, exists_and_left, V.int.injEq, V.bl.injEq, V.ref.injEq, V.str.injEq, List.cons.injEq, and_true, true_and, Bool.true_eq, List.nil_append, List.append_nil, List.cons_append, exists_eq', and_self, reduceCtorEq, false_or, or_false, false_and, exists_false, exists_const, and_assoc, if_true, Bool.false_eq_true, if_false, Nat.reduceAdd, Nat.reduceLeDiff, Nat.zero_add, Nat.le_refl, forall_const, st_law, e1, e2]
        refine fun d hd => ne_bls [true, false, false, false, false, false] (same_new hd _ _ hk2) upd_same (by decide +kernel) ?_
        simp only [tVar, rIxTH, rIxLH, gTupH, line_le, HO.tup.injEq, HO.lst.injEq, List.length_cons, List.length_nil, at0, at1, rU, tOst, tTest, rIxL, rIxT, C8.tCut, cxOf_K, tC, tOp, tUn, tSeq, tAsg, tNext, tRet, tRetN, tDrop, tIfS, tNever, gName, gNil, gCons, gTup, gSub, tPar, rI, rI0, rU, rEq, rNe, tB, tAnd, tOr, tNot, tAndV, tOrV, tNotV, tIf, tTup, tLst, tNil, tCons, tCB, tCall, tMeth, tMake, tFld, sFld, tDGet, sDPut, tDisp, tPairs, tBreak, tCont, scal_ii, scal_bb, scal_ss, List.getElem?_cons_zero, List.getElem?_cons_succ, List.set_cons_zero, List.set_cons_succ, Option.some.injEq, exists_eq_left', exists_eq_left, exists_and_left, V.int.injEq, V.bl.injEq, V.ref.injEq, V.str.injEq, List.cons.injEq, and_true, true_and, Bool.true_eq, List.nil_append, List.append_nil, List.cons_append, exists_eq', and_self, reduceCtorEq, false_or, or_false, false_and, exists_false, exists_const, and_assoc, if_true, Bool.false_eq_true, if_false, Nat.reduceAdd, Nat.reduceLeDiff, Nat.zero_add, Nat.le_refl, forall_const, st_law]
        refine made_rat2 (b := 1) (by decide) (fun _ H2 y s2 r1 => ?_) (fun h => by cases h)
        rw [HwM.int_eq] at r1
        refine fun d2 hd2 => ⟨.ref y, d2, _, (a1 : Rat), rfl, r1.same (same_new hd2), by rw [upd_same, qv_int], fun H3 s3 => ⟨true, by simp, iteF ?_⟩⟩
        exact hm.same ((((same_new hd).trans s2).trans (same_new hd2)).trans s3)
      refine fun σ H1 h1 => ?_
      have hm := h1
      obtain ⟨i, a1, a2, a3, a4, b1, b2, x1, x2, dx1, dx2, q, r, v11, v12, rfl, c1, bq, br, e1, e2, f1, f2, p1, t1⟩ := h1
      simp only [tVar, rIxTH, rIxLH, gTupH, line_le, HO.tup.injEq, HO.lst.injEq, List.length_cons, List.length_nil, at0, at1, rU, tOst, tTest, rIxL, rIxT, C8.tCut, cxOf_K, tC, tOp, tUn, tSeq, tAsg, tNext, tRet, tRetN, tDrop, tIfS, tNever, gName, gNil, gCons, gTup, gSub, tPar, rI, rI0, rU, rEq, rNe, tB, tAnd, tOr, tNot, tAndV, tOrV, tNotV, tIf, tTup, tLst, tNil, tCons, tCB, tCall, tMeth, tMake, tFld, sFld, tDGet, sDPut, tDisp, tPairs, tBreak, tCont, scal_ii, scal_bb, scal_ss, List.getElem?_cons_zero, List.getElem?_cons_succ, List.set_cons_zero, List.set_cons_succ, Option.some.injEq, exists_eq_left', exists_eq_left, exists_and_left, V.int.injEq, V.bl.injEq, V.ref.injEq, V.str.injEq, List.cons.injEq, and_true, true_and, Bool.true_eq, List.nil_append, List.append_nil, List.cons_append, exists_eq', and_self, reduceCtorEq, false_or, or_false, false_and, exists_false, exists_const, and_assoc, if_true, Bool.false_eq_true, if_false, Nat.reduceAdd, Nat.reduceLeDiff, Nat.zero_add, Nat.le_refl, forall_const, st_law, e1, e2]
      refine ⟨.ref x1, b1, q, q, rfl, ⟨x1, dx1, rfl, f1⟩, e1, fun H2 s2 => ⟨true, by simp, iteF ?_⟩⟩
      exact ⟨.ref x2, b2, r, r, rfl, ⟨x2, dx2, rfl, s2 _ _ f2⟩, s2 _ _ e2, fun H3 s3 => ⟨true, by simp, iteF ⟨((p1.same s2).same s3).mono (by omega), (t1.ext s2).ext s3⟩⟩⟩
    · rintro σ H1 -
      exact k _


end HwL
end

section
namespace HwL
open PySem PySem.Spec PyProof.Rows L2 LamX
variable {P : Program} {w : World} {K : PySem.W.Frag} {mg : Str → Option Value} {base : Heap}

theorem noCX {P : Program} {w : World} {H : Hp} {s : Shared} {e : Value} {s' : Shared} (z : L2.CX P w [] H s (fun _ _ _ => False) e s') : False := by
  obtain ⟨_, _, _, _, _, _, _, _, _, _, _, _, q⟩ := z
  exact q
def fnL : List He.DefD := [⟨("_law_pen", none), "_law_pen", "_law_pen", defArgs s_L_pen, defBody s_L_pen, defScope s_L_pen, [], []⟩,
  ⟨("_law_draw", none), "_law_draw", "_law_draw", defArgs s_L_draw, defBody s_L_draw, defScope s_L_draw, [], []⟩,
  ⟨("BadNumber", some "__init__"), "__init__", "BadNumber.__init__", defArgs s_BadNumberD_initD, defBody s_BadNumberD_initD, defScope s_BadNumberD_initD, [], []⟩,
  ⟨("Ratio", some "__init__"), "__init__", "Ratio.__init__", defArgs s_RatioD_initD, defBody s_RatioD_initD, defScope s_RatioD_initD, [.int 1], []⟩,
  ⟨("is_integer", none), "is_integer", "is_integer", defArgs s_is_integer, defBody s_is_integer, defScope s_is_integer, [], []⟩,
  ⟨("is_ratio", none), "is_ratio", "is_ratio", defArgs s_is_ratio, defBody s_is_ratio, defScope s_is_ratio, [], []⟩,
  ⟨("as_ratio", none), "as_ratio", "as_ratio", defArgs s_as_ratio, defBody s_as_ratio, defScope s_as_ratio, [], []⟩,
  ⟨("Ratio", some "__add__"), "__add__", "Ratio.__add__", defArgs s_RatioD_addD, defBody s_RatioD_addD, defScope s_RatioD_addD, [], []⟩,
  ⟨("Ratio", some "__sub__"), "__sub__", "Ratio.__sub__", defArgs s_RatioD_subD, defBody s_RatioD_subD, defScope s_RatioD_subD, [], []⟩,
  ⟨("Ratio", some "__mul__"), "__mul__", "Ratio.__mul__", defArgs s_RatioD_mulD, defBody s_RatioD_mulD, defScope s_RatioD_mulD, [], []⟩,
  ⟨("Ratio", some "__neg__"), "__neg__", "Ratio.__neg__", defArgs s_RatioD_negD, defBody s_RatioD_negD, defScope s_RatioD_negD, [], []⟩,
  ⟨("Ratio", some "__eq__"), "__eq__", "Ratio.__eq__", defArgs s_RatioD_eqD, defBody s_RatioD_eqD, defScope s_RatioD_eqD, [], []⟩,
  ⟨("Ratio", some "over"), "over", "Ratio.over", defArgs s_Ratio_over, defBody s_Ratio_over, defScope s_Ratio_over, [], []⟩,
  ⟨("Ratio", some "compared"), "compared", "Ratio.compared", defArgs s_Ratio_compared, defBody s_Ratio_compared, defScope s_Ratio_compared, [], []⟩,
  ⟨("Ratio", some "under"), "under", "Ratio.under", defArgs s_Ratio_under, defBody s_Ratio_under, defScope s_Ratio_under, [], []⟩,
  ⟨("Ratio", some "at_most"), "at_most", "Ratio.at_most", defArgs s_Ratio_at_most, defBody s_Ratio_at_most, defScope s_Ratio_at_most, [], []⟩,
  ⟨("_law_gcd", none), "_law_gcd", "_law_gcd", defArgs s_L_gcd, defBody s_L_gcd, defScope s_L_gcd, [], []⟩,
  ⟨("_law_q", none), "_law_q", "_law_q", defArgs s_L_q, defBody s_L_q, defScope s_L_q, [], []⟩,
  ⟨("_law_plus", none), "_law_plus", "_law_plus", defArgs s_L_plus, defBody s_L_plus, defScope s_L_plus, [], []⟩,
  ⟨("_law_minus", none), "_law_minus", "_law_minus", defArgs s_L_minus, defBody s_L_minus, defScope s_L_minus, [], []⟩,
  ⟨("_law_times", none), "_law_times", "_law_times", defArgs s_L_times, defBody s_L_times, defScope s_L_times, [], []⟩,
  ⟨("_law_sign", none), "_law_sign", "_law_sign", defArgs s_L_sign, defBody s_L_sign, defScope s_L_sign, [], []⟩,
  ⟨("_law_is_ratio", none), "_law_is_ratio", "_law_is_ratio", defArgs s_L_is_ratio, defBody s_L_is_ratio, defScope s_L_is_ratio, [], []⟩,
  ⟨("_law_integer", none), "_law_integer", "_law_integer", defArgs s_L_integer, defBody s_L_integer, defScope s_L_integer, [], []⟩,
  ⟨("_law_made", none), "_law_made", "_law_made", defArgs s_L_made, defBody s_L_made, defScope s_L_made, [], []⟩,
  ⟨("_law_is_order", none), "_law_is_order", "_law_is_order", defArgs s_L_is_order, defBody s_L_is_order, defScope s_L_is_order, [], []⟩,
  ⟨("_law_with_integer", none), "_law_with_integer", "_law_with_integer", defArgs s_L_with_integer, defBody s_L_with_integer, defScope s_L_with_integer, [], []⟩,
  ⟨("law", none), "law", "law", defArgs s_law, defBody s_law, defScope s_law, [], []⟩,
  ⟨("_law_bottom_named", none), "_law_bottom_named", "_law_bottom_named", defArgs s_L_bottom_named, defBody s_L_bottom_named, defScope s_L_bottom_named, [], []⟩]
def faL : List He.Fa := [.glo "_law_pen", .glo "_law_draw", .glo "is_integer", .glo "is_ratio", .glo "as_ratio", .glo "_law_gcd", .glo "_law_q", .glo "_law_plus", .glo "_law_minus", .glo "_law_times", .glo "_law_sign", .glo "_law_is_ratio", .glo "_law_integer", .glo "_law_made", .glo "_law_is_order", .glo "_law_with_integer", .glo "law", .glo "_law_bottom_named", .glo "BadNumber", .glo "Ratio", .free "list", .free "int", .free "len", .free "isinstance", .free "bool", .free "range", .free "abs", .cls "Ratio", .noat "Ratio" "top", .noat "Ratio" "bottom", .noat "BadNumber" "what", .noat "BadNumber" "number", .mkr "Ratio", .meth "Ratio" "over", .meth "Ratio" "compared", .meth "Ratio" "under", .meth "Ratio" "at_most"]
def exL (K : PySem.W.Frag) : Bool := [HwH.bfunB K "gcd" "math.gcd", ratB K (He.ga K "Ratio"), HwH.oexB K (He.ga K "BadNumber"), HwH.xrB K (He.ga K "BadNumber") "what" "number", HwH.iniB K (He.ga K "BadNumber"), HwH.opB K (He.ga K "Ratio") .Add, HwH.opB K (He.ga K "Ratio") .Sub, HwH.opB K (He.ga K "Ratio") .Mult, HwH.spcB K (He.ga K "Ratio") "__neg__", HwH.spcB K (He.ga K "Ratio") "__eq__"].all id
def tfL : List He.Defn := [("law", none)]
theorem facts {w : World} {K : PySem.W.Frag} {h : Heap} {mg : Str → Option Value} {f : Addr} (X : K.In h) (G : h.Ns mainGlobals mg) (hfa : mg ("law" : Str) = some (.ref f)) (c : He.SaysX faL fnL [] tfL exL w h K) :
    LamX.LawAtS PySem.Challenge.rw_hingeworks_k00_ratios w K (L2.CX PySem.Challenge.rw_hingeworks_k00_ratios.prog w) 10 63 "_law_script" mg f h := by
  have cd := c.t.d
  have exx : ∀ (i : Nat) {b : Bool}, [HwH.bfunB K "gcd" "math.gcd", ratB K (He.ga K "Ratio"), HwH.oexB K (He.ga K "BadNumber"), HwH.xrB K (He.ga K "BadNumber") "what" "number", HwH.iniB K (He.ga K "BadNumber"), HwH.opB K (He.ga K "Ratio") .Add, HwH.opB K (He.ga K "Ratio") .Sub, HwH.opB K (He.ga K "Ratio") .Mult, HwH.spcB K (He.ga K "Ratio") "__neg__", HwH.spcB K (He.ga K "Ratio") "__eq__"][i]? = some b → b = true := fun i b e => List.all_eq_true.mp c.more _ (List.mem_of_getElem? e)
  have m__law_pen : mg "_law_pen" = some (.ref (He.ga K "_law_pen")) := He.glo_ok X G (cd.fact 0 (f := .glo "_law_pen") rfl)
  have m__law_draw : mg "_law_draw" = some (.ref (He.ga K "_law_draw")) := He.glo_ok X G (cd.fact 1 (f := .glo "_law_draw") rfl)
  have m_is_integer : mg "is_integer" = some (.ref (He.ga K "is_integer")) := He.glo_ok X G (cd.fact 2 (f := .glo "is_integer") rfl)
  have m_is_ratio : mg "is_ratio" = some (.ref (He.ga K "is_ratio")) := He.glo_ok X G (cd.fact 3 (f := .glo "is_ratio") rfl)
  have m_as_ratio : mg "as_ratio" = some (.ref (He.ga K "as_ratio")) := He.glo_ok X G (cd.fact 4 (f := .glo "as_ratio") rfl)
  have m__law_gcd : mg "_law_gcd" = some (.ref (He.ga K "_law_gcd")) := He.glo_ok X G (cd.fact 5 (f := .glo "_law_gcd") rfl)
  have m__law_q : mg "_law_q" = some (.ref (He.ga K "_law_q")) := He.glo_ok X G (cd.fact 6 (f := .glo "_law_q") rfl)
  have m__law_plus : mg "_law_plus" = some (.ref (He.ga K "_law_plus")) := He.glo_ok X G (cd.fact 7 (f := .glo "_law_plus") rfl)
  have m__law_minus : mg "_law_minus" = some (.ref (He.ga K "_law_minus")) := He.glo_ok X G (cd.fact 8 (f := .glo "_law_minus") rfl)
  have m__law_times : mg "_law_times" = some (.ref (He.ga K "_law_times")) := He.glo_ok X G (cd.fact 9 (f := .glo "_law_times") rfl)
  have m__law_sign : mg "_law_sign" = some (.ref (He.ga K "_law_sign")) := He.glo_ok X G (cd.fact 10 (f := .glo "_law_sign") rfl)
  have m__law_is_ratio : mg "_law_is_ratio" = some (.ref (He.ga K "_law_is_ratio")) := He.glo_ok X G (cd.fact 11 (f := .glo "_law_is_ratio") rfl)
  have m__law_integer : mg "_law_integer" = some (.ref (He.ga K "_law_integer")) := He.glo_ok X G (cd.fact 12 (f := .glo "_law_integer") rfl)
  have m__law_made : mg "_law_made" = some (.ref (He.ga K "_law_made")) := He.glo_ok X G (cd.fact 13 (f := .glo "_law_made") rfl)
  have m__law_is_order : mg "_law_is_order" = some (.ref (He.ga K "_law_is_order")) := He.glo_ok X G (cd.fact 14 (f := .glo "_law_is_order") rfl)
  have m__law_with_integer : mg "_law_with_integer" = some (.ref (He.ga K "_law_with_integer")) := He.glo_ok X G (cd.fact 15 (f := .glo "_law_with_integer") rfl)
  have m_law : mg "law" = some (.ref (He.ga K "law")) := He.glo_ok X G (cd.fact 16 (f := .glo "law") rfl)
  have m__law_bottom_named : mg "_law_bottom_named" = some (.ref (He.ga K "_law_bottom_named")) := He.glo_ok X G (cd.fact 17 (f := .glo "_law_bottom_named") rfl)
  have m_BadNumber : mg "BadNumber" = some (.ref (He.ga K "BadNumber")) := He.glo_ok X G (cd.fact 18 (f := .glo "BadNumber") rfl)
  have m_Ratio : mg "Ratio" = some (.ref (He.ga K "Ratio")) := He.glo_ok X G (cd.fact 19 (f := .glo "Ratio") rfl)
  have z_list : mg "list" = none := He.free_ok X G (cd.fact 20 (f := .free "list") rfl)
  have z_int : mg "int" = none := He.free_ok X G (cd.fact 21 (f := .free "int") rfl)
  have z_len : mg "len" = none := He.free_ok X G (cd.fact 22 (f := .free "len") rfl)
  have m_gcd : mg "gcd" = some (.builtin "math.gcd") := HwH.bfunB_ok X G (exx 0 rfl)
  have z_isinstance : mg "isinstance" = none := He.free_ok X G (cd.fact 23 (f := .free "isinstance") rfl)
  have z_bool : mg "bool" = none := He.free_ok X G (cd.fact 24 (f := .free "bool") rfl)
  have z_range : mg "range" = none := He.free_ok X G (cd.fact 25 (f := .free "range") rfl)
  have z_abs : mg "abs" = none := He.free_ok X G (cd.fact 26 (f := .free "abs") rfl)
  obtain ⟨fd_L_pen, F0_L_pen⟩ := cd.def_ 0 rfl
  have F_L_pen : FunD K "_law_pen" "_law_pen" (defArgs s_L_pen) (defBody s_L_pen) (defScope s_L_pen) [] [] (He.ga K "_law_pen") fd_L_pen := F0_L_pen
  have B_L_pen : Binds K fd_L_pen ["_law_script"] [] := F_L_pen.bindsN fun _ _ _ _ _ _ us hl => match us, hl with | [_], _ => rfl
  obtain ⟨fd_L_draw, F0_L_draw⟩ := cd.def_ 1 rfl
  have F_L_draw : FunD K "_law_draw" "_law_draw" (defArgs s_L_draw) (defBody s_L_draw) (defScope s_L_draw) [] [] (He.ga K "_law_draw") fd_L_draw := F0_L_draw
  have B_L_draw : Binds K fd_L_draw ["_law_pen_here", "_law_many"] [] := F_L_draw.bindsN fun _ _ _ _ _ _ us hl => match us, hl with | [_, _], _ => rfl
  obtain ⟨fd_BadNumberD_initD, F0_BadNumberD_initD⟩ := cd.def_ 2 rfl
  have F_BadNumberD_initD : FunD K "__init__" "BadNumber.__init__" (defArgs s_BadNumberD_initD) (defBody s_BadNumberD_initD) (defScope s_BadNumberD_initD) [] [] (He.ma K (He.ga K "BadNumber") "__init__") fd_BadNumberD_initD := F0_BadNumberD_initD
  have B_BadNumberD_initD : Binds K fd_BadNumberD_initD ["self", "what", "number"] [] := F_BadNumberD_initD.bindsN fun _ _ _ _ _ _ us hl => match us, hl with | [_, _, _], _ => rfl
  obtain ⟨fd_RatioD_initD, F0_RatioD_initD⟩ := cd.def_ 3 rfl
  have F_RatioD_initD : FunD K "__init__" "Ratio.__init__" (defArgs s_RatioD_initD) (defBody s_RatioD_initD) (defScope s_RatioD_initD) [.int 1] [] (He.ma K (He.ga K "Ratio") "__init__") fd_RatioD_initD := F0_RatioD_initD
  obtain ⟨ds0_RatioD_initD, V0_RatioD_initD, B0_RatioD_initD⟩ := F_RatioD_initD.binds1 (ps := ["self", "top", "bottom"]) 2 0 (by simp) (by rfl) fun T kV doc pm an cdv ct us its hu hi => match us, hu, its, hi with | [_, _], _, [_], _ => ⟨_, rfl, rfl⟩
  obtain ⟨ds1_RatioD_initD, V1_RatioD_initD, B1_RatioD_initD⟩ := F_RatioD_initD.binds1 (ps := ["self", "top", "bottom"]) 3 1 (by simp) (by rfl) fun T kV doc pm an cdv ct us its hu hi => match us, hu, its, hi with | [_, _, _], _, [_], _ => ⟨_, rfl, rfl⟩
  obtain ⟨fd_is_integer, F0_is_integer⟩ := cd.def_ 4 rfl
  have F_is_integer : FunD K "is_integer" "is_integer" (defArgs s_is_integer) (defBody s_is_integer) (defScope s_is_integer) [] [] (He.ga K "is_integer") fd_is_integer := F0_is_integer
  have B_is_integer : Binds K fd_is_integer ["value"] [] := F_is_integer.bindsN fun _ _ _ _ _ _ us hl => match us, hl with | [_], _ => rfl
  obtain ⟨fd_is_ratio, F0_is_ratio⟩ := cd.def_ 5 rfl
  have F_is_ratio : FunD K "is_ratio" "is_ratio" (defArgs s_is_ratio) (defBody s_is_ratio) (defScope s_is_ratio) [] [] (He.ga K "is_ratio") fd_is_ratio := F0_is_ratio
  have B_is_ratio : Binds K fd_is_ratio ["value"] [] := F_is_ratio.bindsN fun _ _ _ _ _ _ us hl => match us, hl with | [_], _ => rfl
  obtain ⟨fd_as_ratio, F0_as_ratio⟩ := cd.def_ 6 rfl
  have F_as_ratio : FunD K "as_ratio" "as_ratio" (defArgs s_as_ratio) (defBody s_as_ratio) (defScope s_as_ratio) [] [] (He.ga K "as_ratio") fd_as_ratio := F0_as_ratio
  have B_as_ratio : Binds K fd_as_ratio ["value"] [] := F_as_ratio.bindsN fun _ _ _ _ _ _ us hl => match us, hl with | [_], _ => rfl
  obtain ⟨fd_RatioD_addD, F0_RatioD_addD⟩ := cd.def_ 7 rfl
  have F_RatioD_addD : FunD K "__add__" "Ratio.__add__" (defArgs s_RatioD_addD) (defBody s_RatioD_addD) (defScope s_RatioD_addD) [] [] (He.ma K (He.ga K "Ratio") "__add__") fd_RatioD_addD := F0_RatioD_addD
  have B_RatioD_addD : Binds K fd_RatioD_addD ["self", "other"] [] := F_RatioD_addD.bindsN fun _ _ _ _ _ _ us hl => match us, hl with | [_, _], _ => rfl
  obtain ⟨fd_RatioD_subD, F0_RatioD_subD⟩ := cd.def_ 8 rfl
  have F_RatioD_subD : FunD K "__sub__" "Ratio.__sub__" (defArgs s_RatioD_subD) (defBody s_RatioD_subD) (defScope s_RatioD_subD) [] [] (He.ma K (He.ga K "Ratio") "__sub__") fd_RatioD_subD := F0_RatioD_subD
  have B_RatioD_subD : Binds K fd_RatioD_subD ["self", "other"] [] := F_RatioD_subD.bindsN fun _ _ _ _ _ _ us hl => match us, hl with | [_, _], _ => rfl
  obtain ⟨fd_RatioD_mulD, F0_RatioD_mulD⟩ := cd.def_ 9 rfl
  have F_RatioD_mulD : FunD K "__mul__" "Ratio.__mul__" (defArgs s_RatioD_mulD) (defBody s_RatioD_mulD) (defScope s_RatioD_mulD) [] [] (He.ma K (He.ga K "Ratio") "__mul__") fd_RatioD_mulD := F0_RatioD_mulD
  have B_RatioD_mulD : Binds K fd_RatioD_mulD ["self", "other"] [] := F_RatioD_mulD.bindsN fun _ _ _ _ _ _ us hl => match us, hl with | [_, _], _ => rfl
  obtain ⟨fd_RatioD_negD, F0_RatioD_negD⟩ := cd.def_ 10 rfl
  have F_RatioD_negD : FunD K "__neg__" "Ratio.__neg__" (defArgs s_RatioD_negD) (defBody s_RatioD_negD) (defScope s_RatioD_negD) [] [] (He.ma K (He.ga K "Ratio") "__neg__") fd_RatioD_negD := F0_RatioD_negD
  have B_RatioD_negD : Binds K fd_RatioD_negD ["self"] [] := F_RatioD_negD.bindsN fun _ _ _ _ _ _ us hl => match us, hl with | [_], _ => rfl
  obtain ⟨fd_RatioD_eqD, F0_RatioD_eqD⟩ := cd.def_ 11 rfl
  have F_RatioD_eqD : FunD K "__eq__" "Ratio.__eq__" (defArgs s_RatioD_eqD) (defBody s_RatioD_eqD) (defScope s_RatioD_eqD) [] [] (He.ma K (He.ga K "Ratio") "__eq__") fd_RatioD_eqD := F0_RatioD_eqD
  have B_RatioD_eqD : Binds K fd_RatioD_eqD ["self", "other"] [] := F_RatioD_eqD.bindsN fun _ _ _ _ _ _ us hl => match us, hl with | [_, _], _ => rfl
  obtain ⟨fd_Ratio_over, F0_Ratio_over⟩ := cd.def_ 12 rfl
  have F_Ratio_over : FunD K "over" "Ratio.over" (defArgs s_Ratio_over) (defBody s_Ratio_over) (defScope s_Ratio_over) [] [] (He.ma K (He.ga K "Ratio") "over") fd_Ratio_over := F0_Ratio_over
  have B_Ratio_over : Binds K fd_Ratio_over ["self", "other"] [] := F_Ratio_over.bindsN fun _ _ _ _ _ _ us hl => match us, hl with | [_, _], _ => rfl
  obtain ⟨fd_Ratio_compared, F0_Ratio_compared⟩ := cd.def_ 13 rfl
  have F_Ratio_compared : FunD K "compared" "Ratio.compared" (defArgs s_Ratio_compared) (defBody s_Ratio_compared) (defScope s_Ratio_compared) [] [] (He.ma K (He.ga K "Ratio") "compared") fd_Ratio_compared := F0_Ratio_compared
  have B_Ratio_compared : Binds K fd_Ratio_compared ["self", "other"] [] := F_Ratio_compared.bindsN fun _ _ _ _ _ _ us hl => match us, hl with | [_, _], _ => rfl
  obtain ⟨fd_Ratio_under, F0_Ratio_under⟩ := cd.def_ 14 rfl
  have F_Ratio_under : FunD K "under" "Ratio.under" (defArgs s_Ratio_under) (defBody s_Ratio_under) (defScope s_Ratio_under) [] [] (He.ma K (He.ga K "Ratio") "under") fd_Ratio_under := F0_Ratio_under
  have B_Ratio_under : Binds K fd_Ratio_under ["self", "other"] [] := F_Ratio_under.bindsN fun _ _ _ _ _ _ us hl => match us, hl with | [_, _], _ => rfl
  obtain ⟨fd_Ratio_at_most, F0_Ratio_at_most⟩ := cd.def_ 15 rfl
  have F_Ratio_at_most : FunD K "at_most" "Ratio.at_most" (defArgs s_Ratio_at_most) (defBody s_Ratio_at_most) (defScope s_Ratio_at_most) [] [] (He.ma K (He.ga K "Ratio") "at_most") fd_Ratio_at_most := F0_Ratio_at_most
  have B_Ratio_at_most : Binds K fd_Ratio_at_most ["self", "other"] [] := F_Ratio_at_most.bindsN fun _ _ _ _ _ _ us hl => match us, hl with | [_, _], _ => rfl
  obtain ⟨fd_L_gcd, F0_L_gcd⟩ := cd.def_ 16 rfl
  have F_L_gcd : FunD K "_law_gcd" "_law_gcd" (defArgs s_L_gcd) (defBody s_L_gcd) (defScope s_L_gcd) [] [] (He.ga K "_law_gcd") fd_L_gcd := F0_L_gcd
  have B_L_gcd : Binds K fd_L_gcd ["_law_one", "_law_two"] [] := F_L_gcd.bindsN fun _ _ _ _ _ _ us hl => match us, hl with | [_, _], _ => rfl
  obtain ⟨fd_L_q, F0_L_q⟩ := cd.def_ 17 rfl
  have F_L_q : FunD K "_law_q" "_law_q" (defArgs s_L_q) (defBody s_L_q) (defScope s_L_q) [] [] (He.ga K "_law_q") fd_L_q := F0_L_q
  have B_L_q : Binds K fd_L_q ["_law_top", "_law_bottom"] [] := F_L_q.bindsN fun _ _ _ _ _ _ us hl => match us, hl with | [_, _], _ => rfl
  obtain ⟨fd_L_plus, F0_L_plus⟩ := cd.def_ 18 rfl
  have F_L_plus : FunD K "_law_plus" "_law_plus" (defArgs s_L_plus) (defBody s_L_plus) (defScope s_L_plus) [] [] (He.ga K "_law_plus") fd_L_plus := F0_L_plus
  have B_L_plus : Binds K fd_L_plus ["_law_one", "_law_two"] [] := F_L_plus.bindsN fun _ _ _ _ _ _ us hl => match us, hl with | [_, _], _ => rfl
  obtain ⟨fd_L_minus, F0_L_minus⟩ := cd.def_ 19 rfl
  have F_L_minus : FunD K "_law_minus" "_law_minus" (defArgs s_L_minus) (defBody s_L_minus) (defScope s_L_minus) [] [] (He.ga K "_law_minus") fd_L_minus := F0_L_minus
  have B_L_minus : Binds K fd_L_minus ["_law_one", "_law_two"] [] := F_L_minus.bindsN fun _ _ _ _ _ _ us hl => match us, hl with | [_, _], _ => rfl
  obtain ⟨fd_L_times, F0_L_times⟩ := cd.def_ 20 rfl
  have F_L_times : FunD K "_law_times" "_law_times" (defArgs s_L_times) (defBody s_L_times) (defScope s_L_times) [] [] (He.ga K "_law_times") fd_L_times := F0_L_times
  have B_L_times : Binds K fd_L_times ["_law_one", "_law_two"] [] := F_L_times.bindsN fun _ _ _ _ _ _ us hl => match us, hl with | [_, _], _ => rfl
  obtain ⟨fd_L_sign, F0_L_sign⟩ := cd.def_ 21 rfl
  have F_L_sign : FunD K "_law_sign" "_law_sign" (defArgs s_L_sign) (defBody s_L_sign) (defScope s_L_sign) [] [] (He.ga K "_law_sign") fd_L_sign := F0_L_sign
  have B_L_sign : Binds K fd_L_sign ["_law_one"] [] := F_L_sign.bindsN fun _ _ _ _ _ _ us hl => match us, hl with | [_], _ => rfl
  obtain ⟨fd_L_is_ratio, F0_L_is_ratio⟩ := cd.def_ 22 rfl
  have F_L_is_ratio : FunD K "_law_is_ratio" "_law_is_ratio" (defArgs s_L_is_ratio) (defBody s_L_is_ratio) (defScope s_L_is_ratio) [] [] (He.ga K "_law_is_ratio") fd_L_is_ratio := F0_L_is_ratio
  have B_L_is_ratio : Binds K fd_L_is_ratio ["_law_value", "_law_due"] [] := F_L_is_ratio.bindsN fun _ _ _ _ _ _ us hl => match us, hl with | [_, _], _ => rfl
  obtain ⟨fd_L_integer, F0_L_integer⟩ := cd.def_ 23 rfl
  have F_L_integer : FunD K "_law_integer" "_law_integer" (defArgs s_L_integer) (defBody s_L_integer) (defScope s_L_integer) [] [] (He.ga K "_law_integer") fd_L_integer := F0_L_integer
  have B_L_integer : Binds K fd_L_integer ["_law_pen_here"] [] := F_L_integer.bindsN fun _ _ _ _ _ _ us hl => match us, hl with | [_], _ => rfl
  obtain ⟨fd_L_made, F0_L_made⟩ := cd.def_ 24 rfl
  have F_L_made : FunD K "_law_made" "_law_made" (defArgs s_L_made) (defBody s_L_made) (defScope s_L_made) [] [] (He.ga K "_law_made") fd_L_made := F0_L_made
  have B_L_made : Binds K fd_L_made ["_law_pen_here", "_law_pair"] [] := F_L_made.bindsN fun _ _ _ _ _ _ us hl => match us, hl with | [_, _], _ => rfl
  obtain ⟨fd_L_is_order, F0_L_is_order⟩ := cd.def_ 25 rfl
  have F_L_is_order : FunD K "_law_is_order" "_law_is_order" (defArgs s_L_is_order) (defBody s_L_is_order) (defScope s_L_is_order) [] [] (He.ga K "_law_is_order") fd_L_is_order := F0_L_is_order
  have B_L_is_order : Binds K fd_L_is_order ["_law_one", "_law_other", "_law_due"] [] := F_L_is_order.bindsN fun _ _ _ _ _ _ us hl => match us, hl with | [_, _, _], _ => rfl
  obtain ⟨fd_L_with_integer, F0_L_with_integer⟩ := cd.def_ 26 rfl
  have F_L_with_integer : FunD K "_law_with_integer" "_law_with_integer" (defArgs s_L_with_integer) (defBody s_L_with_integer) (defScope s_L_with_integer) [] [] (He.ga K "_law_with_integer") fd_L_with_integer := F0_L_with_integer
  have B_L_with_integer : Binds K fd_L_with_integer ["_law_one", "_law_pair", "_law_number"] [] := F_L_with_integer.bindsN fun _ _ _ _ _ _ us hl => match us, hl with | [_, _, _], _ => rfl
  obtain ⟨fd_law, F0_law⟩ := cd.def_ 27 rfl
  have F_law : FunD K "law" "law" (defArgs s_law) (defBody s_law) (defScope s_law) [] [] (He.ga K "law") fd_law := F0_law
  have B_law : Binds K fd_law ["_law_script"] [] := F_law.bindsN fun _ _ _ _ _ _ us hl => match us, hl with | [_], _ => rfl
  obtain ⟨fd_L_bottom_named, F0_L_bottom_named⟩ := cd.def_ 28 rfl
  have F_L_bottom_named : FunD K "_law_bottom_named" "_law_bottom_named" (defArgs s_L_bottom_named) (defBody s_L_bottom_named) (defScope s_L_bottom_named) [] [] (He.ga K "_law_bottom_named") fd_L_bottom_named := F0_L_bottom_named
  have B_L_bottom_named : Binds K fd_L_bottom_named ["_law_action"] [] := F_L_bottom_named.bindsN fun _ _ _ _ _ _ us hl => match us, hl with | [_], _ => rfl
  have cl_Ratio : Cls K (He.ga K "Ratio") := He.cls_ok (cd.fact 27 (f := .cls "Ratio") rfl)
  have R_Ratio := ratB_ok (K := K) cl_Ratio (He.noat_ok (cd.fact 28 (f := .noat "Ratio" "top") rfl)) (He.noat_ok (cd.fact 29 (f := .noat "Ratio" "bottom") rfl)) (exx 1 rfl)
  have TX_BadNumber : OexC K (He.ga K "BadNumber") := HwH.oexB_ok (exx 2 rfl)
  have n1_BadNumber := He.noat_ok (cd.fact 30 (f := .noat "BadNumber" "what") rfl)
  have n2_BadNumber := He.noat_ok (cd.fact 31 (f := .noat "BadNumber" "number") rfl)
  have BX_BadNumber : XrC K (He.ga K "BadNumber") "what" "number" := HwH.xrB_ok (exx 3 rfl)
  have e := hfa.symm.trans m_law
  cases e
  have one : ∀ p ∈ [He.cT K ("law", none)], p = He.cT K ("law", none) := fun p hp => List.mem_singleton.mp hp
  refine ⟨fd_law, [He.cT K ("law", none)], spLaw K (He.cT K ("law", none)).2, fun p hp => ?_, fun p hp => ?_, fun p hp => ?_, fun s u => F_law.bindsA (ps := ["_law_script"]) (fun _ _ _ _ _ _ us hl => match us, hl with | [_], _ => rfl) s [u] rfl, ?_, fun base Kb Gb TBs => ?_⟩
  · rw [one p hp]; exact c.empty ("law", none) List.mem_cons_self
  · rw [one p hp]; exact c.out ("law", none) List.mem_cons_self
  · rw [one p hp]; exact PySem.W.codeHd_of_K X (c.hd ("law", none) List.mem_cons_self)
  · exact fun H a ns hl _ hT hS => ⟨a, ns, rfl, hS, hl, fun p hp => by rw [List.mem_singleton.mp hp]; exact TabS.nil (hT _ List.mem_cons_self), fun _ => rfl⟩
  ·
    have TB := TBs _ List.mem_cons_self
    have o_L_pen : FnOk PySem.Challenge.rw_hingeworks_k00_ratios.prog w K mg base (L2.CX PySem.Challenge.rw_hingeworks_k00_ratios.prog w) 1 _ fd_L_pen ["_law_script"] (spPen K) := ok_L_pen F_L_pen (z_list := z_list) (z_int := z_int)
    have g_L_pen : Gf PySem.Challenge.rw_hingeworks_k00_ratios.prog w K mg base "_law_pen" 1 ["_law_script"] (spPen K) := ⟨_, fd_L_pen, m__law_pen, F_L_pen.kp, B_L_pen, o_L_pen⟩
    have o_L_draw : FnOk PySem.Challenge.rw_hingeworks_k00_ratios.prog w K mg base (L2.CX PySem.Challenge.rw_hingeworks_k00_ratios.prog w) 1 _ fd_L_draw ["_law_pen_here", "_law_many"] (spDraw) := ok_L_draw F_L_draw (z_int := z_int) (z_len := z_len)
    have g_L_draw : Gf PySem.Challenge.rw_hingeworks_k00_ratios.prog w K mg base "_law_draw" 1 ["_law_pen_here", "_law_many"] (spDraw) := ⟨_, fd_L_draw, m__law_draw, F_L_draw.kp, B_L_draw, o_L_draw⟩
    have o_BadNumberD_initD : FnOk PySem.Challenge.rw_hingeworks_k00_ratios.prog w K mg base (L2.CX PySem.Challenge.rw_hingeworks_k00_ratios.prog w) 1 _ fd_BadNumberD_initD ["self", "what", "number"] (spX2 (He.ga K "BadNumber") "what" "number") := ok_BadNumberD_initD F_BadNumberD_initD (C_BadNumber := (He.ga K "BadNumber")) (TX := TX_BadNumber) (n1 := n1_BadNumber) (n2 := n2_BadNumber)
    have g_BadNumber : Xf PySem.Challenge.rw_hingeworks_k00_ratios.prog w K mg base "BadNumber" (He.ga K "BadNumber") 1 (spX2 (He.ga K "BadNumber") "what" "number") := ⟨_, fd_BadNumberD_initD, ["self", "what", "number"], m_BadNumber, TX_BadNumber, (HwH.iniB_ok (exx 4 rfl)).1, (HwH.iniB_ok (exx 4 rfl)).2, B_BadNumberD_initD, o_BadNumberD_initD⟩
    have o_RatioD_initD : FnOk PySem.Challenge.rw_hingeworks_k00_ratios.prog w K mg base (L2.CX PySem.Challenge.rw_hingeworks_k00_ratios.prog w) 3 _ fd_RatioD_initD ["self", "top", "bottom"] (spInit (He.ga K "Ratio") (He.ga K "BadNumber")) := ok_RatioD_initD F_RatioD_initD (m_gcd := m_gcd) (g_BadNumber := g_BadNumber) (C_Ratio := (He.ga K "Ratio")) (R := R_Ratio)
    have g_Ratio : Kf PySem.Challenge.rw_hingeworks_k00_ratios.prog w K mg base "Ratio" (He.ga K "Ratio") 3 ["self", "top", "bottom"] [] (spInit (He.ga K "Ratio") (He.ga K "BadNumber")) := ⟨_, fd_RatioD_initD, ds1_RatioD_initD, m_Ratio, He.mkr_ok (cd.fact 32 (f := .mkr "Ratio") rfl), B1_RatioD_initD, V1_RatioD_initD, o_RatioD_initD⟩
    have g_Ratio1 : Kf PySem.Challenge.rw_hingeworks_k00_ratios.prog w K mg base "Ratio" (He.ga K "Ratio") 3 ["self", "top", "bottom"] [.int 1] (spInit (He.ga K "Ratio") (He.ga K "BadNumber")) := ⟨_, fd_RatioD_initD, ds0_RatioD_initD, m_Ratio, He.mkr_ok (cd.fact 32 (f := .mkr "Ratio") rfl), B0_RatioD_initD, V0_RatioD_initD, o_RatioD_initD⟩
    have o_is_integer : FnOk PySem.Challenge.rw_hingeworks_k00_ratios.prog w K mg base (L2.CX PySem.Challenge.rw_hingeworks_k00_ratios.prog w) 1 _ fd_is_integer ["value"] (spIsInt K (He.ga K "Ratio")) := ok_is_integer F_is_integer (z_isinstance := z_isinstance) (z_bool := z_bool) (z_int := z_int) (C_Ratio := (He.ga K "Ratio"))
    have g_is_integer : Gf PySem.Challenge.rw_hingeworks_k00_ratios.prog w K mg base "is_integer" 1 ["value"] (spIsInt K (He.ga K "Ratio")) := ⟨_, fd_is_integer, m_is_integer, F_is_integer.kp, B_is_integer, o_is_integer⟩
    have o_is_ratio : FnOk PySem.Challenge.rw_hingeworks_k00_ratios.prog w K mg base (L2.CX PySem.Challenge.rw_hingeworks_k00_ratios.prog w) 2 _ fd_is_ratio ["value"] (spIsRat K (He.ga K "Ratio")) := ok_is_ratio F_is_ratio (z_isinstance := z_isinstance) (m_Ratio := m_Ratio) (g_is_integer := g_is_integer) (C_Ratio := (He.ga K "Ratio"))
    have g_is_ratio : Gf PySem.Challenge.rw_hingeworks_k00_ratios.prog w K mg base "is_ratio" 2 ["value"] (spIsRat K (He.ga K "Ratio")) := ⟨_, fd_is_ratio, m_is_ratio, F_is_ratio.kp, B_is_ratio, o_is_ratio⟩
    have o_as_ratio : FnOk PySem.Challenge.rw_hingeworks_k00_ratios.prog w K mg base (L2.CX PySem.Challenge.rw_hingeworks_k00_ratios.prog w) 5 _ fd_as_ratio ["value"] (spAs (He.ga K "Ratio")) := ok_as_ratio F_as_ratio (z_isinstance := z_isinstance) (m_Ratio := m_Ratio) (g_Ratio1 := g_Ratio1) (C_Ratio := (He.ga K "Ratio")) (C_BadNumber := (He.ga K "BadNumber")) (R := R_Ratio)
    have g_as_ratio : Gf PySem.Challenge.rw_hingeworks_k00_ratios.prog w K mg base "as_ratio" 5 ["value"] (spAs (He.ga K "Ratio")) := ⟨_, fd_as_ratio, m_as_ratio, F_as_ratio.kp, B_as_ratio, o_as_ratio⟩
    have o_RatioD_addD : FnOk PySem.Challenge.rw_hingeworks_k00_ratios.prog w K mg base (L2.CX PySem.Challenge.rw_hingeworks_k00_ratios.prog w) 6 _ fd_RatioD_addD ["self", "other"] (spBin (He.ga K "Ratio") (fun q r => q + r)) := ok_RatioD_addD F_RatioD_addD (g_Ratio := g_Ratio) (g_as_ratio := g_as_ratio) (g_is_ratio := g_is_ratio) (C_Ratio := (He.ga K "Ratio")) (C_BadNumber := (He.ga K "BadNumber")) (R := R_Ratio)
    have g_RatioD_addD : Of PySem.Challenge.rw_hingeworks_k00_ratios.prog w K mg base (He.ga K "Ratio") .Add 6 (spBin (He.ga K "Ratio") (fun q r => q + r)) := let ⟨oc, fo, ro, h1, h2, h3⟩ := HwH.opB_ok (exx 5 rfl); ⟨_, fd_RatioD_addD, ["self", "other"], fo, ro, oc, B_RatioD_addD, o_RatioD_addD, h1, h2, h3⟩
    have o_RatioD_subD : FnOk PySem.Challenge.rw_hingeworks_k00_ratios.prog w K mg base (L2.CX PySem.Challenge.rw_hingeworks_k00_ratios.prog w) 6 _ fd_RatioD_subD ["self", "other"] (spBin (He.ga K "Ratio") (fun q r => q - r)) := ok_RatioD_subD F_RatioD_subD (g_Ratio := g_Ratio) (g_as_ratio := g_as_ratio) (g_is_ratio := g_is_ratio) (C_Ratio := (He.ga K "Ratio")) (C_BadNumber := (He.ga K "BadNumber")) (R := R_Ratio)
    have g_RatioD_subD : Of PySem.Challenge.rw_hingeworks_k00_ratios.prog w K mg base (He.ga K "Ratio") .Sub 6 (spBin (He.ga K "Ratio") (fun q r => q - r)) := let ⟨oc, fo, ro, h1, h2, h3⟩ := HwH.opB_ok (exx 6 rfl); ⟨_, fd_RatioD_subD, ["self", "other"], fo, ro, oc, B_RatioD_subD, o_RatioD_subD, h1, h2, h3⟩
    have o_RatioD_mulD : FnOk PySem.Challenge.rw_hingeworks_k00_ratios.prog w K mg base (L2.CX PySem.Challenge.rw_hingeworks_k00_ratios.prog w) 6 _ fd_RatioD_mulD ["self", "other"] (spBin (He.ga K "Ratio") (fun q r => q * r)) := ok_RatioD_mulD F_RatioD_mulD (g_Ratio := g_Ratio) (g_as_ratio := g_as_ratio) (g_is_ratio := g_is_ratio) (C_Ratio := (He.ga K "Ratio")) (C_BadNumber := (He.ga K "BadNumber")) (R := R_Ratio)
    have g_RatioD_mulD : Of PySem.Challenge.rw_hingeworks_k00_ratios.prog w K mg base (He.ga K "Ratio") .Mult 6 (spBin (He.ga K "Ratio") (fun q r => q * r)) := let ⟨oc, fo, ro, h1, h2, h3⟩ := HwH.opB_ok (exx 7 rfl); ⟨_, fd_RatioD_mulD, ["self", "other"], fo, ro, oc, B_RatioD_mulD, o_RatioD_mulD, h1, h2, h3⟩
    have o_RatioD_negD : FnOk PySem.Challenge.rw_hingeworks_k00_ratios.prog w K mg base (L2.CX PySem.Challenge.rw_hingeworks_k00_ratios.prog w) 5 _ fd_RatioD_negD ["self"] (spNeg (He.ga K "Ratio")) := ok_RatioD_negD F_RatioD_negD (g_Ratio := g_Ratio) (C_Ratio := (He.ga K "Ratio")) (C_BadNumber := (He.ga K "BadNumber")) (R := R_Ratio)
    have g_RatioD_negD : Nf PySem.Challenge.rw_hingeworks_k00_ratios.prog w K mg base (He.ga K "Ratio") 5 (spNeg (He.ga K "Ratio")) := ⟨_, fd_RatioD_negD, ["self"], (HwH.spcB_ok (exx 8 rfl)).1, (HwH.spcB_ok (exx 8 rfl)).2, B_RatioD_negD, o_RatioD_negD⟩
    have o_RatioD_eqD : FnOk PySem.Challenge.rw_hingeworks_k00_ratios.prog w K mg base (L2.CX PySem.Challenge.rw_hingeworks_k00_ratios.prog w) 2 _ fd_RatioD_eqD ["self", "other"] (spEqR K (He.ga K "Ratio")) := ok_RatioD_eqD F_RatioD_eqD (z_isinstance := z_isinstance) (m_Ratio := m_Ratio) (g_is_integer := g_is_integer) (C_Ratio := (He.ga K "Ratio")) (R := R_Ratio)
    have g_RatioD_eqD : Ef PySem.Challenge.rw_hingeworks_k00_ratios.prog w K mg base (He.ga K "Ratio") 2 (spEqR K (He.ga K "Ratio")) := ⟨_, fd_RatioD_eqD, ["self", "other"], (HwH.spcB_ok (exx 9 rfl)).1, (HwH.spcB_ok (exx 9 rfl)).2, B_RatioD_eqD, o_RatioD_eqD⟩
    have o_Ratio_over : FnOk PySem.Challenge.rw_hingeworks_k00_ratios.prog w K mg base (L2.CX PySem.Challenge.rw_hingeworks_k00_ratios.prog w) 6 _ fd_Ratio_over ["self", "other"] (spOver (He.ga K "Ratio") (He.ga K "BadNumber")) := ok_Ratio_over F_Ratio_over (g_Ratio := g_Ratio) (g_as_ratio := g_as_ratio) (C_Ratio := (He.ga K "Ratio")) (C_BadNumber := (He.ga K "BadNumber")) (R := R_Ratio)
    have g_Ratio_over : Mf PySem.Challenge.rw_hingeworks_k00_ratios.prog w K mg base (He.ga K "Ratio") "over" 6 ["self", "other"] (spOver (He.ga K "Ratio") (He.ga K "BadNumber")) := ⟨cl_Ratio, _, fd_Ratio_over, He.meth_ok (cd.fact 33 (f := .meth "Ratio" "over") rfl), B_Ratio_over, o_Ratio_over⟩
    have o_Ratio_compared : FnOk PySem.Challenge.rw_hingeworks_k00_ratios.prog w K mg base (L2.CX PySem.Challenge.rw_hingeworks_k00_ratios.prog w) 6 _ fd_Ratio_compared ["self", "other"] (spCmp (He.ga K "Ratio") (fun q r => .int (HwM.cmp q r))) := ok_Ratio_compared F_Ratio_compared (g_as_ratio := g_as_ratio) (C_Ratio := (He.ga K "Ratio")) (R := R_Ratio)
    have g_Ratio_compared : Mf PySem.Challenge.rw_hingeworks_k00_ratios.prog w K mg base (He.ga K "Ratio") "compared" 6 ["self", "other"] (spCmp (He.ga K "Ratio") (fun q r => .int (HwM.cmp q r))) := ⟨cl_Ratio, _, fd_Ratio_compared, He.meth_ok (cd.fact 34 (f := .meth "Ratio" "compared") rfl), B_Ratio_compared, o_Ratio_compared⟩
    have o_Ratio_under : FnOk PySem.Challenge.rw_hingeworks_k00_ratios.prog w K mg base (L2.CX PySem.Challenge.rw_hingeworks_k00_ratios.prog w) 7 _ fd_Ratio_under ["self", "other"] (spCmp (He.ga K "Ratio") (fun q r => .bl (decide (q < r)))) := ok_Ratio_under F_Ratio_under (g_Ratio_compared := g_Ratio_compared) (C_Ratio := (He.ga K "Ratio")) (R := R_Ratio)
    have g_Ratio_under : Mf PySem.Challenge.rw_hingeworks_k00_ratios.prog w K mg base (He.ga K "Ratio") "under" 7 ["self", "other"] (spCmp (He.ga K "Ratio") (fun q r => .bl (decide (q < r)))) := ⟨cl_Ratio, _, fd_Ratio_under, He.meth_ok (cd.fact 35 (f := .meth "Ratio" "under") rfl), B_Ratio_under, o_Ratio_under⟩
    have o_Ratio_at_most : FnOk PySem.Challenge.rw_hingeworks_k00_ratios.prog w K mg base (L2.CX PySem.Challenge.rw_hingeworks_k00_ratios.prog w) 7 _ fd_Ratio_at_most ["self", "other"] (spCmp (He.ga K "Ratio") (fun q r => .bl (decide (q ≤ r)))) := ok_Ratio_at_most F_Ratio_at_most (g_Ratio_compared := g_Ratio_compared) (C_Ratio := (He.ga K "Ratio")) (R := R_Ratio)
    have g_Ratio_at_most : Mf PySem.Challenge.rw_hingeworks_k00_ratios.prog w K mg base (He.ga K "Ratio") "at_most" 7 ["self", "other"] (spCmp (He.ga K "Ratio") (fun q r => .bl (decide (q ≤ r)))) := ⟨cl_Ratio, _, fd_Ratio_at_most, He.meth_ok (cd.fact 36 (f := .meth "Ratio" "at_most") rfl), B_Ratio_at_most, o_Ratio_at_most⟩
    have o_L_gcd : FnOk PySem.Challenge.rw_hingeworks_k00_ratios.prog w K mg base (L2.CX PySem.Challenge.rw_hingeworks_k00_ratios.prog w) 1 _ fd_L_gcd ["_law_one", "_law_two"] (spGcd) := ok_L_gcd F_L_gcd (z_range := z_range) (z_int := z_int) (z_abs := z_abs)
    have g_L_gcd : Gf PySem.Challenge.rw_hingeworks_k00_ratios.prog w K mg base "_law_gcd" 1 ["_law_one", "_law_two"] (spGcd) := ⟨_, fd_L_gcd, m__law_gcd, F_L_gcd.kp, B_L_gcd, o_L_gcd⟩
    have o_L_q : FnOk PySem.Challenge.rw_hingeworks_k00_ratios.prog w K mg base (L2.CX PySem.Challenge.rw_hingeworks_k00_ratios.prog w) 2 _ fd_L_q ["_law_top", "_law_bottom"] (spQ) := ok_L_q F_L_q (g_L_gcd := g_L_gcd)
    have g_L_q : Gf PySem.Challenge.rw_hingeworks_k00_ratios.prog w K mg base "_law_q" 2 ["_law_top", "_law_bottom"] (spQ) := ⟨_, fd_L_q, m__law_q, F_L_q.kp, B_L_q, o_L_q⟩
    have o_L_plus : FnOk PySem.Challenge.rw_hingeworks_k00_ratios.prog w K mg base (L2.CX PySem.Challenge.rw_hingeworks_k00_ratios.prog w) 3 _ fd_L_plus ["_law_one", "_law_two"] (spQ2 (fun q r => q + r)) := ok_L_plus F_L_plus (g_L_q := g_L_q)
    have g_L_plus : Gf PySem.Challenge.rw_hingeworks_k00_ratios.prog w K mg base "_law_plus" 3 ["_law_one", "_law_two"] (spQ2 (fun q r => q + r)) := ⟨_, fd_L_plus, m__law_plus, F_L_plus.kp, B_L_plus, o_L_plus⟩
    have o_L_minus : FnOk PySem.Challenge.rw_hingeworks_k00_ratios.prog w K mg base (L2.CX PySem.Challenge.rw_hingeworks_k00_ratios.prog w) 3 _ fd_L_minus ["_law_one", "_law_two"] (spQ2 (fun q r => q - r)) := ok_L_minus F_L_minus (g_L_q := g_L_q)
    have g_L_minus : Gf PySem.Challenge.rw_hingeworks_k00_ratios.prog w K mg base "_law_minus" 3 ["_law_one", "_law_two"] (spQ2 (fun q r => q - r)) := ⟨_, fd_L_minus, m__law_minus, F_L_minus.kp, B_L_minus, o_L_minus⟩
    have o_L_times : FnOk PySem.Challenge.rw_hingeworks_k00_ratios.prog w K mg base (L2.CX PySem.Challenge.rw_hingeworks_k00_ratios.prog w) 3 _ fd_L_times ["_law_one", "_law_two"] (spQ2 (fun q r => q * r)) := ok_L_times F_L_times (g_L_q := g_L_q)
    have g_L_times : Gf PySem.Challenge.rw_hingeworks_k00_ratios.prog w K mg base "_law_times" 3 ["_law_one", "_law_two"] (spQ2 (fun q r => q * r)) := ⟨_, fd_L_times, m__law_times, F_L_times.kp, B_L_times, o_L_times⟩
    have o_L_sign : FnOk PySem.Challenge.rw_hingeworks_k00_ratios.prog w K mg base (L2.CX PySem.Challenge.rw_hingeworks_k00_ratios.prog w) 1 _ fd_L_sign ["_law_one"] (fun vs H Q _ => ∃ (a : Addr) (q : Rat), vs = [.ref a] ∧ H a = some (.tup (qv q)) ∧ Q (.int (HwM.cmp q 0)) H) := ok_L_sign F_L_sign (z_int := z_int)
    have g_L_sign : Gf PySem.Challenge.rw_hingeworks_k00_ratios.prog w K mg base "_law_sign" 1 ["_law_one"] (fun vs H Q _ => ∃ (a : Addr) (q : Rat), vs = [.ref a] ∧ H a = some (.tup (qv q)) ∧ Q (.int (HwM.cmp q 0)) H) := ⟨_, fd_L_sign, m__law_sign, F_L_sign.kp, B_L_sign, o_L_sign⟩
    have o_L_is_ratio : FnOk PySem.Challenge.rw_hingeworks_k00_ratios.prog w K mg base (L2.CX PySem.Challenge.rw_hingeworks_k00_ratios.prog w) 1 _ fd_L_is_ratio ["_law_value", "_law_due"] (spIsR (He.ga K "Ratio")) := ok_L_is_ratio F_L_is_ratio (z_isinstance := z_isinstance) (z_bool := z_bool) (z_int := z_int) (m_Ratio := m_Ratio) (C_Ratio := (He.ga K "Ratio")) (R := R_Ratio)
    have g_L_is_ratio : Gf PySem.Challenge.rw_hingeworks_k00_ratios.prog w K mg base "_law_is_ratio" 1 ["_law_value", "_law_due"] (spIsR (He.ga K "Ratio")) := ⟨_, fd_L_is_ratio, m__law_is_ratio, F_L_is_ratio.kp, B_L_is_ratio, o_L_is_ratio⟩
    have o_L_integer : FnOk PySem.Challenge.rw_hingeworks_k00_ratios.prog w K mg base (L2.CX PySem.Challenge.rw_hingeworks_k00_ratios.prog w) 2 _ fd_L_integer ["_law_pen_here"] (spInteger) := ok_L_integer F_L_integer (g_L_draw := g_L_draw)
    have g_L_integer : Gf PySem.Challenge.rw_hingeworks_k00_ratios.prog w K mg base "_law_integer" 2 ["_law_pen_here"] (spInteger) := ⟨_, fd_L_integer, m__law_integer, F_L_integer.kp, B_L_integer, o_L_integer⟩
    have o_L_made : FnOk PySem.Challenge.rw_hingeworks_k00_ratios.prog w K mg base (L2.CX PySem.Challenge.rw_hingeworks_k00_ratios.prog w) 5 _ fd_L_made ["_law_pen_here", "_law_pair"] (spMade (He.ga K "Ratio")) := ok_L_made F_L_made (g_Ratio := g_Ratio) (g_L_draw := g_L_draw) (C_Ratio := (He.ga K "Ratio")) (C_BadNumber := (He.ga K "BadNumber"))
    have g_L_made : Gf PySem.Challenge.rw_hingeworks_k00_ratios.prog w K mg base "_law_made" 5 ["_law_pen_here", "_law_pair"] (spMade (He.ga K "Ratio")) := ⟨_, fd_L_made, m__law_made, F_L_made.kp, B_L_made, o_L_made⟩
    have o_L_is_order : FnOk PySem.Challenge.rw_hingeworks_k00_ratios.prog w K mg base (L2.CX PySem.Challenge.rw_hingeworks_k00_ratios.prog w) 8 _ fd_L_is_order ["_law_one", "_law_other", "_law_due"] (spOrder (He.ga K "Ratio")) := ok_L_is_order F_L_is_order (z_isinstance := z_isinstance) (z_bool := z_bool) (z_int := z_int) (g_RatioD_eqD := g_RatioD_eqD) (g_Ratio_at_most := g_Ratio_at_most) (g_Ratio_under := g_Ratio_under) (g_Ratio_compared := g_Ratio_compared) (C_Ratio := (He.ga K "Ratio")) (R := R_Ratio)
    have g_L_is_order : Gf PySem.Challenge.rw_hingeworks_k00_ratios.prog w K mg base "_law_is_order" 8 ["_law_one", "_law_other", "_law_due"] (spOrder (He.ga K "Ratio")) := ⟨_, fd_L_is_order, m__law_is_order, F_L_is_order.kp, B_L_is_order, o_L_is_order⟩
    have o_L_with_integer : FnOk PySem.Challenge.rw_hingeworks_k00_ratios.prog w K mg base (L2.CX PySem.Challenge.rw_hingeworks_k00_ratios.prog w) 9 _ fd_L_with_integer ["_law_one", "_law_pair", "_law_number"] (spWithInt (He.ga K "Ratio")) := ok_L_with_integer F_L_with_integer (g_L_is_order := g_L_is_order) (g_L_sign := g_L_sign) (g_L_minus := g_L_minus) (g_L_is_ratio := g_L_is_ratio) (g_L_q := g_L_q) (g_Ratio_over := g_Ratio_over) (g_L_times := g_L_times) (g_RatioD_mulD := g_RatioD_mulD) (g_RatioD_subD := g_RatioD_subD) (g_L_plus := g_L_plus) (g_RatioD_addD := g_RatioD_addD) (C_Ratio := (He.ga K "Ratio")) (C_BadNumber := (He.ga K "BadNumber")) (R := R_Ratio)
    have g_L_with_integer : Gf PySem.Challenge.rw_hingeworks_k00_ratios.prog w K mg base "_law_with_integer" 9 ["_law_one", "_law_pair", "_law_number"] (spWithInt (He.ga K "Ratio")) := ⟨_, fd_L_with_integer, m__law_with_integer, F_L_with_integer.kp, B_L_with_integer, o_L_with_integer⟩
    have o_law : FnOk PySem.Challenge.rw_hingeworks_k00_ratios.prog w K mg base (L2.CX PySem.Challenge.rw_hingeworks_k00_ratios.prog w) 10 _ fd_law ["_law_script"] (spLaw K (He.cT K ("law", none)).2) := ok_law F_law (z_range := z_range) (z_isinstance := z_isinstance) (z_bool := z_bool) (m_BadNumber := m_BadNumber) (g_L_is_ratio := g_L_is_ratio) (g_Ratio1 := g_Ratio1) (g_RatioD_eqD := g_RatioD_eqD) (g_Ratio := g_Ratio) (g_Ratio_over := g_Ratio_over) (g_L_with_integer := g_L_with_integer) (g_L_is_order := g_L_is_order) (g_L_sign := g_L_sign) (g_L_minus := g_L_minus) (g_L_q := g_L_q) (g_L_times := g_L_times) (g_RatioD_mulD := g_RatioD_mulD) (g_RatioD_subD := g_RatioD_subD) (g_L_plus := g_L_plus) (g_RatioD_addD := g_RatioD_addD) (g_RatioD_negD := g_RatioD_negD) (g_L_made := g_L_made) (g_L_draw := g_L_draw) (g_L_integer := g_L_integer) (g_L_pen := g_L_pen) (C_Ratio := (He.ga K "Ratio")) (C_BadNumber := (He.ga K "BadNumber")) (R := R_Ratio) (F_bot := F_L_bottom_named) (B_bot := B_L_bottom_named) (m_bot := m__law_bottom_named) (BX := BX_BadNumber) (TB := TB) (hcode := HwH.code_of (p := ("law", none)) F_law)
    exact o_law
abbrev RR0 : PySem.W.OpenRow := PySem.W.OpenLaw.row PySem.Challenge.rw_hingeworks_k00_ratios
abbrev hk : PySem.W.Hook := He.hookX 5 faL fnL [] tfL exL
def ob (s : PySem.W.SharedT) : He.AlX := He.obsX 5 faL fnL [] tfL exL (HandSHeadRun.getT s)
theorem ob_eq (s : PySem.W.SharedT) : ob s = hk.obs s.abs := He.obsX_eq (HandSHeadRun.getT_eq s)

end HwL
end

section
namespace HwL
open PySem PySem.Spec PyProof.Rows L2 LamX
variable {P : Program} {w : World} {K : PySem.W.Frag} {mg : Str → Option Value} {base : Heap}

def names : List PySem.Str := ["_wall", "__name__", "HingeError", "BadNumber", "Ratio", "is_integer", "is_ratio", "as_ratio", "_law_pen", "_law_draw", "_law_gcd", "_law_q", "_law_plus", "_law_minus", "_law_times", "_law_sign", "_law_is_ratio", "_law_integer", "_law_made", "_law_bottom_named", "_law_is_order", "_law_with_integer"]
theorem run (w : World) : HandSHeadRun.RunEqI RR0 (PySem.W.view RR0.prog [0, 25]) hk ob 6000 names w := by
  unfold HandSHeadRun.RunEqI
  kernel_rfl
end HwL
open PySem PySem.W PySem.Calls PyProof.Rows
theorem PySem.Challenge.cw_hingeworks_k00_ratios_holds : PySem.Challenge.rw_hingeworks_k00_ratios.Holds := by
  w_on; o_law
  refine HandSHeadRun.head_imp (r := HwL.RR0) (q := view HwL.RR0.prog [0, 25]) (H := HwL.hk) (ob := HwL.ob) (M := 6000) (loose := HwL.names) (d := HandSHeadRun.topDef HwL.RR0.prog 25) (kwd := []) HwL.ob_eq
    HwL.run (by kernel_rfl) (by kernel_rfl) (by kernel_rfl) (by rfl) (by first | assumption | decide +kernel) (by decide +kernel) ⟨rfl, rfl, rfl, rfl, rfl, by decide +kernel⟩ ?hw ?hc
  case hw => w_witness2
  case hc =>
    refine LamX.walk_ofTsE (l := PySem.Challenge.rw_hingeworks_k00_ratios) (n := 63) (k := 10) (x := "_law_script") (CX := fun w => L2.CX PySem.Challenge.rw_hingeworks_k00_ratios.prog w) rfl (by decide) (by kernel_rfl) ⟨rfl, by decide, by decide⟩ ?F (fun w H s e s' z => HwL.noCX z)
    intro w mg fa h Y G hmg0
    obtain ⟨K, KX, c⟩ := Y
    have hmg : mg ("law" : PySem.Str) = some (.ref fa) := by
      have e : (HandSHeadRun.topDef HwL.RR0.prog 25).name = ("law" : PySem.Str) := by kernel_rfl
      rw [← e]
      exact hmg0
    exact ⟨K, KX, HwL.facts KX G hmg c⟩
namespace HwL


end HwL
end

