import PyProof.Rows.All
import Wide.All
import OpenK.AllK
import Wide.FinOn
import HandS.Base
import HandS.Call
import HandS.List
import HandS.Comp
import HandS.Ends
import HandS.Dict
import HandS.Iter
import HandS.Words
import HandS.Wide
import HandS.WideBits
import HandS.IsInst
import HandS.WordsList
import HandS.WordsDict
import PySem.Challenge.RW_commonhouse_k01_measures_and_multiples
set_option Elab.async false
set_option linter.all false
set_option maxRecDepth 100000
set_option maxHeartbeats 4000000
namespace Cm
open PySem PySem.Spec PyProof.Rows L2
/-! ### defs by their names -/
/-- the def x of the text stands behind the top by its name -/
def Df (K : PySem.W.Frag) (mg : Str → Option Value) (x : Str) (st : Stmt) (ps : List Str) : Prop :=
  ∃ f fd, Fun K x x st f fd ∧ mg x = some (.ref f) ∧ Binds K fd ps []
theorem df_mk {K : PySem.W.Frag} {mg : Str → Option Value} {x : Str} {st : Stmt} {ps : List Str} {f : Addr} {oc : Value} {od an : Option Addr} {osl : Array (Option Value)} {kV doc pm cdv ct : Value} (hm : mg x = some (.ref f))
    (l : K.lookup f = some ⟨oc, od, .func (PySem.W.fnOf x x (defArgs st) (defBody st) (defScope st) .none kV doc pm an cdv ct), osl⟩) (c : PySem.W.codeIn K cdv x = true) (k : PySem.W.keepIn K (.ref f) = true)
    (h : ∀ (kV doc pm : Value) (an : Option Addr) (cdv ct : Value) (us : List Value), us.length = ps.length → bindArgs (PySem.W.fnOf x x (defArgs st) (defBody st) (defScope st) .none kV doc pm an cdv ct) ⟨us, []⟩ = pure (ps.zip us)) : Df K mg x st ps :=
  ⟨f, _, fun_mk l c k, hm, (fun_mk l c k).binds h⟩
/-- the def x keeps the promise sp -/
def Fn (P : Program) (w : World) (K : PySem.W.Frag) (mg : Str → Option Value) (base : Heap) (k : Nat) (x : Str) (ps : List Str) (sp : Sp) : Prop :=
  ∃ f fd, FnOk P w K mg base CX0 k f fd ps sp ∧ mg x = some (.ref f) ∧ PySem.W.keepIn K (.ref f) = true ∧ Binds K fd ps []
section
variable {P : Program} {w : World} {K : PySem.W.Frag} {mg : Str → Option Value} {base : Heap}
theorem Df.ok {x : Str} {st : Stmt} {ps N : List Str} {k : Nat} {sp : Sp} (D : Df K mg x st ps) (S : FnScope N ps (defScope st)) (len : ∀ vs H Q E, sp vs H Q E → vs.length = ps.length)
    (hbody : ∀ (f : Addr) (cdv : Value) (A : Around) (outer : List Env) (s : Shared) (H : Hp) (vs : List V) (Q : VK) (E : XK), Room k (A.deeper (envOfC x (defScope st) s.heap.objs.size f cdv)) → sp vs H Q E →
      ∃ t, PSs (cxOf CX0 P w K mg base N x (defScope st) f cdv A outer s H E).nox (defBody st) t ∧ t { nx := fun _ H' => Q .non H', rt := Q } (start N vs) H) : Fn P w K mg base (k + 1) x ps sp := by
  obtain ⟨f, fd, F, hm, hb⟩ := D
  exact ⟨f, fd, F.ok S len fun cdv A outer s H vs Q E hr h => hbody f cdv A outer s H vs Q E hr h, hm, F.kp, hb⟩
end
section
variable {X : Cx} {k : Nat} {x : Str} {ps : List Str} {sp : Sp} {e : Expr} {es : List Expr} {t : TA} {p pos : Pos}
theorem pe_fn (F : Fn X.prog X.w X.K X.mg X.base k x ps sp) (hr : Room k X.A) (hg : Gl X x) (ha : PA X (e :: es) t) (hdb : (x == ("__debug__" : Str)) = false := by decide)
    (he : starEach (e :: es) X.env = (false, eval e X.env) :: starEach es X.env := by rfl) (hpl : (backTo pos (starEach es X.env)).any (·.1) = false := by rfl) : PE X (.Call (.Name x p) (e :: es) [] pos) (tCall sp [] E0 t) := by
  obtain ⟨f, fd, F, hm, hk, hb⟩ := F
  exact pe_call F hr hg hm hk hb .nil pass0 ha hdb he hpl
theorem pe_fn0 (F : Fn X.prog X.w X.K X.mg X.base k x ps sp) (hr : Room k X.A) (hg : Gl X x) (hdb : (x == ("__debug__" : Str)) = false := by decide) : PE X (.Call (.Name x p) [] [] pos) (tCall sp [] E0 tNil) := by
  obtain ⟨f, fd, F, hm, hk, hb⟩ := F
  exact pe_call0 F hr hg hm hk hb .nil pass0 hdb
end
/-! ### promises by the number of arguments -/
def sp1 (R : V → Hp → VK → Prop) : Sp := fun vs H Q _ => ∃ a, vs = [a] ∧ R a H Q
def sp2 (R : V → V → Hp → VK → Prop) : Sp := fun vs H Q _ => ∃ a b, vs = [a, b] ∧ R a b H Q
def sp3 (R : V → V → V → Hp → VK → Prop) : Sp := fun vs H Q _ => ∃ a b c, vs = [a, b, c] ∧ R a b c H Q
def sp4 (R : V → V → V → V → Hp → VK → Prop) : Sp := fun vs H Q _ => ∃ a b c d, vs = [a, b, c, d] ∧ R a b c d H Q
theorem len1 {R : V → Hp → VK → Prop} {x : Str} : ∀ vs H Q E, sp1 R vs H Q E → vs.length = [x].length := by
  rintro vs H Q E ⟨a, rfl, _⟩
  rfl
theorem len2 {R : V → V → Hp → VK → Prop} {x y : Str} : ∀ vs H Q E, sp2 R vs H Q E → vs.length = [x, y].length := by
  rintro vs H Q E ⟨a, b, rfl, _⟩
  rfl
theorem len3 {R : V → V → V → Hp → VK → Prop} {x y z : Str} : ∀ vs H Q E, sp3 R vs H Q E → vs.length = [x, y, z].length := by
  rintro vs H Q E ⟨a, b, c, rfl, _⟩
  rfl
theorem len4 {R : V → V → V → V → Hp → VK → Prop} {x y z u : Str} : ∀ vs H Q E, sp4 R vs H Q E → vs.length = [x, y, z, u].length := by
  rintro vs H Q E ⟨a, b, c, d, rfl, _⟩
  rfl
/-! ### heaps -/
/-- all but the object at d is kept -/
def But (d : Addr) (H H' : Hp) : Prop := ∀ b o, b ≠ d → H b = some o → H' b = some o
theorem But.refl (d : Addr) (H : Hp) : But d H H := fun _ _ _ h => h
theorem But.trans {d : Addr} {H H1 H2 : Hp} (a : But d H H1) (b : But d H1 H2) : But d H H2 := fun c o n h => b c o n (a c o n h)
theorem But.upd {d : Addr} {H : Hp} {o : HO} : But d H (L2.upd H d o) := fun b u n h => by
  rw [upd_ne n]
  exact h
theorem But.new {d p : Addr} {H : Hp} {o : HO} (n : H p = none) : But d H (L2.upd H p o) := fun b u _ h => by
  rw [upd_ne (ne_of_none h n)]
  exact h
theorem But.same {d : Addr} {H H1 : Hp} (a : Same H H1) : But d H H1 := fun b o _ h => a b o h
theorem same_new {H : Hp} {p : Addr} {o : HO} (h : H p = none) : Same H (L2.upd H p o) := fun b x e => by
  rw [upd_ne (ne_of_none e h)]
  exact e
theorem sqt_of_same {K : PySem.W.Frag} {H H' : Hp} {a : Addr} {xs : List V} (e : Same H H') (h : SqT K H a xs) : SqT K H' a xs := by
  rcases h with (h | ⟨o, h⟩) | h
  · exact .inl (.inl (e _ _ h))
  · exact .inl (.inr ⟨o, e _ _ h⟩)
  · exact .inr h
/-- abs -/
theorem abs_eq (i : Int) : (if i < 0 then -i else i) = (i.natAbs : Int) := by
  split <;> omega
theorem qNS {c : Prop} [Decidable c] (hc : c) {Q : Bool → Hp → Prop} {H : Hp} (q : Q false H) : Q (!decide c) H := by
  rw [decide_eq_true hc]
  exact q
theorem qN {c : Prop} [Decidable c] (hc : ¬ c) {Q : Bool → Hp → Prop} {H : Hp} (q : Q false H) : Q (decide c) H := by
  rw [decide_eq_false hc]
  exact q
theorem qS {c : Prop} [Decidable c] (hc : c) {Q : VK} {H : Hp} (q : Q (.bl true) H) : Q (.bl (decide c)) H := by
  rw [decide_eq_true hc]
  exact q
theorem iteN {c A B : Prop} [Decidable c] (hc : ¬ c) (h : B) : if decide c = true then A else B := by
  rw [decide_eq_false hc]
  exact iteF h
theorem iteS {c A B : Prop} [Decidable c] (hc : c) (h : A) : if decide c = true then A else B := by
  rw [decide_eq_true hc]
  exact iteT h
/-! ### an if that is not taken -/
theorem if_no {c : TT} {t r : TS} {D : Ends} {σ : L2.St} {H : Hp} (R : Hp → Prop) (h : ∀ Q : Bool → Hp → Prop, (∀ H', R H' → Q false H') → c σ H Q) (k : ∀ H', R H' → r D σ H') : tSeq (tIfS c t tNext) r D σ H := by
  show c σ H _
  exact h _ fun H' q => iteF (k H' q)
/-- the last if of a block that is not taken -/
theorem if_no1 {c : TT} {t : TS} {D : Ends} {σ : L2.St} {H : Hp} (R : Hp → Prop) (h : ∀ Q : Bool → Hp → Prop, (∀ H', R H' → Q false H') → c σ H Q) (k : ∀ H', R H' → D.nx σ H') : tIfS c t tNext D σ H := by
  show c σ H _
  exact h _ fun H' q => iteF (k H' q)
theorem or_no {t u : TT} {σ : L2.St} {H : Hp} {Q : Bool → Hp → Prop} (R : Hp → Prop) (h : ∀ Q : Bool → Hp → Prop, (∀ H', R H' → Q false H') → t σ H Q) (k : ∀ H', R H' → u σ H' Q) : tOr t u σ H Q := by
  show t σ H _
  exact h _ fun H' q => iteF (k H' q)
end Cm

set_option Elab.async false
set_option linter.all false
set_option maxRecDepth 100000
set_option maxHeartbeats 4000000
namespace Cm
open PySem PySem.Spec PyProof.Rows L2
/-! ### the drawing dict: cells, at, left -/
def penD (a : Addr) (n m : Int) : List (Key × V) := [(Sum.inr "cells", .ref a), (Sum.inr "at", .int n), (Sum.inr "left", .int m)]
theorem kca : ¬ ((Sum.inr ("cells" : Str) : Key) = Sum.inr ("at" : Str)) := by decide +kernel
theorem kcl : ¬ ((Sum.inr ("cells" : Str) : Key) = Sum.inr ("left" : Str)) := by decide +kernel
theorem kal : ¬ ((Sum.inr ("at" : Str) : Key) = Sum.inr ("left" : Str)) := by decide +kernel
theorem kla : ¬ ((Sum.inr ("left" : Str) : Key) = Sum.inr ("at" : Str)) := by decide +kernel
theorem val_cells (a : Addr) (n m : Int) : valV (penD a n m) (Sum.inr "cells" : Key) = some (.ref a) := valV_pos rfl
theorem val_at (a : Addr) (n m : Int) : valV (penD a n m) (Sum.inr "at" : Key) = some (.int n) := (valV_neg kca).trans (valV_pos rfl)
theorem val_left (a : Addr) (n m : Int) : valV (penD a n m) (Sum.inr "left" : Key) = some (.int m) := (valV_neg kcl).trans ((valV_neg kal).trans (valV_pos rfl))
theorem put_at (a : Addr) (n m z : Int) : putK (penD a n m) (Sum.inr "at" : Key) (.int z) = penD a z m := by
  unfold putK
  rw [valV_any, val_at, if_pos (show (some (V.int n)).isSome = true from rfl)]
  unfold penD
  simp only [List.map_cons, List.map_nil, if_neg kca, if_neg kla, if_true]
theorem put_left (a : Addr) (n m z : Int) : putK (penD a n m) (Sum.inr "left" : Key) (.int z) = penD a n z := by
  unfold putK
  rw [valV_any, val_left, if_pos (show (some (V.int m)).isSome = true from rfl)]
  unfold penD
  simp only [List.map_cons, List.map_nil, if_neg kcl, if_neg kal, if_true]
section
variable {K : PySem.W.Frag} {H H' : Hp} {d a : Addr} {n m : Int}
theorem dg_cells (h : H d = some (.dK (penD a n m))) : DGet H d (.str "cells") (some (.ref a)) := by
  have q := DGet.k (k := (Sum.inr "cells" : Key)) h
  rw [val_cells] at q
  exact q
theorem dg_at (h : H d = some (.dK (penD a n m))) : DGet H d (.str "at") (some (.int n)) := by
  have q := DGet.k (k := (Sum.inr "at" : Key)) h
  rw [val_at] at q
  exact q
theorem dg_left (h : H d = some (.dK (penD a n m))) : DGet H d (.str "left") (some (.int m)) := by
  have q := DGet.k (k := (Sum.inr "left" : Key)) h
  rw [val_left] at q
  exact q
theorem dp_at {z : Int} (h : H d = some (.dK (penD a n m))) : DPut H d (.str "at") (.int z) (upd H d (.dK (penD a z m))) := by
  have q := DPut.k (k := (Sum.inr "at" : Key)) (v := .int z) h (small1000 (by unfold penD; simp))
  rw [put_at] at q
  exact q
theorem dp_left {z : Int} (h : H d = some (.dK (penD a n m))) : DPut H d (.str "left") (.int z) (upd H d (.dK (penD a n z))) := by
  have q := DPut.k (k := (Sum.inr "left" : Key)) (v := .int z) h (small1000 (by unfold penD; simp))
  rw [put_left] at q
  exact q
/-- a list that is read stays where a dict alone may change -/
theorem sq_but {xs : List V} {kvs : List (Key × V)} (b : But d H H') (hd : H d = some (.dK kvs)) (h : SqL K H a xs) : SqL K H' a xs := by
  rcases h with (h | ⟨o, h⟩) | h
  · exact .inl (.inl (b _ _ (ne_of h hd (by intro z; cases z)) h))
  · exact .inl (.inr ⟨o, b _ _ (ne_of h hd (by intro z; cases z)) h⟩)
  · exact .inr h
end
/-- a pen at d over the cells ns at a, drawn from at most c times -/
structure Pen (K : PySem.W.Frag) (H : Hp) (d a : Addr) (ns : List Int) (c : Int) : Prop where
  sq : SqL K H a (ns.map V.int)
  dc : ∃ n m : Int, H d = some (.dK (penD a n m)) ∧ 0 ≤ n ∧ n ≤ c ∧ 0 ≤ m
theorem Pen.mono {K : PySem.W.Frag} {H : Hp} {d a : Addr} {ns : List Int} {c c' : Int} (p : Pen K H d a ns c) (h : c ≤ c') : Pen K H d a ns c' := by
  obtain ⟨s, n, m, e, h0, h1, h2⟩ := p
  exact ⟨s, n, m, e, h0, by omega, h2⟩
theorem Pen.same {K : PySem.W.Frag} {H H' : Hp} {d a : Addr} {ns : List Int} {c : Int} (p : Pen K H d a ns c) (h : Same H H') : Pen K H' d a ns c := by
  obtain ⟨s, n, m, e, h0, h1, h2⟩ := p
  exact ⟨h.seq s, n, m, h _ _ e, h0, h1, h2⟩
/-- draw's promise -/
def rDraw (K : PySem.W.Frag) : V → V → Hp → VK → Prop := fun p q H Q => ∃ (d a : Addr) (ns : List Int) (c many : Int), p = .ref d ∧ q = .int many ∧ Pen K H d a ns c ∧ 0 < many ∧ many < 1073741824 ∧ c ≤ 1000000 ∧
  ∀ r H', 0 ≤ r → r < many → Pen K H' d a ns (c + 1) → But d H H' → Q (.int r) H'
theorem cell_at {ns : List Int} {i : Int} (h0 : 0 ≤ i) (h1 : i < ((ns.map V.int).length : Int)) : ∃ z, atI (ns.map V.int) i = some (.int z) := by
  rw [List.length_map] at h1
  have hj : i.toNat < ns.length := by omega
  refine ⟨ns[i.toNat], ?_⟩
  have e : ((i.toNat : Nat) : Int) = i := by omega
  have q : atI (ns.map V.int) ((i.toNat : Nat) : Int) = some (.int ns[i.toNat]) := atI_nat (by rw [List.getElem?_map, List.getElem?_eq_getElem hj]; rfl)
  rw [e] at q
  exact q
theorem pos_of {b : Int} {p : Int} (h : decide (p < b) = true) : p < b := of_decide_eq_true h
theorem npos_of {b : Int} {p : Int} (h : ¬ decide (p < b) = true) : b ≤ p := by
  have := of_decide_eq_false (Bool.eq_false_iff.mpr h)
  omega
theorem eq_yes {i j : Int} (e : decide (V.int i = V.int j) = true) : i = j := V.int.inj (of_decide_eq_true e)
theorem eq_no {i j : Int} (e : ¬ decide (V.int i = V.int j) = true) : i ≠ j := fun z => e (by rw [z]; exact decide_eq_true rfl)
theorem ne_yes {i j : Int} (e : (!decide (V.int i = V.int j)) = true) : i ≠ j := fun z => by
  rw [z, decide_eq_true rfl] at e
  exact Bool.noConfusion e
theorem ne_no {i j : Int} (e : ¬ (!decide (V.int i = V.int j)) = true) : i = j := by
  by_cases h : i = j
  · exact h
  · exact absurd (by rw [decide_eq_false fun z => h (V.int.inj z)]; rfl) e
end Cm

set_option linter.all false
namespace K01
theorem fmod_abs_lt (a b : Int) (h : b ≠ 0) : (a.fmod b).natAbs < b.natAbs := by
  have h1 := Int.emod_nonneg a h
  have h2 : a % b < (b.natAbs : Int) := Int.emod_lt a h
  have h3 : ¬ b ∣ a → a % b ≠ 0 := fun n z => n (Int.dvd_of_emod_eq_zero z)
  rw [Int.fmod_eq_emod]
  split
  · omega
  · rename_i c
    have c1 : ¬ 0 ≤ b := fun z => c (.inl z)
    have c2 := h3 fun z => c (.inr z)
    omega
theorem gcd_fmod (a b : Int) : Int.gcd b (a.fmod b) = Int.gcd a b := by
  have e := Int.fmod_add_mul_fdiv a b
  have h : Int.gcd b (a.fmod b + b * a.fdiv b) = Int.gcd b (a.fmod b) := by
    rw [Int.gcd_add_mul_left_right]
  rw [← h, e, Int.gcd_comm]
/-- what holds between two turns of both's loop, A and B the numbers without their signs -/
structure Bo (A B m r x l : Int) : Prop where
  a0 : 0 ≤ A
  m0 : 0 ≤ m
  r0 : 0 ≤ r
  em : ∃ y, m = x * A + y * B
  er : ∃ z, r = l * A + z * B
  g : Int.gcd m r = Int.gcd A B
  bd : (l.natAbs : Int) * m + (x.natAbs : Int) * r ≤ B
  bx : (x.natAbs : Int) ≤ B + 1
  bl : (l.natAbs : Int) ≤ B + 1
  mA : m ≤ A + B
  rB : r ≤ B
theorem bo_start {A B : Int} (hA : 0 ≤ A) (hB : 0 ≤ B) : Bo A B A B 1 0 :=
  ⟨hA, hA, hB, ⟨0, by grind⟩, ⟨1, by grind⟩, rfl, by simp, by simp; omega, by simp; omega, by omega, by omega⟩
theorem abs_step (x q l : Int) (hq : 0 ≤ q) : ((x - q * l).natAbs : Int) ≤ x.natAbs + q * l.natAbs := by
  have h1 : ((q * l).natAbs : Int) = q * l.natAbs := by
    rw [Int.natAbs_mul, Int.natCast_mul, Int.natAbs_of_nonneg hq]
  rw [← h1]
  generalize q * l = p
  omega
theorem bo_step {A B m r x l : Int} (h : Bo A B m r x l) (hr : r ≠ 0) : Bo A B r (m % r) l (x - m / r * l) := by
  obtain ⟨a0, m0, r0, ⟨y, em⟩, ⟨z, er⟩, g, bd, bx, bl, mA, rB⟩ := h
  have rp : 0 < r := by omega
  have e1 := Int.mul_ediv_add_emod m r
  have q0 : 0 ≤ m / r := Int.ediv_nonneg m0 r0
  have n0 := Int.emod_nonneg m hr
  have n1 := Int.emod_lt_of_pos m rp
  have ab := abs_step x (m / r) l q0
  generalize m / r = q at *
  have eg : Int.gcd r (m % r) = Int.gcd m r := by
    rw [Int.gcd_comm m r, ← e1, Int.gcd_mul_left_add_right]
    rw [e1]
  generalize m % r = n at *
  obtain ⟨L, hL⟩ : ∃ L, (x - q * l).natAbs = L := ⟨_, rfl⟩
  rw [hL] at ab
  have key : (L : Int) * r + (l.natAbs : Int) * n ≤ B := by
    have t : (L : Int) * r ≤ ((x.natAbs : Int) + q * l.natAbs) * r := Int.mul_le_mul_of_nonneg_right ab r0
    have t2 : ((x.natAbs : Int) + q * l.natAbs) * r + (l.natAbs : Int) * n = (l.natAbs : Int) * m + (x.natAbs : Int) * r := by
      rw [← e1]
      generalize (x.natAbs : Int) = X
      generalize (l.natAbs : Int) = M
      grind
    omega
  have L0 : (0 : Int) ≤ (L : Int) := Int.natCast_nonneg _
  have key2 : (L : Int) ≤ B := by
    have t : (L : Int) * 1 ≤ (L : Int) * r := Int.mul_le_mul_of_nonneg_left (by omega) L0
    have t2 : (0 : Int) ≤ (l.natAbs : Int) * n := Int.mul_nonneg (Int.natCast_nonneg _) n0
    omega
  exact ⟨a0, r0, n0, ⟨z, er⟩, ⟨y - q * z, by grind⟩, eg.trans g, by rw [hL]; exact key, bl, by rw [hL]; omega, by omega, by omega⟩
theorem bo_end {a b m x l : Int} (h : Bo (a.natAbs : Int) (b.natAbs : Int) m 0 x l) : m = (Int.gcd a b : Int) ∧
    (if a < 0 then -x else x) * a + (if b = 0 then 0 else (m - (if a < 0 then -x else x) * a).fdiv b) * b = m := by
  obtain ⟨a0, m0, r0, ⟨y, em⟩, ⟨z, er⟩, g, bd, bx, bl, mA, rB⟩ := h
  have e1 : m = (Int.gcd a b : Int) := by
    have g2 : Int.gcd (a.natAbs : Int) (b.natAbs : Int) = Int.gcd a b := by simp [Int.gcd]
    rw [Int.gcd_zero_right, g2] at g
    omega
  refine ⟨e1, ?_⟩
  have e2 : (if a < 0 then -x else x) * a = x * (a.natAbs : Int) := by
    split
    · have : (a.natAbs : Int) = -a := by omega
      rw [this]
      grind
    · have : (a.natAbs : Int) = a := by omega
      rw [this]
  rw [e2]
  split
  · rename_i hb
    subst hb
    simp at em
    omega
  · rename_i hb
    have e3 : m - x * (a.natAbs : Int) = y * (b.natAbs : Int) := by omega
    rw [e3]
    have e4 : ∃ k, y * (b.natAbs : Int) = b * k := by
      by_cases hs : b < 0
      · exact ⟨-y, by have : (b.natAbs : Int) = -b := by omega
                      rw [this]; grind⟩
      · exact ⟨y, by have : (b.natAbs : Int) = b := by omega
                     rw [this]; grind⟩
    obtain ⟨k, hk⟩ := e4
    rw [hk, Int.mul_fdiv_cancel_left _ hb]
    grind
theorem bo_bounds {a b m x l : Int} (h : Bo (a.natAbs : Int) (b.natAbs : Int) m 0 x l) (ha : a.natAbs < 2 ^ 200) (hb : b.natAbs < 2 ^ 200) (x2 y2 : Int) (hx : x2 = if a < 0 then -x else x) (he : b ≠ 0 → y2 * b = m - x2 * a) (h0 : b = 0 → y2 = 0) :
    x2.natAbs < 2 ^ 202 ∧ y2.natAbs < 2 ^ 410 := by
  obtain ⟨a0, m0, r0, _, _, g, bd, bx, bl, mA, rB⟩ := h
  have hx2 : x2.natAbs = x.natAbs := by
    rw [hx]
    split <;> omega
  have e202 : (2 : Nat) ^ 202 = 4 * 2 ^ 200 := by decide
  have q1 : x2.natAbs < 2 ^ 202 := by
    rw [e202]
    omega
  refine ⟨q1, ?_⟩
  by_cases hz : b = 0
  · rw [h0 hz]
    decide
  · have e1 := he hz
    have e2 : (y2 * b).natAbs = (m - x2 * a).natAbs := by rw [e1]
    rw [Int.natAbs_mul] at e2
    have e3 : (m - x2 * a).natAbs ≤ m.natAbs + (x2 * a).natAbs := by
      generalize x2 * a = t
      omega
    rw [Int.natAbs_mul] at e3
    have e4 : y2.natAbs * 1 ≤ y2.natAbs * b.natAbs := Nat.mul_le_mul_left _ (by omega)
    have e5 : x2.natAbs * a.natAbs ≤ 2 ^ 202 * 2 ^ 200 := Nat.mul_le_mul (Nat.le_of_lt q1) (Nat.le_of_lt ha)
    have e6 : (2 : Nat) ^ 202 * 2 ^ 200 + 2 ^ 202 < 2 ^ 410 := by decide
    have e7 : m.natAbs ≤ 2 ^ 202 := by
      rw [e202]
      omega
    generalize x2.natAbs * a.natAbs = u at *
    generalize y2.natAbs * b.natAbs = v at *
    omega
theorem lcm_law {i j : Int} : ((if i = 0 ∨ j = 0 then 0 else (i.natAbs : Int) / ((Int.gcd i j : Nat) : Int) * (j.natAbs : Int)) * ((Int.gcd i j : Nat) : Int)) = ((i * j).natAbs : Int) := by
  split
  · rename_i h
    rcases h with h | h
    · subst h
      simp
    · subst h
      simp
  · have h : ((Int.gcd i j : Nat) : Int) ∣ (i.natAbs : Int) := Int.natCast_dvd_natCast.mpr (Nat.gcd_dvd_left _ _)
    have e := Int.ediv_mul_cancel h
    rw [Int.natAbs_mul, Int.natCast_mul]
    generalize (i.natAbs : Int) / ((Int.gcd i j : Nat) : Int) = q at *
    rw [← e]
    grind
end K01

set_option Elab.async false
set_option linter.all false
set_option maxRecDepth 100000
set_option maxHeartbeats 4000000
namespace K01
open PySem PySem.Spec PyProof.Rows L2 Cm
def topS (i : Nat) : Stmt := PySem.Challenge.pw_commonhouse_k01_measures_and_multiples.main.body.getD i (.Pass ⟨0, 0, 0, 0⟩)
abbrev s_common_measure : Stmt := topS 1
abbrev N_common_measure : List Str := ["a", "b"]
theorem sc_common_measure : FnScope N_common_measure ["a", "b"] (defScope s_common_measure) := ⟨rfl, rfl, rfl, by decide +kernel, rfl, by decide +kernel, by decide +kernel⟩
abbrev s_common_multiple : Stmt := topS 2
abbrev N_common_multiple : List Str := ["a", "b"]
theorem sc_common_multiple : FnScope N_common_multiple ["a", "b"] (defScope s_common_multiple) := ⟨rfl, rfl, rfl, by decide +kernel, rfl, by decide +kernel, by decide +kernel⟩
abbrev s_both : Stmt := topS 3
abbrev N_both : List Str := ["a", "b", "measure", "rest", "x", "later", "many", "left", "y"]
theorem sc_both : FnScope N_both ["a", "b"] (defScope s_both) := ⟨rfl, rfl, rfl, by decide +kernel, rfl, by decide +kernel, by decide +kernel⟩
abbrev s_law_pen : Stmt := topS 5
abbrev N_law_pen : List Str := ["_law_script"]
theorem sc_law_pen : FnScope N_law_pen ["_law_script"] (defScope s_law_pen) := ⟨rfl, rfl, rfl, by decide +kernel, rfl, by decide +kernel, by decide +kernel⟩
abbrev s_law_draw : Stmt := topS 6
abbrev N_law_draw : List Str := ["_law_pen_here", "_law_many", "_law_drawn", "_law_at", "_law_cell", "_law_number"]
theorem sc_law_draw : FnScope N_law_draw ["_law_pen_here", "_law_many"] (defScope s_law_draw) := ⟨rfl, rfl, rfl, by decide +kernel, rfl, by decide +kernel, by decide +kernel⟩
abbrev s_law_far : Stmt := topS 7
abbrev N_law_far : List Str := ["_law_pen_here", "_law_found", "_law_k"]
theorem sc_law_far : FnScope N_law_far ["_law_pen_here"] (defScope s_law_far) := ⟨rfl, rfl, rfl, by decide +kernel, rfl, by decide +kernel, by decide +kernel⟩
abbrev s_law_whole : Stmt := topS 8
abbrev N_law_whole : List Str := ["_law_thing"]
theorem sc_law_whole : FnScope N_law_whole ["_law_thing"] (defScope s_law_whole) := ⟨rfl, rfl, rfl, by decide +kernel, rfl, by decide +kernel, by decide +kernel⟩
abbrev s_law_small : Stmt := topS 9
abbrev N_law_small : List Str := ["_law_pen_here"]
theorem sc_law_small : FnScope N_law_small ["_law_pen_here"] (defScope s_law_small) := ⟨rfl, rfl, rfl, by decide +kernel, rfl, by decide +kernel, by decide +kernel⟩
abbrev s_law_pair : Stmt := topS 10
abbrev N_law_pair : List Str := ["_law_pen_here", "_law_way", "_law_sign", "_law_by", "_law_far_here", "_law_one"]
theorem sc_law_pair : FnScope N_law_pair ["_law_pen_here"] (defScope s_law_pair) := ⟨rfl, rfl, rfl, by decide +kernel, rfl, by decide +kernel, by decide +kernel⟩
abbrev s_law_right : Stmt := topS 11
abbrev N_law_right : List Str := ["_law_a", "_law_b", "_law_measure", "_law_told", "_law_multiple", "_law_one"]
theorem sc_law_right : FnScope N_law_right ["_law_a", "_law_b"] (defScope s_law_right) := ⟨rfl, rfl, rfl, by decide +kernel, rfl, by decide +kernel, by decide +kernel⟩
abbrev s_law : Stmt := topS 12
abbrev N_law : List Str := ["_law_script", "_law_pen_here", "_law_lap", "_law_a", "_law_b"]
theorem sc_law : FnScope N_law ["_law_script"] (defScope s_law) := ⟨rfl, rfl, rfl, by decide +kernel, rfl, by decide +kernel, by decide +kernel⟩
structure Txt (K : PySem.W.Frag) (mg : Str → Option Value) : Prop where
  d_common_measure : Df K mg "common_measure" s_common_measure ["a", "b"]
  d_common_multiple : Df K mg "common_multiple" s_common_multiple ["a", "b"]
  d_both : Df K mg "both" s_both ["a", "b"]
  d_law_pen : Df K mg "_law_pen" s_law_pen ["_law_script"]
  d_law_draw : Df K mg "_law_draw" s_law_draw ["_law_pen_here", "_law_many"]
  d_law_far : Df K mg "_law_far" s_law_far ["_law_pen_here"]
  d_law_whole : Df K mg "_law_whole" s_law_whole ["_law_thing"]
  d_law_small : Df K mg "_law_small" s_law_small ["_law_pen_here"]
  d_law_pair : Df K mg "_law_pair" s_law_pair ["_law_pen_here"]
  d_law_right : Df K mg "_law_right" s_law_right ["_law_a", "_law_b"]
  d_law : Df K mg "law" s_law ["_law_script"]
  n_abs : mg "abs" = none
  n_all : mg "all" = none
  n_bool : mg "bool" = none
  n_divmod : mg "divmod" = none
  n_int : mg "int" = none
  n_isinstance : mg "isinstance" = none
  n_len : mg "len" = none
  n_range : mg "range" = none
  n_tuple : mg "tuple" = none
/-- // by a divisor of either sign -/
theorem op_fdivX {X : Cx} : OpR X (binaryOp .FloorDiv) (rI (fun _ j => j ≠ 0 ∧ j.natAbs.log2 < 9000) fun i j => .int (i.fdiv j)) := opI fun _ _ _ _ _ _ _ hc q => floordiv_int hc.1 q (.inl (PyProof.noPylong_of_log2 hc.2))
section
variable {P : Program} {w : World} {K : PySem.W.Frag} {mg : Str → Option Value} {base : Heap}
/-! ### common_measure -/
def rCm : V → V → Hp → VK → Prop := fun x y H Q => ∃ i j : Int, x = .int i ∧ y = .int j ∧ Q (.int ((Int.gcd i j : Nat) : Int)) H
theorem ok_common_measure (T : Txt K mg) : Fn P w K mg base 1 "common_measure" ["a", "b"] (sp2 rCm) := by
  refine T.d_common_measure.ok sc_common_measure len2 fun f cdv A outer s H vs Q E hr h => ?_
  obtain ⟨_, _, rfl, i, j, rfl, rfl, q⟩ := h
  refine ⟨_, (pss_cons (ps_while PassesOwn.never (pt_cmpR op_ne (pv 1) pe_int (nomark _))
(pss_one (ps_par (i := 0) (j := 1) (by rfl) sc_common_measure.nd rfl rfl (by decide) rfl rfl (pa_cons (pv 1) (pa_cons (pe_op op_modN (pv 0) (pv 1)) pa_nil)) (by rfl))))
(pss_one (ps_ret (pe_callB call_abs (by rfl) T.n_abs (by decide +kernel) (pa_cons (pv 0) pa_nil))))), ?_⟩
  refine ⟨fun m σ H' => ∃ i' j' : Int, σ = [some (.int i'), some (.int j')] ∧ H' = H ∧ Int.gcd i' j' = Int.gcd i j ∧ m = j'.natAbs, ⟨_, i, j, rfl, rfl, rfl, rfl⟩, ?_⟩
  rintro m σ H' ⟨i', j', rfl, rfl, hg, rfl⟩
  refine ⟨_, rfl, rfl, _, rfl, ite2 (fun e => ?_) (fun e => ?_)⟩
  · have hj := ne_yes e
    refine ⟨fun σ' H'' => ∃ i2 j2 : Int, σ' = [some (.int i2), some (.int j2)] ∧ H'' = H' ∧ Int.gcd i2 j2 = Int.gcd i j ∧ j2.natAbs < j'.natAbs, ?_, ?_⟩
    · rintro σ' H'' ⟨i2, j2, rfl, rfl, h1, h2⟩
      exact ⟨_, h2, i2, j2, rfl, rfl, h1, rfl⟩
    · refine ⟨_, rfl, _, rfl, _, rfl, _, _, rfl, rfl, hj, _, _, rfl, j', i'.fmod j', rfl, rfl, ?_, fmod_abs_lt _ _ hj⟩
      rw [gcd_fmod, hg]
  · have hj := ne_no e
    subst hj
    refine ⟨_, rfl, i', rfl, ?_⟩
    have e1 : (if i' < 0 then -i' else i') = ((Int.gcd i j : Nat) : Int) := by
      rw [abs_eq, ← hg, Int.gcd_zero_right]
    rw [e1]
    exact q
/-! ### common_multiple -/
def cml (i j : Int) : Int := if i = 0 ∨ j = 0 then 0 else (i.natAbs : Int) / ((Int.gcd i j : Nat) : Int) * (j.natAbs : Int)
def rMl : V → V → Hp → VK → Prop := fun x y H Q => ∃ i j : Int, x = .int i ∧ y = .int j ∧ i.natAbs < 2 ^ 200 ∧ j.natAbs < 2 ^ 200 ∧ Q (.int (cml i j)) H
theorem gcd_small {i j : Int} (h : j ≠ 0) (hj : j.natAbs < 2 ^ 200) : (((Int.gcd i j : Nat) : Int)).natAbs < 2 ^ 200 := by
  have h1 : Int.gcd i j ≤ j.natAbs := Nat.le_of_dvd (by omega) (Nat.gcd_dvd_right _ _)
  omega
theorem gcd_pos {i j : Int} (h : j ≠ 0) : 0 < ((Int.gcd i j : Nat) : Int) := by
  have : 0 < Int.gcd i j := Nat.gcd_pos_of_pos_right _ (by omega)
  omega
theorem quo_small {i g : Int} (h0 : 0 ≤ i) (hg : 0 < g) {k : Nat} (h : i.natAbs < 2 ^ k) : (i / g).natAbs < 2 ^ k := by
  have h1 : i / g ≤ i := Int.ediv_le_self _ h0
  have h2 : 0 ≤ i / g := Int.ediv_nonneg h0 (Int.le_of_lt hg)
  exact Nat.lt_of_le_of_lt (by omega) h
theorem ok_common_multiple (T : Txt K mg) : Fn P w K mg base 2 "common_multiple" ["a", "b"] (sp2 rMl) := by
  have G_common_measure := ok_common_measure (P := P) (w := w) (base := base) T
  refine T.d_common_multiple.ok sc_common_multiple len2 fun f cdv A outer s H vs Q E hr h => ?_
  obtain ⟨_, _, rfl, i, j, rfl, rfl, hi, hj, q⟩ := h
  refine ⟨_, (pss_cons (ps_if (PW.pt (pw_or (pt_cmpR op_eq (pv 0) pe_int (nomark _)) (pw_or1 (pt_cmpR op_eq (pv 1) pe_int (nomark _)))))
(pss_one (ps_ret pe_int))
pss_nil)
(pss_one (ps_ret (pe_op op_mulW (pe_op op_fdivW (pe_callB call_abs (by rfl) T.n_abs (by decide +kernel) (pa_cons (pv 0) pa_nil)) (pe_fn G_common_measure (hr.mono (by decide)) (by rfl) (pa_cons (pv 0) (pa_cons (pv 1) pa_nil)))) (pe_callB call_abs (by rfl) T.n_abs (by decide +kernel) (pa_cons (pv 1) pa_nil)))))), ?_⟩
  refine ⟨_, rfl, rfl, _, rfl, ite2 (fun e => ?_) (fun e => ?_)⟩
  · have e1 : cml i j = 0 := if_pos (.inl (eq_yes e))
    refine iteT ?_
    rw [e1] at q
    exact q
  · refine ⟨_, rfl, rfl, _, rfl, ite2 (fun e' => ?_) (fun e' => ?_)⟩
    · have e1 : cml i j = 0 := if_pos (.inr (eq_yes e'))
      rw [e1] at q
      exact q
    · have h1 := eq_no e
      have h2 := eq_no e'
      have e1 : cml i j = (i.natAbs : Int) / ((Int.gcd i j : Nat) : Int) * (j.natAbs : Int) := if_neg (fun z => z.elim h1 h2)
      refine ⟨_, rfl, i, rfl, _, rfl, _, rfl, _, _, rfl, i, j, rfl, rfl, _, _, rfl, rfl, ?_, _, rfl, j, rfl, _, _, rfl, rfl, ?_, ?_⟩
      · exact wide_div (gcd_pos h2) (gcd_small h2 hj) (by decide) (by decide)
      · rw [abs_eq, abs_eq]
        exact wide_mul (a := 200) (b := 200) (quo_small (Int.natCast_nonneg _) (gcd_pos h2) (by simpa using hi)) (by simpa using hj) (by decide) (by decide) (by decide)
      · rw [abs_eq, abs_eq]
        rw [e1] at q
        exact q
/-! ### both -/
def rBo : V → V → Hp → VK → Prop := fun a b H Q => ∃ i j : Int, a = .int i ∧ b = .int j ∧ i.natAbs < 2 ^ 200 ∧ j.natAbs < 2 ^ 200 ∧
  ∀ (x y : Int) (p : Addr) (H' : Hp), x * i + y * j = ((Int.gcd i j : Nat) : Int) → x.natAbs < 2 ^ 202 → y.natAbs < 2 ^ 410 → Same H H' → H p = none → H' p = some (.tup [.int ((Int.gcd i j : Nat) : Int), .int x, .int y]) → Q (.ref p) H'
theorem ok_both (T : Txt K mg) : Fn P w K mg base 1 "both" ["a", "b"] (sp2 rBo) := by
  refine T.d_both.ok sc_both len2 fun f cdv A outer s H vs Q E hr h => ?_
  obtain ⟨_, _, rfl, i, j, rfl, rfl, hi, hj, q⟩ := h
  refine ⟨_, (pss_cons (ps_par (i := 2) (j := 3) (by rfl) sc_both.nd rfl rfl (by decide) rfl rfl (pa_cons (pe_callB call_abs (by rfl) T.n_abs (by decide +kernel) (pa_cons (pv 0) pa_nil)) (pa_cons (pe_callB call_abs (by rfl) T.n_abs (by decide +kernel) (pa_cons (pv 1) pa_nil)) pa_nil)) (by rfl))
(pss_cons (ps_asg (pe_tup (pa_cons pe_int (pa_cons pe_int pa_nil))) (pg_tup rfl (pgs_cons (pg_name (i := 4) sc_both.nd rfl (Or.inl rfl)) (pgs_cons (pg_name (i := 5) sc_both.nd rfl (Or.inl rfl)) pgs_nil))))
(pss_cons (ps_while PassesOwn.never (pt_cmpR op_ne (pv 3) pe_int (nomark _))
(pss_cons (ps_asg (pe_callB call_divmodW (by rfl) T.n_divmod (by decide +kernel) (pa_cons (pv 2) (pa_cons (pv 3) pa_nil))) (pg_tup rfl (pgs_cons (pg_name (i := 6) sc_both.nd rfl (Or.inl rfl)) (pgs_cons (pg_name (i := 7) sc_both.nd rfl (Or.inl rfl)) pgs_nil))))
(pss_cons (ps_par (i := 2) (j := 3) (by rfl) sc_both.nd rfl rfl (by decide) rfl rfl (pa_cons (pv 3) (pa_cons (pv 7) pa_nil)) (by rfl))
(pss_one (ps_par (i := 4) (j := 5) (by rfl) sc_both.nd rfl rfl (by decide) rfl rfl (pa_cons (pv 5) (pa_cons (pe_op op_sub (pv 4) (pe_op op_mulW (pv 6) (pv 5))) pa_nil)) (by rfl))))))
(pss_cons (ps_if (pt_cmpR op_lt (pv 0) pe_int (nomark _))
(pss_one (ps_set (i := 4) sc_both.nd rfl (Or.inl rfl) (pe_un un_neg (pv 4))))
pss_nil)
(pss_cons (ps_set (i := 8) sc_both.nd rfl (Or.inl rfl) (pe_ifExp (pt_cmpR op_eq (pv 1) pe_int (nomark _)) pe_int (pe_op op_fdivX (pe_op op_sub (pv 2) (pe_op op_mulW (pv 4) (pv 0))) (pv 1))))
(pss_one (ps_ret (pe_tup (pa_cons (pv 2) (pa_cons (pv 4) (pa_cons (pv 8) pa_nil))))))))))), ?_⟩
  refine ⟨_, rfl, i, rfl, _, rfl, j, rfl, _, _, rfl, ?_⟩
  refine ⟨(by show 2 ≤ sizeLine; decide), fun p0 hp0 => ?_⟩
  refine ⟨p0, _, rfl, SqT.of upd_same, rfl, _, _, rfl, _, _, rfl, rfl, ?_⟩
  refine ⟨fun k σ H' => ∃ (m r x l : Int) (o6 o7 : Option V), σ = [some (.int i), some (.int j), some (.int m), some (.int r), some (.int x), some (.int l), o6, o7, none] ∧ Same H H' ∧ Bo (i.natAbs : Int) (j.natAbs : Int) m r x l ∧ k = r.natAbs,
    ⟨_, _, _, 1, 0, none, none, rfl, same_new hp0, by rw [abs_eq, abs_eq]; exact bo_start (Int.natCast_nonneg _) (Int.natCast_nonneg _), rfl⟩, ?_⟩
  rintro k σ H' ⟨m, r, x, l, o6, o7, rfl, sm, B, rfl⟩
  have e201 : (2 : Nat) ^ 202 = 4 * 2 ^ 200 := by decide
  refine ⟨_, rfl, rfl, _, rfl, ite2 (fun e => ?_) (fun e => ?_)⟩
  · have hr0 := ne_yes e
    refine ⟨fun σ' H'' => ∃ (m' r' x' l' : Int) (o6' o7' : Option V), σ' = [some (.int i), some (.int j), some (.int m'), some (.int r'), some (.int x'), some (.int l'), o6', o7', none] ∧ Same H H'' ∧ Bo (i.natAbs : Int) (j.natAbs : Int) m' r' x' l' ∧ r'.natAbs < r.natAbs, ?_, ?_⟩
    · rintro σ' H'' ⟨m', r', x', l', o6', o7', rfl, h1, h2, h3⟩
      exact ⟨_, h3, m', r', x', l', o6', o7', rfl, h1, h2, rfl⟩
    · have rp : 0 < r := by
        have := B.r0
        omega
      have m0 := B.m0
      have mA := B.mA
      have bl := B.bl
      have hm : m.natAbs < 2 ^ 202 := by
        rw [e201]
        omega
      have hl : l.natAbs < 2 ^ 202 := by
        rw [e201]
        omega
      have hq : (m / r).natAbs < 2 ^ 202 := quo_small m0 rp hm
      have n0 := Int.emod_nonneg m hr0
      have n1 := Int.emod_lt_of_pos m rp
      refine ⟨_, rfl, _, rfl, m, r, rfl, divp_ok rp (Nat.le_trans (PyProof.Rows.intBits_le hm) (by omega)), fun p hp => ?_⟩
      refine ⟨p, _, rfl, SqT.of upd_same, rfl, _, _, rfl, _, _, rfl, rfl, ?_⟩
      refine ⟨_, rfl, _, rfl, _, _, rfl, ?_⟩
      refine ⟨_, rfl, _, rfl, _, rfl, _, rfl, _, _, rfl, rfl, wide_mul hq hl (by decide) (by decide) (by decide), _, _, rfl, rfl, _, _, rfl, ?_⟩
      exact ⟨r, m % r, l, x - m / r * l, _, _, rfl, sm.trans (same_new hp), bo_step B hr0, by omega⟩
  · have hr0 := ne_no e
    subst hr0
    obtain ⟨em, ee⟩ := bo_end B
    have mA := B.mA
    have m0 := B.m0
    have bx := B.bx
    have hx : x.natAbs < 2 ^ 202 := by
      rw [e201]
      omega
    have hxn : (-x).natAbs < 2 ^ 202 := by
      rw [Int.natAbs_neg]
      exact hx
    have hb := bo_bounds B hi hj
    subst em
    refine ⟨_, rfl, i, 0, rfl, rfl, _, rfl, ite2 (fun ei => ?_) (fun ei => ?_)⟩
    · have hi0 : i < 0 := of_decide_eq_true ei
      rw [if_pos hi0] at ee hb
      refine ⟨_, rfl, x, rfl, ?_⟩
      refine ⟨_, rfl, rfl, _, rfl, ite2 (fun ej => ?_) (fun ej => ?_)⟩
      · have hj0 := eq_yes ej
        rw [if_pos hj0] at ee
        have bd := hb _ 0 rfl (fun z => absurd hj0 z) (fun _ => rfl)
        refine ⟨_, rfl, _, rfl, _, rfl, (by show 3 ≤ sizeLine; decide), fun p hp => ?_⟩
        exact q _ _ p _ ee bd.1 bd.2 (sm.trans (same_new hp)) (sm.free hp) upd_same
      · have hj0 := eq_no ej
        rw [if_neg hj0] at ee
        refine ⟨_, rfl, _, rfl, _, rfl, _, _, rfl, rfl, wide_mul hxn hi (by decide) (by decide) (by decide), _, _, rfl, rfl, _, rfl, _, _, rfl, rfl, ⟨hj0, Nat.lt_of_lt_of_le (PySem.Flt.log2_lt_of (by decide) hj) (by decide)⟩, ?_⟩
        refine ⟨_, rfl, _, rfl, _, rfl, (by show 3 ≤ sizeLine; decide), fun p hp => ?_⟩
        have bd := hb _ ((((Int.gcd i j : Nat) : Int) - -x * i).fdiv j) rfl (fun _ => by omega) (fun z => absurd z hj0)
        exact q _ _ p _ ee bd.1 bd.2 (sm.trans (same_new hp)) (sm.free hp) upd_same
    · have hi0 : ¬ i < 0 := of_decide_eq_false (Bool.eq_false_iff.mpr ei)
      rw [if_neg hi0] at ee hb
      refine ⟨_, rfl, rfl, _, rfl, ite2 (fun ej => ?_) (fun ej => ?_)⟩
      · have hj0 := eq_yes ej
        rw [if_pos hj0] at ee
        have bd := hb _ 0 rfl (fun z => absurd hj0 z) (fun _ => rfl)
        refine ⟨_, rfl, _, rfl, _, rfl, (by show 3 ≤ sizeLine; decide), fun p hp => ?_⟩
        exact q _ _ p _ ee bd.1 bd.2 (sm.trans (same_new hp)) (sm.free hp) upd_same
      · have hj0 := eq_no ej
        rw [if_neg hj0] at ee
        refine ⟨_, rfl, _, rfl, _, rfl, _, _, rfl, rfl, wide_mul hx hi (by decide) (by decide) (by decide), _, _, rfl, rfl, _, rfl, _, _, rfl, rfl, ⟨hj0, Nat.lt_of_lt_of_le (PySem.Flt.log2_lt_of (by decide) hj) (by decide)⟩, ?_⟩
        refine ⟨_, rfl, _, rfl, _, rfl, (by show 3 ≤ sizeLine; decide), fun p hp => ?_⟩
        have bd := hb _ ((((Int.gcd i j : Nat) : Int) - x * i).fdiv j) rfl (fun _ => by omega) (fun z => absurd z hj0)
        exact q _ _ p _ ee bd.1 bd.2 (sm.trans (same_new hp)) (sm.free hp) upd_same
/-! ### the pen -/
theorem merge_pen (a : Addr) : mergeK [] (penD a 0 0) = penD a 0 0 := by
  show putK (putK (putK [] (Sum.inr ("cells" : Str) : Key) (.ref a)) (Sum.inr ("at" : Str)) (.int 0)) (Sum.inr ("left" : Str)) (.int 0) = _
  have e1 : putK ([] : List (Key × V)) (Sum.inr ("cells" : Str) : Key) (.ref a) = [(Sum.inr ("cells" : Str), .ref a)] := putK_new _ rfl
  have e2 : putK [((Sum.inr ("cells" : Str) : Key), V.ref a)] (Sum.inr ("at" : Str) : Key) (.int 0) = [(Sum.inr ("cells" : Str), .ref a), (Sum.inr ("at" : Str), .int 0)] := putK_new _ ((valV_neg kca).trans rfl)
  have e3 : putK [((Sum.inr ("cells" : Str) : Key), V.ref a), (Sum.inr ("at" : Str), .int 0)] (Sum.inr ("left" : Str) : Key) (.int 0) = penD a 0 0 := putK_new _ ((valV_neg kcl).trans ((valV_neg kal).trans rfl))
  rw [e1, e2, e3]
def rPen (K : PySem.W.Frag) : V → Hp → VK → Prop := fun x H Q => ∃ (a : Addr) (ns : List Int), x = .ref a ∧ SqL K H a (ns.map V.int) ∧ ∀ d H', H d = none → Same H H' → Pen K H' d a ns 0 → Q (.ref d) H'
theorem ok_law_pen (T : Txt K mg) : Fn P w K mg base 1 "_law_pen" ["_law_script"] (sp1 (rPen K)) := by
  refine T.d_law_pen.ok sc_law_pen len1 fun f cdv A outer s H vs Q E hr h => ?_
  obtain ⟨_, rfl, a, ns, rfl, hS, q⟩ := h
  refine ⟨_, (pss_one (ps_ret (pe_disp (pps_cons pe_str (pv 0) (pps_cons pe_str pe_int (pps_cons pe_str pe_int pps_nil))) (by rfl) (by rfl) (fun z => by cases z) (by decide)))), ?_⟩
  intro d hd
  refine ⟨_, rfl, upd_same, penD a 0 0, rfl, (by show 3 ≤ 15; decide), ?_⟩
  rw [merge_pen]
  have e : upd (upd H d (.dK [])) d (.dK (penD a 0 0)) = upd H d (.dK (penD a 0 0)) := upd_upd
  rw [e]
  exact q d _ hd (same_new hd) ⟨(same_new hd).seq hS, 0, 0, upd_same, by decide, by decide, by decide⟩
theorem p629 : (0 : Int) < 2147483629 := by decide
theorem p587 : (0 : Int) < 2147483587 := by decide
theorem p563 : (0 : Int) < 2147483563 := by decide
theorem ok_law_draw (T : Txt K mg) : Fn P w K mg base 1 "_law_draw" ["_law_pen_here", "_law_many"] (sp2 (rDraw K)) := by
  refine T.d_law_draw.ok sc_law_draw len2 fun f cdv A outer s H vs Q E hr h => ?_
  obtain ⟨_, _, rfl, d, a, ns, c, many, rfl, rfl, ⟨hS, n, m, hd, n0, n1, m0⟩, p0, p1, hc, q⟩ := h
  have hu := hu_of hr
  refine ⟨_, (pss_cons (ps_if (pt_cmpR op_gt (pe_dget hu (pv 0) pe_str (fun _ _ => rfl)) pe_int (nomark _))
(pss_cons (ps_set (i := 2) sc_law_draw.nd rfl (Or.inl rfl) (pe_op op_mod (pe_dget hu (pv 0) pe_str (fun _ _ => rfl)) (pv 1)))
(pss_cons (ps_dput hu (pv 0) pe_str (pe_op op_fdiv (pe_dget hu (pv 0) pe_str (fun _ _ => rfl)) (pv 1)) rfl)
(pss_one (ps_ret (pv 2)))))
pss_nil)
(pss_cons (ps_set (i := 3) sc_law_draw.nd rfl (Or.inl rfl) (pe_dget hu (pv 0) pe_str (fun _ _ => rfl)))
(pss_cons (ps_dput hu (pv 0) pe_str (pe_op op_add (pv 3) pe_int) rfl)
(pss_cons (ps_set (i := 4) sc_law_draw.nd rfl (Or.inl rfl) (pe_op op_add (pe_op op_add (pe_op op_mul (pe_op op_mul pe_int (pv 3)) (pv 3)) (pe_op op_mul pe_int (pv 3))) pe_int))
(pss_cons (ps_if (pt_cmpR op_gt (pe_callB call_len_seq (by rfl) T.n_len (by decide +kernel) (pa_cons (pe_dget hu (pv 0) pe_str (fun _ _ => rfl)) pa_nil)) pe_int (nomark _))
(pss_cons (ps_set (i := 4) sc_law_draw.nd rfl (Or.inl rfl) (pe_ix ix_list (pe_dget hu (pv 0) pe_str (fun _ _ => rfl)) (pe_op op_mod (pv 3) (pe_callB call_len_seq (by rfl) T.n_len (by decide +kernel) (pa_cons (pe_dget hu (pv 0) pe_str (fun _ _ => rfl)) pa_nil))) (fun _ _ => rfl)))
(pss_one (ps_if (PW.pt (pw_and (pt_cmpR op_lt (pv 3) (pe_callB call_len_seq (by rfl) T.n_len (by decide +kernel) (pa_cons (pe_dget hu (pv 0) pe_str (fun _ _ => rfl)) pa_nil)) (nomark _)) (pw_and1 (pt_cmpR op_ge (pe_callB call_abs (by rfl) T.n_abs (by decide +kernel) (pa_cons (pv 4) pa_nil)) (pe_op op_pow pe_int pe_int) (nomark _)))))
(pss_cons (ps_dput hu (pv 0) pe_str (pe_op op_fdiv (pe_callB call_abs (by rfl) T.n_abs (by decide +kernel) (pa_cons (pv 4) pa_nil)) (pv 1)) rfl)
(pss_one (ps_ret (pe_op op_mod (pe_callB call_abs (by rfl) T.n_abs (by decide +kernel) (pa_cons (pv 4) pa_nil)) (pv 1)))))
pss_nil)))
pss_nil)
(pss_cons (ps_set (i := 5) sc_law_draw.nd rfl (Or.inl rfl) (pe_op op_mod (pe_op op_mul (pe_op op_add (pe_op op_add (pe_op op_mod (pv 4) pe_int) (pe_op op_mul pe_int (pv 3))) pe_int) pe_int) pe_int))
(pss_cons (ps_set (i := 5) sc_law_draw.nd rfl (Or.inl rfl) (pe_op op_mod (pe_op op_add (pe_op op_add (pe_op op_mul (pv 5) (pv 5)) (pe_op op_mul pe_int (pv 5))) (pv 3)) pe_int))
(pss_one (ps_ret (pe_op op_mod (pe_op op_fdiv (pv 5) pe_int) (pv 1))))))))))), ?_⟩
  refine ⟨_, rfl, d, _, rfl, dg_left hd, _, _, rfl, rfl, _, rfl, ite2 (fun e => ?_) (fun e => ?_)⟩
  · have hm : 0 < m := of_decide_eq_true e
    refine ⟨_, rfl, d, _, rfl, dg_left hd, _, rfl, _, _, rfl, rfl, p0, ?_⟩
    refine ⟨_, rfl, d, _, rfl, dg_left hd, _, rfl, _, _, rfl, rfl, ⟨p0, p1⟩, _, rfl, d, _, rfl, dp_left hd, ?_⟩
    refine ⟨_, rfl, ?_⟩
    exact q _ _ (Int.emod_nonneg _ (by omega)) (Int.emod_lt_of_pos _ p0) ⟨sq_but But.upd hd hS, n, m / many, upd_same, n0, by omega, Int.ediv_nonneg m0 (by omega)⟩ But.upd
  · -- at
    refine ⟨_, rfl, d, _, rfl, dg_at hd, ?_⟩
    refine ⟨_, rfl, _, _, rfl, rfl, _, rfl, d, _, rfl, dp_at hd, ?_⟩
    have hd1 : (upd H d (.dK (penD a (n + 1) m))) d = some (.dK (penD a (n + 1) m)) := upd_same
    have hS1 : SqL K (upd H d (.dK (penD a (n + 1) m))) a (ns.map V.int) := sq_but But.upd hd hS
    have hP1 : Pen K (upd H d (.dK (penD a (n + 1) m))) d a ns (c + 1) := ⟨hS1, n + 1, m, hd1, by omega, by omega, m0⟩
    -- cell
    refine ⟨_, rfl, _, _, rfl, rfl, .inl ⟨by decide, by decide⟩, _, rfl, _, _, rfl, rfl, .inr ⟨by omega, by omega⟩, _, rfl, _, _, rfl, rfl, .inl ⟨by decide, by decide⟩, _, _, rfl, rfl, _, _, rfl, rfl, ?_⟩
    -- the end, whatever the cell
    have fin : ∀ (cell : Int), 0 ≤ (((cell % 2147483629 + 40993 * n + 5) * 48271 % 2147483587 * ((cell % 2147483629 + 40993 * n + 5) * 48271 % 2147483587) + 69941 * ((cell % 2147483629 + 40993 * n + 5) * 48271 % 2147483587) + n) % 2147483563 / 32 % many) ∧
        (((cell % 2147483629 + 40993 * n + 5) * 48271 % 2147483587 * ((cell % 2147483629 + 40993 * n + 5) * 48271 % 2147483587) + 69941 * ((cell % 2147483629 + 40993 * n + 5) * 48271 % 2147483587) + n) % 2147483563 / 32 % many) < many := fun cell =>
      ⟨Int.emod_nonneg _ (by omega), Int.emod_lt_of_pos _ p0⟩
    refine ⟨_, rfl, d, _, rfl, dg_cells hd1, a, _, rfl, .inl hS1, _, _, rfl, rfl, _, rfl, ite2 (fun e1 => ?_) (fun e1 => ?_)⟩
    · have hl : (0 : Int) < ((ns.map V.int).length : Int) := of_decide_eq_true e1
      obtain ⟨z, hz⟩ := cell_at (ns := ns) (i := n % ((ns.map V.int).length : Int)) (Int.emod_nonneg _ (by omega)) (Int.emod_lt_of_pos _ hl)
      refine ⟨_, rfl, d, _, rfl, dg_cells hd1, _, rfl, _, rfl, d, _, rfl, dg_cells hd1, a, _, rfl, .inl hS1, _, _, rfl, rfl, hl, a, _, _, _, rfl, rfl, hS1, hz, ?_⟩
      refine ⟨_, rfl, _, rfl, d, _, rfl, dg_cells hd1, a, _, rfl, .inl hS1, _, _, rfl, rfl, _, rfl, ite2 (fun e2 => ?_) (fun e2 => ?_)⟩
      · refine ⟨_, rfl, _, rfl, 10, 18, rfl, rfl, ⟨by decide, by decide, by decide⟩, _, _, rfl, rfl, _, rfl, ite2 (fun e3 => ?_) (fun e3 => ?_)⟩
        · refine ⟨_, rfl, _, rfl, _, rfl, _, _, rfl, rfl, ⟨p0, p1⟩, _, rfl, d, _, rfl, dp_left hd1, ?_⟩
          refine ⟨_, rfl, _, rfl, _, rfl, _, _, rfl, rfl, p0, ?_⟩
          rw [abs_eq]
          refine q _ _ (Int.emod_nonneg _ (by omega)) (Int.emod_lt_of_pos _ p0) ⟨sq_but But.upd hd1 hS1, n + 1, _, upd_same, by omega, by omega, Int.ediv_nonneg (Int.natCast_nonneg _) (by omega)⟩ (But.trans But.upd But.upd)
        · refine ⟨_, rfl, _, _, rfl, rfl, p629, _, rfl, _, _, rfl, rfl, .inl ⟨by decide, by decide⟩, _, _, rfl, rfl, _, _, rfl, rfl, _, _, rfl, rfl, .inr ⟨by decide, by decide⟩, _, _, rfl, rfl, p587, ?_⟩
          refine ⟨_, rfl, _, rfl, _, _, rfl, rfl, .inl ?_, _, rfl, _, _, rfl, rfl, .inl ⟨by decide, by decide⟩, _, _, rfl, rfl, _, rfl, _, _, rfl, rfl, _, _, rfl, rfl, p563, ?_⟩
          · have h1 := Int.emod_nonneg ((z % 2147483629 + 40993 * n + 5) * 48271) (show (2147483587 : Int) ≠ 0 by decide)
            have h2 := Int.emod_lt_of_pos ((z % 2147483629 + 40993 * n + 5) * 48271) (show (0 : Int) < 2147483587 by decide)
            omega
          · refine ⟨_, rfl, _, _, rfl, rfl, ⟨by decide, by decide⟩, _, rfl, _, _, rfl, rfl, p0, ?_⟩
            exact q _ _ (fin z).1 (fin z).2 hP1 But.upd
      · refine ⟨_, rfl, _, _, rfl, rfl, p629, _, rfl, _, _, rfl, rfl, .inl ⟨by decide, by decide⟩, _, _, rfl, rfl, _, _, rfl, rfl, _, _, rfl, rfl, .inr ⟨by decide, by decide⟩, _, _, rfl, rfl, p587, ?_⟩
        refine ⟨_, rfl, _, rfl, _, _, rfl, rfl, .inl ?_, _, rfl, _, _, rfl, rfl, .inl ⟨by decide, by decide⟩, _, _, rfl, rfl, _, rfl, _, _, rfl, rfl, _, _, rfl, rfl, p563, ?_⟩
        · have h1 := Int.emod_nonneg ((z % 2147483629 + 40993 * n + 5) * 48271) (show (2147483587 : Int) ≠ 0 by decide)
          have h2 := Int.emod_lt_of_pos ((z % 2147483629 + 40993 * n + 5) * 48271) (show (0 : Int) < 2147483587 by decide)
          omega
        · refine ⟨_, rfl, _, _, rfl, rfl, ⟨by decide, by decide⟩, _, rfl, _, _, rfl, rfl, p0, ?_⟩
          exact q _ _ (fin z).1 (fin z).2 hP1 But.upd
    · refine ⟨_, rfl, _, _, rfl, rfl, p629, _, rfl, _, _, rfl, rfl, .inl ⟨by decide, by decide⟩, _, _, rfl, rfl, _, _, rfl, rfl, _, _, rfl, rfl, .inr ⟨by decide, by decide⟩, _, _, rfl, rfl, p587, ?_⟩
      refine ⟨_, rfl, _, rfl, _, _, rfl, rfl, .inl ?_, _, rfl, _, _, rfl, rfl, .inl ⟨by decide, by decide⟩, _, _, rfl, rfl, _, rfl, _, _, rfl, rfl, _, _, rfl, rfl, p563, ?_⟩
      · have h1 := Int.emod_nonneg (((70003 * n * n + 19 * n + 11) % 2147483629 + 40993 * n + 5) * 48271) (show (2147483587 : Int) ≠ 0 by decide)
        have h2 := Int.emod_lt_of_pos (((70003 * n * n + 19 * n + 11) % 2147483629 + 40993 * n + 5) * 48271) (show (0 : Int) < 2147483587 by decide)
        omega
      · refine ⟨_, rfl, _, _, rfl, rfl, ⟨by decide, by decide⟩, _, rfl, _, _, rfl, rfl, p0, ?_⟩
        exact q _ _ (fin (70003 * n * n + 19 * n + 11)).1 (fin (70003 * n * n + 19 * n + 11)).2 hP1 But.upd
def rFar (K : PySem.W.Frag) : V → Hp → VK → Prop := fun p H Q => ∃ (d a : Addr) (ns : List Int) (c : Int), p = .ref d ∧ Pen K H d a ns c ∧ c + 5 ≤ 1000000 ∧
  ∀ r H', 0 ≤ r → r < 10 ^ 30 → Pen K H' d a ns (c + 5) → But d H H' → Q (.int r) H'
theorem far_step {k : Nat} {v r : Int} (h0 : 0 ≤ v) (h1 : v < 10 ^ (6 * k)) (r0 : 0 ≤ r) (r1 : r < 10 ^ 6) : 0 ≤ v * 10 ^ 6 + r ∧ v * 10 ^ 6 + r < 10 ^ (6 * (k + 1)) := by
  have e : (10 : Int) ^ (6 * (k + 1)) = 10 ^ (6 * k) * 10 ^ 6 := by rw [Nat.mul_succ, Int.pow_add]
  rw [e]
  have e6 : (10 : Int) ^ 6 = 1000000 := by decide
  rw [e6] at *
  generalize (10 : Int) ^ (6 * k) = t at *
  omega
theorem ok_law_far (T : Txt K mg) : Fn P w K mg base 2 "_law_far" ["_law_pen_here"] (sp1 (rFar K)) := by
  have G_law_draw := ok_law_draw (P := P) (w := w) (base := base) T
  refine T.d_law_far.ok sc_law_far len1 fun f cdv A outer s H vs Q E hr h => ?_
  obtain ⟨_, rfl, d, a, ns, c, rfl, hp, hc, q⟩ := h
  refine ⟨_, (pss_cons (ps_set (i := 1) sc_law_far.nd rfl (Or.inl rfl) pe_int)
(pss_cons (ps_for PassesOwn.never rfl (pi_range1 (by rfl) T.n_range (pa_cons pe_int pa_nil)) (pg_name (i := 2) sc_law_far.nd rfl (Or.inl rfl))
(pss_one (ps_set (i := 1) sc_law_far.nd rfl (Or.inl rfl) (pe_op op_add (pe_op op_mul (pv 1) (pe_op op_pow pe_int pe_int)) (pe_fn G_law_draw (hr.mono (by decide)) (by rfl) (pa_cons (pv 0) (pa_cons (pe_op op_pow pe_int pe_int) pa_nil)))))))
(pss_one (ps_ret (pv 1))))), ?_⟩
  refine ⟨5, rfl, by decide, by decide, for_range (lo := 0) (n := 5) (fun k σ H' => ∃ (v : Int) (o : Option V), σ = [some (.ref d), some (.int v), o] ∧ 0 ≤ v ∧ v < 10 ^ (6 * k) ∧ Pen K H' d a ns (c + k) ∧ But d H H')
    ⟨0, none, rfl, by decide, by decide, by simpa using hp, But.refl _ _⟩ ?_ ?_⟩
  · rintro k σ H' hk ⟨v, o, rfl, v0, v1, hp1, b1⟩
    refine ⟨_, rfl, 10, 6, rfl, rfl, ⟨by decide, by decide, by decide⟩, _, _, rfl, rfl, .inr ⟨by decide, by decide⟩, _, rfl, 10, 6, rfl, rfl, ⟨by decide, by decide, by decide⟩, _, _, rfl, d, a, ns, c + k, _, rfl, rfl, hp1, by decide, by decide, by omega, fun r H2 r0 r1 hp2 b2 => ?_⟩
    have fs := far_step v0 v1 r0 r1
    refine ⟨_, _, rfl, rfl, _, _, rfl, fs.1, fs.2, ?_, b1.trans b2⟩
    have ec : c + ((k + 1 : Nat) : Int) = c + k + 1 := by omega
    rw [ec]
    exact hp2
  · rintro σ H' ⟨v, o, rfl, v0, v1, hp1, b1⟩
    refine ⟨_, rfl, ?_⟩
    exact q _ _ v0 v1 hp1 b1
/-! ### whole, small, pair -/
def rWh : V → Hp → VK → Prop := fun x H Q => ∃ i, x = .int i ∧ Q (.bl true) H
theorem ok_law_whole (T : Txt K mg) : Fn P w K mg base 1 "_law_whole" ["_law_thing"] (sp1 rWh) := by
  refine T.d_law_whole.ok sc_law_whole len1 fun f cdv A outer s H vs Q E hr h => ?_
  obtain ⟨_, rfl, i, rfl, q⟩ := h
  refine ⟨_, (pss_one (ps_ret (pe_and (pe_callB call_isi (by rfl) T.n_isinstance (by decide +kernel) (pa_cons (pv 0) (pa_cons (pe_bltn (v := .ty "int") (by rfl) T.n_int (by decide +kernel) rfl) pa_nil))) (pe_one (pe_not (pe_callB call_isi (by rfl) T.n_isinstance (by decide +kernel) (pa_cons (pv 0) (pa_cons (pe_bltn (v := .ty "bool") (by rfl) T.n_bool (by decide +kernel) rfl) pa_nil)))))))), ?_⟩
  refine ⟨_, rfl, _, _, _, _, true, rfl, .ty "int", .base (.int _), kit_ty (by decide +kernel), true, rfl, iteT ?_⟩
  refine ⟨_, rfl, _, _, _, _, false, rfl, .ty "bool", .base (.int _), kit_ty (by decide +kernel), false, rfl, ?_⟩
  exact q
def rSm (K : PySem.W.Frag) : V → Hp → VK → Prop := fun p H Q => ∃ (d a : Addr) (ns : List Int) (c : Int), p = .ref d ∧ Pen K H d a ns c ∧ c + 1 ≤ 1000000 ∧
  ∀ r H', -12 ≤ r → r ≤ 12 → Pen K H' d a ns (c + 1) → But d H H' → Q (.int r) H'
theorem ok_law_small (T : Txt K mg) : Fn P w K mg base 2 "_law_small" ["_law_pen_here"] (sp1 (rSm K)) := by
  have G_law_draw := ok_law_draw (P := P) (w := w) (base := base) T
  refine T.d_law_small.ok sc_law_small len1 fun f cdv A outer s H vs Q E hr h => ?_
  obtain ⟨_, rfl, d, a, ns, c, rfl, hp, hc, q⟩ := h
  refine ⟨_, (pss_one (ps_ret (pe_op op_sub (pe_fn G_law_draw (hr.mono (by decide)) (by rfl) (pa_cons (pv 0) (pa_cons pe_int pa_nil))) pe_int))), ?_⟩
  refine ⟨_, rfl, _, _, rfl, d, a, ns, c, _, rfl, rfl, hp, by decide, by decide, by omega, fun r H2 r0 r1 hp2 b2 => ?_⟩
  refine ⟨_, _, rfl, rfl, ?_⟩
  exact q _ _ (by omega) (by omega) hp2 b2
def rPair (K : PySem.W.Frag) : V → Hp → VK → Prop := fun p H Q => ∃ (d a : Addr) (ns : List Int) (c : Int), p = .ref d ∧ Pen K H d a ns c ∧ c + 20 ≤ 1000000 ∧
  ∀ (i j : Int) (t : Addr) (H' : Hp), i.natAbs < 2 ^ 120 → j.natAbs < 2 ^ 120 → H' t = some (.tup [.int i, .int j]) → Pen K H' d a ns (c + 20) → Q (.ref t) H'
theorem e120 : (2 : Nat) ^ 120 = 1329227995784915872903807060280344576 := by decide
theorem e30 : (10 : Int) ^ 30 = 1000000000000000000000000000000 := by decide
theorem sgn_mul {s r : Int} (h0 : 0 ≤ s) (h1 : s < 2) (r0 : 0 ≤ r) (r1 : r < 10 ^ 30) : ((1 - 2 * s) * r).natAbs < 2 ^ 120 := by
  rw [e120]
  rw [e30] at r1
  rcases (show s = 0 ∨ s = 1 by omega) with rfl | rfl <;> omega
theorem ok_law_pair (T : Txt K mg) : Fn P w K mg base 3 "_law_pair" ["_law_pen_here"] (sp1 (rPair K)) := by
  have G_law_draw := ok_law_draw (P := P) (w := w) (base := base) T
  have G_law_far := ok_law_far (P := P) (w := w) (base := base) T
  have G_law_small := ok_law_small (P := P) (w := w) (base := base) T
  refine T.d_law_pair.ok sc_law_pair len1 fun f cdv A outer s H vs Q E hr h => ?_
  obtain ⟨_, rfl, d, a, ns, c, rfl, hp, hc, q⟩ := h
  refine ⟨_, (pss_cons (ps_set (i := 1) sc_law_pair.nd rfl (Or.inl rfl) (pe_fn G_law_draw (hr.mono (by decide)) (by rfl) (pa_cons (pv 0) (pa_cons pe_int pa_nil))))
(pss_cons (ps_set (i := 2) sc_law_pair.nd rfl (Or.inl rfl) (pe_op op_sub pe_int (pe_op op_mul pe_int (pe_fn G_law_draw (hr.mono (by decide)) (by rfl) (pa_cons (pv 0) (pa_cons pe_int pa_nil))))))
(pss_cons (ps_if (pt_cmpR op_lt (pv 1) pe_int (nomark _))
(pss_one (ps_ret (pe_tup (pa_cons (pe_fn G_law_small (hr.mono (by decide)) (by rfl) (pa_cons (pv 0) pa_nil)) (pa_cons (pe_fn G_law_small (hr.mono (by decide)) (by rfl) (pa_cons (pv 0) pa_nil)) pa_nil)))))
pss_nil)
(pss_cons (ps_if (pt_cmpR op_eq (pv 1) pe_int (nomark _))
(pss_one (ps_ret (pe_tup (pa_cons (pe_op op_mul (pv 2) (pe_fn G_law_far (hr.mono (by decide)) (by rfl) (pa_cons (pv 0) pa_nil))) (pa_cons (pe_op op_mul (pe_op op_sub pe_int (pe_op op_mul pe_int (pe_fn G_law_draw (hr.mono (by decide)) (by rfl) (pa_cons (pv 0) (pa_cons pe_int pa_nil))))) (pe_fn G_law_far (hr.mono (by decide)) (by rfl) (pa_cons (pv 0) pa_nil))) pa_nil)))))
pss_nil)
(pss_cons (ps_if (pt_cmpR op_eq (pv 1) pe_int (nomark _))
(pss_cons (ps_set (i := 3) sc_law_pair.nd rfl (Or.inl rfl) (pe_op op_add pe_int (pe_fn G_law_draw (hr.mono (by decide)) (by rfl) (pa_cons (pv 0) (pa_cons (pe_op op_pow pe_int pe_int) pa_nil)))))
(pss_one (ps_ret (pe_tup (pa_cons (pe_op op_mul (pe_op op_mul (pv 2) (pv 3)) (pe_op op_add pe_int (pe_fn G_law_draw (hr.mono (by decide)) (by rfl) (pa_cons (pv 0) (pa_cons (pe_op op_pow pe_int pe_int) pa_nil))))) (pa_cons (pe_op op_mul (pv 3) (pe_fn G_law_small (hr.mono (by decide)) (by rfl) (pa_cons (pv 0) pa_nil))) pa_nil))))))
pss_nil)
(pss_cons (ps_if (pt_cmpR op_eq (pv 1) pe_int (nomark _))
(pss_one (ps_ret (pe_tup (pa_cons (pe_op op_mul (pv 2) (pe_fn G_law_far (hr.mono (by decide)) (by rfl) (pa_cons (pv 0) pa_nil))) (pa_cons pe_int pa_nil)))))
pss_nil)
(pss_cons (ps_set (i := 4) sc_law_pair.nd rfl (Or.inl rfl) (pe_fn G_law_far (hr.mono (by decide)) (by rfl) (pa_cons (pv 0) pa_nil)))
(pss_cons (ps_if (pt_cmpR op_eq (pv 1) pe_int (nomark _))
(pss_one (ps_ret (pe_tup (pa_cons (pe_op op_mul (pv 2) (pv 4)) (pa_cons (pe_op op_sub (pv 4) pe_int) pa_nil)))))
pss_nil)
(pss_cons (ps_set (i := 5) sc_law_pair.nd rfl (Or.inl rfl) (pe_op op_fdiv (pv 4) (pe_op op_pow pe_int pe_int)))
(pss_one (ps_ret (pe_tup (pa_cons (pe_op op_mul (pv 5) (pe_op op_add pe_int (pe_fn G_law_draw (hr.mono (by decide)) (by rfl) (pa_cons (pv 0) (pa_cons (pe_op op_pow pe_int pe_int) pa_nil))))) (pa_cons (pe_op op_mul (pv 2) (pv 5)) pa_nil)))))))))))))), ?_⟩
  refine ⟨_, rfl, _, _, rfl, d, a, ns, c, _, rfl, rfl, hp, by decide, by decide, by omega, fun way H1 w0 w1 hp1 b1 => ?_⟩
  refine ⟨_, rfl, _, _, rfl, d, a, ns, _, _, rfl, rfl, hp1, by decide, by decide, by omega, fun sg H2 s0 s1 hp2 b2 => ?_⟩
  refine ⟨_, _, rfl, rfl, .inl ⟨by decide, by decide⟩, _, _, rfl, rfl, ?_⟩
  have sgb : -(2 ^ 64) < 1 - 2 * sg ∧ 1 - 2 * sg < 2 ^ 64 := by omega
  refine ⟨_, rfl, _, _, rfl, rfl, _, rfl, ite2 (fun e1 => ?_) (fun e1 => ?_)⟩
  · refine ⟨_, rfl, _, rfl, d, a, ns, _, rfl, hp2, by omega, fun x H3 x0 x1 hp3 b3 => ?_⟩
    refine ⟨_, rfl, _, rfl, d, a, ns, _, rfl, hp3, by omega, fun y H4 y0 y1 hp4 b4 => ?_⟩
    refine ⟨(by show 2 ≤ sizeLine; decide), fun t ht => ?_⟩
    exact q _ _ t _ (by rw [e120]; omega) (by rw [e120]; omega) upd_same ((hp4.mono (by omega)).same (same_new ht))
  refine ⟨_, rfl, rfl, _, rfl, ite2 (fun e2 => ?_) (fun e2 => ?_)⟩
  · refine ⟨_, rfl, _, rfl, _, rfl, d, a, ns, _, rfl, hp2, by omega, fun x H3 x0 x1 hp3 b3 => ?_⟩
    refine ⟨_, _, rfl, rfl, .inl sgb, _, rfl, _, _, rfl, d, a, ns, _, _, rfl, rfl, hp3, by decide, by decide, by omega, fun sg2 H4 t0 t1 hp4 b4 => ?_⟩
    refine ⟨_, _, rfl, rfl, .inl ⟨by decide, by decide⟩, _, _, rfl, rfl, _, rfl, _, rfl, d, a, ns, _, rfl, hp4, by omega, fun y H5 y0 y1 hp5 b5 => ?_⟩
    refine ⟨_, _, rfl, rfl, .inl ⟨by omega, by omega⟩, (by show 2 ≤ sizeLine; decide), fun t ht => ?_⟩
    exact q _ _ t _ (sgn_mul s0 s1 x0 x1) (sgn_mul t0 t1 y0 y1) upd_same ((hp5.mono (by omega)).same (same_new ht))
  refine ⟨_, rfl, rfl, _, rfl, ite2 (fun e3 => ?_) (fun e3 => ?_)⟩
  · refine ⟨_, rfl, 10, 6, rfl, rfl, ⟨by decide, by decide, by decide⟩, _, _, rfl, d, a, ns, _, _, rfl, rfl, hp2, by decide, by decide, by omega, fun by0 H3 b0 bb hp3 b3 => ?_⟩
    have bb2 : by0 < 1000000 := bb
    refine ⟨_, _, rfl, rfl, ?_⟩
    refine ⟨_, rfl, _, rfl, _, _, rfl, rfl, .inl sgb, _, rfl, 10, 6, rfl, rfl, ⟨by decide, by decide, by decide⟩, _, _, rfl, d, a, ns, _, _, rfl, rfl, hp3, by decide, by decide, by omega, fun x H4 x0 x1 hp4 b4 => ?_⟩
    have x12 : x < 1000000 := x1
    refine ⟨_, _, rfl, rfl, _, _, rfl, rfl, .inr ⟨by omega, by omega⟩, _, rfl, _, rfl, _, rfl, d, a, ns, _, rfl, hp4, by omega, fun y H5 y0 y1 hp5 b5 => ?_⟩
    refine ⟨_, _, rfl, rfl, .inr ⟨by omega, by omega⟩, (by show 2 ≤ sizeLine; decide), fun t ht => ?_⟩
    refine q _ _ t _ ?_ ?_ upd_same ((hp5.mono (by omega)).same (same_new ht))
    · have h1 : ((1 - 2 * sg) * (1 + by0) * (1 + x)).natAbs = (1 + by0).natAbs * (1 + x).natAbs := by
        rw [Int.natAbs_mul, Int.natAbs_mul]
        have : (1 - 2 * sg).natAbs = 1 := by omega
        rw [this, Nat.one_mul]
      rw [h1]
      have h2 : (1 + by0).natAbs * (1 + x).natAbs ≤ 1000000 * 1000000 := Nat.mul_le_mul (by omega) (by omega)
      rw [e120]
      omega
    · rw [Int.natAbs_mul]
      have h2 : (1 + by0).natAbs * y.natAbs ≤ 1000000 * 12 := Nat.mul_le_mul (by omega) (by omega)
      rw [e120]
      omega
  refine ⟨_, rfl, rfl, _, rfl, ite2 (fun e4 => ?_) (fun e4 => ?_)⟩
  · refine ⟨_, rfl, _, rfl, _, rfl, d, a, ns, _, rfl, hp2, by omega, fun x H3 x0 x1 hp3 b3 => ?_⟩
    refine ⟨_, _, rfl, rfl, .inl sgb, (by show 2 ≤ sizeLine; decide), fun t ht => ?_⟩
    exact q _ _ t _ (sgn_mul s0 s1 x0 x1) (by decide) upd_same ((hp3.mono (by omega)).same (same_new ht))
  refine ⟨_, rfl, _, rfl, d, a, ns, _, rfl, hp2, by omega, fun x H3 x0 x1 hp3 b3 => ?_⟩
  have x12 : x < 1000000000000000000000000000000 := x1
  refine ⟨_, rfl, rfl, _, rfl, ite2 (fun e5 => ?_) (fun e5 => ?_)⟩
  · refine ⟨_, rfl, _, rfl, _, _, rfl, rfl, .inl sgb, _, rfl, _, _, rfl, rfl, (by show 2 ≤ sizeLine; decide), fun t ht => ?_⟩
    exact q _ _ t _ (sgn_mul s0 s1 x0 x1) (by rw [e120]; omega) upd_same ((hp3.mono (by omega)).same (same_new ht))
  refine ⟨_, rfl, 10, 9, rfl, rfl, ⟨by decide, by decide, by decide⟩, _, _, rfl, rfl, ⟨by decide, by decide⟩, ?_⟩
  dsimp only [gName]
  have ho : (x / ((10 : Int) ^ (9 : Int).toNat)) = x / 1000000000 := rfl
  rw [ho]
  refine ⟨_, rfl, _, rfl, 10, 6, rfl, rfl, ⟨by decide, by decide, by decide⟩, _, _, rfl, d, a, ns, _, _, rfl, rfl, hp3, by decide, by decide, by omega, fun y H4 y0 y1 hp4 b4 => ?_⟩
  have y12 : y < 1000000 := y1
  refine ⟨_, _, rfl, rfl, _, _, rfl, rfl, .inr ⟨by omega, by omega⟩, _, rfl, _, rfl, _, _, rfl, rfl, .inl sgb, (by show 2 ≤ sizeLine; decide), fun t ht => ?_⟩
  refine q _ _ t _ ?_ (sgn_mul s0 s1 (by omega) (by rw [e30]; omega)) upd_same ((hp4.mono (by omega)).same (same_new ht))
  rw [Int.natAbs_mul]
  have h2 : (x / 1000000000).natAbs * (1 + y).natAbs ≤ 1000000000000000000000 * 1000000 := Nat.mul_le_mul (by omega) (by omega)
  rw [e120]
  omega
/-! ### right -/
def rRight : V → V → Hp → VK → Prop := fun x y H Q => ∃ i j : Int, x = .int i ∧ y = .int j ∧ i.natAbs < 2 ^ 120 ∧ j.natAbs < 2 ^ 120 ∧ ∀ H', Same H H' → Q (.bl true) H'
theorem up200 {i : Int} (h : i.natAbs < 2 ^ 120) : i.natAbs < 2 ^ 200 := Nat.lt_trans h (by decide)
theorem gcd0 {i j : Int} : ((Int.gcd i j : Nat) : Int) = 0 ↔ i = 0 ∧ j = 0 := by
  rw [show (((Int.gcd i j : Nat) : Int) = 0 ↔ Int.gcd i j = 0) by omega, Int.gcd_eq_zero_iff]
theorem cml_nn (i j : Int) : 0 ≤ cml i j := by
  unfold cml
  split
  · exact Int.le_refl _
  · exact Int.mul_nonneg (Int.ediv_nonneg (Int.natCast_nonneg _) (Int.natCast_nonneg _)) (Int.natCast_nonneg _)
theorem cml_gcd (i j : Int) : cml i j * ((Int.gcd i j : Nat) : Int) = ((i * j).natAbs : Int) := lcm_law
theorem cml_small {i j : Int} (hi : i.natAbs < 2 ^ 200) (hj : j.natAbs < 2 ^ 200) : (cml i j).natAbs < 2 ^ 400 := by
  unfold cml
  split
  · decide
  · rename_i h
    have hj0 : j ≠ 0 := fun z => h (.inr z)
    exact wide_lt (a := 200) (b := 200) (quo_small (Int.natCast_nonneg _) (gcd_pos hj0) (by simpa using hi)) (by simpa using hj)
theorem ok_law_right (T : Txt K mg) : Fn P w K mg base 3 "_law_right" ["_law_a", "_law_b"] (sp2 rRight) := by
  have G_common_measure := ok_common_measure (P := P) (w := w) (base := base) T
  have G_common_multiple := ok_common_multiple (P := P) (w := w) (base := base) T
  have G_both := ok_both (P := P) (w := w) (base := base) T
  have G_law_whole := ok_law_whole (P := P) (w := w) (base := base) T
  refine T.d_law_right.ok sc_law_right len2 fun f cdv A outer s H vs Q E hr h => ?_
  obtain ⟨_, _, rfl, i, j, rfl, rfl, hi, hj, q⟩ := h
  have hi2 := up200 hi
  have hj2 := up200 hj
  have g0 : (0 : Int) ≤ ((Int.gcd i j : Nat) : Int) := Int.natCast_nonneg _
  have gz := gcd0 (i := i) (j := j)
  have gd1 : ((Int.gcd i j : Nat) : Int) ∣ i := Int.gcd_dvd_left _ _
  have gd2 : ((Int.gcd i j : Nat) : Int) ∣ j := Int.gcd_dvd_right _ _
  refine ⟨_, (pss_cons (ps_set (i := 2) sc_law_right.nd rfl (Or.inl rfl) (pe_fn G_common_measure (hr.mono (by decide)) (by rfl) (pa_cons (pv 0) (pa_cons (pv 1) pa_nil))))
(pss_cons (ps_if (PW.pt (pw_or (pt_not (pt_val (pe_fn G_law_whole (hr.mono (by decide)) (by rfl) (pa_cons (pv 2) pa_nil)))) (pw_or (pt_cmpR op_lt (pv 2) pe_int (nomark _)) (pw_or1 (pt_cmpR op_ne (pe_cmpR op_eq (pv 2) pe_int (nomark _)) (pe_and (pe_cmpR op_eq (pv 0) pe_int (nomark _)) (pe_one (pe_cmpR op_eq (pv 1) pe_int (nomark _)))) (nomark _))))))
(pss_one (ps_ret pe_bl))
pss_nil)
(pss_cons (ps_if (PW.pt (pw_and (pt_cmpR op_gt (pv 2) pe_int (nomark _)) (pw_and1 (PW.pt (pw_or (pt_cmpR op_ne (pe_op op_mod (pv 0) (pv 2)) pe_int (nomark _)) (pw_or1 (pt_cmpR op_ne (pe_op op_mod (pv 1) (pv 2)) pe_int (nomark _))))))))
(pss_one (ps_ret pe_bl))
pss_nil)
(pss_cons (ps_set (i := 3) sc_law_right.nd rfl (Or.inl rfl) (pe_fn G_both (hr.mono (by decide)) (by rfl) (pa_cons (pv 0) (pa_cons (pv 1) pa_nil))))
(pss_cons (ps_if (PW.pt (pw_or (pt_not (pt_val (pe_callB call_isi (by rfl) T.n_isinstance (by decide +kernel) (pa_cons (pv 3) (pa_cons (pe_bltn (v := .ty "tuple") (by rfl) T.n_tuple (by decide +kernel) rfl) pa_nil))))) (pw_or (pt_cmpR op_ne (pe_callB call_len_seq (by rfl) T.n_len (by decide +kernel) (pa_cons (pv 3) pa_nil)) pe_int (nomark _)) (pw_or1 (pt_not (pt_val (pe_callB (cr_all rfl) (by rfl) T.n_all (by decide +kernel) (pa_cons (pe_lc (own := [("_law_one", 5)]) rfl sc_law_right.nd (pi_tup (pv 3)) (blkOk_by (own := [("_law_one", 5)]) (N := N_law_right) (sc := defScope s_law_right) (by decide +kernel)) (fun _ _ _ _ _ => (pg_name (i := 5) sc_law_right.nd rfl (Or.inl rfl))) (fun _ _ _ _ _ => pts_nil) (fun _ _ _ _ _ => (pe_fn G_law_whole (hr.mono (by decide)) (by rfl) (pa_cons (pv 5) pa_nil)))) pa_nil))))))))
(pss_one (ps_ret pe_bl))
pss_nil)
(pss_cons (ps_if (PW.pt (pw_or (pt_cmpR op_ne (pe_ix ix_tup (pv 3) pe_int (fun _ _ => rfl)) (pv 2) (nomark _)) (pw_or1 (pt_cmpR op_ne (pe_op op_add (pe_op op_mulW (pe_ix ix_tup (pv 3) pe_int (fun _ _ => rfl)) (pv 0)) (pe_op op_mulW (pe_ix ix_tup (pv 3) pe_int (fun _ _ => rfl)) (pv 1))) (pv 2) (nomark _)))))
(pss_one (ps_ret pe_bl))
pss_nil)
(pss_cons (ps_set (i := 4) sc_law_right.nd rfl (Or.inl rfl) (pe_fn G_common_multiple (hr.mono (by decide)) (by rfl) (pa_cons (pv 0) (pa_cons (pv 1) pa_nil))))
(pss_cons (ps_if (PW.pt (pw_or (pt_not (pt_val (pe_fn G_law_whole (hr.mono (by decide)) (by rfl) (pa_cons (pv 4) pa_nil)))) (pw_or1 (pt_cmpR op_lt (pv 4) pe_int (nomark _)))))
(pss_one (ps_ret pe_bl))
pss_nil)
(pss_cons (ps_if (pt_cmpR op_eq (pv 2) pe_int (nomark _))
(pss_one (ps_ret (pe_cmpR op_eq (pv 4) pe_int (nomark _))))
pss_nil)
(pss_one (ps_ret (pe_cmpR op_eq (pe_op op_mulW (pv 4) (pv 2)) (pe_callB call_abs (by rfl) T.n_abs (by decide +kernel) (pa_cons (pe_op op_mulW (pv 0) (pv 1)) pa_nil)) (nomark _))))))))))))), ?_⟩
  refine ⟨_, rfl, _, rfl, _, _, rfl, i, j, rfl, rfl, ?_⟩
  have hc := cml_gcd i j
  have hg2 : (((Int.gcd i j : Nat) : Int)).natAbs < 2 ^ 202 := by
    by_cases hj0 : j = 0
    · have : Int.gcd i j = i.natAbs := by
        rw [hj0, Int.gcd_zero_right]
      rw [this]
      exact Nat.lt_trans (by simpa using hi2) (by decide)
    · exact Nat.lt_trans (gcd_small hj0 hj2) (by decide)
  generalize hgg : ((Int.gcd i j : Nat) : Int) = g at *
  try dsimp only [gName]
  refine if_no (fun H' => H' = H) (fun Q2 q2 => ?_) (fun H' e => ?_)
  · refine ⟨_, rfl, _, rfl, g, rfl, true, rfl, iteF ?_⟩
    refine ⟨_, rfl, _, _, rfl, rfl, _, rfl, ite2 (fun e => ?_) (fun e => ?_)⟩
    · exact absurd (of_decide_eq_true e) (by omega)
    · refine ⟨_, rfl, rfl, _, rfl, rfl, _, rfl, ite2 (fun ea => ?_) (fun ea => ?_)⟩
      · refine ⟨_, rfl, rfl, rfl, _, rfl, ?_⟩
        have ei := eq_yes ea
        have e3 : decide (V.int g = V.int 0) = decide (V.int j = V.int 0) := by
          rw [decide_eq_decide]
          constructor
          · intro z
            rw [(gz.mp (V.int.inj z)).2]
          · intro z
            rw [gz.mpr ⟨ei, V.int.inj z⟩]
        rw [e3, decide_eq_true rfl]
        exact q2 _ rfl
      · refine ⟨rfl, _, rfl, ?_⟩
        have ei := eq_no ea
        have e3 : decide (V.int g = V.int 0) = false := decide_eq_false fun z => ei (gz.mp (V.int.inj z)).1
        rw [e3, decide_eq_true rfl]
        exact q2 _ rfl
  subst e
  try dsimp only [gName]
  refine if_no (fun H'' => H'' = H') (fun Q2 q2 => ?_) (fun H'' e => ?_)
  · refine ⟨_, rfl, _, _, rfl, rfl, _, rfl, ite2 (fun e => ?_) (fun e => ?_)⟩
    · have gp : 0 < g := of_decide_eq_true e
      refine ⟨_, rfl, _, rfl, _, _, rfl, rfl, gp, rfl, _, rfl, ?_⟩
      refine iteNS (congrArg V.int (Int.emod_eq_zero_of_dvd gd1)) ⟨_, rfl, _, rfl, _, _, rfl, rfl, gp, rfl, _, rfl, ?_⟩
      exact qNS (Q := Q2) (congrArg V.int (Int.emod_eq_zero_of_dvd gd2)) (q2 _ rfl)
    · exact q2 _ rfl
  subst e
  refine ⟨_, rfl, _, rfl, _, _, rfl, i, j, rfl, rfl, hi2, hj2, fun x y p H1 ee bx yb sm np hp => ?_⟩
  rw [hgg] at ee hp
  try dsimp only [gName]
  refine if_no (fun H2 => Same H1 H2) (fun Q2 q2 => ?_) (fun H2 s2 => ?_)
  · refine ⟨_, rfl, _, _, _, _, true, rfl, .ty "tuple", .base (.tup hp), kit_ty (by decide +kernel), true, rfl, iteF ?_⟩
    refine ⟨_, rfl, p, _, rfl, .inr (SqT.of hp), rfl, _, rfl, iteF ?_⟩
    refine ⟨_, rfl, p, rfl, ⟨_, SqT.of hp⟩, fun D hD => lc_tup (K := K) (a := p) (xs := [.int g, .int x, .int y]) (fun k H2 => Same H1 H2 ∧ H2 D = some (.lst (List.replicate k (.bl true)))) ⟨same_new hD, upd_same⟩ (fun k H2 _ h2 => SqT.of (h2.1 _ _ hp)) ?_ ?_⟩
    · rintro k v H2 hv ⟨h2, h3⟩
      have hv2 : ∃ z, v = V.int z := by
        rcases k with _ | _ | _ | k
        · exact ⟨_, (Option.some.inj hv).symm⟩
        · exact ⟨_, (Option.some.inj hv).symm⟩
        · exact ⟨_, (Option.some.inj hv).symm⟩
        · simp at hv
      obtain ⟨z, rfl⟩ := hv2
      refine ⟨rfl, _, rfl, _, rfl, z, rfl, _, h3, ?_, ?_, ?_⟩
      · rw [List.length_replicate]
        have : k < 3 := by
          have := (List.getElem?_eq_some_iff.mp hv).1
          simpa using this
        exact small1000 (by omega)
      · intro b o hb
        have nb : b ≠ D := ne_of_none hb hD
        rw [upd_ne nb]
        exact h2 b o hb
      · rw [upd_same, List.replicate_succ']
    · rintro H2 ⟨h2, h3⟩
      refine ⟨D, [true, true, true], rfl, SqL.of h3, true, rfl, ?_⟩
      exact q2 _ h2
  have hp2 := s2 _ _ hp
  try dsimp only [gName]
  refine if_no (fun H3 => H3 = H2) (fun Q2 q2 => ?_) (fun H3 e => ?_)
  · refine ⟨_, rfl, p, _, 0, _, rfl, rfl, SqT.of hp2, atI_nat (j := 0) rfl, _, rfl, rfl, _, rfl, ?_⟩
    rw [decide_eq_true rfl]
    refine iteF ?_
    refine ⟨_, rfl, p, _, 1, _, rfl, rfl, SqT.of hp2, atI_nat (j := 1) rfl, _, rfl, _, _, rfl, rfl, wide_mul bx hi2 (by decide) (by decide) (by decide), ?_⟩
    refine ⟨_, rfl, p, _, 2, _, rfl, rfl, SqT.of hp2, atI_nat (j := 2) rfl, _, rfl, _, _, rfl, rfl, wide_mul yb hj2 (by decide) (by decide) (by decide), _, _, rfl, rfl, _, rfl, rfl, _, rfl, ?_⟩
    exact qNS (Q := Q2) (congrArg V.int ee) (q2 _ rfl)
  subst e
  refine ⟨_, rfl, _, rfl, _, _, rfl, i, j, rfl, rfl, hi2, hj2, ?_⟩
  have c0 := cml_nn i j
  have c1 := cml_small hi2 hj2
  have cz : i = 0 → cml i j = 0 := fun z => if_pos (.inl z)
  generalize cml i j = m at *
  try dsimp only [gName]
  refine if_no (fun H4 => H4 = H3) (fun Q2 q2 => ?_) (fun H4 e => ?_)
  · refine ⟨_, rfl, _, rfl, m, rfl, true, rfl, iteF ?_⟩
    refine ⟨_, rfl, _, _, rfl, rfl, _, rfl, ?_⟩
    rw [decide_eq_false (show ¬ m < 0 by omega)]
    exact q2 _ rfl
  subst e
  refine ⟨_, rfl, rfl, _, rfl, ite2 (fun e => ?_) (fun e => ?_)⟩
  · refine ⟨_, rfl, rfl, ?_⟩
    have eg := eq_yes e
    rw [cz (gz.mp eg).1, decide_eq_true rfl]
    exact q _ (sm.trans s2)
  · refine ⟨_, rfl, _, rfl, _, _, rfl, rfl, wide_mul c1 hg2 (by decide) (by decide) (by decide), _, rfl, _, rfl, _, _, rfl, rfl, wide_mul hi2 hj2 (by decide) (by decide) (by decide), _, rfl, rfl, ?_⟩
    exact qS (Q := Q) (congrArg V.int (hc.trans (abs_eq _).symm)) (q _ (sm.trans s2))
/-! ### the law -/
theorem cml_turn (i j : Int) : cml (0 - j) i = cml i j := by
  have h1 := cml_gcd (0 - j) i
  have h2 := cml_gcd i j
  have e : Int.gcd (0 - j) i = Int.gcd i j := by
    rw [Int.zero_sub, Int.neg_gcd, Int.gcd_comm]
  have e2 : ((0 - j) * i).natAbs = (i * j).natAbs := by
    rw [Int.natAbs_mul, Int.natAbs_mul, Int.zero_sub, Int.natAbs_neg, Nat.mul_comm]
  rw [e, e2, ← h2] at h1
  by_cases hg : ((Int.gcd i j : Nat) : Int) = 0
  · have z := gcd0.mp hg
    have z1 : cml (0 - j) i = 0 := if_pos (.inr z.1)
    have z2 : cml i j = 0 := if_pos (.inl z.1)
    rw [z1, z2]
  · exact Int.eq_of_mul_eq_mul_right hg h1
def spLaw (K : PySem.W.Frag) : Sp := fun vs H Q _ => ∃ (a : Addr) (ns : List Int), vs = [.ref a] ∧ SqL K H a (ns.map V.int) ∧ ns.length ≤ 63 ∧ ∀ H', Q (.bl true) H'
theorem ok_law {f : Addr} {fd : FuncData} (T : Txt K mg) (F : Fun K "law" "law" s_law f fd) : FnOk P w K mg base CX0 4 f fd ["_law_script"] (spLaw K) := by
  have G_common_measure := ok_common_measure (P := P) (w := w) (base := base) T
  have G_common_multiple := ok_common_multiple (P := P) (w := w) (base := base) T
  have G_law_pen := ok_law_pen (P := P) (w := w) (base := base) T
  have G_law_pair := ok_law_pair (P := P) (w := w) (base := base) T
  have G_law_right := ok_law_right (P := P) (w := w) (base := base) T
  refine F.ok sc_law (fun vs H Q E h => ?_) (fun cdv A outer s H vs Q E hr h => ?_)
  · obtain ⟨a, ns, rfl, _⟩ := h
    rfl
  obtain ⟨a, ns, rfl, hS, hl, q⟩ := h
  refine ⟨_, (pss_cons (ps_set (i := 1) sc_law.nd rfl (Or.inl rfl) (pe_fn G_law_pen (hr.mono (by decide)) (by rfl) (pa_cons (pv 0) pa_nil)))
(pss_cons (ps_for PassesOwn.never rfl (pi_range1 (by rfl) T.n_range (pa_cons pe_int pa_nil)) (pg_name (i := 2) sc_law.nd rfl (Or.inl rfl))
(pss_cons (ps_asg (pe_fn G_law_pair (hr.mono (by decide)) (by rfl) (pa_cons (pv 1) pa_nil)) (pg_tup rfl (pgs_cons (pg_name (i := 3) sc_law.nd rfl (Or.inl rfl)) (pgs_cons (pg_name (i := 4) sc_law.nd rfl (Or.inl rfl)) pgs_nil))))
(pss_cons (ps_if (PW.pt (pw_or (pt_not (pt_val (pe_fn G_law_right (hr.mono (by decide)) (by rfl) (pa_cons (pv 3) (pa_cons (pv 4) pa_nil))))) (pw_or (pt_not (pt_val (pe_fn G_law_right (hr.mono (by decide)) (by rfl) (pa_cons (pv 4) (pa_cons (pv 3) pa_nil))))) (pw_or1 (pt_not (pt_val (pe_fn G_law_right (hr.mono (by decide)) (by rfl) (pa_cons (pe_op op_sub pe_int (pv 3)) (pa_cons (pv 4) pa_nil)))))))))
(pss_one (ps_ret pe_bl))
pss_nil)
(pss_one (ps_if (PW.pt (pw_or (pt_cmpR op_ne (pe_fn G_common_measure (hr.mono (by decide)) (by rfl) (pa_cons (pv 4) (pa_cons (pe_op op_sub pe_int (pv 3)) pa_nil))) (pe_fn G_common_measure (hr.mono (by decide)) (by rfl) (pa_cons (pv 3) (pa_cons (pv 4) pa_nil))) (nomark _)) (pw_or1 (pt_cmpR op_ne (pe_fn G_common_multiple (hr.mono (by decide)) (by rfl) (pa_cons (pe_op op_sub pe_int (pv 4)) (pa_cons (pv 3) pa_nil))) (pe_fn G_common_multiple (hr.mono (by decide)) (by rfl) (pa_cons (pv 3) (pa_cons (pv 4) pa_nil))) (nomark _)))))
(pss_one (ps_ret pe_bl))
pss_nil)))))
(pss_one (ps_ret pe_bl)))), ?_⟩
  refine ⟨_, rfl, _, rfl, a, ns, rfl, hS, fun d H1 nd sm hp => ?_⟩
  refine ⟨8, rfl, by decide, by decide, for_range (lo := 0) (n := 8) (fun k σ H' => ∃ o2 o3 o4 : Option V, σ = [some (.ref a), some (.ref d), o2, o3, o4] ∧ Pen K H' d a ns (20 * k))
    ⟨none, none, none, rfl, by simpa using hp⟩ ?_ ?_⟩
  · rintro k σ H' hk ⟨o2, o3, o4, rfl, hp1⟩
    refine ⟨_, rfl, _, rfl, d, a, ns, _, rfl, hp1, by omega, fun i j t H2 hi hj ht hp2 => ?_⟩
    refine ⟨t, _, rfl, SqT.of ht, rfl, _, _, rfl, _, _, rfl, rfl, ?_⟩
    have hi2 := up200 hi
    have hj2 := up200 hj
    have hin : (0 - i).natAbs < 2 ^ 120 := by
      rw [Int.zero_sub, Int.natAbs_neg]
      exact hi
    have hjn : (0 - j).natAbs < 2 ^ 200 := by
      rw [Int.zero_sub, Int.natAbs_neg]
      exact hj2
    try dsimp only [gName]
    refine if_no (fun H3 => Same H2 H3) (fun Q2 q2 => ?_) (fun H3 s3 => ?_)
    · refine ⟨_, rfl, _, rfl, _, _, rfl, i, j, rfl, rfl, hi, hj, fun H3 s3 => ⟨true, rfl, iteF ?_⟩⟩
      refine ⟨_, rfl, _, rfl, _, _, rfl, j, i, rfl, rfl, hj, hi, fun H4 s4 => ⟨true, rfl, iteF ?_⟩⟩
      refine ⟨_, rfl, _, _, rfl, rfl, _, rfl, _, _, rfl, 0 - i, j, rfl, rfl, hin, hj, fun H5 s5 => ⟨true, rfl, ?_⟩⟩
      exact q2 _ ((s3.trans s4).trans s5)
    refine if_no1 (fun H4 => H4 = H3) (fun Q2 q2 => ?_) (fun H4 e => ?_)
    · refine ⟨_, rfl, _, rfl, _, _, rfl, rfl, _, _, rfl, j, 0 - i, rfl, rfl, _, rfl, _, rfl, _, _, rfl, i, j, rfl, rfl, rfl, _, rfl, ?_⟩
      have e1 : Int.gcd j (0 - i) = Int.gcd i j := by
        rw [Int.zero_sub, Int.gcd_neg, Int.gcd_comm]
      rw [e1, decide_eq_true rfl]
      refine iteF ?_
      refine ⟨_, rfl, _, _, rfl, rfl, _, rfl, _, _, rfl, 0 - j, i, rfl, rfl, hjn, hi2, _, rfl, _, rfl, _, _, rfl, i, j, rfl, rfl, hi2, hj2, rfl, _, rfl, ?_⟩
      rw [cml_turn, decide_eq_true rfl]
      exact q2 _ rfl
    · subst e
      have hp4 := hp2.same s3
      refine ⟨_, _, _, rfl, ?_⟩
      have ec : (20 : Int) * ((k + 1 : Nat) : Int) = 20 * k + 20 := by omega
      rw [ec]
      exact hp4
  · rintro σ H' ⟨o2, o3, o4, rfl, hp1⟩
    exact q _
end
theorem all_mk {l : PySem.W.OpenLaw} {w : World} {K : PySem.W.Frag} {h : Heap} {mg : Str → Option Value} {fa : Addr} (X : K.In h) (G : h.Ns mainGlobals mg) (hfa : mg "law" = some (.ref fa))
    {f1 : Addr} {od1 an1 : Option Addr} {sl1 : Array (Option Value)} {oc1 kV1 dc1 pm1 cd1 ct1 : Value}
    {f2 : Addr} {od2 an2 : Option Addr} {sl2 : Array (Option Value)} {oc2 kV2 dc2 pm2 cd2 ct2 : Value}
    {f3 : Addr} {od3 an3 : Option Addr} {sl3 : Array (Option Value)} {oc3 kV3 dc3 pm3 cd3 ct3 : Value}
    {f4 : Addr} {od4 an4 : Option Addr} {sl4 : Array (Option Value)} {oc4 kV4 dc4 pm4 cd4 ct4 : Value}
    {f5 : Addr} {od5 an5 : Option Addr} {sl5 : Array (Option Value)} {oc5 kV5 dc5 pm5 cd5 ct5 : Value}
    {f6 : Addr} {od6 an6 : Option Addr} {sl6 : Array (Option Value)} {oc6 kV6 dc6 pm6 cd6 ct6 : Value}
    {f7 : Addr} {od7 an7 : Option Addr} {sl7 : Array (Option Value)} {oc7 kV7 dc7 pm7 cd7 ct7 : Value}
    {f8 : Addr} {od8 an8 : Option Addr} {sl8 : Array (Option Value)} {oc8 kV8 dc8 pm8 cd8 ct8 : Value}
    {f9 : Addr} {od9 an9 : Option Addr} {sl9 : Array (Option Value)} {oc9 kV9 dc9 pm9 cd9 ct9 : Value}
    {f10 : Addr} {od10 an10 : Option Addr} {sl10 : Array (Option Value)} {oc10 kV10 dc10 pm10 cd10 ct10 : Value}
    {f11 : Addr} {od11 an11 : Option Addr} {sl11 : Array (Option Value)} {oc11 kV11 dc11 pm11 cd11 ct11 : Value}
    (a1 : PySem.W.nsIn K mainGlobals "common_measure" = some (some (.ref f1))) (l1 : K.lookup f1 = some ⟨oc1, od1, .func (PySem.W.fnOf "common_measure" "common_measure" (defArgs s_common_measure) (defBody s_common_measure) (defScope s_common_measure) .none kV1 dc1 pm1 an1 cd1 ct1), sl1⟩) (c1 : PySem.W.codeIn K cd1 "common_measure" = true) (k1 : PySem.W.keepIn K (.ref f1) = true)
    (a2 : PySem.W.nsIn K mainGlobals "common_multiple" = some (some (.ref f2))) (l2 : K.lookup f2 = some ⟨oc2, od2, .func (PySem.W.fnOf "common_multiple" "common_multiple" (defArgs s_common_multiple) (defBody s_common_multiple) (defScope s_common_multiple) .none kV2 dc2 pm2 an2 cd2 ct2), sl2⟩) (c2 : PySem.W.codeIn K cd2 "common_multiple" = true) (k2 : PySem.W.keepIn K (.ref f2) = true)
    (a3 : PySem.W.nsIn K mainGlobals "both" = some (some (.ref f3))) (l3 : K.lookup f3 = some ⟨oc3, od3, .func (PySem.W.fnOf "both" "both" (defArgs s_both) (defBody s_both) (defScope s_both) .none kV3 dc3 pm3 an3 cd3 ct3), sl3⟩) (c3 : PySem.W.codeIn K cd3 "both" = true) (k3 : PySem.W.keepIn K (.ref f3) = true)
    (a4 : PySem.W.nsIn K mainGlobals "_law_pen" = some (some (.ref f4))) (l4 : K.lookup f4 = some ⟨oc4, od4, .func (PySem.W.fnOf "_law_pen" "_law_pen" (defArgs s_law_pen) (defBody s_law_pen) (defScope s_law_pen) .none kV4 dc4 pm4 an4 cd4 ct4), sl4⟩) (c4 : PySem.W.codeIn K cd4 "_law_pen" = true) (k4 : PySem.W.keepIn K (.ref f4) = true)
    (a5 : PySem.W.nsIn K mainGlobals "_law_draw" = some (some (.ref f5))) (l5 : K.lookup f5 = some ⟨oc5, od5, .func (PySem.W.fnOf "_law_draw" "_law_draw" (defArgs s_law_draw) (defBody s_law_draw) (defScope s_law_draw) .none kV5 dc5 pm5 an5 cd5 ct5), sl5⟩) (c5 : PySem.W.codeIn K cd5 "_law_draw" = true) (k5 : PySem.W.keepIn K (.ref f5) = true)
    (a6 : PySem.W.nsIn K mainGlobals "_law_far" = some (some (.ref f6))) (l6 : K.lookup f6 = some ⟨oc6, od6, .func (PySem.W.fnOf "_law_far" "_law_far" (defArgs s_law_far) (defBody s_law_far) (defScope s_law_far) .none kV6 dc6 pm6 an6 cd6 ct6), sl6⟩) (c6 : PySem.W.codeIn K cd6 "_law_far" = true) (k6 : PySem.W.keepIn K (.ref f6) = true)
    (a7 : PySem.W.nsIn K mainGlobals "_law_whole" = some (some (.ref f7))) (l7 : K.lookup f7 = some ⟨oc7, od7, .func (PySem.W.fnOf "_law_whole" "_law_whole" (defArgs s_law_whole) (defBody s_law_whole) (defScope s_law_whole) .none kV7 dc7 pm7 an7 cd7 ct7), sl7⟩) (c7 : PySem.W.codeIn K cd7 "_law_whole" = true) (k7 : PySem.W.keepIn K (.ref f7) = true)
    (a8 : PySem.W.nsIn K mainGlobals "_law_small" = some (some (.ref f8))) (l8 : K.lookup f8 = some ⟨oc8, od8, .func (PySem.W.fnOf "_law_small" "_law_small" (defArgs s_law_small) (defBody s_law_small) (defScope s_law_small) .none kV8 dc8 pm8 an8 cd8 ct8), sl8⟩) (c8 : PySem.W.codeIn K cd8 "_law_small" = true) (k8 : PySem.W.keepIn K (.ref f8) = true)
    (a9 : PySem.W.nsIn K mainGlobals "_law_pair" = some (some (.ref f9))) (l9 : K.lookup f9 = some ⟨oc9, od9, .func (PySem.W.fnOf "_law_pair" "_law_pair" (defArgs s_law_pair) (defBody s_law_pair) (defScope s_law_pair) .none kV9 dc9 pm9 an9 cd9 ct9), sl9⟩) (c9 : PySem.W.codeIn K cd9 "_law_pair" = true) (k9 : PySem.W.keepIn K (.ref f9) = true)
    (a10 : PySem.W.nsIn K mainGlobals "_law_right" = some (some (.ref f10))) (l10 : K.lookup f10 = some ⟨oc10, od10, .func (PySem.W.fnOf "_law_right" "_law_right" (defArgs s_law_right) (defBody s_law_right) (defScope s_law_right) .none kV10 dc10 pm10 an10 cd10 ct10), sl10⟩) (c10 : PySem.W.codeIn K cd10 "_law_right" = true) (k10 : PySem.W.keepIn K (.ref f10) = true)
    (a11 : PySem.W.nsIn K mainGlobals "law" = some (some (.ref f11))) (l11 : K.lookup f11 = some ⟨oc11, od11, .func (PySem.W.fnOf "law" "law" (defArgs s_law) (defBody s_law) (defScope s_law) .none kV11 dc11 pm11 an11 cd11 ct11), sl11⟩) (c11 : PySem.W.codeIn K cd11 "law" = true) (k11 : PySem.W.keepIn K (.ref f11) = true)
    (z1 : PySem.W.nsIn K mainGlobals "abs" = some none)
    (z2 : PySem.W.nsIn K mainGlobals "all" = some none)
    (z3 : PySem.W.nsIn K mainGlobals "bool" = some none)
    (z4 : PySem.W.nsIn K mainGlobals "divmod" = some none)
    (z5 : PySem.W.nsIn K mainGlobals "int" = some none)
    (z6 : PySem.W.nsIn K mainGlobals "isinstance" = some none)
    (z7 : PySem.W.nsIn K mainGlobals "len" = some none)
    (z8 : PySem.W.nsIn K mainGlobals "range" = some none)
    (z9 : PySem.W.nsIn K mainGlobals "tuple" = some none) :
    ∃ fd : FuncData, (∀ (s : Shared) (v : Value), BindsTo s fd ⟨[v], []⟩ [("_law_script", v)]) ∧ ∀ base : Heap, K.In base → base.Ns mainGlobals mg → FnOk l.prog w K mg base CX0 4 fa fd ["_law_script"] (spLaw K) := by
  have e := hfa.symm.trans (PySem.W.mg_of X G a11)
  cases e
  have T : Txt K mg := ⟨df_mk (PySem.W.mg_of X G a1) l1 c1 k1 (fun _ _ _ _ _ _ us hl => match us, hl with | [_, _], _ => rfl),
    df_mk (PySem.W.mg_of X G a2) l2 c2 k2 (fun _ _ _ _ _ _ us hl => match us, hl with | [_, _], _ => rfl),
    df_mk (PySem.W.mg_of X G a3) l3 c3 k3 (fun _ _ _ _ _ _ us hl => match us, hl with | [_, _], _ => rfl),
    df_mk (PySem.W.mg_of X G a4) l4 c4 k4 (fun _ _ _ _ _ _ us hl => match us, hl with | [_], _ => rfl),
    df_mk (PySem.W.mg_of X G a5) l5 c5 k5 (fun _ _ _ _ _ _ us hl => match us, hl with | [_, _], _ => rfl),
    df_mk (PySem.W.mg_of X G a6) l6 c6 k6 (fun _ _ _ _ _ _ us hl => match us, hl with | [_], _ => rfl),
    df_mk (PySem.W.mg_of X G a7) l7 c7 k7 (fun _ _ _ _ _ _ us hl => match us, hl with | [_], _ => rfl),
    df_mk (PySem.W.mg_of X G a8) l8 c8 k8 (fun _ _ _ _ _ _ us hl => match us, hl with | [_], _ => rfl),
    df_mk (PySem.W.mg_of X G a9) l9 c9 k9 (fun _ _ _ _ _ _ us hl => match us, hl with | [_], _ => rfl),
    df_mk (PySem.W.mg_of X G a10) l10 c10 k10 (fun _ _ _ _ _ _ us hl => match us, hl with | [_, _], _ => rfl),
    df_mk (PySem.W.mg_of X G a11) l11 c11 k11 (fun _ _ _ _ _ _ us hl => match us, hl with | [_], _ => rfl),
    PySem.W.mg_none_of X G z1,
    PySem.W.mg_none_of X G z2,
    PySem.W.mg_none_of X G z3,
    PySem.W.mg_none_of X G z4,
    PySem.W.mg_none_of X G z5,
    PySem.W.mg_none_of X G z6,
    PySem.W.mg_none_of X G z7,
    PySem.W.mg_none_of X G z8,
    PySem.W.mg_none_of X G z9⟩
  exact ⟨PySem.W.fnOf "law" "law" (defArgs s_law) (defBody s_law) (defScope s_law) .none kV11 dc11 pm11 an11 cd11 ct11, fun s v => .of_eq rfl, fun base _ _ => ok_law T (fun_mk (st := s_law) l11 c11 k11)⟩
end K01
open PySem PySem.W PyProof.Rows
set_option maxRecDepth 100000 in
set_option maxHeartbeats 0 in
theorem PySem.Challenge.cw_commonhouse_k01_measures_and_multiples_holds : PySem.Challenge.rw_commonhouse_k01_measures_and_multiples.Holds := by
  w_on; o_law; k_head; (case hw => w_witness2)
  k_fill
  refine L2.walk_of (l := PySem.Challenge.rw_commonhouse_k01_measures_and_multiples) (n := 63) (k := 4) (x := "_law_script") (CX := fun _ => L2.CX0) (sp := fun w => K01.spLaw _) rfl (by decide) rfl ⟨rfl, by decide, by decide⟩ (fun w h Y => PySem.W.kIn_of Y) ?F (fun _ _ a ns hl _ hS => ⟨a, ns, rfl, hS, hl, fun _ => rfl⟩) (fun _ _ _ _ _ h => h)
  case F =>
    intro w mg fa h KX G hmg
    refine' K01.all_mk KX G hmg ?a1 ?l1 ?c1 ?k1 ?a2 ?l2 ?c2 ?k2 ?a3 ?l3 ?c3 ?k3 ?a4 ?l4 ?c4 ?k4 ?a5 ?l5 ?c5 ?k5 ?a6 ?l6 ?c6 ?k6 ?a7 ?l7 ?c7 ?k7 ?a8 ?l8 ?c8 ?k8 ?a9 ?l9 ?c9 ?k9 ?a10 ?l10 ?c10 ?k10 ?a11 ?l11 ?c11 ?k11 ?z1 ?z2 ?z3 ?z4 ?z5 ?z6 ?z7 ?z8 ?z9
    (case a1 => k_is); (case l1 => k_is); (case c1 => k_is); (case k1 => k_is); (case a2 => k_is); (case l2 => k_is)
    (case c2 => k_is); (case k2 => k_is); (case a3 => k_is); (case l3 => k_is); (case c3 => k_is); (case k3 => k_is)
    (case a4 => k_is); (case l4 => k_is); (case c4 => k_is); (case k4 => k_is); (case a5 => k_is); (case l5 => k_is)
    (case c5 => k_is); (case k5 => k_is); (case a6 => k_is); (case l6 => k_is); (case c6 => k_is); (case k6 => k_is)
    (case a7 => k_is); (case l7 => k_is); (case c7 => k_is); (case k7 => k_is); (case a8 => k_is); (case l8 => k_is)
    (case c8 => k_is); (case k8 => k_is); (case a9 => k_is); (case l9 => k_is); (case c9 => k_is); (case k9 => k_is)
    (case a10 => k_is); (case l10 => k_is); (case c10 => k_is); (case k10 => k_is); (case a11 => k_is); (case l11 => k_is)
    (case c11 => k_is); (case k11 => k_is); (case z1 => k_is); (case z2 => k_is); (case z3 => k_is); (case z4 => k_is)
    (case z5 => k_is); (case z6 => k_is); (case z7 => k_is); (case z8 => k_is); (case z9 => k_is)
