import PyProof.Rows.All
import Wide.All
import OpenK.AllK
import Wide.FinOn
import HandS.Base
import HandS.Call
import HandS.List
import HandS.Comp
import HandS.Ends
import HandS.Dict
import HandS.Iter
import HandS.Words
import HandS.IsInst
import HandS.TupAny
import HandS.TupLe
import HandS.WordsList
import HandS.TupMul
import HandS.Zip
import HandS.Walk
import HandS.Wide
import KE.GoesEnum
import KE.GoesEnumKw
import HandS.SortKw
import HandS.Style
import HandS.More
import HandS.WordsDict
import HandS.Star
import PySem.Challenge.RW_commonhouse_k39_by_primes
set_option Elab.async false
set_option linter.all false
set_option maxRecDepth 100000
set_option maxHeartbeats 4000000
namespace Cm
open PySem PySem.Spec PyProof.Rows L2
/-! ### defs by their names -/
/-- the def x of the text stands behind the top by its name -/
def Df (K : PySem.W.Frag) (mg : Str → Option Value) (x : Str) (st : Stmt) (ps : List Str) : Prop :=
  ∃ f fd, Fun K x x st f fd ∧ mg x = some (.ref f) ∧ Binds K fd ps []
theorem df_mk {K : PySem.W.Frag} {mg : Str → Option Value} {x : Str} {st : Stmt} {ps : List Str} {f : Addr} {oc : Value} {od an : Option Addr} {osl : Array (Option Value)} {kV doc pm cdv ct : Value} (hm : mg x = some (.ref f))
    (l : K.lookup f = some ⟨oc, od, .func (PySem.W.fnOf x x (defArgs st) (defBody st) (defScope st) .none kV doc pm an cdv ct), osl⟩) (c : PySem.W.codeIn K cdv x = true) (k : PySem.W.keepIn K (.ref f) = true)
    (h : ∀ (kV doc pm : Value) (an : Option Addr) (cdv ct : Value) (us : List Value), us.length = ps.length → bindArgs (PySem.W.fnOf x x (defArgs st) (defBody st) (defScope st) .none kV doc pm an cdv ct) ⟨us, []⟩ = pure (ps.zip us)) : Df K mg x st ps :=
  ⟨f, _, fun_mk l c k, hm, (fun_mk l c k).binds h⟩
/-! ### a promise that is kept where no repr runs around (the recursion guards are empty) -/
structure FnG (P : Program) (w : World) (K : PySem.W.Frag) (mg : Str → Option Value) (base : Heap) (CX : CXT) (k : Nat) (f : Addr) (fd : FuncData) (ps : List Str) (sp : Sp) : Prop where
  len : ∀ vs H Q E, sp vs H Q E → vs.length = ps.length
  go : ∀ (A : Around) (outer : List Env) (s : Shared) (H : Hp) (args : Args) (us : List Value) (vs : List V) (Q : VK) (E : XK), Room k A → A.guards = some [] → Env0 P w K mg base A outer s H → BindsTo s fd args (ps.zip us) → Vals vs us → sp vs H Q E →
    codeAny (model P w) A (.call (.ref f) args) (CR CX outer P w H s Q E) s
section
variable {P : Program} {w : World} {K : PySem.W.Frag} {mg : Str → Option Value} {base : Heap} {CX : CXT}
/-- a def's body keeps its promise there -/
theorem fng_mk {k : Nat} {f : Addr} {x qual : Str} {st : Stmt} {fd : FuncData} {N ps : List Str} {sp : Sp} (F : Fun K x qual st f fd) (S : FnScope N ps (defScope st))
    (len : ∀ vs H Q E, sp vs H Q E → vs.length = ps.length)
    (body : ∀ (cdv : Value) (A : Around) (outer : List Env) (s : Shared) (H : Hp) (vs : List V) (Q : VK) (E : XK), Room k (A.deeper (envOfC qual (defScope st) s.heap.objs.size f cdv)) → A.guards = some [] → sp vs H Q E →
      ∃ t, PSs (cxOf CX P w K mg base N qual (defScope st) f cdv A outer s H E) (defBody st) t ∧ t { nx := fun _ H' => Q .non H', rt := Q } (start N vs) H) : FnG P w K mg base CX (k + 1) f fd ps sp := by
  obtain ⟨oc, od, kV, doc, pm, an, cdv, ct, osl, hfd, lk, hcd⟩ := F.ex
  subst hfd
  refine ⟨len, fun A outer s H args us vs Q E room gd env bind rel prom => ?_⟩
  have llen := len _ _ _ _ prom
  have inK : K.In s.heap := env.mod.kin.keeps fun b o e => (env.bs b o e).1
  have nolim : s.heap.NoLimit := env.mod.nolimit.keeps fun b o e => (env.bs b o e).1
  have kinds : ∀ y ∈ ps.zip us, (defScope st).names.lookup y.1 = some .local ∨ ((defScope st).names.lookup y.1 = some .cell ∧ ((cellsFrom (s.heap.objs.size + 1) (defScope st).names []).lookup y.1).isSome = true) := by
    rintro ⟨n, v⟩ hy
    rcases S.par n (List.of_mem_zip hy).1 with z | z
    · exact .inl z
    · exact .inr ⟨z, PySem.W.cellsFrom_some _ _ _ (.inl z)⟩
  refine codeAny_call_function room.depth (inK _ _ lk) rfl S.co S.gen rfl (PySem.W.codeRec_of inK hcd) (bind _ _ _ _ ?_)
  refine wpAny_newFunctionEnv_cells S.kind kinds fun fenv hfe s1 ent => ?_
  subst hfe
  refine ⟨nolim.keeps ent.toInCall.keep, codeAny_func ?_⟩
  obtain ⟨t, ht, hq⟩ := body cdv A outer s H vs Q E (room.deeper _) gd prom
  have I0 : Inv (cxOf CX P w K mg base N qual (defScope st) f cdv A outer s H E) [] (start N vs) H s1 := inv_start S room.hd env llen rel ent
  refine wpAny_mono (ht.run [] s1 (start N vs) H _ I0 hq) (fun fl s' out => ?_) fun e s' out => out
  cases fl with
  | ret u =>
    obtain ⟨v, σ', H', J, rv, q⟩ := out
    exact ⟨v, H', J.os, J.bare, J.base, J.hok, rv, q⟩
  | next =>
    obtain ⟨σ', H', J, q⟩ := out
    exact ⟨V.non, H', J.os, J.bare, J.base, J.hok, rfl, q⟩
  | brk =>
    obtain ⟨_, _, _, q⟩ := out
    exact q.elim
  | cont =>
    obtain ⟨_, _, _, q⟩ := out
    exact q.elim
end
/-- the def x keeps the promise sp; no exception leaves it -/
def Fn (P : Program) (w : World) (K : PySem.W.Frag) (mg : Str → Option Value) (base : Heap) (k : Nat) (x : Str) (ps : List Str) (sp : Sp) : Prop :=
  ∃ f fd, FnG P w K mg base CX0 k f fd ps sp ∧ mg x = some (.ref f) ∧ PySem.W.keepIn K (.ref f) = true ∧ Binds K fd ps []
section
variable {P : Program} {w : World} {K : PySem.W.Frag} {mg : Str → Option Value} {base : Heap}
theorem Df.ok {x : Str} {st : Stmt} {ps N : List Str} {k : Nat} {sp : Sp} (D : Df K mg x st ps) (S : FnScope N ps (defScope st)) (len : ∀ vs H Q E, sp vs H Q E → vs.length = ps.length)
    (hbody : ∀ (f : Addr) (cdv : Value) (A : Around) (outer : List Env) (s : Shared) (H : Hp) (vs : List V) (Q : VK) (E : XK), Room k (A.deeper (envOfC x (defScope st) s.heap.objs.size f cdv)) → A.guards = some [] → sp vs H Q E →
      ∃ t, PSs (cxOf CX0 P w K mg base N x (defScope st) f cdv A outer s H E).nox (defBody st) t ∧ t { nx := fun _ H' => Q .non H', rt := Q } (start N vs) H) : Fn P w K mg base (k + 1) x ps sp := by
  obtain ⟨f, fd, F, hm, hb⟩ := D
  refine ⟨f, fd, fng_mk F S len fun cdv A outer s H vs Q E hr hg h => ?_, hm, F.kp, hb⟩
  obtain ⟨t, ht, q⟩ := hbody f cdv A outer s H vs Q E hr hg h
  exact ⟨t, ht.nox, q⟩
end
section
variable {X : Cx} {k : Nat} {x : Str} {ps : List Str} {sp : Sp} {e : Expr} {es : List Expr} {t : TA} {p pos : Pos}
theorem run_g {CX : CXT} {f : Addr} {fd : FuncData} {E : XK} {pins : List (Addr × Obj)} {σ : L2.St} {H : Hp} {s : Shared} {Q : VK} {us : List Value} {vs : List V} (F : FnG X.prog X.w X.K X.mg X.base CX k f fd ps sp) (hr : Room k X.A) (hg : X.A.guards = some [])
    (hb : Binds X.K fd ps []) (hx : Passes CX X E) (I : Inv X pins σ H s) (r : Vals vs us) (h : sp (vs ++ []) H Q E) : wpAny (model X.prog X.w) X.A (call (.ref f) us) (EP X pins σ Q) X.xe s := by
  rw [List.append_nil] at h
  have hl : (us ++ []).length = ps.length := by
    rw [List.append_nil, ← r.length]
    exact F.len _ _ _ _ h
  have hb2 := hb s us I.kIn hl
  rw [List.append_nil] at hb2
  refine wpAny_call (codeAny_mono (F.go X.A X.stack s H ⟨us, []⟩ us vs Q E hr hg I.env0 hb2 r h) fun r s' hq => ?_)
  cases r with
  | error e => exact hx pins σ H s e s' I hq
  | ok fl =>
    cases fl with
    | ret u => exact I.after hq
    | next => exact hq.elim
    | brk => exact hq.elim
    | cont => exact hq.elim
theorem pe_fn (F : Fn X.prog X.w X.K X.mg X.base k x ps sp) (hr : Room k X.A) (hgd : X.A.guards = some []) (hg : Gl X x) (ha : PA X (e :: es) t) (hdb : (x == ("__debug__" : Str)) = false := by decide)
    (he : starEach (e :: es) X.env = (false, eval e X.env) :: starEach es X.env := by rfl) (hpl : (backTo pos (starEach es X.env)).any (·.1) = false := by rfl) : PE X (.Call (.Name x p) (e :: es) [] pos) (tCall sp [] E0 t) := by
  obtain ⟨f, fd, F, hm, hk, hb⟩ := F
  refine ⟨fun pins s σ H Q I h => ?_⟩
  refine wpAny_Call_Name_kw (ld_glob I hg hm ?_ hdb)
  refine PySem.W.callWith_K (h₀ := X.base) I.ok.mod.kin hk (thn (ha.run pos pins s σ H _ I h) fun us s1 out => ?_) he hpl
  obtain ⟨vs, H1, I1, r, q⟩ := out
  exact ⟨I1.kIn, run_g F hr hgd hb pass0 I1 r q⟩
end
/-! ### promises by the number of arguments -/
def sp1 (R : V → Hp → VK → Prop) : Sp := fun vs H Q _ => ∃ a, vs = [a] ∧ R a H Q
def sp2 (R : V → V → Hp → VK → Prop) : Sp := fun vs H Q _ => ∃ a b, vs = [a, b] ∧ R a b H Q
def sp3 (R : V → V → V → Hp → VK → Prop) : Sp := fun vs H Q _ => ∃ a b c, vs = [a, b, c] ∧ R a b c H Q
def sp4 (R : V → V → V → V → Hp → VK → Prop) : Sp := fun vs H Q _ => ∃ a b c d, vs = [a, b, c, d] ∧ R a b c d H Q
theorem len1 {R : V → Hp → VK → Prop} {x : Str} : ∀ vs H Q E, sp1 R vs H Q E → vs.length = [x].length := by
  rintro vs H Q E ⟨a, rfl, _⟩
  rfl
theorem len2 {R : V → V → Hp → VK → Prop} {x y : Str} : ∀ vs H Q E, sp2 R vs H Q E → vs.length = [x, y].length := by
  rintro vs H Q E ⟨a, b, rfl, _⟩
  rfl
theorem len3 {R : V → V → V → Hp → VK → Prop} {x y z : Str} : ∀ vs H Q E, sp3 R vs H Q E → vs.length = [x, y, z].length := by
  rintro vs H Q E ⟨a, b, c, rfl, _⟩
  rfl
theorem len4 {R : V → V → V → V → Hp → VK → Prop} {x y z u : Str} : ∀ vs H Q E, sp4 R vs H Q E → vs.length = [x, y, z, u].length := by
  rintro vs H Q E ⟨a, b, c, d, rfl, _⟩
  rfl
/-! ### heaps -/
/-- all but the object at d is kept -/
def But (d : Addr) (H H' : Hp) : Prop := ∀ b o, b ≠ d → H b = some o → H' b = some o
theorem But.refl (d : Addr) (H : Hp) : But d H H := fun _ _ _ h => h
theorem But.trans {d : Addr} {H H1 H2 : Hp} (a : But d H H1) (b : But d H1 H2) : But d H H2 := fun c o n h => b c o n (a c o n h)
theorem But.upd {d : Addr} {H : Hp} {o : HO} : But d H (L2.upd H d o) := fun b u n h => by
  rw [upd_ne n]
  exact h
theorem But.new {d p : Addr} {H : Hp} {o : HO} (n : H p = none) : But d H (L2.upd H p o) := fun b u _ h => by
  rw [upd_ne (ne_of_none h n)]
  exact h
theorem But.same {d : Addr} {H H1 : Hp} (a : Same H H1) : But d H H1 := fun b o _ h => a b o h
theorem same_new {H : Hp} {p : Addr} {o : HO} (h : H p = none) : Same H (L2.upd H p o) := fun b x e => by
  rw [upd_ne (ne_of_none e h)]
  exact e
theorem sqt_of_same {K : PySem.W.Frag} {H H' : Hp} {a : Addr} {xs : List V} (e : Same H H') (h : SqT K H a xs) : SqT K H' a xs := by
  rcases h with (h | ⟨o, h⟩) | h
  · exact .inl (.inl (e _ _ h))
  · exact .inl (.inr ⟨o, e _ _ h⟩)
  · exact .inr h
/-- abs -/
theorem abs_eq (i : Int) : (if i < 0 then -i else i) = (i.natAbs : Int) := by
  split <;> omega
theorem qNS {c : Prop} [Decidable c] (hc : c) {Q : Bool → Hp → Prop} {H : Hp} (q : Q false H) : Q (!decide c) H := by
  rw [decide_eq_true hc]
  exact q
theorem qN {c : Prop} [Decidable c] (hc : ¬ c) {Q : Bool → Hp → Prop} {H : Hp} (q : Q false H) : Q (decide c) H := by
  rw [decide_eq_false hc]
  exact q
theorem qS {c : Prop} [Decidable c] (hc : c) {Q : VK} {H : Hp} (q : Q (.bl true) H) : Q (.bl (decide c)) H := by
  rw [decide_eq_true hc]
  exact q
theorem iteN {c A B : Prop} [Decidable c] (hc : ¬ c) (h : B) : if decide c = true then A else B := by
  rw [decide_eq_false hc]
  exact iteF h
theorem iteS {c A B : Prop} [Decidable c] (hc : c) (h : A) : if decide c = true then A else B := by
  rw [decide_eq_true hc]
  exact iteT h
/-! ### an if that is not taken -/
theorem if_no {c : TT} {t r : TS} {D : Ends} {σ : L2.St} {H : Hp} (R : Hp → Prop) (h : ∀ Q : Bool → Hp → Prop, (∀ H', R H' → Q false H') → c σ H Q) (k : ∀ H', R H' → r D σ H') : tSeq (tIfS c t tNext) r D σ H := by
  show c σ H _
  exact h _ fun H' q => iteF (k H' q)
/-- the last if of a block that is not taken -/
theorem if_no1 {c : TT} {t : TS} {D : Ends} {σ : L2.St} {H : Hp} (R : Hp → Prop) (h : ∀ Q : Bool → Hp → Prop, (∀ H', R H' → Q false H') → c σ H Q) (k : ∀ H', R H' → D.nx σ H') : tIfS c t tNext D σ H := by
  show c σ H _
  exact h _ fun H' q => iteF (k H' q)
theorem or_no {t u : TT} {σ : L2.St} {H : Hp} {Q : Bool → Hp → Prop} (R : Hp → Prop) (h : ∀ Q : Bool → Hp → Prop, (∀ H', R H' → Q false H') → t σ H Q) (k : ∀ H', R H' → u σ H' Q) : tOr t u σ H Q := by
  show t σ H _
  exact h _ fun H' q => iteF (k H' q)
end Cm

set_option Elab.async false
set_option linter.all false
set_option maxRecDepth 100000
set_option maxHeartbeats 4000000
namespace Cm
open PySem PySem.Spec PyProof.Rows L2
/-! ### the end of a law whose promise is kept where no repr runs around -/
/-- the heap that is tracked at the law's entry: the script alone, where it is none of the module's own objects -/
def scriptH (K : PySem.W.Frag) (a : Addr) (vs : List Value) (ns : List Int) : Hp := fun b =>
  if b = a ∧ K.lookup a = none then some (.frz { cls := .type "list", data := .seq vs.toArray } (.lst (ns.map V.int))) else none
theorem scriptH_some {K : PySem.W.Frag} {a b : Addr} {vs : List Value} {ns : List Int} {u : HO} (h : scriptH K a vs ns b = some u) :
    b = a ∧ K.lookup a = none ∧ u = .frz { cls := .type "list", data := .seq vs.toArray } (.lst (ns.map V.int)) := by
  unfold scriptH at h
  split at h
  · rename_i z
    exact ⟨z.1, z.2, (Option.some.inj h).symm⟩
  · cases h
theorem scriptH_free {K : PySem.W.Frag} {a b : Addr} {vs : List Value} {ns : List Int} (h : b ≠ a ∨ K.lookup a ≠ none) : scriptH K a vs ns b = none := by
  unfold scriptH
  split
  · rename_i z
    rcases h with h | h
    · exact absurd z.1 h
    · exact absurd z.2 h
  · rfl
theorem call_law_g {P : Program} {w : World} {K : PySem.W.Frag} {mg mb : Str → Option Value} {k : Nat} {fa a : Addr} {fd : FuncData} {x : Str} {sp : Sp} {s1 : Shared} {vs : List Value} {ns : List Int}
    (inK : K.In s1.heap) (glob : s1.heap.Ns mainGlobals mg) (blt : s1.heap.Ns builtinsNs mb) (bltEq : ∀ x : Str, x ≠ "__name__" → mb x = bootBuiltins x) (nolim : s1.heap.NoLimit) (nogen : s1.gens = #[])
    (scr : s1.heap.get? a = some { cls := .type "list", data := .seq vs.toArray }) (hns : IntsAre vs ns) (short : ns.length ≤ sizeLine) (room : Room k callerA)
    (F : ∀ base : Heap, K.In base → base.Ns mainGlobals mg → FnG P w K mg base CX0 k fa fd [x] sp) (bind : ∀ (s : Shared) (u : Value), BindsTo s fd ⟨[u], []⟩ [(x, u)])
    (prom : ∀ H : Hp, SqL K H a (ns.map V.int) → sp [.ref a] H (fun v _ => v = .bl true) fun _ _ _ => False) :
    codeAny (model P w) callerA (.call (.ref fa) ⟨[.ref a], []⟩) (fun r s' => r = .ok (.ret (.bool true)) ∧ OldK s1.heap s'.heap ∧ s'.os = s1.os ∧ AllBare s'.gens) s1 := by
  have rel := vals_ints hns
  have vlen := hns.length
  -- what the script's address holds, in the abstract heap
  have hS : SqL K (scriptH K a vs ns) a (ns.map V.int) := by
    cases hk : K.lookup a with
    | none =>
      refine .inl (.inr ⟨{ cls := .type "list", data := .seq vs.toArray }, ?_⟩)
      unfold scriptH
      exact if_pos ⟨rfl, hk⟩
    | some o =>
      have e := inK a o hk
      rw [scr] at e
      cases e
      exact .inr ⟨_, vs.toArray, _, hk, rfl, rfl, rfl, by rw [List.size_toArray, vlen]; exact short, by simpa using rel⟩
  have hok : HOk P w (scriptH K a vs ns) s1.heap := by
    intro b u e
    obtain ⟨rfl, _, rfl⟩ := scriptH_some e
    exact ⟨scr, by rw [List.length_map]; exact short, vs, _, rel, scr⟩
  -- a namespace is no list, so it is not tracked
  have free : ∀ {b : Addr} {o : Obj} {es : Array DictEntry} {ep : Nat}, s1.heap.get? b = some o → o.data = .dict es ep → scriptH K a vs ns b = none := by
    intro b o es ep e d
    by_cases hb : b = a
    · rw [hb, scr] at e
      cases e
      cases (show Data.seq vs.toArray _ = Data.dict es ep from d)
    · exact scriptH_free (.inl hb)
  have nsOf : ∀ {b : Addr} {m : Str → Option Value}, s1.heap.Ns b m → (hidT s1.heap (scriptH K a vs ns)).Ns b m := by
    rintro b m ⟨o, es, ep, e, d, r⟩
    exact ⟨o, es, ep, hidT_get e (free e d), d, r⟩
  have inKb : K.In (hidT s1.heap (scriptH K a vs ns)) := by
    intro b o e
    refine hidT_get (inK b o e) ?_
    by_cases hb : b = a
    · refine scriptH_free (.inr fun z => ?_)
      rw [hb, z] at e
      cases e
    · exact scriptH_free (.inl hb)
  obtain ⟨mc, lim1, lim2⟩ := nolim
  have env : Env0 P w K mg (hidT s1.heap (scriptH K a vs ns)) callerA [] s1 (scriptH K a vs ns) :=
    ⟨rfl, ⟨inKb, nsOf glob, ⟨mb, nsOf blt, bltEq⟩, ⟨mc, nsOf lim1, lim2⟩⟩, fun b o e => of_hidT e, Nat.le_of_eq (hidT_size _ _), trivial, fun b hb => (nomatch (show b ∈ ([] : List Addr) from hb)), hok, .of_eq nogen⟩
  refine codeAny_mono ((F _ inKb (nsOf glob)).go callerA [] s1 _ ⟨[.ref a], []⟩ [.ref a] [.ref a] _ _ room rfl env (bind s1 (.ref a)) (.cons rfl .nil) (prom _ hS)) fun r s' out => ?_
  cases r with
  | error e => exact out.elim
  | ok fl =>
    cases fl with
    | next => exact out.elim
    | brk => exact out.elim
    | cont => exact out.elim
    | ret u =>
      obtain ⟨v, H', os, bare, un, hok', rv, q⟩ := out
      have q' : v = .bl true := q
      subst q'
      obtain rfl : u = Value.bool true := rv
      refine ⟨rfl, OldK.of_keep fun b o e => ?_, os, bare⟩
      cases hb : scriptH K a vs ns b with
      | none => exact un.keep b o e hb (fun z => (nomatch (show b ∈ ([] : List Addr) from z))) (fun z => (nomatch z))
      | some u =>
        obtain ⟨rfl, _, rfl⟩ := scriptH_some hb
        obtain ⟨e2, _⟩ := hok' _ _ (un.frzs _ _ _ hb)
        rw [scr] at e
        cases e
        exact e2
theorem walk_g {l : PySem.W.OpenLaw} {n k : Nat} {q : Program} {loose : List Str} {XP : (Str → Option Value) → Heap → Prop} {YP : World → Heap → Prop} {d : DefRec} {K : Params → PySem.W.Frag} {sp : PySem.W.Frag → Sp} {x : Str}
    (most : l.most = some n) (line : n ≤ sizeLine) (nodef : d.params.defaults = []) (room : Room k callerA) (hY : ∀ (w : World) (h : Heap), YP w h → (K w.params).In h)
    (F : ∀ (w : World) (mg : Str → Option Value) (fa : Addr) (h : Heap), (K w.params).In h → h.Ns mainGlobals mg → mg d.name = some (.ref fa) →
      ∃ fd : FuncData, (∀ (s : Shared) (u : Value), BindsTo s fd ⟨[u], []⟩ [(x, u)]) ∧ ∀ base : Heap, (K w.params).In base → base.Ns mainGlobals mg → FnG l.prog w (K w.params) mg base CX0 k fa fd [x] (sp (K w.params)))
    (prom : ∀ (K : PySem.W.Frag) (H : Hp) (a : Addr) (ns : List Int), ns.length ≤ n → SqL K H a (ns.map V.int) → sp K [.ref a] H (fun v _ => v = .bl true) fun _ _ _ => False) :
    PySem.W.WalkO q loose XP YP l.row.toRowW d [] (fun f vs => PySem.call f vs) := by
  refine Att.attach_call most nodef fun w s0 s1 mg mb fa o pm cd doc a vs ns G Y ho hd hcd hmg hobj hints hlen hg => ?_
  obtain ⟨fd, hb, hF⟩ := F w mg fa _ (hY w _ Y) G.T.g hmg
  exact call_law_g (hY w _ Y) G.T.g G.T.b G.T.builtins G.T.nolimit hg hobj hints (Nat.le_trans hlen line) room hF hb fun H hS => prom _ H a ns hlen hS
/-! ### repr -/
/-- repr of data: None, truths, numbers, texts, lists and tuples of them -/
def rRepr (K : PySem.W.Frag) : List V → Hp → VK → Prop := fun xs H Q => ∃ (a : Addr) (d : PyData), xs = [.ref a] ∧ Dp K H (.ref a) d ∧ d.showable = true ∧ d.hasDict = false ∧ d.depth ≤ 60 ∧ d.shown.length ≤ sizeLine ∧ Q (.str d.shown) H
theorem call_repr {X : Cx} {K : PySem.W.Frag} {k : Nat} (hr : Room k X.A) (hg : X.A.guards = some []) (hK : X.K = K) : CallR X (.builtin "repr") (rRepr K) := by
  subst hK
  intro pins s σ H xs us Q I r h
  obtain ⟨a, d, rfl, hd, sh, nd, dp, sz, q⟩ := h
  obtain ⟨u, rfl, ru⟩ := vals1 r
  obtain ⟨as, rd⟩ := Dp.reads I d _ _ hd ru
  cases ru
  refine repr_of_reads' rd sh (fun z => absurd (nd.symm.trans z) Bool.false_ne_true) hg (by have := hr.units; omega) (fun _ _ e => e) (fun h' u tk keep => ?_) sz
  exact ⟨.str d.shown, H, I.kept keep, ⟨_, rfl⟩, q⟩
end Cm

set_option Elab.async false
set_option linter.all false
set_option maxRecDepth 100000
set_option maxHeartbeats 4000000
namespace Cm
open PySem PySem.Spec PyProof.Rows L2
/-! ### kinds of things -/
inductive Kd where
  | non | bl (b : Bool) | int (i : Int) | str (s : Str) | lst | tup (xs : List V) | dct
inductive HasK (H : Hp) : V → Kd → Prop where
  | non : HasK H .non .non
  | bl (b : Bool) : HasK H (.bl b) (.bl b)
  | int (i : Int) : HasK H (.int i) (.int i)
  | str (s : Str) : HasK H (.str s) (.str s)
  | lst {a : Addr} {xs : List V} (h : H a = some (.lst xs)) : HasK H (.ref a) .lst
  | tup {a : Addr} {xs : List V} (h : H a = some (.tup xs)) : HasK H (.ref a) (.tup xs)
  | dct {a : Addr} {kvs : List (Key × V)} (h : H a = some (.dK kvs)) : HasK H (.ref a) .dct
/-- tuples stay, lists stay lists, dicts dicts -/
structure Ext (H H' : Hp) : Prop where
  t : ∀ b xs, H b = some (.tup xs) → H' b = some (.tup xs)
  l : ∀ b xs, H b = some (.lst xs) → ∃ ys, H' b = some (.lst ys)
  d : ∀ b kvs, H b = some (.dK kvs) → ∃ kvs', H' b = some (.dK kvs')
theorem Ext.refl (H : Hp) : Ext H H := ⟨fun _ _ h => h, fun _ _ h => ⟨_, h⟩, fun _ _ h => ⟨_, h⟩⟩
theorem Ext.trans {H H1 H2 : Hp} (a : Ext H H1) (b : Ext H1 H2) : Ext H H2 :=
  ⟨fun x xs h => b.t x xs (a.t x xs h), fun x xs h => let ⟨ys, e⟩ := a.l x xs h; b.l x ys e, fun x xs h => let ⟨ys, e⟩ := a.d x xs h; b.d x ys e⟩
theorem Ext.same {H H' : Hp} (h : Same H H') : Ext H H' := ⟨fun b _ e => h b _ e, fun b _ e => ⟨_, h b _ e⟩, fun b _ e => ⟨_, h b _ e⟩⟩
theorem Ext.lst {H : Hp} {a : Addr} {xs ys : List V} (h : H a = some (.lst xs)) : Ext H (upd H a (.lst ys)) := by
  refine ⟨fun b zs e => ?_, fun b zs e => ?_, fun b zs e => ?_⟩
  · rw [upd_ne (ne_of e h (by intro z; cases z))]
    exact e
  · by_cases hb : b = a
    · exact ⟨ys, by rw [hb, upd_same]⟩
    · exact ⟨zs, by rw [upd_ne hb]; exact e⟩
  · exact ⟨zs, by rw [upd_ne (ne_of e h (by intro z; cases z))]; exact e⟩
theorem HasK.ext {H H' : Hp} {v : V} {k : Kd} (h : HasK H v k) (e : Ext H H') : HasK H' v k := by
  cases h with
  | non => exact .non
  | bl b => exact .bl b
  | int i => exact .int i
  | str s => exact .str s
  | lst h => obtain ⟨ys, q⟩ := e.l _ _ h; exact .lst q
  | tup h => exact .tup (e.t _ _ h)
  | dct h => obtain ⟨ys, q⟩ := e.d _ _ h; exact .dct q
def tyK : Kd → String
  | .non => "NoneType" | .bl _ => "bool" | .int _ => "int" | .str _ => "str" | .lst => "list" | .tup _ => "tuple" | .dct => "dict"
theorem HasK.ty {K : PySem.W.Frag} {H : Hp} {v : V} {k : Kd} (h : HasK H v k) : TyX K H v (.type (tyK k)) := by
  cases h with
  | non => exact .base .non
  | bl b => exact .base (.bl b)
  | int i => exact .base (.int i)
  | str s => exact .base (.str s)
  | lst h => exact .base (.lst h)
  | tup h => exact .base (.tup h)
  | dct h => exact .base (.dK h)
def isTupK : Kd → Bool
  | .tup _ => true | _ => false
def isIntK : Kd → Bool
  | .int _ => true | .bl _ => true | _ => false
def isBoolK : Kd → Bool
  | .bl _ => true | _ => false
def isStrK : Kd → Bool
  | .str _ => true | _ => false
def wholeK : Kd → Bool
  | .int _ => true | _ => false
theorem kit_tup : ∀ k : Kd, kitB (tyK k) "tuple" = some (isTupK k)
  | .non => (by decide +kernel : kitB "NoneType" "tuple" = some false)
  | .bl _ => (by decide +kernel : kitB "bool" "tuple" = some false)
  | .int _ => (by decide +kernel : kitB "int" "tuple" = some false)
  | .str _ => (by decide +kernel : kitB "str" "tuple" = some false)
  | .lst => (by decide +kernel : kitB "list" "tuple" = some false)
  | .tup _ => (by decide +kernel : kitB "tuple" "tuple" = some true)
  | .dct => (by decide +kernel : kitB "dict" "tuple" = some false)
theorem kit_int : ∀ k : Kd, kitB (tyK k) "int" = some (isIntK k)
  | .non => (by decide +kernel : kitB "NoneType" "int" = some false)
  | .bl _ => (by decide +kernel : kitB "bool" "int" = some true)
  | .int _ => (by decide +kernel : kitB "int" "int" = some true)
  | .str _ => (by decide +kernel : kitB "str" "int" = some false)
  | .lst => (by decide +kernel : kitB "list" "int" = some false)
  | .tup _ => (by decide +kernel : kitB "tuple" "int" = some false)
  | .dct => (by decide +kernel : kitB "dict" "int" = some false)
theorem kit_bool : ∀ k : Kd, kitB (tyK k) "bool" = some (isBoolK k)
  | .non => (by decide +kernel : kitB "NoneType" "bool" = some false)
  | .bl _ => (by decide +kernel : kitB "bool" "bool" = some true)
  | .int _ => (by decide +kernel : kitB "int" "bool" = some false)
  | .str _ => (by decide +kernel : kitB "str" "bool" = some false)
  | .lst => (by decide +kernel : kitB "list" "bool" = some false)
  | .tup _ => (by decide +kernel : kitB "tuple" "bool" = some false)
  | .dct => (by decide +kernel : kitB "dict" "bool" = some false)
theorem kit_str : ∀ k : Kd, kitB (tyK k) "str" = some (isStrK k)
  | .non => (by decide +kernel : kitB "NoneType" "str" = some false)
  | .bl _ => (by decide +kernel : kitB "bool" "str" = some false)
  | .int _ => (by decide +kernel : kitB "int" "str" = some false)
  | .str _ => (by decide +kernel : kitB "str" "str" = some true)
  | .lst => (by decide +kernel : kitB "list" "str" = some false)
  | .tup _ => (by decide +kernel : kitB "tuple" "str" = some false)
  | .dct => (by decide +kernel : kitB "dict" "str" = some false)
section
variable {X : Cx} {K : PySem.W.Frag}
/-! ### the rules of the layer over a named K (so that they serve within a comprehension too) -/
theorem isi_K (hK : X.K = K) : CallR X (.builtin "isinstance") (rIsi K) := by
  subst hK
  exact call_isi
def rLenK (K : PySem.W.Frag) : List V → Hp → VK → Prop := fun xs H Q => ∃ p ys, xs = [.ref p] ∧ (SqL K H p ys ∨ SqT K H p ys) ∧ Q (.int ys.length) H
theorem len_K (hK : X.K = K) : CallR X (.builtin "len") (rLenK K) := by
  subst hK
  exact call_len_seq
theorem sl_K (hK : X.K = K) : SlR X (rSlA K) := by
  subst hK
  exact sl_tupA
theorem cat_K (hK : X.K = K) : OpR X (binaryOp .Add) (rCatA K) := by
  subst hK
  exact op_catA
theorem ixT_K (hK : X.K = K) : IxR X (rIxT K) := by
  subst hK
  exact ix_tup
theorem ixL_K (hK : X.K = K) : IxR X (rIxL K) := by
  subst hK
  exact ix_list
def rTupOf (K : PySem.W.Frag) : List V → Hp → VK → Prop := fun xs H Q => ∃ p ys, xs = [.ref p] ∧ ((SqL K H p ys ∧ ∀ l, H l = none → Q (.ref l) (upd H l (.tup ys))) ∨ (SqT K H p ys ∧ Q (.ref p) H))
/-! ### x == 'text', whatever x is -/
def eqK : Kd → Str → Bool
  | .str w, s => decide (w = s)
  | _, _ => false
theorem dict_eq_declines_text (l : Addr) (es : Array DictEntry) (n : Nat) (dd : Option Addr) (sl : Array (Option Value)) (b : Str) (u : Tok) :
    Meets (Builtin.«dict.__eq__» ⟨[.ref l, .str b u], []⟩) (fun _ R s => s.heap.get? l = some { cls := .type "dict", dict := dd, data := .dict es n, slots := sl } ∧ R (.ok (.ret .notImplemented)) s) :=
  .of_wp fun prog w A R s h => by obtain ⟨hp, g, d, tk, os⟩ := s; obtain ⟨hl, h⟩ := h; have f1 := F.sub_str_dict; wp_walk using AutoSeq1.wpAny_loadPart' hl; exact ⟨_, rfl, h⟩
theorem str_eq_declines_dict (b : Str) (u : Tok) (l : Addr) (c : Value) (es : Array DictEntry) (n : Nat) (dd : Option Addr) (sl : Array (Option Value)) :
    Meets (Builtin.«str.__eq__» ⟨[.str b u, .ref l], []⟩) (fun _ R s => s.heap.get? l = some { cls := c, dict := dd, data := .dict es n, slots := sl } ∧ R (.ok (.ret .notImplemented)) s) :=
  .of_wp fun prog w A R s h => by obtain ⟨hp, g, d, tk, os⟩ := s; obtain ⟨hl, h⟩ := h; wp_walk using AutoSeq1.wpAny_loadPart' hl, wpAny_load hl; exact ⟨_, rfl, h⟩
theorem rc_dict_str {A : Around} {s : Shared} {l : Addr} {o : Obj} {es : Array DictEntry} {n : Nat} (b : Str) (u : Tok) (ho : s.heap.get? l = some o) (hc : o.cls = .type "dict") (hd : o.data = .dict es n) (hu : A.units < cLine) : SeqAt.RcAt A s (.ref l) (.str b u) false := fun prog w E Q h => by
  obtain ⟨cls, dd, data, sl⟩ := o
  simp only at hc hd
  subst hc hd
  exact SeqAt.rc_eq_decline_or (k := false) ⟨_, ho, rfl⟩ (typeIs_str s b u) (by decide) F.sub_str_dict F.slot_dict_eq F.slot_str_eq_refl
    (fun _ hq => call_meets F.slot_dict_eq ⟨_, ho, rfl⟩ F.entry_dict_eq (F.args_dict_eq_2 _ _) (dict_eq_declines_text l es n dd sl b u) ⟨ho, hq⟩)
    (fun _ hq => call_meets F.slot_str_eq_refl (typeIs_str s b u) F.entry_str_eq (F.args_str_eq_2 _ _) (str_eq_declines_dict b u l (.type "dict") es n dd sl) ⟨ho, hq⟩)
    (fun _ hq => wpAny_pure hq) (.inr hu) h
def rEqK : R2 := fun x y H Q => ∃ k s, HasK H x k ∧ y = .str s ∧ Q (.bl (eqK k s)) H
theorem op_eqK {k : Nat} (hr : Room k X.A) : OpR X (compareOp .Eq) rEqK := by
  intro pins s σ H x y v u Q I rx ry h
  obtain ⟨kd, w, hk, rfl, q⟩ := h
  have hu := hr.units0
  cases hk with
  | non => exact op_eq pins s σ H _ _ v u Q I rx ry ⟨rfl, by simpa [eqK] using q⟩
  | bl b => exact op_eq pins s σ H _ _ v u Q I rx ry ⟨rfl, by simpa [eqK] using q⟩
  | int i => exact op_eq pins s σ H _ _ v u Q I rx ry ⟨rfl, by simpa [eqK] using q⟩
  | str z => exact op_eq pins s σ H _ _ v u Q I rx ry ⟨rfl, by simpa [eqK] using q⟩
  | lst h =>
    cases rx
    obtain ⟨t, rfl⟩ := ry
    obtain ⟨its, r, p, _⟩ := I.list (SqL.of h)
    exact SeqAt.RcAt.list_str w t p.isList hu _ _ _ _ ⟨.bl false, H, I, rfl, q⟩
  | tup h =>
    cases rx
    obtain ⟨t, rfl⟩ := ry
    obtain ⟨its, r, p, _⟩ := I.tuple (SqT.of h)
    exact SeqAt.RcAt.tuple_str w t p hu _ _ _ _ ⟨.bl false, H, I, rfl, q⟩
  | @dct a kvs h =>
    cases rx
    obtain ⟨t, rfl⟩ := ry
    obtain ⟨_, _, vs, _, o, es, ep, h1, h2, h3, _⟩ := (show ObjOk X.prog X.w H s.heap a (.dK kvs) from I.hok a _ h)
    exact rc_dict_str w t h1 h2.1 h3 hu _ _ _ _ ⟨.bl false, H, I, rfl, q⟩
/-! ### t == () -/
def rEqE : R2 := fun x y H Q => ∃ a b xs, x = .ref a ∧ y = .ref b ∧ H a = some (.tup xs) ∧ H b = some (.tup []) ∧ Q (.bl xs.isEmpty) H
theorem op_eqE {k : Nat} (hr : Room k X.A) : OpR X (compareOp .Eq) rEqE := by
  intro pins s σ H x y v u Q I rx ry h
  obtain ⟨a, b, xs, rfl, rfl, ha, hb, q⟩ := h
  cases rx
  cases ry
  obtain ⟨its, r1, p1, _⟩ := I.tuple (SqT.of ha)
  obtain ⟨its2, r2, p2, _⟩ := I.tuple (SqT.of hb)
  cases r2
  refine SeqAt.eq_tupleAt (e := fun _ => true) p1 p2 hr.units0 (fun j h1 h2 => absurd h2 (by simp)) ?_
  have hl := r1.length
  have e : ((List.range (min its.toArray.size ([] : List Value).toArray.size)).all (fun _ => true) && its.toArray.size == ([] : List Value).toArray.size) = xs.isEmpty := by
    cases xs with
    | nil =>
      cases r1
      rfl
    | cons x t =>
      cases r1
      simp
  rw [e]
  exact ⟨.bl _, H, I, rfl, q⟩
end
/-! ### t[::-1] -/
section
variable {prog : Program} {w : World} {A : Around} {E : Value → Shared → Prop} {s : Shared}
theorem back_applied {sl : Addr} {vk : Value} {n : Nat} {Q : Int × Int × Nat → Shared → Prop} (hs : s.heap.IsSliceOf sl .none .none vk) (pk : IsPart vk (some (-1))) (h : Q ((n : Int) - 1, -1, n) s) :
    wpAny (model prog w) A (Builtin.Slice.sliceApplied (.ref sl) (pure (n : Int))) Q E s := by
  obtain ⟨os, hos, hcs, hds⟩ := _root_.id hs
  unfold Builtin.Slice.sliceApplied Builtin.Slice.sliceFields
  refine wpAny_bind (wpAny_bind (wpAny_field hos hds (x := .none) rfl (wpAny_bind (wpAny_field hos hds (x := .none) rfl (wpAny_bind (wpAny_field hos hds (x := vk) rfl (wpAny_pure ?_)))))))
  refine wpAny_bind (HT.slicePart_ pk ?_)
  show wpAny _ _ (if ((-1 : Int) == 0) = true then _ else _) _ _ s
  rw [if_neg (by decide)]
  refine wpAny_bind (slicePart_none (wpAny_bind (slicePart_none (wpAny_bind (wpAny_pure ?_)))))
  have e1 : Builtin.Slice.sliceAdjust none none (-1) (n : Int) = ((n : Int) - 1, -1) := rfl
  have e2 : Builtin.Slice.slicePlaces ((n : Int) - 1) (-1) (-1) = n := by
    unfold Builtin.Slice.slicePlaces
    have h1 : ¬ ((-1 : Int) > 0) := by omega
    simp only [h1, if_false]
    split
    · rw [show (- (-1 : Int)) = 1 from rfl, Int.ediv_one]
      omega
    · omega
  show wpAny _ _ (pure ((Builtin.Slice.sliceAdjust none none (-1) (n : Int)).1, (-1 : Int), Builtin.Slice.slicePlaces (Builtin.Slice.sliceAdjust none none (-1) (n : Int)).1 (Builtin.Slice.sliceAdjust none none (-1) (n : Int)).2 (-1))) _ _ s
  rw [e1]
  show wpAny _ _ (pure ((n : Int) - 1, (-1 : Int), Builtin.Slice.slicePlaces ((n : Int) - 1) (-1) (-1))) _ _ s
  rw [e2]
  exact wpAny_pure h
theorem fm_some {α β : Type} {f : α → Option β} {g : α → β} : ∀ {l : List α}, (∀ a ∈ l, f a = some (g a)) → l.filterMap f = l.map g
  | [], _ => rfl
  | a :: r, h => by
    rw [List.filterMap_cons, h a (List.mem_cons.mpr (.inl rfl))]
    show g a :: r.filterMap f = g a :: r.map g
    rw [fm_some fun x hx => h x (List.mem_cons.mpr (.inr hx))]
theorem back_pick (xs : Array Value) : ((List.range xs.size).filterMap fun (m : Nat) => xs[(((xs.size : Int) - 1) + (m : Int) * (-1)).toNat]?).toArray = xs.toList.reverse.toArray := by
  congr 1
  have e : ((List.range xs.size).filterMap fun (m : Nat) => xs[(((xs.size : Int) - 1) + (m : Int) * (-1)).toNat]?) = (List.range xs.size).map (fun m => (xs.toList[xs.size - 1 - m]?).getD .none) := by
    refine fm_some fun m hm => ?_
    have hlt := List.mem_range.mp hm
    have e1 : (((xs.size : Int) - 1) + (m : Int) * (-1)).toNat = xs.size - 1 - m := by omega
    rw [e1, ← Array.getElem?_toList, List.getElem?_eq_getElem (by rw [Array.length_toList]; omega)]
    rfl
  rw [e]
  refine List.ext_getElem (by simp) fun i h1 h2 => ?_
  have h3 : i < xs.size := by simpa using h1
  rw [List.getElem_map, List.getElem_range, List.getElem_reverse, List.getElem?_eq_getElem (by rw [Array.length_toList]; omega)]
  simp
theorem tup_back {t sl : Addr} {items : Array Value} {vk : Value} {Q : Value → Shared → Prop} (ht : IsTup s.heap t items) (hs : s.heap.IsSliceOf sl .none .none vk) (pk : IsPart vk (some (-1)))
    (h : Q (.ref s.heap.objs.size) { s with heap := s.heap.push { cls := .type "tuple", data := .seq items.toList.reverse.toArray } }) (hsz : items.size ≤ sizeLine) : wpAny (model prog w) A (getItem (.ref t) (.ref sl)) Q E s := by
  have fits : sizeOk (.seq items.toList.reverse.toArray) := by
    show items.toList.reverse.toArray.size ≤ sizeLine
    rw [List.size_toArray, List.length_reverse, Array.length_toList]
    exact hsz
  obtain ⟨os, hos, hcs, hds⟩ := _root_.id hs
  have hTs : s.TypeIs (.ref sl) "slice" := ⟨os, hos, hcs⟩
  unfold getItem
  try with_reducible refine wpAny_holding ?_
  first | refine wpAny_bind (wpAny_pure ?_) | skip
  refine wpAny_bind (wpAny_sequenceKey ht.typeIs (by decide) ?_)
  refine wpAny_bind (wpAny_callSpecial?_slot (name := Str.ofString "__getitem__") ht.typeIs PyProof.Rows.slot_tuple_getitem (wpAny_call_entry PyProof.Rows.slot_tuple_getitem ht.typeIs entry_tuple_getitem ?_ (args_tuple_getitem _ _)))
  show wpAny _ _ (Builtin.Tuple.tupleItemsOf (.ref t) >>= _) _ _ s
  refine wpAny_bind (tupleItemsOf_ ht (wpAny_bind (wpAny_typeOf hTs ?_)))
  rw [if_pos (by decide)]
  refine wpAny_bind (back_applied (n := items.size) hs pk ?_)
  have hno : ¬ ((((items.size : Int) - 1) == 0 && (-1 : Int) == 1 && items.size == items.size) = true) := by simp
  show wpAny _ _ (if (((items.size : Int) - 1) == 0 && (-1 : Int) == 1 && items.size == items.size) = true then _ else _) _ _ s
  rw [if_neg hno, back_pick]
  first
    | exact wpAny_bind (m := Builtin.Tuple.tupleExact _) (wpAny_newObj_type (wpAny_pure ⟨_, rfl, wpAny_pure h⟩) fits)
    | exact wpAny_bind (m := Builtin.Tuple.tupleExact _) (wpAny_newObj_type (wpAny_bind (wpAny_pure (wpAny_pure ⟨_, rfl, wpAny_pure h⟩))) fits)
    | exact wpAny_bind (wpAny_bind (m := Builtin.Tuple.tupleExact _) (wpAny_newObj_type (wpAny_pure (wpAny_pure ⟨_, rfl, wpAny_pure h⟩)) fits))
    | exact wpAny_bind (wpAny_bind (m := Builtin.Tuple.tupleExact _) (wpAny_newObj_type (wpAny_pure ⟨_, rfl, wpAny_pure h⟩) fits))
end
section
variable {X : Cx}
def tRevT (K : PySem.W.Frag) (te : TE) : TE := fun σ H Q => te σ H fun x H1 => ∃ a xs, x = .ref a ∧ SqT K H1 a xs ∧ ∀ p, H1 p = none → Q (.ref p) (upd H1 p (.tup xs.reverse))
theorem pe_revT {e : Expr} {te : TE} {k : Nat} {p1 p2 p3 pos : Pos} (he : PE X e te) : PE X (.Subscript e (.Slice none none (some (.UnaryOp .USub (.Constant (.int 1) k p1) p2)) p3) pos) (tRevT X.K te) := by
  refine ⟨fun pins s σ H Q I h => Subscript_ (thn (he.run pins s σ H _ I h) fun v s1 out => ?_)⟩
  obtain ⟨x, H1, I1, r1, a, xs, rfl, hx, q⟩ := out
  cases r1
  have part : PO X (some (.UnaryOp .USub (.Constant (.int 1) k p1) p2)) (tPart (tUn (rU fun i => .int (-i)) (tC (.int 1)))) := po_some (pe_un un_neg pe_int)
  refine wpAny_Slice ?_
  rw [evalPart_none]
  refine wpAny_pure (wpAny_pure ?_)
  refine thn (part.run pins s1 σ H1 (fun o H4 => o = some (-1) ∧ H4 = H1) I1 ⟨1, rfl, -1, rfl, rfl, rfl⟩) fun vk s4 out => ?_
  obtain ⟨o, H4, I4, pk, rfl, rfl⟩ := out
  have I5 : Inv X pins σ H4 { s4 with heap := s4.heap.push { cls := .type "slice", data := .fields #[.none, .none, vk] } } := I4.kept (t' := s4.toks) fun b ob z => Heap.get?_push_of_some _ z
  obtain ⟨its, r, ht, hz⟩ := I5.tuple hx
  have hlen := r.length
  show wpAny (model X.prog X.w) X.A (subscriptTail e (.Slice none none (some (.UnaryOp .USub (.Constant (.int 1) k p1) p2)) p3) (.ref a) (.ref s4.heap.objs.size)) (EP X pins σ Q) X.xe { s4 with heap := s4.heap.push { cls := .type "slice", data := .fields #[.none, .none, vk] } }
  refine tail_any (ops := [.ref a, .ref s4.heap.objs.size]) ht.typeIs PyProof.Rows.slot_tuple_getitem.lookup ?_ (by with_unfolding_all rfl)
  refine tup_back ht (Heap.IsSliceOf.new _ .none .none vk) pk ?_ (by rw [List.size_toArray]; omega)
  refine ⟨.ref _, _, I5.laid (t' := s4.toks) (o := .tup xs.reverse) (fun b ob z => Heap.get?_push_of_some _ z) (Nat.le_refl _) ?_, rfl, q _ (I5.hok.fresh (Nat.le_refl _))⟩
  exact ⟨by rw [List.length_reverse]; exact hz, _, r.reverse, _, Heap.get?_push_size _ rfl, rfl, 0, rfl⟩
end
section
end
end Cm

set_option Elab.async false
set_option linter.all false
set_option maxRecDepth 100000
set_option maxHeartbeats 4000000
namespace Cm
open PySem PySem.Spec PyProof.Rows L2
/-! ### the drawing list: left, seed, count -/
def LP (H : Hp) (p : Addr) : Prop := ∃ x y z : Int, H p = some (.lst [.int x, .int y, .int z])
theorem LP.same {H H' : Hp} {p : Addr} (h : LP H p) (s : Same H H') : LP H' p := by
  obtain ⟨x, y, z, e⟩ := h
  exact ⟨x, y, z, s _ _ e⟩
theorem LP.but {H H' : Hp} {p q : Addr} (h : LP H p) (s : But q H H') (n : p ≠ q) : LP H' p := by
  obtain ⟨x, y, z, e⟩ := h
  exact ⟨x, y, z, s _ _ n e⟩
def rPenL (K : PySem.W.Frag) : V → V → Hp → VK → Prop := fun x y H Q => ∃ (a : Addr) (ns : List Int) (k : Int), x = .ref a ∧ y = .int k ∧ SqL K H a (ns.map V.int) ∧ 0 ≤ k ∧ ∀ p H', H p = none → Same H H' → LP H' p → Q (.ref p) H'
def rDrawL : V → V → Hp → VK → Prop := fun a b H Q => ∃ (p : Addr) (many : Int), a = .ref p ∧ b = .int many ∧ LP H p ∧ 0 < many ∧ many < 1073741824 ∧ ∀ r H', 0 ≤ r → r < many → LP H' p → But p H H' → Ext H H' → Q (.int r) H'
theorem cellL {ns : List Int} {i : Int} (h0 : 0 ≤ i) (h1 : i < ((ns.map V.int).length : Int)) : ∃ z, atI (ns.map V.int) i = some (.int z) := by
  rw [List.length_map] at h1
  have hj : i.toNat < ns.length := by omega
  refine ⟨ns[i.toNat], ?_⟩
  have e : ((i.toNat : Nat) : Int) = i := by omega
  have q : atI (ns.map V.int) ((i.toNat : Nat) : Int) = some (.int ns[i.toNat]) := atI_nat (by rw [List.getElem?_map, List.getElem?_eq_getElem hj]; rfl)
  rw [e] at q
  exact q
theorem eq_yes {i j : Int} (e : decide (V.int i = V.int j) = true) : i = j := V.int.inj (of_decide_eq_true e)
theorem eq_no {i j : Int} (e : ¬ decide (V.int i = V.int j) = true) : i ≠ j := fun z => e (by rw [z]; exact decide_eq_true rfl)
theorem ne_yes {i j : Int} (e : (!decide (V.int i = V.int j)) = true) : i ≠ j := fun z => by
  rw [z, decide_eq_true rfl] at e
  exact Bool.noConfusion e
theorem ne_no {i j : Int} (e : ¬ (!decide (V.int i = V.int j)) = true) : i = j := by
  by_cases h : i = j
  · exact h
  · exact absurd (by rw [decide_eq_false fun z => h (V.int.inj z)]; rfl) e
theorem q587 : (0 : Int) < 2147483587 := by decide
theorem q647 : (0 : Int) < 2147483647 := by decide
theorem q629 : (0 : Int) < 2147483629 := by decide
theorem q521 : (0 : Int) < 65521 := by decide
theorem p15 : (0 : Int) < 10 ^ (15 : Int).toNat := by decide
end Cm

set_option Elab.async false
set_option linter.all false
set_option maxRecDepth 100000
set_option maxHeartbeats 4000000
namespace Cm
open PySem PySem.Spec PyProof.Rows L2
/-! ### what a step is, by kinds -/
def numK (many : Int) : Kd → Bool
  | .int i => decide (0 ≤ i) && decide (i < many)
  | _ => false
def unlikeK (many : Int) : Kd → Kd → Bool
  | .int i, .int j => (decide (0 ≤ i) && decide (i < many)) && ((decide (0 ≤ j) && decide (j < many)) && !decide (V.int i = V.int j))
  | _, _ => false
def addK (many : Int) : List Kd → Bool
  | [a, b, c] => unlikeK many a b && wholeK c
  | _ => false
def swapK (many : Int) : List Kd → Bool
  | [a, b] => unlikeK many a b
  | _ => false
def turnK (many : Int) : List Kd → Bool
  | [a] => numK many a
  | _ => false
def stepK (many : Int) : List Kd → Bool
  | [] => false
  | k :: r => if eqK k "add" = true then addK many r else if eqK k "swap" = true then swapK many r else if eqK k "turn" = true then turnK many r else false
def stepO (many : Int) : Option (List Kd) → Bool
  | none => false
  | some ks => stepK many ks
/-- the kinds of a tuple's items; none of what is no tuple -/
def KsOf (H : Hp) (v : V) : Option (List Kd) → Prop
  | none => ∃ k, HasK H v k ∧ isTupK k = false
  | some ks => ∃ a xs, v = .ref a ∧ H a = some (.tup xs) ∧ Paired (HasK H) xs ks
theorem KsOf.ext {H H' : Hp} {v : V} : ∀ {o : Option (List Kd)}, KsOf H v o → Ext H H' → KsOf H' v o
  | none, ⟨k, h1, h2⟩, e => ⟨k, h1.ext e, h2⟩
  | some ks, ⟨a, xs, h1, h2, h3⟩, e => ⟨a, xs, h1, e.t _ _ h2, Paired.mapP h3 fun _ _ z => z.ext e⟩
/-- a tuple of at most n things of known kinds -/
def TK (n : Nat) (H : Hp) (v : V) : Prop := ∃ a xs, v = .ref a ∧ H a = some (.tup xs) ∧ xs.length ≤ n ∧ ∀ x ∈ xs, ∃ k, HasK H x k
theorem TK.ext {n : Nat} {H H' : Hp} {v : V} (h : TK n H v) (e : Ext H H') : TK n H' v := by
  obtain ⟨a, xs, h1, h2, h3, h4⟩ := h
  exact ⟨a, xs, h1, e.t _ _ h2, h3, fun x hx => let ⟨k, q⟩ := h4 x hx; ⟨k, q.ext e⟩⟩
/-- a thing of known kind, a tuple of such things -/
def Gd (H : Hp) (v : V) : Prop := ∃ o, KsOf H v o
theorem Gd.ext {H H' : Hp} {v : V} (h : Gd H v) (e : Ext H H') : Gd H' v := let ⟨o, q⟩ := h; ⟨o, q.ext e⟩
theorem kinds_of {H : Hp} : ∀ {xs : List V}, (∀ x ∈ xs, ∃ k, HasK H x k) → ∃ ks, Paired (HasK H) xs ks
  | [], _ => ⟨[], .nil⟩
  | x :: r, h => by
    obtain ⟨k, hk⟩ := h x (List.mem_cons.mpr (.inl rfl))
    obtain ⟨ks, hks⟩ := kinds_of fun y hy => h y (List.mem_cons.mpr (.inr hy))
    exact ⟨k :: ks, .cons hk hks⟩
theorem TK.gd {n : Nat} {H : Hp} {v : V} (h : TK n H v) : Gd H v := by
  obtain ⟨a, xs, h1, h2, _, h4⟩ := h
  obtain ⟨ks, hks⟩ := kinds_of h4
  exact ⟨some ks, a, xs, h1, h2, hks⟩
theorem HasK.gd {H : Hp} {v : V} {k : Kd} (h : HasK H v k) (hk : isTupK k = false) : Gd H v := ⟨none, k, h, hk⟩
/-! ### slices and sums of such tuples -/
theorem cut_mem {xs : List V} {lo hi : Option Int} {x : V} (h : x ∈ cutV xs lo hi) : x ∈ xs := List.mem_of_mem_drop (List.mem_of_mem_take h)
theorem sl_TK {K : PySem.W.Frag} {n : Nat} {H : Hp} {v : V} {lo hi : Option Int} {Q : VK} (h : TK n H v) (q : ∀ v' H', Same H H' → TK n H' v' → Q v' H') : rSlA K v lo hi H Q := by
  obtain ⟨a, xs, rfl, h2, h3, h4⟩ := id h
  refine ⟨a, xs, rfl, SqT.of h2, fun _ => q _ _ (Same.refl H) h, fun _ p hp => q _ _ (same_new hp) ⟨p, _, rfl, upd_same, Nat.le_trans (cutV_length _ _ _) h3, fun x hx => ?_⟩⟩
  obtain ⟨k, hk⟩ := h4 x (cut_mem hx)
  exact ⟨k, hk.ext (Ext.same (same_new hp))⟩
theorem cat_TK {K : PySem.W.Frag} {n m : Nat} {H : Hp} {v u : V} {Q : VK} (h : TK n H v) (h' : TK m H u) (hs : n + m ≤ 1000) (q : ∀ v' H', Same H H' → TK (n + m) H' v' → Q v' H') : rCatA K v u H Q := by
  obtain ⟨a, xs, rfl, h2, h3, h4⟩ := id h
  obtain ⟨b, ys, rfl, k2, k3, k4⟩ := id h'
  have up1 : TK (n + m) H (.ref a) := ⟨a, xs, rfl, h2, by omega, h4⟩
  have up2 : TK (n + m) H (.ref b) := ⟨b, ys, rfl, k2, by omega, k4⟩
  refine ⟨a, b, xs, ys, rfl, rfl, SqT.of h2, SqT.of k2, Nat.le_of_lt (small1000 (by omega)), fun _ => q _ _ (Same.refl H) up2, fun _ _ => q _ _ (Same.refl H) up1, fun _ _ p hp => q _ _ (same_new hp) ⟨p, _, rfl, upd_same, ?_, fun x hx => ?_⟩⟩
  · rw [List.length_append]
    omega
  · rcases List.mem_append.mp hx with z | z
    · obtain ⟨k, hk⟩ := h4 x z
      exact ⟨k, hk.ext (Ext.same (same_new hp))⟩
    · obtain ⟨k, hk⟩ := k4 x z
      exact ⟨k, hk.ext (Ext.same (same_new hp))⟩
theorem one_TK {H : Hp} {p : Addr} {x : V} {k : Kd} (hp : H p = none) (hk : HasK H x k) : TK 1 (upd H p (.tup [x])) (.ref p) :=
  ⟨p, [x], rfl, upd_same, Nat.le_refl _, fun y hy => ⟨k, by rw [List.mem_singleton.mp hy]; exact hk.ext (Ext.same (same_new hp))⟩⟩
/-! ### a step by kinds: what isn't whole makes none -/
theorem not_whole_num {many : Int} {k : Kd} (h : wholeK k = false) : numK many k = false := by cases k <;> first | rfl | exact absurd h (by simp [wholeK])
theorem not_whole_l {many : Int} {k k' : Kd} (h : wholeK k = false) : unlikeK many k k' = false := by cases k <;> first | rfl | exact absurd h (by simp [wholeK])
theorem not_whole_r {many : Int} {k k' : Kd} (h : wholeK k' = false) : unlikeK many k k' = false := by
  cases k <;> cases k' <;> first | rfl | exact absurd h (by simp [wholeK])
theorem step_not_whole {many : Int} {k0 : Kd} {r : List Kd} {k : Kd} (hm : k ∈ r) (h : wholeK k = false) : stepK many (k0 :: r) = false := by
  have ha : addK many r = false := by
    rcases r with _ | ⟨a, _ | ⟨b, _ | ⟨c, _ | ⟨d, r⟩⟩⟩⟩ <;> first | rfl | skip
    show (unlikeK many a b && wholeK c) = false
    rcases List.mem_cons.mp hm with rfl | hm
    · rw [not_whole_l h]
      rfl
    rcases List.mem_cons.mp hm with rfl | hm
    · rw [not_whole_r h]
      rfl
    rw [List.mem_singleton.mp hm] at h
    rw [h, Bool.and_false]
  have hs : swapK many r = false := by
    rcases r with _ | ⟨a, _ | ⟨b, _ | ⟨c, r⟩⟩⟩ <;> first | rfl | skip
    show unlikeK many a b = false
    rcases List.mem_cons.mp hm with rfl | hm
    · exact not_whole_l h
    rw [List.mem_singleton.mp hm] at h
    exact not_whole_r h
  have ht : turnK many r = false := by
    rcases r with _ | ⟨a, _ | ⟨b, r⟩⟩ <;> first | rfl | skip
    show numK many a = false
    rw [List.mem_singleton.mp hm] at h
    exact not_whole_num h
  show (if eqK k0 "add" = true then addK many r else if eqK k0 "swap" = true then swapK many r else if eqK k0 "turn" = true then turnK many r else false) = false
  rw [ha, hs, ht]
  split
  · rfl
  · split
    · rfl
    · split <;> rfl
theorem step_not_str {many : Int} {k0 : Kd} {r : List Kd} (h : isStrK k0 = false) : stepK many (k0 :: r) = false := by
  have e : ∀ s, eqK k0 s = false := fun s => by cases k0 <;> first | rfl | exact absurd h (by simp [isStrK])
  show (if eqK k0 "add" = true then addK many r else if eqK k0 "swap" = true then swapK many r else if eqK k0 "turn" = true then turnK many r else false) = false
  rw [e, e, e]
  rfl
theorem whole_int {k : Kd} (h : wholeK k = true) : ∃ i, k = .int i := by
  cases k <;> first | exact ⟨_, rfl⟩ | exact absurd h (by simp [wholeK])
theorem all_ints {H : Hp} : ∀ {xs : List V} {ks : List Kd}, Paired (HasK H) xs ks → (∀ k ∈ ks, wholeK k = true) → ∃ ns : List Int, xs = ns.map V.int ∧ ks = ns.map Kd.int
  | _, _, .nil, _ => ⟨[], rfl, rfl⟩
  | _, _, .cons h t, hw => by
    obtain ⟨i, rfl⟩ := whole_int (hw _ (List.mem_cons.mpr (.inl rfl)))
    obtain ⟨ns, rfl, rfl⟩ := all_ints t fun k hk => hw k (List.mem_cons.mpr (.inr hk))
    cases h
    exact ⟨i :: ns, rfl, rfl⟩
end Cm

set_option Elab.async false
set_option linter.all false
set_option maxRecDepth 100000
set_option maxHeartbeats 4000000
namespace Cm
open PySem PySem.Spec PyProof.Rows L2
/-! ### (z,) * n -/
theorem tuple_mul1 (l : Addr) (items : Array Value) (n : Nat) (dd : Option Addr) (sl : Array (Option Value)) (u : Tok) :
    Meets (Builtin.«tuple.__mul__» ⟨[.ref l, .int 1 u], []⟩) (fun _ R s => s.heap.get? l = some { cls := .type "tuple", dict := dd, data := .seq items n, slots := sl } ∧ R (.ok (.ret (Value.ref l))) s) :=
  .of_wp fun P0 w0 A0 R0 s0 pre => by
    obtain ⟨hp0, g0, d0, tk0, os0⟩ := s0
    obtain ⟨hat, post⟩ := pre
    have f1 := AutoSeq1.idx_int
    wp_walk using wpAny_loadPart' hat
    exact ⟨_, rfl, post⟩
theorem tuple_mul0 (l : Addr) (items : Array Value) (n : Nat) (dd : Option Addr) (sl : Array (Option Value)) (u : Tok) (hi : items.isEmpty = false) :
    Meets (Builtin.«tuple.__mul__» ⟨[.ref l, .int 0 u], []⟩) (fun _ R s => s.heap.get? l = some { cls := .type "tuple", dict := dd, data := .seq items n, slots := sl } ∧
      R (.ok (.ret (Value.ref s.heap.objs.size))) { s with heap := s.heap.push { cls := Value.type "tuple", data := Data.seq #[] }, toks := s.toks }) :=
  .of_wp fun P0 w0 A0 R0 s0 pre => by
    obtain ⟨hp0, g0, d0, tk0, os0⟩ := s0
    obtain ⟨hat, post⟩ := pre
    have f1 := AutoSeq1.idx_int
    wp_walk using wpAny_loadPart' hat
    have c1 : (items.isEmpty || (0 : Int) == 1) = false := by rw [hi]; rfl
    have c2 : (decide ((0 : Int) ≤ 0) || items.isEmpty) = true := by rw [hi]; rfl
    exact ⟨_, rfl, post⟩
def rRepN : R2 := fun x y H Q => ∃ (l : Addr) (z : V) (n : Nat), x = .ref l ∧ y = .int n ∧ H l = some (.tup [z]) ∧ n ≤ 1000 ∧ ∀ p H', Same H H' → H' p = some (.tup (List.replicate n z)) → Q (.ref p) H'
theorem rep_flat (z : V) : ∀ n : Nat, (List.replicate n [z]).flatten = List.replicate n z
  | 0 => rfl
  | n + 1 => by
    rw [List.replicate_succ, List.flatten_cons, rep_flat z n]
    rfl
theorem op_repN {X : Cx} : OpR X (binaryOp .Mult) rRepN := by
  intro pins s σ H x y v u Q I rx ry h
  obtain ⟨l, z, n, rfl, rfl, hl, hn, q⟩ := h
  match n, hn, q, ry with
  | 0, hn, q, ry =>
    cases rx
    obtain ⟨t, rfl⟩ := ry
    obtain ⟨its, r, ⟨⟨cls, dd, data, sl⟩, ho, hc, n, hd⟩, hs⟩ := I.tuple (SqT.of hl)
    simp only at hc hd
    subst hc hd
    have hi : its.toArray.isEmpty = false := by
      cases r
      rfl
    refine wpAny_binaryOp_repeat_ref (T := "tuple") (U := "int") (by decide) ⟨_, ho, rfl⟩ (fun s' => typeIs_int s' _ t) noFill_tuple_mul F.fills_int_mul F.slot_int_rmul repeat_tuple F.slot_int_index.lookup
      (call_meets F.slot_int_rmul (typeIs_int s _ t) F.entry_int_rmul (F.args_int_rmul_2 _ _) (int_rmul_tuple _ t l its.toArray n dd sl)
        ⟨ho, rfl, ⟨_, ho, rfl⟩, call_meets F.slot_tuple_mul ⟨_, ho, rfl⟩ F.entry_tuple_mul (F.args_tuple_mul_2 _ _) (tuple_mul0 l its.toArray n dd sl t hi) ⟨ho, ?_⟩⟩)
    refine ⟨.ref s.heap.objs.size, _, I.laid (t' := s.toks) (o := .tup []) (fun b ob q => Heap.get?_push_of_some _ q) (Nat.le_refl _) ?_, rfl, q _ _ (same_new (I.hok.fresh (Nat.le_refl _))) upd_same⟩
    exact ⟨Nat.zero_le _, [], .nil, IsTup.new _ _⟩
  | 1, hn, q, ry =>
    cases rx
    obtain ⟨t, rfl⟩ := ry
    obtain ⟨its, r, ⟨⟨cls, dd, data, sl⟩, ho, hc, n, hd⟩, hs⟩ := I.tuple (SqT.of hl)
    simp only at hc hd
    subst hc hd
    refine wpAny_binaryOp_repeat_ref (T := "tuple") (U := "int") (by decide) ⟨_, ho, rfl⟩ (fun s' => typeIs_int s' _ t) noFill_tuple_mul F.fills_int_mul F.slot_int_rmul repeat_tuple F.slot_int_index.lookup
      (call_meets F.slot_int_rmul (typeIs_int s _ t) F.entry_int_rmul (F.args_int_rmul_2 _ _) (int_rmul_tuple _ t l its.toArray n dd sl)
        ⟨ho, rfl, ⟨_, ho, rfl⟩, call_meets F.slot_tuple_mul ⟨_, ho, rfl⟩ F.entry_tuple_mul (F.args_tuple_mul_2 _ _) (tuple_mul1 l its.toArray n dd sl t) ⟨ho, ?_⟩⟩)
    exact ⟨.ref l, H, I, rfl, q _ _ (Same.refl H) hl⟩
  | n + 2, hn, q, ry =>
    refine op_repT pins s σ H _ _ v u Q I rx ry ⟨l, _, [z], rfl, rfl, SqT.of hl, by simp, by omega, by omega, by simp, fun p hp => ?_⟩
    refine q p _ (same_new hp) ?_
    rw [upd_same, show (((n + 2 : Nat) : Int)).toNat = n + 2 from rfl, rep_flat]
theorem walk_zipT {K : PySem.W.Frag} {a b : Addr} {xs ys : List V} {n : Nat} (hn : n = min xs.length ys.length) : Walk (RZ.ItzT K a b) n (fun H => SqT K H a xs ∧ SqT K H b ys) (YPair (fun i => xs[i]?) (fun i => ys[i]?)) := by
  subst hn
  constructor
  · intro i G hi g
    exact ⟨xs, ys, _, _, g.1, g.2, List.getElem?_eq_getElem (Nat.lt_of_lt_of_le hi (Nat.min_le_left _ _)), List.getElem?_eq_getElem (Nat.lt_of_lt_of_le hi (Nat.min_le_right _ _))⟩
  · intro G g
    refine ⟨xs, ys, g.1, g.2, ?_⟩
    omega
  · rintro i G v G' _ g ⟨t, p, r, e1, e2, e3, e4, e5⟩
    exact ⟨t, p, r, e1, e2, e3, e4 _ g.1, e5 _ g.2⟩
end Cm

set_option Elab.async false
set_option linter.all false
set_option maxRecDepth 100000
set_option maxHeartbeats 4000000
namespace Cm
open PySem PySem.Spec PyProof.Rows L2
/-! ### rows and steps, as numbers -/
abbrev Rs := List (List Int)
inductive St3 where
  | add (i j : Nat) (z : Int) | swap (i j : Nat) | turn (i : Nat)
def St3.vals : St3 → List V
  | .add i j z => [.str "add", .int i, .int j, .int z]
  | .swap i j => [.str "swap", .int i, .int j]
  | .turn i => [.str "turn", .int i]
def St3.ok (m : Nat) : St3 → Prop
  | .add i j z => i < m ∧ j < m ∧ i ≠ j ∧ z.natAbs < 2 ^ 100
  | .swap i j => i < m ∧ j < m ∧ i ≠ j
  | .turn i => i < m
def St3.back : St3 → St3
  | .add i j z => .add i j (-z)
  | .swap i j => .swap i j
  | .turn i => .turn i
theorem back_ok {m : Nat} : ∀ {st : St3}, st.ok m → st.back.ok m
  | .add i j z, ⟨h1, h2, h3, h4⟩ => ⟨h1, h2, h3, by rw [Int.natAbs_neg]; exact h4⟩
  | .swap _ _, h => h
  | .turn _, h => h
def row (rs : Rs) (i : Nat) : List Int := rs[i]?.getD []
def St3.run : St3 → Rs → Rs
  | .add i j z, rs => rs.set i (List.zipWith (fun x y => x + z * y) (row rs i) (row rs j))
  | .swap i j, rs => (rs.set i (row rs j)).set j (row rs i)
  | .turn i, rs => rs.set i ((row rs i).map fun x => -x)
structure RB (m w b : Nat) (rs : Rs) : Prop where
  len : rs.length = m
  wide : ∀ r ∈ rs, r.length = w
  small : ∀ r ∈ rs, ∀ x ∈ r, x.natAbs < 2 ^ b
theorem row_at {rs : Rs} {i : Nat} (h : i < rs.length) : rs[i]? = some (row rs i) := by
  unfold row
  rw [List.getElem?_eq_getElem h]
  rfl
theorem row_mem {rs : Rs} {i : Nat} (h : i < rs.length) : row rs i ∈ rs := List.mem_of_getElem? (row_at h)
theorem RB.mono {m w b c : Nat} {rs : Rs} (h : RB m w b rs) (hb : b ≤ c) : RB m w c rs :=
  ⟨h.len, h.wide, fun r hr x hx => Nat.lt_of_lt_of_le (h.small r hr x hx) (Nat.pow_le_pow_right (by decide) hb)⟩
theorem mem_set {rs : Rs} {i : Nat} {r x : List Int} (h : x ∈ rs.set i r) : x ∈ rs ∨ x = r := by
  rcases List.mem_or_eq_of_mem_set h with z | z
  · exact .inl z
  · exact .inr z
theorem RB.set {m w b : Nat} {rs : Rs} {i : Nat} {r : List Int} (h : RB m w b rs) (h1 : r.length = w) (h2 : ∀ x ∈ r, x.natAbs < 2 ^ b) : RB m w b (rs.set i r) :=
  ⟨by rw [List.length_set]; exact h.len, fun x hx => by
    rcases mem_set hx with z | z
    · exact h.wide x z
    · rw [z]; exact h1, fun x hx => by
    rcases mem_set hx with z | z
    · exact h.small x z
    · rw [z]; exact h2⟩
theorem mem_zipWith {f : Int → Int → Int} : ∀ {xs ys : List Int} {z : Int}, z ∈ List.zipWith f xs ys → ∃ x y, x ∈ xs ∧ y ∈ ys ∧ z = f x y
  | [], _, _, h => by simp at h
  | _ :: _, [], _, h => by simp at h
  | x :: xs, y :: ys, z, h => by
    rw [List.zipWith_cons_cons] at h
    rcases List.mem_cons.mp h with e | e
    · exact ⟨x, y, List.mem_cons.mpr (.inl rfl), List.mem_cons.mpr (.inl rfl), e⟩
    · obtain ⟨a, c, h1, h2, h3⟩ := mem_zipWith e
      exact ⟨a, c, List.mem_cons.mpr (.inr h1), List.mem_cons.mpr (.inr h2), h3⟩
theorem add_small {b : Nat} {x y z : Int} (hx : x.natAbs < 2 ^ b) (hy : y.natAbs < 2 ^ b) (hz : z.natAbs < 2 ^ 100) : (x + z * y).natAbs < 2 ^ (b + 101) := by
  have h1 : (x + z * y).natAbs ≤ x.natAbs + z.natAbs * y.natAbs := by
    rw [← Int.natAbs_mul]
    exact Int.natAbs_add_le _ _
  have h2 : z.natAbs * y.natAbs ≤ 2 ^ 100 * 2 ^ b := Nat.mul_le_mul (Nat.le_of_lt hz) (Nat.le_of_lt hy)
  have e : 2 ^ (b + 101) = 2 ^ 101 * 2 ^ b := by rw [Nat.pow_add, Nat.mul_comm]
  rw [e]
  have h3 : (2 : Nat) ^ 101 * 2 ^ b = 2 ^ 100 * 2 ^ b + 2 ^ 100 * 2 ^ b := by
    rw [show (2 : Nat) ^ 101 = 2 ^ 100 + 2 ^ 100 from by decide, Nat.add_mul]
  have h4 : 2 ^ b ≤ 2 ^ 100 * 2 ^ b := Nat.le_mul_of_pos_left _ (by decide)
  omega
theorem run_RB {m w b : Nat} {rs : Rs} : ∀ {st : St3}, st.ok m → RB m w b rs → RB m w (b + 101) (st.run rs)
  | .add i j z, ⟨h1, h2, h3, h4⟩, h => by
    have li : i < rs.length := by rw [h.len]; exact h1
    have lj : j < rs.length := by rw [h.len]; exact h2
    refine (h.mono (by omega)).set ?_ fun x hx => ?_
    · rw [List.length_zipWith, h.wide _ (row_mem li), h.wide _ (row_mem lj), Nat.min_self]
    · obtain ⟨p, q, hp, hq, rfl⟩ := mem_zipWith hx
      exact add_small (h.small _ (row_mem li) p hp) (h.small _ (row_mem lj) q hq) h4
  | .swap i j, ⟨h1, h2, h3⟩, h => by
    have li : i < rs.length := by rw [h.len]; exact h1
    have lj : j < rs.length := by rw [h.len]; exact h2
    have hm := h.mono (c := b + 101) (by omega)
    exact (hm.set (hm.wide _ (row_mem lj)) (hm.small _ (row_mem lj))).set (hm.wide _ (row_mem li)) (hm.small _ (row_mem li))
  | .turn i, h1, h => by
    have li : i < rs.length := by rw [h.len]; exact h1
    have hm := h.mono (c := b + 101) (by omega)
    refine hm.set (by rw [List.length_map]; exact hm.wide _ (row_mem li)) fun x hx => ?_
    obtain ⟨y, hy, rfl⟩ := List.mem_map.mp hx
    rw [Int.natAbs_neg]
    exact hm.small _ (row_mem li) y hy
theorem row_set_same {rs : Rs} {i : Nat} {r : List Int} (h : i < rs.length) : row (rs.set i r) i = r := by
  unfold row
  rw [List.getElem?_set_self h]
  rfl
theorem row_set_ne {rs : Rs} {i j : Nat} {r : List Int} (h : i ≠ j) : row (rs.set i r) j = row rs j := by
  unfold row
  rw [List.getElem?_set_ne h]
theorem set_row {rs : Rs} {i : Nat} (h : i < rs.length) : rs.set i (row rs i) = rs := by
  refine List.ext_getElem? fun k => ?_
  by_cases hk : i = k
  · subst hk
    rw [List.getElem?_set_self h, row_at h]
  · rw [List.getElem?_set_ne hk]
theorem zip_back {z : Int} : ∀ {xs ys : List Int}, xs.length = ys.length → List.zipWith (fun x y => x + -z * y) (List.zipWith (fun x y => x + z * y) xs ys) ys = xs
  | [], [], _ => rfl
  | x :: xs, y :: ys, h => by
    rw [List.zipWith_cons_cons, List.zipWith_cons_cons, zip_back (Nat.succ.inj h)]
    congr 1
    rw [Int.neg_mul]
    omega
theorem neg_back : ∀ xs : List Int, (xs.map fun x => -x).map (fun x => -x) = xs
  | [] => rfl
  | x :: xs => by
    rw [List.map_cons, List.map_cons, neg_back xs, Int.neg_neg]
theorem run_back {m w b : Nat} {rs : Rs} : ∀ {st : St3}, st.ok m → RB m w b rs → st.back.run (st.run rs) = rs
  | .add i j z, ⟨h1, h2, h3, h4⟩, h => by
    have li : i < rs.length := by rw [h.len]; exact h1
    have lj : j < rs.length := by rw [h.len]; exact h2
    show (rs.set i _).set i (List.zipWith (fun x y => x + -z * y) (row (rs.set i _) i) (row (rs.set i _) j)) = rs
    rw [row_set_same li, row_set_ne h3, zip_back (by rw [h.wide _ (row_mem li), h.wide _ (row_mem lj)]), List.set_set, set_row li]
  | .swap i j, ⟨h1, h2, h3⟩, h => by
    have li : i < rs.length := by rw [h.len]; exact h1
    have lj : j < rs.length := by rw [h.len]; exact h2
    show (((rs.set i (row rs j)).set j (row rs i)).set i (row ((rs.set i (row rs j)).set j (row rs i)) j)).set j (row ((rs.set i (row rs j)).set j (row rs i)) i) = rs
    have e1 : row ((rs.set i (row rs j)).set j (row rs i)) j = row rs i := row_set_same (by rw [List.length_set]; exact lj)
    have e2 : row ((rs.set i (row rs j)).set j (row rs i)) i = row rs j := by
      rw [row_set_ne (Ne.symm h3), row_set_same li]
    rw [e1, e2, List.set_comm _ _ (Ne.symm h3), List.set_set, List.set_set, set_row li, set_row lj]
  | .turn i, h1, h => by
    have li : i < rs.length := by rw [h.len]; exact h1
    show (rs.set i _).set i ((row (rs.set i _) i).map fun x => -x) = rs
    rw [row_set_same li, neg_back, List.set_set, set_row li]
theorem mulW_small {i j : Int} (hi : i.natAbs < 2 ^ 2000) (hj : j.natAbs < 2 ^ 2000) : CMulW i j := by
  show i.natAbs.log2 + j.natAbs.log2 < 1000000
  have l : ∀ n : Nat, n < 2 ^ 2000 → n.log2 < 2001 := fun n h => by
    by_cases hn : n = 0
    · subst hn; decide
    · exact Nat.lt_succ_of_lt ((Nat.log2_lt hn).mpr h)
  have := l _ hi
  have := l _ hj
  omega
/-! ### the way back, step by step -/
inductive Undo (m w : Nat) : List St3 → Rs → Rs → Prop where
  | nil {r : Rs} : Undo m w [] r r
  | cons {b : St3} {bs : List St3} {cur r0 : Rs} {k : Nat} : b.ok m → RB m w k cur → k ≤ 1000 → Undo m w bs (b.run cur) r0 → Undo m w (b :: bs) cur r0
/-! ### as data -/
def rowD (r : List Int) : PyData := .tuple (r.map .int)
def rowsD (rs : Rs) : PyData := .tuple (rs.map rowD)
def St3.data : St3 → PyData
  | .add i j z => .tuple [.str "add", .int i, .int j, .int z]
  | .swap i j => .tuple [.str "swap", .int i, .int j]
  | .turn i => .tuple [.str "turn", .int i]
theorem lay_ints : ∀ r : List Int, PyData.canLayAll0 (r.map .int) = true
  | [] => rfl
  | x :: r => by
    show (PyData.canLay0 (.int x) && PyData.canLayAll0 (r.map .int)) = true
    rw [lay_ints r]
    rfl
theorem lay_rows : ∀ rs : Rs, PyData.canLayAll0 (rs.map rowD) = true
  | [] => rfl
  | x :: r => by
    show (PyData.canLayAll0 (x.map .int) && PyData.canLayAll0 (r.map rowD)) = true
    rw [lay_rows r, lay_ints x]
    rfl
theorem depth_ints : ∀ r : List Int, PyData.depthAll (r.map .int) ≤ 1
  | [] => by decide
  | x :: r => by
    have := depth_ints r
    show max (PyData.depth (.int x)) (PyData.depthAll (r.map .int)) ≤ 1
    have h2 : PyData.depth (.int x) ≤ 1 := by simp [PyData.depth]
    omega
theorem depth_row (r : List Int) : (rowD r).depth ≤ 2 := by
  have := depth_ints r
  have e : (rowD r).depth = PyData.depthAll (r.map .int) + 1 := by simp [rowD, PyData.depth]
  omega
theorem depth_rowsA : ∀ rs : Rs, PyData.depthAll (rs.map rowD) ≤ 2
  | [] => by decide
  | x :: r => by
    have h1 := depth_rowsA r
    have h2 := depth_row x
    show max (PyData.depth (rowD x)) (PyData.depthAll (r.map rowD)) ≤ 2
    omega
theorem depth_rows (rs : Rs) : (rowsD rs).depth ≤ 3 := by
  have := depth_rowsA rs
  have e : (rowsD rs).depth = PyData.depthAll (rs.map rowD) + 1 := by simp [rowsD, PyData.depth]
  omega
theorem shaped_rows (rs : Rs) : SeqAt.shaped (rowsD rs) = true := by
  have := depth_rows rs
  show (PyData.canLayAll0 (rs.map rowD) && decide ((rowsD rs).depth ≤ 64)) = true
  rw [lay_rows, decide_eq_true (by omega)]
  rfl
theorem eqv_rows (rs : Rs) : PyData.eqv (rowsD rs) (rowsD rs) = true := SeqAt.eqv_refl _ (SeqAt.canLay_of_shaped (shaped_rows rs))
theorem shaped_list (rs : Rs) : SeqAt.shaped (.list (rs.map rowD)) = true := by
  have := depth_rowsA rs
  have e : (PyData.list (rs.map rowD)).depth = PyData.depthAll (rs.map rowD) + 1 := by simp [PyData.depth]
  show (PyData.canLayAll0 (rs.map rowD) && decide ((PyData.list (rs.map rowD)).depth ≤ 64)) = true
  rw [lay_rows, decide_eq_true (by omega)]
  rfl
theorem log_big {i : Int} (h : i.natAbs < 2 ^ 1000) : i.natAbs.log2 < 1000 := PySem.Flt.log2_lt_of (by decide) h
theorem int_text {i : Int} (h : i.natAbs < 2 ^ 1000) : (PyData.shown (.int i)).length ≤ 1001 := by
  show (Str.ofString (toString i)).length ≤ 1001
  rw [PySem.ofString_length]
  exact PySem.int_text_length_le (by decide) (log_big h)
theorem show_ints : ∀ {r : List Int}, (∀ x ∈ r, x.natAbs < 2 ^ 1000) → PyData.showableAll (r.map .int) = true ∧ PyData.hasDictAll (r.map .int) = false ∧ PyData.leavesShortAll 1001 (r.map .int) = true ∧ PyData.bulkAll (r.map .int) = r.length
  | [], _ => ⟨rfl, rfl, rfl, rfl⟩
  | x :: r, h => by
    obtain ⟨h1, h2, h3, h4⟩ := show_ints fun y hy => h y (List.mem_cons.mpr (.inr hy))
    have s1 := h x (List.mem_cons.mpr (.inl rfl))
    have l1 := log_big s1
    refine ⟨?_, ?_, ?_, ?_⟩
    · show (decide (x.natAbs.log2 < 1920) && PyData.showableAll (r.map .int)) = true
      rw [h1, decide_eq_true (by omega)]
      rfl
    · show (PyData.hasDict (.int x) || PyData.hasDictAll (r.map .int)) = false
      rw [h2]
      rfl
    · show (decide ((PyData.shown (.int x)).length ≤ 1001) && PyData.leavesShortAll 1001 (r.map .int)) = true
      rw [h3, decide_eq_true (int_text s1)]
      rfl
    · show PyData.bulk (.int x) + 1 + PyData.bulkAll (r.map .int) = r.length + 1
      rw [h4]
      show 0 + 1 + r.length = _
      omega
theorem show_rows {w : Nat} : ∀ {rs : Rs}, (∀ r ∈ rs, r.length = w ∧ ∀ x ∈ r, x.natAbs < 2 ^ 1000) → PyData.showableAll (rs.map rowD) = true ∧ PyData.hasDictAll (rs.map rowD) = false ∧ PyData.leavesShortAll 1001 (rs.map rowD) = true ∧ PyData.bulkAll (rs.map rowD) = (w + 1) * rs.length
  | [], _ => ⟨rfl, rfl, rfl, rfl⟩
  | x :: r, h => by
    obtain ⟨h1, h2, h3, h4⟩ := show_rows fun y hy => h y (List.mem_cons.mpr (.inr hy))
    obtain ⟨hw, s1⟩ := h x (List.mem_cons.mpr (.inl rfl))
    obtain ⟨i1, i2, i3, i4⟩ := show_ints s1
    refine ⟨?_, ?_, ?_, ?_⟩
    · show (PyData.showableAll (x.map .int) && PyData.showableAll (r.map rowD)) = true
      rw [h1, i1]
      rfl
    · show (PyData.hasDictAll (x.map .int) || PyData.hasDictAll (r.map rowD)) = false
      rw [h2, i2]
      rfl
    · show (PyData.leavesShortAll 1001 (x.map .int) && PyData.leavesShortAll 1001 (r.map rowD)) = true
      rw [h3, i3]
      rfl
    · show PyData.bulkAll (x.map .int) + 1 + PyData.bulkAll (r.map rowD) = (w + 1) * (r.length + 1)
      rw [h4, i4, hw, Nat.mul_add, Nat.mul_one]
      omega
theorem show_pair {w m k b : Nat} {rs : Rs} {st : St3} (h : RB m w b rs) (hb : b ≤ 1000) (hm : m ≤ 14) (hw : w ≤ 12) (hs : st.ok k) (hk : k ≤ 14) :
    (PyData.tuple [rowsD rs, st.data]).showable = true ∧ (PyData.tuple [rowsD rs, st.data]).hasDict = false ∧ (PyData.tuple [rowsD rs, st.data]).depth ≤ 60 ∧ (PyData.tuple [rowsD rs, st.data]).shown.length ≤ sizeLine := by
  have hr := h.mono hb
  obtain ⟨h1, h2, h3, h4⟩ := show_rows (rs := rs) (w := w) fun r z => ⟨hr.wide r z, hr.small r z⟩
  have hst : st.data.showable = true ∧ st.data.hasDict = false ∧ st.data.depth ≤ 2 ∧ PyData.leavesShort 1001 st.data = true ∧ st.data.bulk ≤ 8 := by
    have nb : ∀ i : Nat, i < k → ((i : Int)).natAbs < 2 ^ 1000 := fun i hi => Nat.lt_of_lt_of_le (show i < 2 ^ 4 by have : (2 : Nat) ^ 4 = 16 := rfl; omega) (Nat.pow_le_pow_right (by decide) (by decide))
    have sd : ∀ i : Int, i.natAbs < 2 ^ 1000 → decide (i.natAbs.log2 < 1920) = true := fun i hi => decide_eq_true (Nat.lt_trans (log_big hi) (by decide))
    have td : ∀ i : Int, i.natAbs < 2 ^ 1000 → decide ((PyData.shown (.int i)).length ≤ 1001) = true := fun i hi => decide_eq_true (int_text hi)
    cases st with
    | add i j z =>
      obtain ⟨o1, o2, o3, o4⟩ := hs
      have oz : z.natAbs < 2 ^ 1000 := Nat.lt_trans o4 (Nat.pow_lt_pow_right (by decide) (by decide))
      refine ⟨?_, rfl, by simp [St3.data, PyData.depth, PyData.depthAll], ?_, ?_⟩
      · show (PyData.showable (.str "add") && (decide (((i : Nat) : Int).natAbs.log2 < 1920) && (decide (((j : Nat) : Int).natAbs.log2 < 1920) && (decide (z.natAbs.log2 < 1920) && true)))) = true
        rw [sd _ (nb i o1), sd _ (nb j o2), sd _ oz]
        rfl
      · show (PyData.leavesShort 1001 (.str "add") && (decide ((PyData.shown (.int i)).length ≤ 1001) && (decide ((PyData.shown (.int j)).length ≤ 1001) && (decide ((PyData.shown (.int z)).length ≤ 1001) && true)))) = true
        rw [td _ (nb i o1), td _ (nb j o2), td _ oz]
        decide +kernel
      · exact (by decide +kernel : PyData.bulk (.str "add") + 1 + (0 + 1 + (0 + 1 + (0 + 1 + 0))) ≤ 8)
    | swap i j =>
      obtain ⟨o1, o2, o3⟩ := hs
      refine ⟨?_, rfl, by simp [St3.data, PyData.depth, PyData.depthAll], ?_, ?_⟩
      · show (PyData.showable (.str "swap") && (decide (((i : Nat) : Int).natAbs.log2 < 1920) && (decide (((j : Nat) : Int).natAbs.log2 < 1920) && true))) = true
        rw [sd _ (nb i o1), sd _ (nb j o2)]
        rfl
      · show (PyData.leavesShort 1001 (.str "swap") && (decide ((PyData.shown (.int i)).length ≤ 1001) && (decide ((PyData.shown (.int j)).length ≤ 1001) && true))) = true
        rw [td _ (nb i o1), td _ (nb j o2)]
        decide +kernel
      · exact (by decide +kernel : PyData.bulk (.str "swap") + 1 + (0 + 1 + (0 + 1 + 0)) ≤ 8)
    | turn i =>
      refine ⟨?_, rfl, by simp [St3.data, PyData.depth, PyData.depthAll], ?_, ?_⟩
      · show (PyData.showable (.str "turn") && (decide (((i : Nat) : Int).natAbs.log2 < 1920) && true)) = true
        rw [sd _ (nb i hs)]
        rfl
      · show (PyData.leavesShort 1001 (.str "turn") && (decide ((PyData.shown (.int i)).length ≤ 1001) && true)) = true
        rw [td _ (nb i hs)]
        decide +kernel
      · exact (by decide +kernel : PyData.bulk (.str "turn") + 1 + (0 + 1 + 0) ≤ 8)
  obtain ⟨s1, s2, s3, s4, s5⟩ := hst
  have hd := depth_rows rs
  refine ⟨?_, ?_, ?_, ?_⟩
  · show (PyData.showableAll (rs.map rowD) && (st.data.showable && true)) = true
    rw [h1, s1]
    rfl
  · show (PyData.hasDictAll (rs.map rowD) || (st.data.hasDict || false)) = false
    rw [h2, s2]
    rfl
  · have e : (PyData.tuple [rowsD rs, st.data]).depth = max (rowsD rs).depth (max st.data.depth 0) + 1 := by simp [PyData.depth, PyData.depthAll]
    omega
  · have hl : PyData.leavesShort 1001 (.tuple [rowsD rs, st.data]) = true := by
      show (PyData.leavesShortAll 1001 (rs.map rowD) && (PyData.leavesShort 1001 st.data && true)) = true
      rw [h3, s4]
      rfl
    have hb2 := PyData.shown_le_bulk 1001 (by decide) _ hl
    have e : (PyData.tuple [rowsD rs, st.data]).bulk = (w + 1) * rs.length + 1 + (st.data.bulk + 1 + 0) := by
      show PyData.bulkAll (rs.map rowD) + 1 + (st.data.bulk + 1 + 0) = _
      rw [h4]
    rw [e] at hb2
    have hp : (w + 1) * rs.length ≤ 13 * 14 := Nat.mul_le_mul (by omega) (by rw [h.len]; exact hm)
    refine Nat.le_trans hb2 (Nat.le_trans (show (1001 + 2) * ((w + 1) * rs.length + 1 + (st.data.bulk + 1 + 0)) + 1001 ≤ (1001 + 2) * 200 + 1001 from Nat.add_le_add_right (Nat.mul_le_mul_left _ (by omega)) _) (by decide))
/-! ### on the heap -/
def TI (H : Hp) (v : V) (ns : List Int) : Prop := ∃ a, v = .ref a ∧ H a = some (.tup (ns.map V.int))
theorem TI.ext {H H' : Hp} {v : V} {ns : List Int} (h : TI H v ns) (e : Ext H H') : TI H' v ns := let ⟨a, h1, h2⟩ := h; ⟨a, h1, e.t _ _ h2⟩
def TT (H : Hp) (v : V) (rs : Rs) : Prop := ∃ a xs, v = .ref a ∧ H a = some (.tup xs) ∧ Paired (TI H) xs rs
theorem TT.ext {H H' : Hp} {v : V} {rs : Rs} (h : TT H v rs) (e : Ext H H') : TT H' v rs := let ⟨a, xs, h1, h2, h3⟩ := h; ⟨a, xs, h1, e.t _ _ h2, Paired.mapP h3 fun _ _ z => z.ext e⟩
def SV (H : Hp) (v : V) (st : St3) : Prop := ∃ a, v = .ref a ∧ H a = some (.tup st.vals)
theorem SV.ext {H H' : Hp} {v : V} {st : St3} (h : SV H v st) (e : Ext H H') : SV H' v st := let ⟨a, h1, h2⟩ := h; ⟨a, h1, e.t _ _ h2⟩
theorem dp_ints {K : PySem.W.Frag} {H : Hp} : ∀ ns : List Int, DpAll K H (ns.map V.int) (ns.map .int)
  | [] => .nil
  | x :: r => .cons (.int x) (dp_ints r)
theorem TI.dp {K : PySem.W.Frag} {H : Hp} {v : V} {ns : List Int} (h : TI H v ns) : Dp K H v (rowD ns) := by
  obtain ⟨a, rfl, h2⟩ := h
  exact .tup (SqT.of h2) (dp_ints ns)
theorem dp_rows {K : PySem.W.Frag} {H : Hp} : ∀ {xs : List V} {rs : Rs}, Paired (TI H) xs rs → DpAll K H xs (rs.map rowD)
  | _, _, .nil => .nil
  | _, _, .cons h t => .cons h.dp (dp_rows t)
theorem TT.dp {K : PySem.W.Frag} {H : Hp} {v : V} {rs : Rs} (h : TT H v rs) : Dp K H v (rowsD rs) := by
  obtain ⟨a, xs, rfl, h2, h3⟩ := h
  exact .tup (SqT.of h2) (dp_rows h3)
theorem SV.dp {K : PySem.W.Frag} {H : Hp} {v : V} : ∀ {st : St3}, SV H v st → Dp K H v st.data
  | .add i j z, ⟨a, e, h⟩ => by
    subst e
    exact .tup (SqT.of h) (.cons (.str _) (.cons (.int _) (.cons (.int _) (.cons (.int _) .nil))))
  | .swap i j, ⟨a, e, h⟩ => by
    subst e
    exact .tup (SqT.of h) (.cons (.str _) (.cons (.int _) (.cons (.int _) .nil)))
  | .turn i, ⟨a, e, h⟩ => by
    subst e
    exact .tup (SqT.of h) (.cons (.str _) (.cons (.int _) .nil))
theorem paired_app {α β : Type} {R : α → β → Prop} : ∀ {l : List α} {m : List β} {a : α} {b : β}, Paired R l m → R a b → Paired R (l ++ [a]) (m ++ [b])
  | _, _, _, _, .nil, h => .cons h .nil
  | _, _, _, _, .cons h t, q => .cons h (paired_app t q)
theorem paired_set {α β : Type} {R : α → β → Prop} : ∀ {l : List α} {m : List β} {i : Nat} {a : α} {b : β}, Paired R l m → R a b → Paired R (l.set i a) (m.set i b)
  | _, _, _, _, _, .nil, _ => .nil
  | _, _, 0, _, _, .cons _ t, q => .cons q t
  | _, _, i + 1, _, _, .cons h t, q => .cons h (paired_set (i := i) t q)
theorem paired_look {α β : Type} {R : α → β → Prop} : ∀ {l : List α} {m : List β} {i : Nat} {b : β}, Paired R l m → m[i]? = some b → ∃ a, l[i]? = some a ∧ R a b
  | _, _, _, _, .nil, e => by simp at e
  | _, _, 0, _, .cons h _, e => by
    have e1 := Option.some.inj e
    subst e1
    exact ⟨_, rfl, h⟩
  | _, _, i + 1, _, .cons _ t, e => paired_look (i := i) t e
/-! ### over a named K -/
section
variable {X : Cx} {K : PySem.W.Frag}
theorem tupOf_K (hK : X.K = K) : CallR X (.type "tuple") (rTupOf K) := by
  subst hK
  exact call_tuple_of
def rListOf (K : PySem.W.Frag) : List V → Hp → VK → Prop := fun xs H Q => ∃ p ys, xs = [.ref p] ∧ (SqL K H p ys ∨ SqT K H p ys) ∧ ∀ l, H l = none → Q (.ref l) (upd H l (.lst ys))
theorem listOf_K (hK : X.K = K) : CallR X (.type "list") (rListOf K) := by
  subst hK
  exact call_list_of
def rNeK (K : PySem.W.Frag) : R2 := fun x y H Q => ∃ d e, Dp K H x d ∧ Dp K H y e ∧ SeqAt.shaped d = true ∧ SeqAt.shaped e = true ∧ Q (.bl (!PyData.eqv d e)) H
theorem neD_K {k : Nat} (hr : Room k X.A) (hK : X.K = K) : OpR X (compareOp .NotEq) (rNeK K) := by
  subst hK
  exact op_neD hr.units
end
theorem ix_nat {n i : Nat} (h : i < n) : ixN n (i : Int) = some i := by
  unfold ixN
  rw [if_pos (by omega), if_pos (by omega), Int.toNat_natCast]
theorem take_app {l : List Int} {k : Nat} {v : Int} (h : l[k]? = some v) : (l.take k).map V.int ++ [V.int v] = (l.take (k + 1)).map V.int := by
  rw [List.take_succ, h, List.map_append]
  rfl
theorem int_at {l : List Int} {k : Nat} {x : V} (h : (l.map V.int)[k]? = some x) : ∃ v, x = .int v ∧ l[k]? = some v := by
  rw [List.getElem?_map] at h
  cases hk : l[k]? with
  | none =>
    rw [hk] at h
    cases h
  | some v =>
    rw [hk] at h
    exact ⟨v, (Option.some.inj h).symm, rfl⟩
theorem fresh_same {H H' : Hp} {D : Addr} {o : HO} (s : Same H H') (n : H D = none) : Same H (upd H' D o) := fun b u e => by
  rw [upd_ne (ne_of_none e n)]
  exact s b u e
/-- the i-th row, by its place -/
theorem row_look {H : Hp} {xs : List V} {rs : Rs} {i : Nat} (h : Paired (TI H) xs rs) (hi : i < rs.length) : ∃ p, xs[i]? = some (.ref p) ∧ H p = some (.tup ((row rs i).map V.int)) := by
  obtain ⟨v, h1, p, rfl, h2⟩ := paired_look h (row_at hi)
  exact ⟨p, h1, h2⟩
theorem zip_at {f : Int → Int → Int} {xs ys : List Int} {k : Nat} {x y : Int} (hx : xs[k]? = some x) (hy : ys[k]? = some y) : (List.zipWith f xs ys)[k]? = some (f x y) := by
  rw [List.getElem?_zipWith, hx, hy]
theorem len_small {l : List Int} {k w : Nat} (h : l.length = w) (hw : w ≤ 12) : ((l.take k).map V.int).length < sizeLine := by
  rw [List.length_map, List.length_take]
  exact small1000 (by omega)
def St3.kinds : St3 → List Kd
  | .add i j z => [.str "add", .int i, .int j, .int z]
  | .swap i j => [.str "swap", .int i, .int j]
  | .turn i => [.str "turn", .int i]
theorem kinds_at {H : Hp} {a : Addr} : ∀ {st : St3}, H a = some (.tup st.vals) → KsOf H (.ref a) (some st.kinds)
  | .add i j z, h => ⟨a, _, rfl, h, .cons (.str _) (.cons (.int _) (.cons (.int _) (.cons (.int _) .nil)))⟩
  | .swap i j, h => ⟨a, _, rfl, h, .cons (.str _) (.cons (.int _) (.cons (.int _) .nil))⟩
  | .turn i, h => ⟨a, _, rfl, h, .cons (.str _) (.cons (.int _) .nil)⟩
theorem unlike_yes {m i j : Nat} (h1 : i < m) (h2 : j < m) (h3 : i ≠ j) : unlikeK m (.int i) (.int j) = true := by
  show ((decide ((0 : Int) ≤ i) && decide ((i : Int) < m)) && ((decide ((0 : Int) ≤ j) && decide ((j : Int) < m)) && !decide (V.int i = V.int j))) = true
  rw [decide_eq_true (by omega), decide_eq_true (by omega), decide_eq_true (by omega), decide_eq_true (by omega), decide_eq_false (fun e => h3 (by have := V.int.inj e; omega))]
  rfl
theorem kinds_ok {m : Nat} : ∀ {st : St3}, st.ok m → stepO m (some st.kinds) = true
  | .add i j z, ⟨h1, h2, h3, _⟩ => by
    show (unlikeK m (.int i) (.int j) && true) = true
    rw [unlike_yes h1 h2 h3]
    rfl
  | .swap i j, ⟨h1, h2, h3⟩ => by
    show unlikeK m (.int i) (.int j) = true
    exact unlike_yes h1 h2 h3
  | .turn i, h => by
    have h : i < m := h
    show (decide ((0 : Int) ≤ i) && decide ((i : Int) < m)) = true
    rw [decide_eq_true (by omega), decide_eq_true (by omega)]
    rfl
def St3.word : St3 → Str
  | .add _ _ _ => "add"
  | .swap _ _ => "swap"
  | .turn _ => "turn"
theorem word_at (st : St3) : st.vals[0]? = some (.str st.word) := by cases st <;> rfl
theorem back_word (st : St3) : st.back.word = st.word := by cases st <;> rfl
theorem paired_first {α β : Type} {R : α → β → Prop} : ∀ {l : List α} {m : List β} {i : Nat} {a : α}, Paired R l m → l[i]? = some a → ∃ b, m[i]? = some b ∧ R a b
  | _, _, _, _, .nil, e => by simp at e
  | _, _, 0, _, .cons h _, e => by
    have e1 := Option.some.inj e
    subst e1
    exact ⟨_, rfl, h⟩
  | _, _, i + 1, a, .cons _ t, e => paired_first (i := i) (a := a) t e
theorem cut1 (x : V) (r : List V) : HT.sIx (x :: r).length 0 (some 1) = 1 := by
  have := HT.sIx_nat (x :: r).length 0 1
  rw [show ((1 : Nat) : Int) = 1 from rfl] at this
  rw [this, List.length_cons]
  omega
theorem cutR (x : V) (r : List V) : cutV (x :: r) (some 1) none = r := by
  unfold cutV
  rw [cut1, HT.sIx_none]
  show (r.take ((x :: r).length - 1)) = r
  rw [List.length_cons, Nat.add_sub_cancel]
  exact List.take_length
theorem sl_rest {K : PySem.W.Frag} {H : Hp} {a : Addr} {x : V} {r : List V} {Q : VK} {σ : L2.St} (h : H a = some (.tup (x :: r))) (q : ∀ p H', Same H H' → H' p = some (.tup r) → Q (.ref p) H') : tNoPart σ H (fun u H3 => rSlA K (.ref a) (some 1) u H3 Q) := by
  refine ⟨a, _, rfl, SqT.of h, fun z => ?_, fun _ p hp => q p _ (same_new hp) (by rw [upd_same, cutR])⟩
  have := z.1
  rw [cut1] at this
  exact absurd this (by decide)
/-! ### lists of lists, apart from D -/
def LI (D : Addr) (H : Hp) (v : V) (ns : List Int) : Prop := ∃ a, v = .ref a ∧ a ≠ D ∧ H a = some (.lst (ns.map V.int))
theorem LI.same {D : Addr} {H H' : Hp} {v : V} {ns : List Int} (h : LI D H v ns) (s : Same H H') : LI D H' v ns := let ⟨a, h1, h2, h3⟩ := h; ⟨a, h1, h2, s _ _ h3⟩
theorem LI.put {D : Addr} {H : Hp} {v : V} {ns : List Int} {o : HO} (h : LI D H v ns) : LI D (upd H D o) v ns := by
  obtain ⟨a, h1, h2, h3⟩ := h
  exact ⟨a, h1, h2, by rw [upd_ne h2]; exact h3⟩
theorem take_row {rs : Rs} {k : Nat} {r : List Int} (h : rs[k]? = some r) : rs.take (k + 1) = rs.take k ++ [r] := by
  rw [List.take_succ, h]
  rfl
/-! ### drawn rows -/
theorem but_fresh {p D : Addr} {H H' : Hp} {o : HO} (b : But p H H') (n : H D = none) : But p H (upd H' D o) := fun c u hc e => by
  rw [upd_ne (ne_of_none e n)]
  exact b c u hc e
theorem ext_fresh {D : Addr} {H H' : Hp} {o : HO} (x : Ext H H') (n : H D = none) : Ext H (upd H' D o) := by
  refine ⟨fun b xs e => ?_, fun b xs e => ?_, fun b xs e => ?_⟩
  · rw [upd_ne (ne_of_none e n)]
    exact x.t b xs e
  · rw [upd_ne (ne_of_none e n)]
    exact x.l b xs e
  · rw [upd_ne (ne_of_none e n)]
    exact x.d b xs e
theorem LP.put {H : Hp} {p D : Addr} {o : HO} (h : LP H p) (n : D ≠ p) : LP (upd H D o) p := by
  obtain ⟨x, y, z, e⟩ := h
  exact ⟨x, y, z, by rw [upd_ne (Ne.symm n)]; exact e⟩
theorem lp_ne {H : Hp} {p D : Addr} (h : LP H p) (n : H D = none) : D ≠ p := by
  obtain ⟨x, y, z, e⟩ := h
  exact (ne_of_none e n).symm
theorem RB.app {k w b : Nat} {rs : Rs} {r : List Int} (h : RB k w b rs) (h1 : r.length = w) (h2 : ∀ x ∈ r, x.natAbs < 2 ^ b) : RB (k + 1) w b (rs ++ [r]) :=
  ⟨by rw [List.length_append, h.len]; rfl, fun x hx => by
    rcases List.mem_append.mp hx with z | z
    · exact h.wide x z
    · rw [List.mem_singleton.mp z]; exact h1, fun x hx => by
    rcases List.mem_append.mp hx with z | z
    · exact h.small x z
    · rw [List.mem_singleton.mp z]; exact h2⟩
theorem eqv_nil (rs : Rs) : PyData.eqv (.list (rs.map rowD)) (.list []) = decide (rs = []) := by
  cases rs with
  | nil => rfl
  | cons x r => rfl
theorem mul_small {k : Nat} {c x : Int} (c0 : -2 ≤ c) (c1 : c ≤ 2) (h : x.natAbs < 2 ^ (30 + k)) : (c * x).natAbs < 2 ^ (30 + (k + 1)) := by
  rw [Int.natAbs_mul, show 30 + (k + 1) = (30 + k) + 1 from rfl, Nat.pow_succ, Nat.mul_comm]
  have hc : c.natAbs ≤ 2 := by omega
  have h1 : x.natAbs * c.natAbs ≤ x.natAbs * 2 := Nat.mul_le_mul_left _ hc
  omega
theorem app_ints {ns : List Int} {z : Int} : ns.map V.int ++ [V.int z] = (ns ++ [z]).map V.int := by
  rw [List.map_append]
  rfl
theorem paired_cat {α β : Type} {R : α → β → Prop} : ∀ {l l' : List α} {m m' : List β}, Paired R l m → Paired R l' m' → Paired R (l ++ l') (m ++ m')
  | _, _, _, _, .nil, q => q
  | _, _, _, _, .cons h t, q => .cons h (paired_cat t q)
theorem cat_rows {K : PySem.W.Frag} {H : Hp} {v u : V} {rs rs' : Rs} {Q : VK} (h : TT H v rs) (h' : TT H u rs') (hs : rs.length + rs'.length ≤ 1000) (q : ∀ v' H', Same H H' → TT H' v' (rs ++ rs') → Q v' H') : rCatA K v u H Q := by
  obtain ⟨a, xs, rfl, h2, h3⟩ := id h
  obtain ⟨b, ys, rfl, g2, g3⟩ := id h'
  have l1 : xs.length = rs.length := Paired.length h3
  have l2 : ys.length = rs'.length := Paired.length g3
  refine ⟨a, b, xs, ys, rfl, rfl, SqT.of h2, SqT.of g2, Nat.le_of_lt (small1000 (by omega)), fun e => ?_, fun _ e => ?_, fun _ _ p hp => ?_⟩
  · have er : rs = [] := List.eq_nil_of_length_eq_zero (by rw [← l1, e]; rfl)
    subst er
    exact q _ _ (Same.refl H) h'
  · have er : rs' = [] := List.eq_nil_of_length_eq_zero (by rw [← l2, e]; rfl)
    subst er
    rw [List.append_nil] at q
    exact q _ _ (Same.refl H) h
  · have x := Ext.same (same_new (o := .tup (xs ++ ys)) hp)
    exact q _ _ (same_new hp) ⟨p, _, rfl, upd_same, paired_cat (Paired.mapP h3 fun _ _ z => z.ext x) (Paired.mapP g3 fun _ _ z => z.ext x)⟩
theorem but_free {p D : Addr} {H H' : Hp} (b : But p H H') (l : LP H' p) (n : H' D = none) : H D = none := by
  cases e : H D with
  | none => rfl
  | some o =>
    rw [b D o (lp_ne l n) e] at n
    cases n
theorem drop_at {bs : List St3} {i : Nat} {b : St3} (h : bs[i]? = some b) : bs.drop i = b :: bs.drop (i + 1) := by
  obtain ⟨hi, e⟩ := List.getElem?_eq_some_iff.mp h
  rw [List.drop_eq_getElem_cons hi, e]
end Cm

set_option Elab.async false
set_option linter.all false
set_option maxRecDepth 100000
set_option maxHeartbeats 4000000
namespace Cm
open PySem PySem.Spec PyProof.Rows L2
/-! ### the drawing dict: cells, at, left -/
def penD (a : Addr) (n m : Int) : List (Key × V) := [(Sum.inr "cells", .ref a), (Sum.inr "at", .int n), (Sum.inr "left", .int m)]
theorem kca : ¬ ((Sum.inr ("cells" : Str) : Key) = Sum.inr ("at" : Str)) := by decide +kernel
theorem kcl : ¬ ((Sum.inr ("cells" : Str) : Key) = Sum.inr ("left" : Str)) := by decide +kernel
theorem kal : ¬ ((Sum.inr ("at" : Str) : Key) = Sum.inr ("left" : Str)) := by decide +kernel
theorem kla : ¬ ((Sum.inr ("left" : Str) : Key) = Sum.inr ("at" : Str)) := by decide +kernel
theorem val_cells (a : Addr) (n m : Int) : valV (penD a n m) (Sum.inr "cells" : Key) = some (.ref a) := valV_pos rfl
theorem val_at (a : Addr) (n m : Int) : valV (penD a n m) (Sum.inr "at" : Key) = some (.int n) := (valV_neg kca).trans (valV_pos rfl)
theorem val_left (a : Addr) (n m : Int) : valV (penD a n m) (Sum.inr "left" : Key) = some (.int m) := (valV_neg kcl).trans ((valV_neg kal).trans (valV_pos rfl))
theorem put_at (a : Addr) (n m z : Int) : putK (penD a n m) (Sum.inr "at" : Key) (.int z) = penD a z m := by
  unfold putK
  rw [valV_any, val_at, if_pos (show (some (V.int n)).isSome = true from rfl)]
  unfold penD
  simp only [List.map_cons, List.map_nil, if_neg kca, if_neg kla, if_true]
theorem put_left (a : Addr) (n m z : Int) : putK (penD a n m) (Sum.inr "left" : Key) (.int z) = penD a n z := by
  unfold putK
  rw [valV_any, val_left, if_pos (show (some (V.int m)).isSome = true from rfl)]
  unfold penD
  simp only [List.map_cons, List.map_nil, if_neg kcl, if_neg kal, if_true]
section
variable {K : PySem.W.Frag} {H H' : Hp} {d a : Addr} {n m : Int}
theorem dg_cells (h : H d = some (.dK (penD a n m))) : DGet H d (.str "cells") (some (.ref a)) := by
  have q := DGet.k (k := (Sum.inr "cells" : Key)) h
  rw [val_cells] at q
  exact q
theorem dg_at (h : H d = some (.dK (penD a n m))) : DGet H d (.str "at") (some (.int n)) := by
  have q := DGet.k (k := (Sum.inr "at" : Key)) h
  rw [val_at] at q
  exact q
theorem dg_left (h : H d = some (.dK (penD a n m))) : DGet H d (.str "left") (some (.int m)) := by
  have q := DGet.k (k := (Sum.inr "left" : Key)) h
  rw [val_left] at q
  exact q
theorem dp_at {z : Int} (h : H d = some (.dK (penD a n m))) : DPut H d (.str "at") (.int z) (upd H d (.dK (penD a z m))) := by
  have q := DPut.k (k := (Sum.inr "at" : Key)) (v := .int z) h (small1000 (by unfold penD; simp))
  rw [put_at] at q
  exact q
theorem dp_left {z : Int} (h : H d = some (.dK (penD a n m))) : DPut H d (.str "left") (.int z) (upd H d (.dK (penD a n z))) := by
  have q := DPut.k (k := (Sum.inr "left" : Key)) (v := .int z) h (small1000 (by unfold penD; simp))
  rw [put_left] at q
  exact q
/-- a list that is read stays where a dict alone may change -/
theorem sq_but {xs : List V} {kvs : List (Key × V)} (b : But d H H') (hd : H d = some (.dK kvs)) (h : SqL K H a xs) : SqL K H' a xs := by
  rcases h with (h | ⟨o, h⟩) | h
  · exact .inl (.inl (b _ _ (ne_of h hd (by intro z; cases z)) h))
  · exact .inl (.inr ⟨o, b _ _ (ne_of h hd (by intro z; cases z)) h⟩)
  · exact .inr h
end
/-- a pen at d over the cells ns at a, drawn from at most c times -/
structure Pen (K : PySem.W.Frag) (H : Hp) (d a : Addr) (ns : List Int) (c : Int) : Prop where
  sq : SqL K H a (ns.map V.int)
  dc : ∃ n m : Int, H d = some (.dK (penD a n m)) ∧ 0 ≤ n ∧ n ≤ c ∧ 0 ≤ m
theorem Pen.mono {K : PySem.W.Frag} {H : Hp} {d a : Addr} {ns : List Int} {c c' : Int} (p : Pen K H d a ns c) (h : c ≤ c') : Pen K H d a ns c' := by
  obtain ⟨s, n, m, e, h0, h1, h2⟩ := p
  exact ⟨s, n, m, e, h0, by omega, h2⟩
theorem Pen.same {K : PySem.W.Frag} {H H' : Hp} {d a : Addr} {ns : List Int} {c : Int} (p : Pen K H d a ns c) (h : Same H H') : Pen K H' d a ns c := by
  obtain ⟨s, n, m, e, h0, h1, h2⟩ := p
  exact ⟨h.seq s, n, m, h _ _ e, h0, h1, h2⟩
/-- draw's promise -/
def rDraw (K : PySem.W.Frag) : V → V → Hp → VK → Prop := fun p q H Q => ∃ (d a : Addr) (ns : List Int) (c many : Int), p = .ref d ∧ q = .int many ∧ Pen K H d a ns c ∧ 0 < many ∧ many < 1073741824 ∧ c ≤ 1000000 ∧
  ∀ r H', 0 ≤ r → r < many → Pen K H' d a ns (c + 1) → But d H H' → Q (.int r) H'
theorem cell_at {ns : List Int} {i : Int} (h0 : 0 ≤ i) (h1 : i < ((ns.map V.int).length : Int)) : ∃ z, atI (ns.map V.int) i = some (.int z) := by
  rw [List.length_map] at h1
  have hj : i.toNat < ns.length := by omega
  refine ⟨ns[i.toNat], ?_⟩
  have e : ((i.toNat : Nat) : Int) = i := by omega
  have q : atI (ns.map V.int) ((i.toNat : Nat) : Int) = some (.int ns[i.toNat]) := atI_nat (by rw [List.getElem?_map, List.getElem?_eq_getElem hj]; rfl)
  rw [e] at q
  exact q
theorem pos_of {b : Int} {p : Int} (h : decide (p < b) = true) : p < b := of_decide_eq_true h
theorem npos_of {b : Int} {p : Int} (h : ¬ decide (p < b) = true) : b ≤ p := by
  have := of_decide_eq_false (Bool.eq_false_iff.mpr h)
  omega
end Cm

set_option Elab.async false
set_option linter.all false
set_option maxRecDepth 100000
set_option maxHeartbeats 4000000
namespace Cm
open PySem PySem.Spec PyProof.Rows L2
/-! ### xs == [] of a list of whatever things -/
def rEqLE : R2 := fun x y H Q => ∃ a b xs, x = .ref a ∧ y = .ref b ∧ H a = some (.lst xs) ∧ H b = some (.lst []) ∧ Q (.bl xs.isEmpty) H
theorem op_eqLE {X : Cx} {k : Nat} (hr : Room k X.A) : OpR X (compareOp .Eq) rEqLE := by
  intro pins s σ H x y v u Q I rx ry h
  obtain ⟨a, b, xs, rfl, rfl, ha, hb, q⟩ := h
  cases rx
  cases ry
  obtain ⟨its, r1, p1, _⟩ := I.list (SqL.of ha)
  obtain ⟨its2, r2, p2, _⟩ := I.list (SqL.of hb)
  cases r2
  cases xs with
  | nil =>
    cases r1
    exact SeqAt.eq_listAt (e := fun _ => true) p1.isList p2.isList rfl hr.units0 (fun j h1 h2 => absurd h2 (by simp)) ⟨.bl _, H, I, rfl, q⟩
  | cons x t =>
    cases r1
    exact SeqAt.eq_list_lengthsAt p1.isList p2.isList rfl hr.units0 ⟨.bl _, H, I, rfl, q⟩
section
variable {X : Cx} {K : PySem.W.Frag} {tg l : Expr} {tl : TE}
theorem piT_K (hK : X.K = K) (hl : PE X l tl) : PI X tg l (iTup K tl) := by
  subst hK
  exact pi_tup hl
theorem piL_K (hK : X.K = K) (hl : PE X l tl) : PI X tg l (iList K tl) := by
  subst hK
  exact pi_list hl
end
/-- a def's statement that is never come to -/
theorem ps_dead {X : Cx} {st : Stmt} : PS X st (fun _ _ _ => False) := ⟨fun _ _ _ _ _ _ h => h.elim⟩
end Cm

set_option linter.all false
namespace K01
theorem fmod_abs_lt (a b : Int) (h : b ≠ 0) : (a.fmod b).natAbs < b.natAbs := by
  have h1 := Int.emod_nonneg a h
  have h2 : a % b < (b.natAbs : Int) := Int.emod_lt a h
  have h3 : ¬ b ∣ a → a % b ≠ 0 := fun n z => n (Int.dvd_of_emod_eq_zero z)
  rw [Int.fmod_eq_emod]
  split
  · omega
  · rename_i c
    have c1 : ¬ 0 ≤ b := fun z => c (.inl z)
    have c2 := h3 fun z => c (.inr z)
    omega
theorem gcd_fmod (a b : Int) : Int.gcd b (a.fmod b) = Int.gcd a b := by
  have e := Int.fmod_add_mul_fdiv a b
  have h : Int.gcd b (a.fmod b + b * a.fdiv b) = Int.gcd b (a.fmod b) := by
    rw [Int.gcd_add_mul_left_right]
  rw [← h, e, Int.gcd_comm]
/-- what holds between two turns of both's loop, A and B the numbers without their signs -/
structure Bo (A B m r x l : Int) : Prop where
  a0 : 0 ≤ A
  m0 : 0 ≤ m
  r0 : 0 ≤ r
  em : ∃ y, m = x * A + y * B
  er : ∃ z, r = l * A + z * B
  g : Int.gcd m r = Int.gcd A B
  bd : (l.natAbs : Int) * m + (x.natAbs : Int) * r ≤ B
  bx : (x.natAbs : Int) ≤ B + 1
  bl : (l.natAbs : Int) ≤ B + 1
  mA : m ≤ A + B
  rB : r ≤ B
theorem bo_start {A B : Int} (hA : 0 ≤ A) (hB : 0 ≤ B) : Bo A B A B 1 0 :=
  ⟨hA, hA, hB, ⟨0, by grind⟩, ⟨1, by grind⟩, rfl, by simp, by simp; omega, by simp; omega, by omega, by omega⟩
theorem abs_step (x q l : Int) (hq : 0 ≤ q) : ((x - q * l).natAbs : Int) ≤ x.natAbs + q * l.natAbs := by
  have h1 : ((q * l).natAbs : Int) = q * l.natAbs := by
    rw [Int.natAbs_mul, Int.natCast_mul, Int.natAbs_of_nonneg hq]
  rw [← h1]
  generalize q * l = p
  omega
theorem bo_step {A B m r x l : Int} (h : Bo A B m r x l) (hr : r ≠ 0) : Bo A B r (m % r) l (x - m / r * l) := by
  obtain ⟨a0, m0, r0, ⟨y, em⟩, ⟨z, er⟩, g, bd, bx, bl, mA, rB⟩ := h
  have rp : 0 < r := by omega
  have e1 := Int.mul_ediv_add_emod m r
  have q0 : 0 ≤ m / r := Int.ediv_nonneg m0 r0
  have n0 := Int.emod_nonneg m hr
  have n1 := Int.emod_lt_of_pos m rp
  have ab := abs_step x (m / r) l q0
  generalize m / r = q at *
  have eg : Int.gcd r (m % r) = Int.gcd m r := by
    rw [Int.gcd_comm m r, ← e1, Int.gcd_mul_left_add_right]
    rw [e1]
  generalize m % r = n at *
  obtain ⟨L, hL⟩ : ∃ L, (x - q * l).natAbs = L := ⟨_, rfl⟩
  rw [hL] at ab
  have key : (L : Int) * r + (l.natAbs : Int) * n ≤ B := by
    have t : (L : Int) * r ≤ ((x.natAbs : Int) + q * l.natAbs) * r := Int.mul_le_mul_of_nonneg_right ab r0
    have t2 : ((x.natAbs : Int) + q * l.natAbs) * r + (l.natAbs : Int) * n = (l.natAbs : Int) * m + (x.natAbs : Int) * r := by
      rw [← e1]
      generalize (x.natAbs : Int) = X
      generalize (l.natAbs : Int) = M
      grind
    omega
  have L0 : (0 : Int) ≤ (L : Int) := Int.natCast_nonneg _
  have key2 : (L : Int) ≤ B := by
    have t : (L : Int) * 1 ≤ (L : Int) * r := Int.mul_le_mul_of_nonneg_left (by omega) L0
    have t2 : (0 : Int) ≤ (l.natAbs : Int) * n := Int.mul_nonneg (Int.natCast_nonneg _) n0
    omega
  exact ⟨a0, r0, n0, ⟨z, er⟩, ⟨y - q * z, by grind⟩, eg.trans g, by rw [hL]; exact key, bl, by rw [hL]; omega, by omega, by omega⟩
theorem bo_end {a b m x l : Int} (h : Bo (a.natAbs : Int) (b.natAbs : Int) m 0 x l) : m = (Int.gcd a b : Int) ∧
    (if a < 0 then -x else x) * a + (if b = 0 then 0 else (m - (if a < 0 then -x else x) * a).fdiv b) * b = m := by
  obtain ⟨a0, m0, r0, ⟨y, em⟩, ⟨z, er⟩, g, bd, bx, bl, mA, rB⟩ := h
  have e1 : m = (Int.gcd a b : Int) := by
    have g2 : Int.gcd (a.natAbs : Int) (b.natAbs : Int) = Int.gcd a b := by simp [Int.gcd]
    rw [Int.gcd_zero_right, g2] at g
    omega
  refine ⟨e1, ?_⟩
  have e2 : (if a < 0 then -x else x) * a = x * (a.natAbs : Int) := by
    split
    · have : (a.natAbs : Int) = -a := by omega
      rw [this]
      grind
    · have : (a.natAbs : Int) = a := by omega
      rw [this]
  rw [e2]
  split
  · rename_i hb
    subst hb
    simp at em
    omega
  · rename_i hb
    have e3 : m - x * (a.natAbs : Int) = y * (b.natAbs : Int) := by omega
    rw [e3]
    have e4 : ∃ k, y * (b.natAbs : Int) = b * k := by
      by_cases hs : b < 0
      · exact ⟨-y, by have : (b.natAbs : Int) = -b := by omega
                      rw [this]; grind⟩
      · exact ⟨y, by have : (b.natAbs : Int) = b := by omega
                     rw [this]; grind⟩
    obtain ⟨k, hk⟩ := e4
    rw [hk, Int.mul_fdiv_cancel_left _ hb]
    grind
theorem bo_bounds {a b m x l : Int} (h : Bo (a.natAbs : Int) (b.natAbs : Int) m 0 x l) (ha : a.natAbs < 2 ^ 200) (hb : b.natAbs < 2 ^ 200) (x2 y2 : Int) (hx : x2 = if a < 0 then -x else x) (he : b ≠ 0 → y2 * b = m - x2 * a) (h0 : b = 0 → y2 = 0) :
    x2.natAbs < 2 ^ 202 ∧ y2.natAbs < 2 ^ 410 := by
  obtain ⟨a0, m0, r0, _, _, g, bd, bx, bl, mA, rB⟩ := h
  have hx2 : x2.natAbs = x.natAbs := by
    rw [hx]
    split <;> omega
  have e202 : (2 : Nat) ^ 202 = 4 * 2 ^ 200 := by decide
  have q1 : x2.natAbs < 2 ^ 202 := by
    rw [e202]
    omega
  refine ⟨q1, ?_⟩
  by_cases hz : b = 0
  · rw [h0 hz]
    decide
  · have e1 := he hz
    have e2 : (y2 * b).natAbs = (m - x2 * a).natAbs := by rw [e1]
    rw [Int.natAbs_mul] at e2
    have e3 : (m - x2 * a).natAbs ≤ m.natAbs + (x2 * a).natAbs := by
      generalize x2 * a = t
      omega
    rw [Int.natAbs_mul] at e3
    have e4 : y2.natAbs * 1 ≤ y2.natAbs * b.natAbs := Nat.mul_le_mul_left _ (by omega)
    have e5 : x2.natAbs * a.natAbs ≤ 2 ^ 202 * 2 ^ 200 := Nat.mul_le_mul (Nat.le_of_lt q1) (Nat.le_of_lt ha)
    have e6 : (2 : Nat) ^ 202 * 2 ^ 200 + 2 ^ 202 < 2 ^ 410 := by decide
    have e7 : m.natAbs ≤ 2 ^ 202 := by
      rw [e202]
      omega
    generalize x2.natAbs * a.natAbs = u at *
    generalize y2.natAbs * b.natAbs = v at *
    omega
theorem lcm_law {i j : Int} : ((if i = 0 ∨ j = 0 then 0 else (i.natAbs : Int) / ((Int.gcd i j : Nat) : Int) * (j.natAbs : Int)) * ((Int.gcd i j : Nat) : Int)) = ((i * j).natAbs : Int) := by
  split
  · rename_i h
    rcases h with h | h
    · subst h
      simp
    · subst h
      simp
  · have h : ((Int.gcd i j : Nat) : Int) ∣ (i.natAbs : Int) := Int.natCast_dvd_natCast.mpr (Nat.gcd_dvd_left _ _)
    have e := Int.ediv_mul_cancel h
    rw [Int.natAbs_mul, Int.natCast_mul]
    generalize (i.natAbs : Int) / ((Int.gcd i j : Nat) : Int) = q at *
    rw [← e]
    grind
end K01

set_option linter.all false
namespace K02
/-- prime by trial -/
def Pri (q : Int) : Prop := 2 ≤ q ∧ ∀ d : Int, 2 ≤ d → d * d ≤ q → ¬ d ∣ q
/-- the product of primes and their powers -/
def prod : List (Int × Int) → Int
  | [] => 1
  | pe :: r => pe.1 ^ pe.2.toNat * prod r
theorem prod_snoc (p e : Int) : ∀ l : List (Int × Int), prod (l ++ [(p, e)]) = prod l * p ^ e.toNat
  | [] => by simp [prod]
  | x :: r => by
    show x.1 ^ x.2.toNat * prod (r ++ [(p, e)]) = x.1 ^ x.2.toNat * prod r * p ^ e.toNat
    rw [prod_snoc p e r, Int.mul_assoc]
theorem prod_append (l r : List (Int × Int)) : prod (l ++ r) = prod l * prod r := by
  induction l with
  | nil => simp [prod]
  | cons x l ih =>
    show x.1 ^ x.2.toNat * prod (l ++ r) = x.1 ^ x.2.toNat * prod l * prod r
    rw [ih, Int.mul_assoc]
/-- rising primes, each often from 1 on, below lim -/
structure Rise (lim : Int) (l : List (Int × Int)) : Prop where
  up : l.Pairwise fun x y => x.1 < y.1
  pr : ∀ x ∈ l, Pri x.1
  of : ∀ x ∈ l, 1 ≤ x.2
  lt : ∀ x ∈ l, x.1 < lim
theorem rise_nil (lim : Int) : Rise lim [] := ⟨List.Pairwise.nil, by simp, by simp, by simp⟩
theorem Rise.mono {lim lim' : Int} {l : List (Int × Int)} (h : Rise lim l) (k : lim ≤ lim') : Rise lim' l := ⟨h.up, h.pr, h.of, fun x hx => by have := h.lt x hx; omega⟩
theorem Rise.snoc {lim p e : Int} {l : List (Int × Int)} (h : Rise lim l) (hp : Pri p) (he : 1 ≤ e) (hl : lim ≤ p) : Rise (p + 1) (l ++ [(p, e)]) := by
  refine ⟨?_, ?_, ?_, ?_⟩
  · rw [List.pairwise_append]
    refine ⟨h.up, by simp, ?_⟩
    intro a ha b hb
    have e := List.mem_singleton.mp hb
    subst e
    have := h.lt a ha
    show a.1 < p
    omega
  · intro x hx
    rcases List.mem_append.mp hx with z | z
    · exact h.pr x z
    · rw [List.mem_singleton.mp z]
      exact hp
  · intro x hx
    rcases List.mem_append.mp hx with z | z
    · exact h.of x z
    · rw [List.mem_singleton.mp z]
      exact he
  · intro x hx
    rcases List.mem_append.mp hx with z | z
    · have := h.lt x z
      omega
    · rw [List.mem_singleton.mp z]
      show p < p + 1
      omega
/-- no number from 2 to below p divides m -/
def Rough (p m : Int) : Prop := ∀ d : Int, 2 ≤ d → d < p → ¬ d ∣ m
theorem rough_dvd {p m k : Int} (h : Rough p m) (hk : k ∣ m) : Rough p k := fun d h1 h2 h3 => h d h1 h2 (Int.dvd_trans h3 hk)
theorem sq_lt {d p : Int} (h : 2 ≤ d) (hd : d * d ≤ p) : d < p := by
  have : d * 2 ≤ d * d := Int.mul_le_mul_of_nonneg_left h (by omega)
  omega
theorem pri_least {p m : Int} (hp : 2 ≤ p) (h : Rough p m) (hd : p ∣ m) : Pri p := ⟨hp, fun d h1 h2 h3 => h d h1 (sq_lt h1 h2) (Int.dvd_trans h3 hd)⟩
theorem pri_rest {p m : Int} (hm : 1 < m) (h : Rough p m) (hs : m < p * p) (hp : 2 ≤ p) : Pri m := by
  refine ⟨by omega, fun d h1 h2 h3 => h d h1 ?_ h3⟩
  by_cases hd : d < p
  · exact hd
  · have : p * p ≤ d * d := Int.mul_le_mul (by omega) (by omega) (by omega) (by omega)
    omega
theorem rough_next {p m : Int} (h : Rough p m) (hd : ¬ p ∣ m) : Rough (p + 1) m := fun d h1 h2 h3 => by
  by_cases e : d = p
  · subst e
    exact hd h3
  · exact h d h1 (by omega) h3
theorem pow_pos' {p : Int} (hp : 0 < p) : ∀ n : Nat, 0 < p ^ n
  | 0 => by simp
  | n + 1 => by
    rw [Int.pow_succ]
    exact Int.mul_pos (pow_pos' hp n) hp
theorem two_pow_le {p : Int} (hp : 2 ≤ p) : ∀ n : Nat, (2 : Int) ^ n ≤ p ^ n
  | 0 => by simp
  | n + 1 => by
    rw [Int.pow_succ, Int.pow_succ]
    exact Int.mul_le_mul (two_pow_le hp n) hp (by omega) (Int.le_of_lt (pow_pos' (by omega) n))
theorem prod_pos : ∀ {l : List (Int × Int)}, (∀ x ∈ l, Pri x.1) → 0 < prod l
  | [], _ => by decide
  | x :: r, h => by
    have h1 : 0 < x.1 := by
      have := (h x (List.mem_cons.mpr (.inl rfl))).1
      omega
    exact Int.mul_pos (pow_pos' h1 _) (prod_pos fun y hy => h y (List.mem_cons.mpr (.inr hy)))
/-- a factor of a number to a million stands at most nineteen times -/
theorem often19 {l : List (Int × Int)} {N : Int} (hN : prod l = N) (hle : N ≤ 1000000) (h : ∀ x ∈ l, Pri x.1) {p e : Int} (hm : (p, e) ∈ l) : e ≤ 19 := by
  obtain ⟨a, b, rfl⟩ := List.append_of_mem hm
  have hp : Pri p := h (p, e) hm
  have ha : 0 < prod a := prod_pos fun x hx => h x (List.mem_append.mpr (.inl hx))
  have hb : 0 < prod b := prod_pos fun x hx => h x (List.mem_append.mpr (.inr (List.mem_cons.mpr (.inr hx))))
  rw [prod_append] at hN
  have e1 : prod ((p, e) :: b) = p ^ e.toNat * prod b := rfl
  rw [e1] at hN
  by_cases he : e ≤ 19
  · exact he
  · have h20 : 20 ≤ e.toNat := by omega
    have h1 : (2 : Int) ^ e.toNat ≤ p ^ e.toNat := two_pow_le hp.1 _
    have h2 : (2 : Int) ^ 20 ≤ 2 ^ e.toNat := by
      have e2 : e.toNat = 20 + (e.toNat - 20) := by omega
      rw [e2, Int.pow_add]
      have : 0 < (2 : Int) ^ (e.toNat - 20) := pow_pos' (by decide) _
      have h3 : (2 : Int) ^ 20 * 1 ≤ 2 ^ 20 * 2 ^ (e.toNat - 20) := Int.mul_le_mul_of_nonneg_left (by omega) (by decide)
      omega
    have e20 : (2 : Int) ^ 20 = 1048576 := by decide
    have h3 : p ^ e.toNat * 1 ≤ p ^ e.toNat * prod b := Int.mul_le_mul_of_nonneg_left (by omega) (by omega)
    have h4 : 1 * (p ^ e.toNat * prod b) ≤ prod a * (p ^ e.toNat * prod b) := Int.mul_le_mul_of_nonneg_right (by omega) (by omega)
    omega
theorem prod_one {l : List (Int × Int)} (h : prod l = 1) (hp : ∀ x ∈ l, Pri x.1) (ho : ∀ x ∈ l, 1 ≤ x.2) : l = [] := by
  cases l with
  | nil => rfl
  | cons x r =>
    exfalso
    have h1 := hp x (List.mem_cons.mpr (.inl rfl))
    have h2 := ho x (List.mem_cons.mpr (.inl rfl))
    have h3 : 0 < prod r := prod_pos fun y hy => hp y (List.mem_cons.mpr (.inr hy))
    have h4 : (2 : Int) ^ x.2.toNat ≤ x.1 ^ x.2.toNat := two_pow_le h1.1 _
    have h5 : (2 : Int) ^ 1 ≤ 2 ^ x.2.toNat := by
      have e2 : x.2.toNat = 1 + (x.2.toNat - 1) := by omega
      rw [e2, Int.pow_add]
      have : 0 < (2 : Int) ^ (x.2.toNat - 1) := pow_pos' (by decide) _
      have h3 : (2 : Int) ^ 1 * 1 ≤ 2 ^ 1 * 2 ^ (x.2.toNat - 1) := Int.mul_le_mul_of_nonneg_left (by omega) (by decide)
      omega
    have e1 : (2 : Int) ^ 1 = 2 := by decide
    have h6 : x.1 ^ x.2.toNat * 1 ≤ x.1 ^ x.2.toNat * prod r := Int.mul_le_mul_of_nonneg_left (by omega) (by omega)
    have h7 : x.1 ^ x.2.toNat * prod r = 1 := h
    omega
end K02

set_option linter.all false
namespace K35
/-! ### how many things are nought so often -/
def F (n : Nat) : List Nat → Nat
  | [] => 1
  | x :: r => Nat.gcd n x * F n r
theorem F_app (n : Nat) : ∀ l m : List Nat, F n (l ++ m) = F n l * F n m
  | [], m => by simp [F]
  | x :: r, m => by simp only [List.cons_append, F]; rw [F_app n r m, Nat.mul_assoc]
theorem F_perm {l m : List Nat} (n : Nat) (h : l.Perm m) : F n l = F n m := by
  induction h with
  | nil => rfl
  | cons x _ ih => simp only [F]; rw [ih]
  | swap x y l => simp only [F]; rw [Nat.mul_left_comm]
  | trans _ _ a b => exact a.trans b
def Pos (l : List Nat) : Prop := ∀ x ∈ l, 0 < x
theorem Pos.tail {x : Nat} {l : List Nat} (h : Pos (x :: l)) : Pos l := fun y hy => h y (List.mem_cons_of_mem _ hy)
theorem Pos.head {x : Nat} {l : List Nat} (h : Pos (x :: l)) : 0 < x := h x (List.mem_cons_self)
theorem F_pos (n : Nat) : ∀ {l : List Nat}, Pos l → 0 < F n l
  | [], _ => Nat.one_pos
  | x :: r, h => Nat.mul_pos (Nat.gcd_pos_of_pos_right _ h.head) (F_pos n h.tail)
theorem F_le (n : Nat) : ∀ {l : List Nat}, Pos l → F n l ≤ F 0 l
  | [], _ => Nat.le_refl _
  | x :: r, h => by
    simp only [F, Nat.gcd_zero_left]
    exact Nat.mul_le_mul (Nat.gcd_le_right _ h.head) (F_le n h.tail)
theorem F_all (n : Nat) : ∀ {l : List Nat}, Pos l → F n l = F 0 l → ∀ x ∈ l, x ∣ n
  | [], _, _, x, hx => by simp at hx
  | y :: r, h, e, x, hx => by
    simp only [F, Nat.gcd_zero_left] at e
    have a := Nat.gcd_le_right n h.head
    have b := F_le n h.tail
    have p := F_pos n h.tail
    have p0 := F_pos 0 h.tail
    have ey : Nat.gcd n y = y := by
      by_cases z : Nat.gcd n y = y
      · exact z
      · have l : Nat.gcd n y < y := Nat.lt_of_le_of_ne a z
        have : Nat.gcd n y * F n r < y * F 0 r := Nat.mul_lt_mul_of_lt_of_le l b p0
        omega
    have er : F n r = F 0 r := by
      rw [ey] at e
      exact Nat.eq_of_mul_eq_mul_left h.head e
    rcases List.mem_cons.mp hx with rfl | hx
    · exact Nat.gcd_eq_right_iff_dvd.mp ey
    · exact F_all n h.tail er x hx
theorem F_dvd : ∀ {l : List Nat} {x : Nat}, x ∈ l → x ∣ F 0 l
  | y :: r, x, hx => by
    simp only [F, Nat.gcd_zero_left]
    rcases List.mem_cons.mp hx with rfl | hx
    · exact Nat.dvd_mul_right _ _
    · exact Nat.dvd_trans (F_dvd hx) (Nat.dvd_mul_left _ _)
theorem F_max {l : List Nat} (h : Pos l) {x : Nat} (hx : x ∈ l) : x ≤ F 0 l := Nat.le_of_dvd (F_pos 0 h) (F_dvd hx)
/-! ### one chain -/
def Big (l : List Nat) : Prop := ∀ x ∈ l, 1 < x
theorem Big.pos {l : List Nat} (h : Big l) : Pos l := fun x hx => Nat.lt_trans Nat.zero_lt_one (h x hx)
theorem top_all {a : Nat} {r : List Nat} (c : (a :: r).Pairwise fun x y => y ∣ x) : F a (a :: r) = F 0 (a :: r) := by
  have c2 := List.pairwise_cons.mp c
  have go : ∀ l : List Nat, (∀ y ∈ l, y ∣ a) → F a l = F 0 l := by
    intro l
    induction l with
    | nil => intro _; rfl
    | cons y l ih =>
      intro h
      simp only [F, Nat.gcd_zero_left]
      rw [ih fun z hz => h z (List.mem_cons_of_mem _ hz), Nat.gcd_eq_right (h y (List.mem_cons_self))]
  exact go _ fun y hy => by
    rcases List.mem_cons.mp hy with rfl | hy
    · exact Nat.dvd_refl _
    · exact c2.1 y hy
theorem uniq_down : ∀ {A B : List Nat}, A.Pairwise (fun x y => y ∣ x) → B.Pairwise (fun x y => y ∣ x) → Big A → Big B → (∀ n, F n A = F n B) → A = B
  | [], [], _, _, _, _, _ => rfl
  | [], b :: r, _, _, _, hb, e => by
    exfalso
    have h := e 0
    have p := F_pos 0 hb.pos.tail
    have q := hb b List.mem_cons_self
    simp only [F, Nat.gcd_zero_left] at h
    have : 2 * 1 ≤ b * F 0 r := Nat.mul_le_mul q p
    omega
  | a :: r, [], _, _, ha, _, e => by
    exfalso
    have h := e 0
    have p := F_pos 0 ha.pos.tail
    have q := ha a List.mem_cons_self
    simp only [F, Nat.gcd_zero_left] at h
    have : 2 * 1 ≤ a * F 0 r := Nat.mul_le_mul q p
    omega
  | a :: r, b :: t, ca, cb, ha, hb, e => by
    have h1 : b ∣ a := F_all a hb.pos (by rw [← e a, ← e 0]; exact top_all ca) b List.mem_cons_self
    have h2 : a ∣ b := F_all b ha.pos (by rw [e b, e 0]; exact top_all cb) a List.mem_cons_self
    have ab : a = b := Nat.dvd_antisymm h2 h1
    subst ab
    congr 1
    refine uniq_down (List.pairwise_cons.mp ca).2 (List.pairwise_cons.mp cb).2 (fun x hx => ha x (List.mem_cons_of_mem _ hx)) (fun x hx => hb x (List.mem_cons_of_mem _ hx)) fun n => ?_
    have h := e n
    simp only [F] at h
    exact Nat.eq_of_mul_eq_mul_left (Nat.gcd_pos_of_pos_right _ ha.pos.head) h
structure Form (l : List Nat) : Prop where
  big : Big l
  up : l.Pairwise (· ∣ ·)
theorem uniq {A B : List Nat} (ha : Form A) (hb : Form B) (e : ∀ n, F n A = F n B) : A = B := by
  have r := uniq_down (A := A.reverse) (B := B.reverse) (List.pairwise_reverse.mpr ha.up) (List.pairwise_reverse.mpr hb.up) (fun x hx => ha.big x (List.mem_reverse.mp hx)) (fun x hx => hb.big x (List.mem_reverse.mp hx)) fun n => by
    rw [F_perm n (List.reverse_perm A), F_perm n (List.reverse_perm B)]
    exact e n
  have := congrArg List.reverse r
  simpa using this
/-! ### the form by common measures and multiples -/
theorem dvd_two (k a b c d : Nat) : k ∣ Nat.gcd a b * Nat.gcd c d ↔ (k ∣ a * c ∧ k ∣ b * c) ∧ (k ∣ a * d ∧ k ∣ b * d) := by
  have e : Nat.gcd a b * Nat.gcd c d = Nat.gcd (Nat.gcd (a * c) (b * c)) (Nat.gcd (a * d) (b * d)) := by
    rw [Nat.gcd_mul_right, Nat.gcd_mul_right, Nat.gcd_mul_left]
  rw [e, Nat.dvd_gcd_iff, Nat.dvd_gcd_iff, Nat.dvd_gcd_iff]
theorem swap2 (n x y : Nat) : Nat.gcd n (Nat.gcd x y) * Nat.gcd n (Nat.lcm x y) = Nat.gcd n x * Nat.gcd n y := by
  refine Nat.dvd_antisymm ?_ ?_
  · rw [dvd_two]
    have h := (dvd_two (Nat.gcd n (Nat.gcd x y) * Nat.gcd n (Nat.lcm x y)) n (Nat.gcd x y) n (Nat.lcm x y)).mp (Nat.dvd_refl _)
    obtain ⟨⟨h1, h2⟩, h3, h4⟩ := h
    rw [Nat.gcd_mul_lcm] at h4
    exact ⟨⟨h1, Nat.dvd_trans h2 (Nat.mul_dvd_mul_right (Nat.gcd_dvd_left _ _) _)⟩, by rw [Nat.mul_comm n y]; exact Nat.dvd_trans h2 (Nat.mul_dvd_mul_right (Nat.gcd_dvd_right _ _) _), h4⟩
  · rw [dvd_two]
    have h := (dvd_two (Nat.gcd n x * Nat.gcd n y) n x n y).mp (Nat.dvd_refl _)
    obtain ⟨⟨h1, h2⟩, h3, h4⟩ := h
    have hg : Nat.gcd n x * Nat.gcd n y ∣ Nat.gcd x y * n := by
      have e : Nat.gcd (x * n) (y * n) = Nat.gcd x y * n := Nat.gcd_mul_right x n y
      rw [← e]
      exact Nat.dvd_gcd h2 ((Nat.mul_comm n y) ▸ h3)
    have gl : Nat.gcd x y ∣ Nat.lcm x y := Nat.dvd_trans (Nat.gcd_dvd_left _ _) (Nat.dvd_lcm_left _ _)
    refine ⟨⟨h1, hg⟩, ?_, by rw [Nat.gcd_mul_lcm]; exact h4⟩
    rw [Nat.mul_comm n (Nat.lcm x y)]
    exact Nat.dvd_trans hg (Nat.mul_dvd_mul_right gl _)
def push (x : Nat) : List Nat → Nat × List Nat
  | [] => (x, [])
  | y :: r => ((push (Nat.gcd x y) r).1, Nat.lcm x y :: (push (Nat.gcd x y) r).2)
theorem push_F (n : Nat) : ∀ (r : List Nat) (x : Nat), Nat.gcd n (push x r).1 * F n (push x r).2 = Nat.gcd n x * F n r
  | [], x => rfl
  | y :: r, x => by
    have ih := push_F n r (Nat.gcd x y)
    simp only [push, F]
    rw [Nat.mul_left_comm, ih, ← Nat.mul_assoc, Nat.mul_comm (Nat.gcd n (Nat.lcm x y)), swap2, Nat.mul_assoc]
theorem push_len : ∀ (r : List Nat) (x : Nat), (push x r).2.length = r.length
  | [], x => rfl
  | y :: r, x => by simp only [push, List.length_cons, push_len r]
theorem push_low : ∀ (r : List Nat) (x : Nat), (push x r).1 ∣ x ∧ ∀ z ∈ (push x r).2, (push x r).1 ∣ z
  | [], x => ⟨Nat.dvd_refl _, fun z hz => by simp [push] at hz⟩
  | y :: r, x => by
    have ih := push_low r (Nat.gcd x y)
    have hx : (push x (y :: r)).1 ∣ x := Nat.dvd_trans ih.1 (Nat.gcd_dvd_left _ _)
    refine ⟨hx, fun z hz => ?_⟩
    rcases List.mem_cons.mp (show z ∈ Nat.lcm x y :: (push (Nat.gcd x y) r).2 from hz) with rfl | hz
    · exact Nat.dvd_trans hx (Nat.dvd_lcm_left _ _)
    · exact ih.2 z hz
theorem push_keep {d : Nat} : ∀ (r : List Nat) (x : Nat), d ∣ x → (∀ z ∈ r, d ∣ z) → d ∣ (push x r).1 ∧ ∀ z ∈ (push x r).2, d ∣ z
  | [], x, h, _ => ⟨h, fun z hz => by simp [push] at hz⟩
  | y :: r, x, h, hr => by
    have ih := push_keep r (Nat.gcd x y) (Nat.dvd_gcd h (hr y List.mem_cons_self)) fun z hz => hr z (List.mem_cons_of_mem _ hz)
    refine ⟨ih.1, fun z hz => ?_⟩
    rcases List.mem_cons.mp (show z ∈ Nat.lcm x y :: (push (Nat.gcd x y) r).2 from hz) with rfl | hz
    · exact Nat.dvd_trans h (Nat.dvd_lcm_left _ _)
    · exact ih.2 z hz
theorem push_under {L : Nat} : ∀ (r : List Nat) (x : Nat), x ∣ L → (∀ z ∈ r, z ∣ L) → (push x r).1 ∣ L ∧ ∀ z ∈ (push x r).2, z ∣ L
  | [], x, h, _ => ⟨h, fun z hz => by simp [push] at hz⟩
  | y :: r, x, h, hr => by
    have hy := hr y List.mem_cons_self
    have ih := push_under r (Nat.gcd x y) (Nat.dvd_trans (Nat.gcd_dvd_left _ _) h) fun z hz => hr z (List.mem_cons_of_mem _ hz)
    refine ⟨ih.1, fun z hz => ?_⟩
    rcases List.mem_cons.mp (show z ∈ Nat.lcm x y :: (push (Nat.gcd x y) r).2 from hz) with rfl | hz
    · exact Nat.lcm_dvd h hy
    · exact ih.2 z hz
def bub : Nat → List Nat → List Nat
  | 0, l => l
  | k + 1, [] => []
  | k + 1, x :: r => (push x r).1 :: bub k (push x r).2
theorem bub_F (n : Nat) : ∀ (k : Nat) (l : List Nat), F n (bub k l) = F n l
  | 0, l => rfl
  | k + 1, [] => rfl
  | k + 1, x :: r => by
    simp only [bub, F]
    rw [bub_F n k, push_F]
theorem bub_keep {d : Nat} : ∀ (k : Nat) (l : List Nat), (∀ z ∈ l, d ∣ z) → ∀ z ∈ bub k l, d ∣ z
  | 0, l, h, z, hz => h z hz
  | k + 1, [], h, z, hz => by simp [bub] at hz
  | k + 1, x :: r, h, z, hz => by
    have q := push_keep r x (h x List.mem_cons_self) fun z hz => h z (List.mem_cons_of_mem _ hz)
    rcases List.mem_cons.mp (show z ∈ (push x r).1 :: bub k (push x r).2 from hz) with rfl | hz
    · exact q.1
    · exact bub_keep k _ q.2 z hz
theorem bub_under {L : Nat} : ∀ (k : Nat) (l : List Nat), (∀ z ∈ l, z ∣ L) → ∀ z ∈ bub k l, z ∣ L
  | 0, l, h, z, hz => h z hz
  | k + 1, [], h, z, hz => by simp [bub] at hz
  | k + 1, x :: r, h, z, hz => by
    have q := push_under r x (h x List.mem_cons_self) fun z hz => h z (List.mem_cons_of_mem _ hz)
    rcases List.mem_cons.mp (show z ∈ (push x r).1 :: bub k (push x r).2 from hz) with rfl | hz
    · exact q.1
    · exact bub_under k _ q.2 z hz
theorem bub_up : ∀ (k : Nat) (l : List Nat), l.length ≤ k → (bub k l).Pairwise (· ∣ ·)
  | 0, l, h => by
    have : l = [] := List.length_eq_zero_iff.mp (by omega)
    subst this
    exact List.Pairwise.nil
  | k + 1, [], _ => List.Pairwise.nil
  | k + 1, x :: r, h => by
    refine List.pairwise_cons.mpr ⟨bub_keep k _ (push_low r x).2, bub_up k _ ?_⟩
    rw [push_len]
    simpa using h
theorem bub_len : ∀ (k : Nat) (l : List Nat), (bub k l).length = l.length
  | 0, l => rfl
  | k + 1, [] => rfl
  | k + 1, x :: r => by simp only [bub, List.length_cons, bub_len k, push_len]
def formF (l : List Nat) : List Nat := (bub l.length l).filter fun x => decide (1 < x)
theorem F_filter (n : Nat) : ∀ {l : List Nat}, Pos l → F n (l.filter fun x => decide (1 < x)) = F n l
  | [], _ => rfl
  | x :: r, h => by
    have ih := F_filter n h.tail
    by_cases z : 1 < x
    · rw [List.filter_cons_of_pos (by simpa using z)]
      simp only [F]
      rw [ih]
    · rw [List.filter_cons_of_neg (by simpa using z)]
      have : x = 1 := by have := h.head; omega
      subst this
      simp only [F]
      rw [ih, Nat.gcd_one_right, Nat.one_mul]
theorem pos_under {L : Nat} (hL : 0 < L) {l : List Nat} (h : ∀ z ∈ l, z ∣ L) : Pos l := fun x hx => Nat.pos_of_dvd_of_pos (h x hx) hL
theorem form_F {l : List Nat} (h : Pos l) (n : Nat) : F n (formF l) = F n l := by
  unfold formF
  rw [F_filter n (pos_under (F_pos 0 h) (bub_under _ _ fun z hz => F_dvd hz)), bub_F]
theorem form_is {l : List Nat} : Form (formF l) := by
  refine ⟨fun x hx => ?_, (bub_up _ l (Nat.le_refl _)).filter _⟩
  have := (List.mem_filter.mp hx).2
  simpa using this
theorem form_len (l : List Nat) : (formF l).length ≤ l.length := by
  unfold formF
  refine Nat.le_trans (List.length_filter_le _ _) ?_
  rw [bub_len]
  exact Nat.le_refl _
/-! ### primes -/
def Pr (p : Nat) : Prop := 2 ≤ p ∧ ∀ d, 2 ≤ d → d * d ≤ p → ¬ d ∣ p
theorem pr_dvd {p d : Nat} (h : Pr p) (hd : d ∣ p) : d = 1 ∨ d = p := by
  obtain ⟨e, rfl⟩ := hd
  have h2 := h.1
  have d0 : d ≠ 0 := fun z => by subst z; simp at h2
  have e0 : e ≠ 0 := fun z => by subst z; simp at h2
  by_cases d1 : d = 1
  · exact .inl d1
  by_cases e1 : e = 1
  · subst e1
    exact .inr (Nat.mul_one d).symm
  exfalso
  by_cases z : d ≤ e
  · exact h.2 d (by omega) (Nat.mul_le_mul_left d z) (Nat.dvd_mul_right _ _)
  · exact h.2 e (by omega) (Nat.mul_le_mul_right e (by omega)) (Nat.dvd_mul_left _ _)
theorem pr_co {p q : Nat} (hp : Pr p) (hq : Pr q) (n : p ≠ q) : Nat.Coprime p q := by
  rcases pr_dvd hp (Nat.gcd_dvd_left p q) with z | z
  · exact z
  · exfalso
    have d : p ∣ q := z ▸ Nat.gcd_dvd_right p q
    rcases pr_dvd hq d with y | y
    · have := hp.1
      omega
    · exact n y
/-! ### told by primes -/
def pw (p : Nat) (es : List Nat) : List Nat := es.map fun e => p ^ e
def Fo (n : Nat) : List (Nat × Nat) → Nat
  | [] => 1
  | x :: r => Nat.gcd n (x.1 ^ x.2) * Fo n r
def pdn : List (Nat × Nat) → Nat
  | [] => 1
  | x :: r => x.1 ^ x.2 * pdn r
theorem Fo_app (n : Nat) : ∀ l m : List (Nat × Nat), Fo n (l ++ m) = Fo n l * Fo n m
  | [], m => by simp [Fo]
  | x :: r, m => by simp only [List.cons_append, Fo]; rw [Fo_app n r m, Nat.mul_assoc]
theorem pdn_app : ∀ l m : List (Nat × Nat), pdn (l ++ m) = pdn l * pdn m
  | [], m => by simp [pdn]
  | x :: r, m => by simp only [List.cons_append, pdn]; rw [pdn_app r m, Nat.mul_assoc]
/-- unlike primes -/
structure Un (l : List (Nat × Nat)) : Prop where
  pr : ∀ x ∈ l, Pr x.1
  ne : l.Pairwise fun x y => x.1 ≠ y.1
theorem Un.tail {x : Nat × Nat} {l : List (Nat × Nat)} (h : Un (x :: l)) : Un l := ⟨fun y hy => h.pr y (List.mem_cons_of_mem _ hy), (List.pairwise_cons.mp h.ne).2⟩
theorem co_pdn {q : Nat} (hq : Pr q) : ∀ {l : List (Nat × Nat)}, (∀ x ∈ l, Pr x.1 ∧ x.1 ≠ q) → Nat.Coprime q (pdn l)
  | [], _ => Nat.coprime_one_right _
  | x :: r, h => by
    have hx := h x List.mem_cons_self
    exact Nat.Coprime.mul_right ((pr_co hq hx.1 (Ne.symm hx.2)).pow_right _) (co_pdn hq fun y hy => h y (List.mem_cons_of_mem _ hy))
theorem co_two : ∀ {l m : List (Nat × Nat)}, (∀ x ∈ l, Pr x.1) → (∀ x ∈ m, Pr x.1) → (∀ x ∈ l, ∀ y ∈ m, x.1 ≠ y.1) → Nat.Coprime (pdn l) (pdn m)
  | [], m, _, _, _ => Nat.coprime_one_left _
  | x :: r, m, hl, hm, ne => by
    exact Nat.Coprime.mul_left ((co_pdn (hl x List.mem_cons_self) fun y hy => ⟨hm y hy, (ne x List.mem_cons_self y hy).symm⟩).pow_left _) (co_two (fun y hy => hl y (List.mem_cons_of_mem _ hy)) hm fun y hy => ne y (List.mem_cons_of_mem _ hy))
theorem Fo_pdn (n : Nat) : ∀ {l : List (Nat × Nat)}, Un l → Nat.gcd n (pdn l) = Fo n l
  | [], _ => Nat.gcd_one_right _
  | x :: r, h => by
    have c : Nat.Coprime (x.1 ^ x.2) (pdn r) := (co_pdn (h.pr x List.mem_cons_self) fun y hy => ⟨h.tail.pr y hy, ((List.pairwise_cons.mp h.ne).1 y hy).symm⟩).pow_left _
    simp only [pdn, Fo]
    rw [Nat.Coprime.gcd_mul n c, Fo_pdn n h.tail]
/-- by primes: each with its powers -/
def G (n : Nat) : List (Nat × List Nat) → Nat
  | [] => 1
  | x :: r => F n (pw x.1 x.2) * G n r
theorem G_app (n : Nat) : ∀ l m : List (Nat × List Nat), G n (l ++ m) = G n l * G n m
  | [], m => by simp [G]
  | x :: r, m => by simp only [List.cons_append, G]; rw [G_app n r m, Nat.mul_assoc]
theorem G_perm {l m : List (Nat × List Nat)} (n : Nat) (h : l.Perm m) : G n l = G n m := by
  induction h with
  | nil => rfl
  | cons x _ ih => simp only [G]; rw [ih]
  | swap x y l => simp only [G]; rw [Nat.mul_left_comm]
  | trans _ _ a b => exact a.trans b
theorem pw_pos {p : Nat} (hp : 0 < p) (es : List Nat) : Pos (pw p es) := fun x hx => by
  obtain ⟨e, _, rfl⟩ := List.mem_map.mp hx
  exact Nat.pow_pos hp
/-- a prime's powers multiplied into rounds, the greatest first -/
def into (p : Nat) : List Nat → List Nat → List Nat
  | [], rs => rs
  | e :: es, [] => p ^ e :: into p es []
  | e :: es, r :: rs => r * p ^ e :: into p es rs
theorem into_len (p : Nat) : ∀ es rs : List Nat, (into p es rs).length = max es.length rs.length
  | [], rs => by simp [into]
  | e :: es, [] => by simp only [into, List.length_cons, into_len p es [], List.length_nil]; omega
  | e :: es, r :: rs => by simp only [into, List.length_cons, into_len p es rs]; omega
theorem into_F {p : Nat} (n : Nat) : ∀ (es rs : List Nat), (∀ r ∈ rs, Nat.Coprime p r) → F n (into p es rs) = F n rs * F n (pw p es)
  | [], rs, _ => by simp [into, pw, F]
  | e :: es, [], _ => by
    have ih := into_F n es [] (by simp) (p := p)
    simp only [into, pw, List.map_cons, F] at ih ⊢
    rw [ih, Nat.one_mul, Nat.one_mul]
  | e :: es, r :: rs, h => by
    have ih := into_F n es rs (fun z hz => h z (List.mem_cons_of_mem _ hz)) (p := p)
    have c : Nat.Coprime r (p ^ e) := ((h r List.mem_cons_self).symm).pow_right _
    simp only [into, pw, List.map_cons, F] at ih ⊢
    rw [ih, Nat.Coprime.gcd_mul n c]
    simp only [Nat.mul_assoc, Nat.mul_left_comm, Nat.mul_comm]
theorem into_all {p : Nat} {Q : Nat → Prop} (hm : ∀ r e, e ≠ 0 → Q r → Q (r * p ^ e)) (h1 : ∀ e, e ≠ 0 → Q (p ^ e)) : ∀ (es rs : List Nat), (∀ e ∈ es, e ≠ 0) → (∀ r ∈ rs, Q r) → ∀ x ∈ into p es rs, Q x
  | [], rs, _, h, x, hx => h x hx
  | e :: es, [], he, h, x, hx => by
    rcases List.mem_cons.mp (show x ∈ p ^ e :: into p es [] from hx) with rfl | hx
    · exact h1 e (he e List.mem_cons_self)
    · exact into_all hm h1 es [] (fun z hz => he z (List.mem_cons_of_mem _ hz)) (by simp) x hx
  | e :: es, r :: rs, he, h, x, hx => by
    rcases List.mem_cons.mp (show x ∈ r * p ^ e :: into p es rs from hx) with rfl | hx
    · exact hm r e (he e List.mem_cons_self) (h r List.mem_cons_self)
    · exact into_all hm h1 es rs (fun z hz => he z (List.mem_cons_of_mem _ hz)) (fun z hz => h z (List.mem_cons_of_mem _ hz)) x hx
theorem into_down {p : Nat} : ∀ (es rs : List Nat), es.Pairwise (fun a b => b ≤ a) → rs.Pairwise (fun a b => b ∣ a) → (into p es rs).Pairwise fun a b => b ∣ a
  | [], rs, _, h => h
  | e :: es, [], he, _ => by
    have h2 := List.pairwise_cons.mp he
    refine List.pairwise_cons.mpr ⟨?_, into_down es [] h2.2 List.Pairwise.nil⟩
    have go : ∀ es : List Nat, (∀ b ∈ es, b ≤ e) → ∀ x ∈ into p es [], x ∣ p ^ e := by
      intro es
      induction es with
      | nil => intro _ x hx; simp [into] at hx
      | cons a es ih =>
        intro h x hx
        rcases List.mem_cons.mp (show x ∈ p ^ a :: into p es [] from hx) with rfl | hx
        · exact Nat.pow_dvd_pow p (h a List.mem_cons_self)
        · exact ih (fun b hb => h b (List.mem_cons_of_mem _ hb)) x hx
    exact go es h2.1
  | e :: es, r :: rs, he, hr => by
    have h2 := List.pairwise_cons.mp he
    have r2 := List.pairwise_cons.mp hr
    refine List.pairwise_cons.mpr ⟨?_, into_down es rs h2.2 r2.2⟩
    have go : ∀ (es rs : List Nat), (∀ b ∈ es, b ≤ e) → (∀ b ∈ rs, b ∣ r) → ∀ x ∈ into p es rs, x ∣ r * p ^ e := by
      intro es
      induction es with
      | nil => intro rs _ h x hx; exact Nat.dvd_trans (h x hx) (Nat.dvd_mul_right _ _)
      | cons a es ih =>
        intro rs h h' x hx
        cases rs with
        | nil =>
          rcases List.mem_cons.mp (show x ∈ p ^ a :: into p es [] from hx) with rfl | hx
          · exact Nat.dvd_trans (Nat.pow_dvd_pow p (h a List.mem_cons_self)) (Nat.dvd_mul_left _ _)
          · exact ih [] (fun b hb => h b (List.mem_cons_of_mem _ hb)) (by simp) x hx
        | cons s rs =>
          rcases List.mem_cons.mp (show x ∈ s * p ^ a :: into p es rs from hx) with rfl | hx
          · exact Nat.mul_dvd_mul (h' s List.mem_cons_self) (Nat.pow_dvd_pow p (h a List.mem_cons_self))
          · exact ih rs (fun b hb => h b (List.mem_cons_of_mem _ hb)) (fun b hb => h' b (List.mem_cons_of_mem _ hb)) x hx
    exact go es rs h2.1 r2.1
/-- told by primes as a house is: unlike primes, each with rising powers from 1 on -/
structure Told (d : List (Nat × List Nat)) : Prop where
  pr : ∀ x ∈ d, Pr x.1
  ne : d.Pairwise fun x y => x.1 ≠ y.1
  up : ∀ x ∈ d, x.2.Pairwise (· ≤ ·)
  of : ∀ x ∈ d, ∀ e ∈ x.2, 1 ≤ e
theorem Told.perm {d d' : List (Nat × List Nat)} (h : Told d) (p : d'.Perm d) : Told d' :=
  ⟨fun x hx => h.pr x (p.mem_iff.mp hx), (p.pairwise_iff (fun {a b} n => Ne.symm n)).mpr h.ne, fun x hx => h.up x (p.mem_iff.mp hx), fun x hx => h.of x (p.mem_iff.mp hx)⟩
def laid (d : List (Nat × List Nat)) : List Nat := d.foldl (fun rs x => into x.1 x.2.reverse rs) []
theorem laid_snoc (d : List (Nat × List Nat)) (x : Nat × List Nat) : laid (d ++ [x]) = into x.1 x.2.reverse (laid d) := by
  unfold laid
  rw [List.foldl_append]
  rfl
structure Laid (d : List (Nat × List Nat)) (rs : List Nat) : Prop where
  big : Big rs
  down : rs.Pairwise fun a b => b ∣ a
  f : ∀ n, F n rs = G n d
  co : ∀ q, Pr q → (∀ x ∈ d, x.1 ≠ q) → ∀ r ∈ rs, Nat.Coprime q r
theorem F_pw_rev (n p : Nat) (es : List Nat) : F n (pw p es.reverse) = F n (pw p es) := by
  unfold pw
  rw [List.map_reverse]
  exact F_perm n (List.reverse_perm _)
theorem laid_step {d : List (Nat × List Nat)} {x : Nat × List Nat} {rs : List Nat} (h : Laid d rs) (hp : Pr x.1) (ne : ∀ y ∈ d, y.1 ≠ x.1) (up : x.2.Pairwise (· ≤ ·)) (of : ∀ e ∈ x.2, 1 ≤ e) : Laid (d ++ [x]) (into x.1 x.2.reverse rs) := by
  have of2 : ∀ e ∈ x.2.reverse, e ≠ 0 := fun e he => by have := of e (List.mem_reverse.mp he); omega
  have one : ∀ e, e ≠ 0 → 1 < x.1 ^ e := fun e he => Nat.one_lt_pow he hp.1
  refine ⟨into_all (Q := fun r => 1 < r) (fun r e he hr => ?_) one _ _ of2 h.big, into_down _ _ (List.pairwise_reverse.mpr up) h.down, fun n => ?_, fun q hq hne => into_all (Q := fun r => Nat.Coprime q r) (fun r e he hr => ?_) (fun e he => ?_) _ _ of2 (h.co q hq fun y hy => hne y (List.mem_append.mpr (.inl hy)))⟩
  · have := one e he
    have : 1 * 1 < r * x.1 ^ e := Nat.mul_lt_mul_of_lt_of_le hr (Nat.le_of_lt this) (by omega)
    omega
  · rw [into_F n _ _ (h.co x.1 hp ne), F_pw_rev, h.f n, G_app]
    simp [G]
  · exact Nat.Coprime.mul_right hr ((pr_co hq hp (hne x (List.mem_append.mpr (.inr List.mem_cons_self))).symm).pow_right _)
  · exact (pr_co hq hp (hne x (List.mem_append.mpr (.inr List.mem_cons_self))).symm).pow_right _
theorem laid_pre {d : List (Nat × List Nat)} (h : Told d) : ∀ k, k ≤ d.length → Laid (d.take k) (laid (d.take k))
  | 0, _ => ⟨fun x hx => by simp [laid] at hx, List.Pairwise.nil, fun n => rfl, fun q hq hn r hr => by simp [laid] at hr⟩
  | k + 1, hk => by
    obtain ⟨x, hx⟩ : ∃ x, d[k]? = some x := ⟨_, List.getElem?_eq_getElem (by omega)⟩
    have e : d.take (k + 1) = d.take k ++ [x] := by rw [List.take_succ, hx]; rfl
    rw [e, laid_snoc]
    have hm : x ∈ d := List.mem_of_getElem? hx
    refine laid_step (laid_pre h k (by omega)) (h.pr x hm) (fun y hy => ?_) (h.up x hm) (h.of x hm)
    have := h.ne.sublist (List.take_sublist (k + 1) d)
    rw [e, List.pairwise_append] at this
    exact this.2.2 y hy x List.mem_cons_self
theorem G_pos {d : List (Nat × List Nat)} (n : Nat) (h : ∀ x ∈ d, Pr x.1) : 0 < G n d := by
  induction d with
  | nil => exact Nat.one_pos
  | cons x r ih =>
    have := (h x List.mem_cons_self).1
    exact Nat.mul_pos (F_pos n (pw_pos (by omega) _)) (ih fun y hy => h y (List.mem_cons_of_mem _ hy))
theorem G_pre {a b d : List (Nat × List Nat)} (h : ∀ x ∈ d, Pr x.1) (e : a ++ b = d) (n : Nat) : G n a ≤ G n d := by
  rw [← e, G_app]
  have : 0 < G n b := G_pos n fun x hx => h x (by rw [← e]; exact List.mem_append.mpr (.inr hx))
  exact Nat.le_mul_of_pos_right _ this
theorem told_form {d : List (Nat × List Nat)} (h : Told d) : Form (laid d).reverse ∧ ∀ n, F n (laid d).reverse = G n d := by
  have q := laid_pre h d.length (Nat.le_refl _)
  rw [List.take_length] at q
  exact ⟨⟨fun x hx => q.big x (List.mem_reverse.mp hx), List.pairwise_reverse.mpr q.down⟩, fun n => by rw [F_perm n (List.reverse_perm _), q.f n]⟩
/-! ### powers put to a prime -/
def dl (ks : List Nat) (val : Nat → List Nat) : List (Nat × List Nat) := ks.map fun p => (p, val p)
theorem dl_congr {ks : List Nat} {val val' : Nat → List Nat} (h : ∀ p ∈ ks, val p = val' p) : dl ks val = dl ks val' := List.map_congr_left fun p hp => by rw [h p hp]
theorem F_pw_snoc {n p e : Nat} {es es' : List Nat} (h : es'.Perm (es ++ [e])) : F n (pw p es') = F n (pw p es) * Nat.gcd n (p ^ e) := by
  have : (pw p es').Perm (pw p es ++ [p ^ e]) := by
    have := h.map fun e => p ^ e
    rw [List.map_append] at this
    exact this
  rw [F_perm n this, F_app]
  simp [F]
theorem G_in {n p c : Nat} {val val' : Nat → List Nat} (o : ∀ q, q ≠ p → val' q = val q) (h : F n (pw p (val' p)) = F n (pw p (val p)) * c) : ∀ {ks : List Nat}, ks.Nodup → p ∈ ks → G n (dl ks val') = G n (dl ks val) * c
  | q :: r, nd, hp => by
    have nd2 := List.nodup_cons.mp nd
    show F n (pw q (val' q)) * G n (dl r val') = F n (pw q (val q)) * G n (dl r val) * c
    by_cases e : q = p
    · subst e
      rw [h, dl_congr (val := val') (val' := val) fun z hz => o z fun y => nd2.1 (y ▸ hz), Nat.mul_assoc, Nat.mul_assoc, Nat.mul_comm c]
    · rw [o q e, G_in o h nd2.2 ((List.mem_cons.mp hp).resolve_left fun z => e z.symm), Nat.mul_assoc]
structure BP (ks : List Nat) (val : Nat → List Nat) (g : Nat → Nat) (m : Nat) : Prop where
  nd : ks.Nodup
  pr : ∀ p ∈ ks, Pr p
  up : ∀ p, (val p).Pairwise (· ≤ ·)
  of : ∀ p, ∀ e ∈ val p, 1 ≤ e
  out : ∀ p, p ∉ ks → val p = []
  f : ∀ n, G n (dl ks val) = g n
  few : ks.length ≤ m
  len : ∀ p, (val p).length ≤ m
theorem bp_nil : BP [] (fun _ => []) (fun _ => 1) 0 := ⟨List.nodup_nil, by simp, fun _ => List.Pairwise.nil, fun _ _ h => by simp at h, fun _ _ => rfl, fun _ => rfl, Nat.le_refl _, fun _ => Nat.le_refl _⟩
def kadd (ks : List Nat) (p : Nat) : List Nat := if p ∈ ks then ks else ks ++ [p]
def vadd (val : Nat → List Nat) (p : Nat) (es : List Nat) : Nat → List Nat := fun q => if q = p then es else val q
theorem bp_put {ks : List Nat} {val : Nat → List Nat} {g : Nat → Nat} {m p e : Nat} {es : List Nat} (h : BP ks val g m) (hp : Pr p) (he : 1 ≤ e) (pm : es.Perm (val p ++ [e])) (up : es.Pairwise (· ≤ ·)) :
    BP (kadd ks p) (vadd val p es) (fun n => g n * Nat.gcd n (p ^ e)) (m + 1) := by
  have at_p : vadd val p es p = es := if_pos rfl
  have at_q : ∀ q, q ≠ p → vadd val p es q = val q := fun q hq => if_neg hq
  have el : es.length = (val p).length + 1 := by rw [pm.length_eq, List.length_append]; rfl
  refine ⟨?_, ?_, fun q => ?_, fun q => ?_, fun q hq => ?_, fun n => ?_, ?_, fun q => ?_⟩
  · unfold kadd
    split
    · exact h.nd
    · rename_i z
      rw [List.nodup_append]
      exact ⟨h.nd, by simp, fun a ha b hb => by rw [List.mem_singleton.mp hb]; exact fun y => z (y ▸ ha)⟩
  · intro q hq
    unfold kadd at hq
    split at hq
    · exact h.pr q hq
    · rcases List.mem_append.mp hq with z | z
      · exact h.pr q z
      · rw [List.mem_singleton.mp z]; exact hp
  · by_cases z : q = p
    · subst z; rw [at_p]; exact up
    · rw [at_q q z]; exact h.up q
  · by_cases z : q = p
    · subst z
      rw [at_p]
      intro x hx
      rcases List.mem_append.mp (pm.mem_iff.mp hx) with y | y
      · exact h.of q x y
      · rw [List.mem_singleton.mp y]; exact he
    · rw [at_q q z]; exact h.of q
  · have z : q ≠ p := by
      rintro rfl
      unfold kadd at hq
      split at hq
      · rename_i z; exact hq z
      · exact hq (List.mem_append.mpr (.inr List.mem_cons_self))
    rw [at_q q z]
    refine h.out q fun y => hq ?_
    unfold kadd
    split
    · exact y
    · exact List.mem_append.mpr (.inl y)
  · rw [← h.f n]
    have c : F n (pw p (vadd val p es p)) = F n (pw p (val p)) * Nat.gcd n (p ^ e) := by rw [at_p]; exact F_pw_snoc pm
    unfold kadd
    split
    · rename_i z
      exact G_in at_q c h.nd z
    · rename_i z
      have e1 : dl (ks ++ [p]) (vadd val p es) = dl ks val ++ [(p, es)] := by
        unfold dl
        rw [List.map_append]
        have := dl_congr (ks := ks) (val := vadd val p es) (val' := val) fun q hq => at_q q fun y => z (y ▸ hq)
        unfold dl at this
        rw [this]
        show _ ++ [(p, vadd val p es p)] = _
        rw [at_p]
      rw [e1, G_app]
      have c2 := c
      rw [at_p, h.out p z] at c2
      show _ * (F n (pw p es) * 1) = _
      rw [c2]
      simp [pw, F]
  · unfold kadd
    have := h.few
    split
    · omega
    · rw [List.length_append]
      show ks.length + 1 ≤ m + 1
      omega
  · have := h.len q
    by_cases z : q = p
    · subst z; rw [at_p, el]; omega
    · rw [at_q q z]; omega
theorem bp_told {ks ys : List Nat} {val : Nat → List Nat} {g : Nat → Nat} {m : Nat} (h : BP ks val g m) (p : ys.Perm ks) : Told (dl ys val) ∧ ∀ n, G n (dl ys val) = g n := by
  have pd : (dl ys val).Perm (dl ks val) := p.map _
  have t : Told (dl ks val) := by
    refine ⟨fun x hx => ?_, ?_, fun x hx => ?_, fun x hx => ?_⟩
    · obtain ⟨q, hq, rfl⟩ := List.mem_map.mp hx
      exact h.pr q hq
    · unfold dl
      rw [List.pairwise_map]
      exact h.nd
    · obtain ⟨q, hq, rfl⟩ := List.mem_map.mp hx
      exact h.up q
    · obtain ⟨q, hq, rfl⟩ := List.mem_map.mp hx
      exact h.of q
  exact ⟨t.perm pd, fun n => by rw [G_perm n pd, h.f n]⟩
/-! ### a number's primes -/
structure Fac (n : Nat) (qs : List (Nat × Nat)) : Prop where
  eq : pdn qs = n
  up : qs.Pairwise fun x y => x.1 < y.1
  pr : ∀ x ∈ qs, Pr x.1
  of : ∀ x ∈ qs, 1 ≤ x.2
theorem Fac.un {n : Nat} {qs : List (Nat × Nat)} (h : Fac n qs) : Un qs := ⟨h.pr, h.up.imp fun h => Nat.ne_of_lt h⟩
theorem Fac.fo {n : Nat} {qs : List (Nat × Nat)} (h : Fac n qs) (m : Nat) : Fo m qs = Nat.gcd m n := by rw [← Fo_pdn m h.un, h.eq]
def asc : Nat → Nat → Nat
  | b, 0 => 1
  | b, k + 1 => b * asc (b + 1) k
theorem asc_pos : ∀ (k b : Nat), 0 < b → 0 < asc b k
  | 0, _, _ => Nat.one_pos
  | k + 1, b, h => Nat.mul_pos h (asc_pos k (b + 1) (Nat.succ_pos _))
theorem asc_mono : ∀ (k b : Nat), 0 < b → asc b k ≤ asc b (k + 1)
  | 0, b, h => by simp only [asc]; omega
  | k + 1, b, h => by
    show b * asc (b + 1) k ≤ b * asc (b + 1) (k + 1)
    exact Nat.mul_le_mul_left _ (asc_mono k (b + 1) (Nat.succ_pos _))
theorem asc_far (b : Nat) (h : 0 < b) : ∀ k, asc b 9 ≤ asc b (9 + k)
  | 0 => Nat.le_refl _
  | k + 1 => Nat.le_trans (asc_far b h k) (asc_mono _ b h)
theorem asc_le : ∀ {l : List (Nat × Nat)} {b : Nat}, l.Pairwise (fun x y => x.1 < y.1) → (∀ x ∈ l, b ≤ x.1) → (∀ x ∈ l, 1 ≤ x.2) → asc b l.length ≤ pdn l
  | [], b, _, _, _ => Nat.le_refl _
  | x :: r, b, up, lo, of => by
    have u := List.pairwise_cons.mp up
    have hx := lo x List.mem_cons_self
    have ih := asc_le (l := r) (b := b + 1) u.2 (fun y hy => by have := u.1 y hy; omega) fun y hy => of y (List.mem_cons_of_mem _ hy)
    show b * asc (b + 1) r.length ≤ x.1 ^ x.2 * pdn r
    refine Nat.mul_le_mul ?_ ih
    by_cases z : x.1 = 0
    · omega
    · have : x.1 ^ 1 ≤ x.1 ^ x.2 := Nat.pow_le_pow_right (by omega) (of x List.mem_cons_self)
      rw [Nat.pow_one] at this
      omega
theorem Fac.few {n : Nat} {qs : List (Nat × Nat)} (h : Fac n qs) (hn : n ≤ 1000000) : qs.length ≤ 8 := by
  by_cases z : qs.length ≤ 8
  · exact z
  · obtain ⟨k, hk⟩ : ∃ k, qs.length = 9 + k := ⟨qs.length - 9, by omega⟩
    have q := asc_le (b := 2) h.up (fun x hx => (h.pr x hx).1) h.of
    have f := asc_far 2 (by decide) k
    have d : asc 2 9 = 3628800 := by decide
    rw [h.eq, hk] at q
    omega
theorem pdn_pos : ∀ {qs : List (Nat × Nat)}, (∀ x ∈ qs, Pr x.1) → 0 < pdn qs
  | [], _ => Nat.one_pos
  | x :: r, h => Nat.mul_pos (Nat.pow_pos (by have := (h x List.mem_cons_self).1; omega)) (pdn_pos fun y hy => h y (List.mem_cons_of_mem _ hy))
/-- a part of a number's primes and the rest -/
theorem Fac.split {n : Nat} {qs : List (Nat × Nat)} (h : Fac n qs) (k : Nat) : pdn (qs.take k) * pdn (qs.drop k) = n ∧ 0 < pdn (qs.take k) ∧ 0 < pdn (qs.drop k) ∧ ∀ m, Nat.gcd m (pdn (qs.take k)) * Nat.gcd m (pdn (qs.drop k)) = Nat.gcd m n := by
  have e : pdn (qs.take k) * pdn (qs.drop k) = n := by rw [← pdn_app, List.take_append_drop, h.eq]
  have p1 : ∀ x ∈ qs.take k, Pr x.1 := fun x hx => h.pr x (List.mem_of_mem_take hx)
  have p2 : ∀ x ∈ qs.drop k, Pr x.1 := fun x hx => h.pr x (List.mem_of_mem_drop hx)
  have c : Nat.Coprime (pdn (qs.take k)) (pdn (qs.drop k)) := by
    refine co_two p1 p2 fun x hx y hy => ?_
    have u := h.up
    rw [← List.take_append_drop k qs, List.pairwise_append] at u
    exact Nat.ne_of_lt (u.2.2 x hx y hy)
  exact ⟨e, pdn_pos p1, pdn_pos p2, fun m => by rw [← e, Nat.Coprime.gcd_mul m c]⟩
def ci (q : Nat × Nat) : Int × Int := ((q.1 : Int), (q.2 : Int))
theorem cast_pow (p : Nat) : ∀ e : Nat, ((p : Int)) ^ e = ((p ^ e : Nat) : Int)
  | 0 => by simp
  | e + 1 => by rw [Int.pow_succ, cast_pow p e, Nat.pow_succ, Int.natCast_mul]
theorem prod_ci : ∀ qs : List (Nat × Nat), K02.prod (qs.map ci) = ((pdn qs : Nat) : Int)
  | [] => rfl
  | x :: r => by
    show ((x.1 : Int)) ^ ((x.2 : Int)).toNat * K02.prod (r.map ci) = _
    rw [prod_ci r, Int.toNat_natCast, cast_pow]
    show _ = (((x.1 ^ x.2 * pdn r : Nat)) : Int)
    rw [Int.natCast_mul]
theorem pr_of {p : Nat} (h : K02.Pri (p : Int)) : Pr p := by
  refine ⟨by have := h.1; omega, fun d h1 h2 h3 => h.2 (d : Int) (by omega) ?_ (Int.natCast_dvd_natCast.mpr h3)⟩
  rw [← Int.natCast_mul]
  exact Int.ofNat_le.mpr h2
theorem fac_of {lim n : Int} {ps : List (Int × Int)} (e : K02.prod ps = n) (h : K02.Rise lim ps) : ∃ qs : List (Nat × Nat), ps = qs.map ci ∧ Fac n.toNat qs := by
  have ex : ps = (ps.map fun x => (x.1.toNat, x.2.toNat)).map ci := by
    rw [List.map_map]
    refine (List.map_id ps).symm.trans (List.map_congr_left fun x hx => ?_)
    have h1 := (h.pr x hx).1
    have h2 := h.of x hx
    show x = (((x.1.toNat : Nat) : Int), ((x.2.toNat : Nat) : Int))
    rw [Int.toNat_of_nonneg (by omega), Int.toNat_of_nonneg (by omega)]
  refine ⟨_, ex, ?_⟩
  have u := h.up
  have pr := h.pr
  have of := h.of
  generalize (ps.map fun x => (x.1.toNat, x.2.toNat)) = qs at ex
  subst ex
  refine ⟨?_, ?_, fun x hx => ?_, fun x hx => ?_⟩
  · rw [← e, prod_ci]
    rfl
  · rw [List.pairwise_map] at u
    exact u.imp fun h => by
      have : ((_ : Nat) : Int) < ((_ : Nat) : Int) := h
      omega
  · exact pr_of (pr (ci x) (List.mem_map_of_mem hx))
  · have : (1 : Int) ≤ ((x.2 : Nat) : Int) := of (ci x) (List.mem_map_of_mem hx)
    omega
/-! ### a prime's powers multiplied in, place by place -/
theorem into_get (p : Nat) : ∀ (es rs : List Nat) (k e : Nat), es[k]? = some e → (into p es rs)[k]? = some (rs[k]?.getD 1 * p ^ e)
  | [], _, k, e, h => by simp at h
  | a :: es, [], 0, e, h => by
    have : a = e := by simpa using h
    subst this
    simp [into]
  | a :: es, r :: rs, 0, e, h => by
    have : a = e := by simpa using h
    subst this
    simp [into]
  | a :: es, [], k + 1, e, h => by
    have := into_get p es [] k e (by simpa using h)
    simpa [into] using this
  | a :: es, r :: rs, k + 1, e, h => by
    have := into_get p es rs k e (by simpa using h)
    simpa [into] using this
theorem into_drop (p : Nat) : ∀ es rs : List Nat, (into p es rs).drop es.length = rs.drop es.length
  | [], rs => rfl
  | e :: es, [] => by simpa [into] using into_drop p es []
  | e :: es, r :: rs => by simpa [into] using into_drop p es rs
def stp (p : Nat) (es rs : List Nat) (k : Nat) : List Nat := (into p es rs).take k ++ rs.drop k
theorem stp_zero (p : Nat) (es rs : List Nat) : stp p es rs 0 = rs := rfl
theorem stp_end (p : Nat) (es rs : List Nat) : stp p es rs es.length = into p es rs := by
  unfold stp
  rw [← into_drop p es rs, List.take_append_drop]
theorem stp_len {p : Nat} {es rs : List Nat} {k : Nat} (h : k ≤ es.length) : ((into p es rs).take k).length = k := by
  rw [List.length_take, into_len]
  omega
theorem stp_all {p : Nat} {es rs : List Nat} {k : Nat} (h : k ≤ es.length) : (stp p es rs k).length = max k rs.length := by
  unfold stp
  rw [List.length_append, stp_len h, List.length_drop]
  omega
theorem stp_old {p : Nat} {es rs : List Nat} {k : Nat} (h : k < rs.length) : stp p es rs k = (into p es rs).take k ++ rs[k]?.getD 1 :: rs.drop (k + 1) := by
  unfold stp
  rw [List.drop_eq_getElem_cons h, List.getElem?_eq_getElem h]
  rfl
theorem stp_new {p : Nat} {es rs : List Nat} {k : Nat} (h : rs.length ≤ k) : stp p es rs k ++ [1] = (into p es rs).take k ++ rs[k]?.getD 1 :: rs.drop (k + 1) := by
  unfold stp
  rw [List.drop_eq_nil_of_le h, List.drop_eq_nil_of_le (by omega), List.getElem?_eq_none h]
  simp
theorem stp_next {p : Nat} {es rs : List Nat} {k e : Nat} (h : es[k]? = some e) : stp p es rs (k + 1) = (into p es rs).take k ++ (rs[k]?.getD 1 * p ^ e) :: rs.drop (k + 1) := by
  unfold stp
  rw [List.take_succ, into_get p es rs k e h]
  simp
theorem stp_le {p : Nat} {es rs : List Nat} {k e m : Nat} (h : es[k]? = some e) (hm : m ≤ e) (hp : 0 < p) (pos : Pos (into p es rs)) : rs[k]?.getD 1 * p ^ m ≤ F 0 (into p es rs) := by
  have h1 : rs[k]?.getD 1 * p ^ e ∈ into p es rs := List.mem_of_getElem? (into_get p es rs k e h)
  have h2 := F_max pos h1
  have h3 : p ^ m ≤ p ^ e := Nat.pow_le_pow_right hp hm
  exact Nat.le_trans (Nat.mul_le_mul_left _ h3) h2
theorem BP.mono {ks : List Nat} {val : Nat → List Nat} {g g' : Nat → Nat} {m m' : Nat} (h : BP ks val g m) (e : ∀ n, g n = g' n) (l : m ≤ m') : BP ks val g' m' :=
  ⟨h.nd, h.pr, h.up, h.of, h.out, fun n => (h.f n).trans (e n), Nat.le_trans h.few l, fun p => Nat.le_trans (h.len p) l⟩
theorem perm_nat {ns : List Int} {l : List Nat} (h : ns.Perm (l.map fun n : Nat => (n : Int))) (up : ns.Pairwise (· ≤ ·)) : ∃ es : List Nat, (ns = es.map fun n : Nat => (n : Int)) ∧ es.Perm l ∧ es.Pairwise (· ≤ ·) := by
  refine ⟨ns.map Int.toNat, ?_, ?_, ?_⟩
  · rw [List.map_map]
    refine (List.map_id ns).symm.trans (List.map_congr_left fun x hx => ?_)
    obtain ⟨y, _, rfl⟩ := List.mem_map.mp (h.mem_iff.mp hx)
    rfl
  · have := h.map Int.toNat
    rw [List.map_map] at this
    have e : (Int.toNat ∘ fun n : Nat => (n : Int)) = id := rfl
    rw [e, List.map_id] at this
    exact this
  · rw [List.pairwise_map]
    exact up.imp fun h => by omega
theorem F_house {l : List Nat} (h : ∀ x ∈ l, 1 ≤ x ∧ x ≤ 1000000) (hl : l.length ≤ 6) : 0 < F 0 l ∧ F 0 l < 2 ^ 120 := by
  have p : Pos l := fun x hx => (h x hx).1
  refine ⟨F_pos 0 p, ?_⟩
  have go : ∀ l : List Nat, (∀ x ∈ l, 1 ≤ x ∧ x ≤ 1000000) → F 0 l ≤ 1000000 ^ l.length := by
    intro l
    induction l with
    | nil => intro _; simp [F]
    | cons x r ih =>
      intro h
      have h1 := ih fun y hy => h y (List.mem_cons_of_mem _ hy)
      have h2 := (h x List.mem_cons_self).2
      simp only [F, Nat.gcd_zero_left, List.length_cons]
      rw [Nat.pow_succ, Nat.mul_comm (1000000 ^ r.length)]
      exact Nat.mul_le_mul h2 h1
  have h1 := go l h
  have h2 : 1000000 ^ l.length ≤ 1000000 ^ 6 := Nat.pow_le_pow_right (by decide) hl
  have h3 : 1000000 ^ 6 < 2 ^ 120 := by decide
  omega
end K35

set_option linter.all false
namespace K39
open K35
/-! ### a chain known by some counts -/
theorem uniqS {S : Nat → Prop} (s0 : S 0) : ∀ {A B : List Nat}, A.Pairwise (fun x y => y ∣ x) → B.Pairwise (fun x y => y ∣ x) → Big A → Big B → (∀ a ∈ A, S a) → (∀ b ∈ B, S b) → (∀ n, S n → F n A = F n B) → A = B
  | [], [], _, _, _, _, _, _, _ => rfl
  | [], b :: r, _, _, _, hb, _, _, e => by
    exfalso
    have h := e 0 s0
    have p := F_pos 0 hb.pos.tail
    have q := hb b List.mem_cons_self
    simp only [F, Nat.gcd_zero_left] at h
    have : 2 * 1 ≤ b * F 0 r := Nat.mul_le_mul q p
    omega
  | a :: r, [], _, _, ha, _, _, _, e => by
    exfalso
    have h := e 0 s0
    have p := F_pos 0 ha.pos.tail
    have q := ha a List.mem_cons_self
    simp only [F, Nat.gcd_zero_left] at h
    have : 2 * 1 ≤ a * F 0 r := Nat.mul_le_mul q p
    omega
  | a :: r, b :: t, ca, cb, ha, hb, sa, sb, e => by
    have h1 : b ∣ a := F_all a hb.pos (by rw [← e a (sa a List.mem_cons_self), ← e 0 s0]; exact top_all ca) b List.mem_cons_self
    have h2 : a ∣ b := F_all b ha.pos (by rw [e b (sb b List.mem_cons_self), e 0 s0]; exact top_all cb) a List.mem_cons_self
    have ab : a = b := Nat.dvd_antisymm h2 h1
    subst ab
    congr 1
    refine uniqS s0 (List.pairwise_cons.mp ca).2 (List.pairwise_cons.mp cb).2 (fun x hx => ha x (List.mem_cons_of_mem _ hx)) (fun x hx => hb x (List.mem_cons_of_mem _ hx)) (fun x hx => sa x (List.mem_cons_of_mem _ hx)) (fun x hx => sb x (List.mem_cons_of_mem _ hx)) fun n sn => ?_
    have h := e n sn
    simp only [F] at h
    exact Nat.eq_of_mul_eq_mul_left (Nat.gcd_pos_of_pos_right _ ha.pos.head) h
/-! ### one prime's powers -/
theorem F_far {p K : Nat} : ∀ {es : List Nat}, (∀ e ∈ es, e ≤ K) → F (p ^ K) (pw p es) = F 0 (pw p es)
  | [], _ => rfl
  | e :: es, h => by
    have ih := F_far (p := p) (K := K) (es := es) fun x hx => h x (List.mem_cons_of_mem _ hx)
    show Nat.gcd (p ^ K) (p ^ e) * F (p ^ K) (pw p es) = Nat.gcd 0 (p ^ e) * F 0 (pw p es)
    rw [ih, Nat.gcd_eq_right (Nat.pow_dvd_pow p (h e List.mem_cons_self)), Nat.gcd_zero_left]
theorem le_sum : ∀ {l : List Nat} {x : Nat}, x ∈ l → x ≤ l.sum
  | y :: l, x, h => by
    rw [List.sum_cons]
    rcases List.mem_cons.mp h with rfl | h
    · omega
    · have := le_sum h
      omega
theorem pw_inj {p : Nat} (hp : 2 ≤ p) : ∀ {l m : List Nat}, pw p l = pw p m → l = m
  | [], [], _ => rfl
  | [], _ :: _, h => by simp [pw] at h
  | _ :: _, [], h => by simp [pw] at h
  | a :: l, b :: m, h => by
    have h2 : p ^ a :: pw p l = p ^ b :: pw p m := h
    injection h2 with h3 h4
    have ab : a = b := by
      rcases Nat.lt_trichotomy a b with z | z | z
      · have := (Nat.pow_lt_pow_iff_right hp).mpr z
        omega
      · exact z
      · have := (Nat.pow_lt_pow_iff_right hp).mpr z
        omega
    rw [ab, pw_inj hp h4]
theorem pw_uniq {p : Nat} (hp : 2 ≤ p) {es fs : List Nat} (u1 : es.Pairwise (· ≤ ·)) (u2 : fs.Pairwise (· ≤ ·)) (o1 : ∀ e ∈ es, 1 ≤ e) (o2 : ∀ e ∈ fs, 1 ≤ e) (h : ∀ k, F (p ^ k) (pw p es) = F (p ^ k) (pw p fs)) : es = fs := by
  have big : ∀ {l : List Nat}, (∀ e ∈ l, 1 ≤ e) → Big (pw p l.reverse) := fun h x hx => by
    obtain ⟨e, he, rfl⟩ := List.mem_map.mp hx
    have := h e (List.mem_reverse.mp he)
    exact Nat.one_lt_pow (by omega) hp
  have down : ∀ {l : List Nat}, l.Pairwise (· ≤ ·) → (pw p l.reverse).Pairwise (fun x y => y ∣ x) := fun u => by
    unfold pw
    rw [List.pairwise_map, List.pairwise_reverse]
    exact u.imp fun h => Nat.pow_dvd_pow p h
  have mem : ∀ {l : List Nat}, ∀ a ∈ pw p l.reverse, a = 0 ∨ ∃ k, a = p ^ k := fun a ha => by
    obtain ⟨e, _, rfl⟩ := List.mem_map.mp ha
    exact .inr ⟨e, rfl⟩
  have h0 : F 0 (pw p es) = F 0 (pw p fs) := by
    rw [← F_far (K := es.sum + fs.sum) fun e he => Nat.le_trans (le_sum he) (Nat.le_add_right _ _), ← F_far (K := es.sum + fs.sum) (es := fs) fun e he => Nat.le_trans (le_sum he) (Nat.le_add_left _ _)]
    exact h _
  have q := uniqS (S := fun n => n = 0 ∨ ∃ k, n = p ^ k) (.inl rfl) (down u1) (down u2) (big o1) (big o2) mem mem fun n hn => by
    rw [F_pw_rev, F_pw_rev]
    rcases hn with rfl | ⟨k, rfl⟩
    · exact h0
    · exact h k
  have := congrArg List.reverse (pw_inj hp q)
  simpa using this
/-! ### told by primes in one way -/
def look : List (Nat × List Nat) → Nat → List Nat
  | [], _ => []
  | x :: r, p => if x.1 = p then x.2 else look r p
theorem look_none {p : Nat} : ∀ {d : List (Nat × List Nat)}, (∀ x ∈ d, x.1 ≠ p) → look d p = []
  | [], _ => rfl
  | x :: r, h => by
    show (if x.1 = p then x.2 else look r p) = []
    rw [if_neg (h x List.mem_cons_self)]
    exact look_none fun y hy => h y (List.mem_cons_of_mem _ hy)
theorem F_other {p q k : Nat} (hp : Pr p) (hq : Pr q) (ne : p ≠ q) : ∀ es : List Nat, F (p ^ k) (pw q es) = 1
  | [] => rfl
  | e :: es => by
    show Nat.gcd (p ^ k) (q ^ e) * F (p ^ k) (pw q es) = 1
    have c : Nat.gcd (p ^ k) (q ^ e) = 1 := ((pr_co hp hq ne).pow_left k).pow_right e
    rw [F_other hp hq ne es, c]
theorem G_pk {p k : Nat} (hp : Pr p) : ∀ {d : List (Nat × List Nat)}, (∀ x ∈ d, Pr x.1) → d.Pairwise (fun x y => x.1 ≠ y.1) → G (p ^ k) d = F (p ^ k) (pw p (look d p))
  | [], _, _ => rfl
  | x :: r, pr, ne => by
    have n2 := List.pairwise_cons.mp ne
    have ih := G_pk (k := k) hp (d := r) (fun y hy => pr y (List.mem_cons_of_mem _ hy)) n2.2
    show F (p ^ k) (pw x.1 x.2) * G (p ^ k) r = F (p ^ k) (pw p (if x.1 = p then x.2 else look r p))
    by_cases z : x.1 = p
    · rw [if_pos z, ih, look_none (d := r) (p := p) fun y hy => z ▸ (n2.1 y hy).symm, z]
      simp [pw, F]
    · rw [if_neg z, ih, F_other hp (pr x List.mem_cons_self) (Ne.symm z), Nat.one_mul]
structure Td (d : List (Nat × List Nat)) : Prop where
  told : Told d
  lt : d.Pairwise fun x y => x.1 < y.1
  ne : ∀ x ∈ d, x.2 ≠ []
theorem look_mem {d : List (Nat × List Nat)} {p : Nat} : look d p = [] ∨ (p, look d p) ∈ d := by
  induction d with
  | nil => exact .inl rfl
  | cons x r ih =>
    show (if x.1 = p then x.2 else look r p) = [] ∨ (p, if x.1 = p then x.2 else look r p) ∈ x :: r
    by_cases z : x.1 = p
    · rw [if_pos z, ← z]
      exact .inr List.mem_cons_self
    · rw [if_neg z]
      rcases ih with h | h
      · exact .inl h
      · exact .inr (List.mem_cons_of_mem _ h)
theorem look_eq : ∀ {d d' : List (Nat × List Nat)}, d.Pairwise (fun x y => x.1 < y.1) → d'.Pairwise (fun x y => x.1 < y.1) → (∀ x ∈ d, x.2 ≠ []) → (∀ x ∈ d', x.2 ≠ []) → (∀ p, look d p = look d' p) → d = d'
  | [], [], _, _, _, _, _ => rfl
  | [], y :: s, _, _, _, n, h => by
    exfalso
    have := h y.1
    have e : look (y :: s) y.1 = y.2 := if_pos rfl
    rw [e] at this
    exact n y List.mem_cons_self this.symm
  | x :: r, [], _, _, n, _, h => by
    exfalso
    have := h x.1
    have e : look (x :: r) x.1 = x.2 := if_pos rfl
    rw [e] at this
    exact n x List.mem_cons_self this
  | x :: r, y :: s, l1, l2, n1, n2, h => by
    have a1 := List.pairwise_cons.mp l1
    have a2 := List.pairwise_cons.mp l2
    have ex : look (x :: r) x.1 = x.2 := if_pos rfl
    have ey : look (y :: s) y.1 = y.2 := if_pos rfl
    have low : ∀ {z : Nat × List Nat} {t : List (Nat × List Nat)} {q : Nat}, (∀ w ∈ t, z.1 < w.1) → q < z.1 → look (z :: t) q = [] := fun hw hq => look_none fun w hw2 => by
      rcases List.mem_cons.mp hw2 with rfl | hw2
      · omega
      · have := hw w hw2
        omega
    have e1 : x.1 = y.1 := by
      rcases Nat.lt_trichotomy x.1 y.1 with z | z | z
      · exfalso
        have := h x.1
        rw [ex, low a2.1 z] at this
        exact n1 x List.mem_cons_self this
      · exact z
      · exfalso
        have := h y.1
        rw [ey, low a1.1 z] at this
        exact n2 y List.mem_cons_self this.symm
    have e2 : x.2 = y.2 := by
      have := h x.1
      rw [ex, e1, ey] at this
      exact this
    have e3 : x = y := Prod.ext e1 e2
    subst e3
    congr 1
    refine look_eq a1.2 a2.2 (fun z hz => n1 z (List.mem_cons_of_mem _ hz)) (fun z hz => n2 z (List.mem_cons_of_mem _ hz)) fun p => ?_
    by_cases z : x.1 = p
    · have g1 : ∀ w ∈ r, w.1 ≠ p := fun w hw => by have := a1.1 w hw; omega
      have g2 : ∀ w ∈ s, w.1 ≠ p := fun w hw => by have := a2.1 w hw; omega
      rw [look_none g1, look_none g2]
    · have := h p
      have f1 : look (x :: r) p = look r p := if_neg z
      have f2 : look (x :: s) p = look s p := if_neg z
      rw [f1, f2] at this
      exact this
theorem td_uniq {d d' : List (Nat × List Nat)} (h : Td d) (h' : Td d') (e : ∀ n, G n d = G n d') : d = d' := by
  refine look_eq h.lt h'.lt h.ne h'.ne fun p => ?_
  have side : ∀ {d : List (Nat × List Nat)}, Td d → (look d p).Pairwise (· ≤ ·) ∧ ∀ e ∈ look d p, 1 ≤ e := fun {d} h => by
    rcases look_mem (d := d) (p := p) with z | z
    · rw [z]
      exact ⟨List.Pairwise.nil, fun e he => by simp at he⟩
    · exact ⟨h.told.up _ z, h.told.of _ z⟩
  by_cases hp : Pr p
  · refine pw_uniq hp.1 (side h).1 (side h').1 (side h).2 (side h').2 fun k => ?_
    rw [← G_pk hp h.told.pr h.told.ne, ← G_pk hp h'.told.pr h'.told.ne]
    exact e _
  · have o1 : ∀ x ∈ d, x.1 ≠ p := fun x hx z => hp (z ▸ h.told.pr x hx)
    have o2 : ∀ x ∈ d', x.1 ≠ p := fun x hx z => hp (z ▸ h'.told.pr x hx)
    rw [look_none o1, look_none o2]
/-! ### powers put to primes, in whatever order -/
structure BQ (ks : List Nat) (val : Nat → List Nat) (g : Nat → Nat) (m : Nat) : Prop where
  nd : ks.Nodup
  pr : ∀ p ∈ ks, Pr p
  of : ∀ p, ∀ e ∈ val p, 1 ≤ e
  out : ∀ p, p ∉ ks → val p = []
  ne : ∀ p ∈ ks, val p ≠ []
  f : ∀ n, G n (dl ks val) = g n
  few : ks.length ≤ m
  len : ∀ p, (val p).length ≤ m
theorem bq_nil : BQ [] (fun _ => []) (fun _ => 1) 0 := ⟨List.nodup_nil, by simp, fun _ _ h => by simp at h, fun _ _ => rfl, by simp, fun _ => rfl, Nat.le_refl _, fun _ => Nat.le_refl _⟩
theorem BQ.mono {ks : List Nat} {val : Nat → List Nat} {g g' : Nat → Nat} {m m' : Nat} (h : BQ ks val g m) (e : ∀ n, g n = g' n) (l : m ≤ m') : BQ ks val g' m' :=
  ⟨h.nd, h.pr, h.of, h.out, h.ne, fun n => (h.f n).trans (e n), Nat.le_trans h.few l, fun p => Nat.le_trans (h.len p) l⟩
theorem kadd_mem {ks : List Nat} {p q : Nat} (h : q ∈ kadd ks p) : q ∈ ks ∨ q = p := by
  unfold kadd at h
  split at h
  · exact .inl h
  · rcases List.mem_append.mp h with z | z
    · exact .inl z
    · exact .inr (List.mem_singleton.mp z)
theorem mem_kadd {ks : List Nat} {p q : Nat} (h : q ∈ ks ∨ q = p) : q ∈ kadd ks p := by
  unfold kadd
  split
  · rename_i z
    rcases h with h | rfl
    · exact h
    · exact z
  · exact List.mem_append.mpr (h.imp id fun z => by rw [z]; exact List.mem_cons_self)
theorem bq_put {ks : List Nat} {val : Nat → List Nat} {g : Nat → Nat} {m p e : Nat} {es : List Nat} (h : BQ ks val g m) (hp : Pr p) (he : 1 ≤ e) (pm : es.Perm (val p ++ [e])) : BQ (kadd ks p) (vadd val p es) (fun n => g n * Nat.gcd n (p ^ e)) (m + 1) := by
  have at_p : vadd val p es p = es := if_pos rfl
  have at_q : ∀ q, q ≠ p → vadd val p es q = val q := fun q hq => if_neg hq
  have el : es.length = (val p).length + 1 := by rw [pm.length_eq, List.length_append]; rfl
  refine ⟨?_, fun q hq => ?_, fun q => ?_, fun q hq => ?_, fun q hq => ?_, fun n => ?_, ?_, fun q => ?_⟩
  · unfold kadd
    split
    · exact h.nd
    · rename_i z
      rw [List.nodup_append]
      exact ⟨h.nd, by simp, fun a ha b hb => by rw [List.mem_singleton.mp hb]; exact fun y => z (y ▸ ha)⟩
  · rcases kadd_mem hq with z | rfl
    · exact h.pr q z
    · exact hp
  · by_cases z : q = p
    · subst z
      rw [at_p]
      intro x hx
      rcases List.mem_append.mp (pm.mem_iff.mp hx) with y | y
      · exact h.of q x y
      · rw [List.mem_singleton.mp y]; exact he
    · rw [at_q q z]; exact h.of q
  · have z : q ≠ p := fun z => hq (mem_kadd (.inr z))
    rw [at_q q z]
    exact h.out q fun y => hq (mem_kadd (.inl y))
  · by_cases z : q = p
    · subst z
      rw [at_p]
      intro y
      rw [y] at el
      simp at el
    · rw [at_q q z]
      exact h.ne q ((kadd_mem hq).resolve_right z)
  · rw [← h.f n]
    have c : F n (pw p (vadd val p es p)) = F n (pw p (val p)) * Nat.gcd n (p ^ e) := by rw [at_p]; exact F_pw_snoc pm
    unfold kadd
    split
    · rename_i z
      exact G_in at_q c h.nd z
    · rename_i z
      have e1 : dl (ks ++ [p]) (vadd val p es) = dl ks val ++ [(p, es)] := by
        unfold dl
        rw [List.map_append]
        have := dl_congr (ks := ks) (val := vadd val p es) (val' := val) fun q hq => at_q q fun y => z (y ▸ hq)
        unfold dl at this
        rw [this]
        show _ ++ [(p, vadd val p es p)] = _
        rw [at_p]
      rw [e1, G_app]
      have c2 := c
      rw [at_p, h.out p z] at c2
      show _ * (F n (pw p es) * 1) = _
      rw [c2]
      simp [pw, F]
  · unfold kadd
    have := h.few
    split
    · omega
    · rw [List.length_append]
      show ks.length + 1 ≤ m + 1
      omega
  · have := h.len q
    by_cases z : q = p
    · subst z; rw [at_p, el]; omega
    · rw [at_q q z]; omega
theorem G_dl_perm {n : Nat} {val wal : Nat → List Nat} : ∀ {ks : List Nat}, (∀ p ∈ ks, (wal p).Perm (val p)) → G n (dl ks wal) = G n (dl ks val)
  | [], _ => rfl
  | p :: r, h => by
    show F n (pw p (wal p)) * G n (dl r wal) = F n (pw p (val p)) * G n (dl r val)
    have e1 : F n (pw p (wal p)) = F n (pw p (val p)) := F_perm n ((h p List.mem_cons_self).map fun e => p ^ e)
    rw [G_dl_perm fun q hq => h q (List.mem_cons_of_mem _ hq), e1]
theorem bq_td {ks ys : List Nat} {val wal : Nat → List Nat} {g : Nat → Nat} {m : Nat} (h : BQ ks val g m) (pm : ys.Perm ks) (up : ys.Pairwise (· ≤ ·)) (w1 : ∀ p ∈ ks, (wal p).Perm (val p)) (w2 : ∀ p ∈ ks, (wal p).Pairwise (· ≤ ·)) : Td (dl ys wal) ∧ ∀ n, G n (dl ys wal) = g n := by
  have nd : ys.Nodup := pm.nodup_iff.mpr h.nd
  have mk : ∀ p ∈ ys, p ∈ ks := fun p hp => pm.mem_iff.mp hp
  refine ⟨⟨⟨fun x hx => ?_, ?_, fun x hx => ?_, fun x hx => ?_⟩, ?_, fun x hx => ?_⟩, fun n => ?_⟩
  · obtain ⟨q, hq, rfl⟩ := List.mem_map.mp hx
    exact h.pr q (mk q hq)
  · unfold dl
    rw [List.pairwise_map]
    exact nd
  · obtain ⟨q, hq, rfl⟩ := List.mem_map.mp hx
    exact w2 q (mk q hq)
  · obtain ⟨q, hq, rfl⟩ := List.mem_map.mp hx
    exact fun e he => h.of q e ((w1 q (mk q hq)).mem_iff.mp he)
  · unfold dl
    rw [List.pairwise_map]
    exact (up.and nd).imp fun ⟨a, b⟩ => Nat.lt_of_le_of_ne a b
  · obtain ⟨q, hq, rfl⟩ := List.mem_map.mp hx
    intro z
    have := (w1 q (mk q hq)).length_eq
    have z2 : wal q = [] := z
    rw [z2] at this
    exact h.ne q (mk q hq) (List.length_eq_zero_iff.mp this.symm)
  · have e1 : G n (dl ys wal) = G n (dl ks wal) := G_perm n (pm.map fun p => (p, wal p))
    rw [e1, ← h.f n]
    exact G_dl_perm w1
/-! ### rounds of one length -/
def pad (m : Nat) (rs : List Nat) : List Nat := rs ++ List.replicate (m - rs.length) 1
theorem pad_len {m : Nat} {rs : List Nat} (h : rs.length ≤ m) : (pad m rs).length = m := by
  unfold pad
  rw [List.length_append, List.length_replicate]
  omega
theorem into_rep (p : Nat) : ∀ (es : List Nat) (k : Nat), es.length ≤ k → into p es (List.replicate k 1) = into p es [] ++ List.replicate (k - es.length) 1
  | [], k, _ => by simp [into]
  | e :: es, 0, h => by simp at h
  | e :: es, k + 1, h => by
    have ih := into_rep p es k (by simpa using h)
    rw [List.replicate_succ]
    simp only [into]
    rw [ih, Nat.one_mul, List.cons_append, List.length_cons, Nat.add_sub_add_right]
theorem into_app (p : Nat) : ∀ (es rs : List Nat) (k : Nat), es.length ≤ rs.length + k → into p es (rs ++ List.replicate k 1) = into p es rs ++ List.replicate (rs.length + k - max es.length rs.length) 1
  | [], rs, k, _ => by
    simp only [into, List.length_nil]
    congr 2
    omega
  | e :: es, [], k, h => by
    have := into_rep p (e :: es) k (by simpa using h)
    rw [List.nil_append, this]
    congr 2
    simp
  | e :: es, r :: rs, k, h => by
    have ih := into_app p es rs k (by simp at h; omega)
    simp only [List.cons_append, into]
    rw [ih]
    congr 3
    simp only [List.length_cons]
    omega
theorem into_pad {p m : Nat} {es rs : List Nat} (h1 : es.length ≤ m) (h2 : rs.length ≤ m) : into p es (pad m rs) = pad m (into p es rs) := by
  unfold pad
  rw [into_app p es rs _ (by omega), into_len]
  congr 2
  omega
theorem F_rep (n : Nat) : ∀ k, F n (List.replicate k 1) = 1
  | 0 => rfl
  | k + 1 => by
    rw [List.replicate_succ]
    show Nat.gcd n 1 * F n (List.replicate k 1) = 1
    rw [F_rep n k, Nat.gcd_one_right]
theorem F_pad (n m : Nat) (rs : List Nat) : F n (pad m rs) = F n rs := by
  unfold pad
  rw [F_app, F_rep, Nat.mul_one]
theorem pad_pos {m : Nat} {rs : List Nat} (h : Pos rs) : Pos (pad m rs) := fun x hx => by
  rcases List.mem_append.mp hx with z | z
  · exact h x z
  · rw [List.eq_of_mem_replicate z]
    exact Nat.one_pos
/-- the rounds, rising, as they stand behind j powers of a prime -/
def rws (p : Nat) (es L : List Nat) (j : Nat) : List Nat := ((into p es.reverse L).reverse).take (L.length - es.length + j) ++ (L.reverse).drop (L.length - es.length + j)
theorem into_size {p : Nat} {es L : List Nat} (h : es.length ≤ L.length) : (into p es.reverse L).length = L.length := by
  rw [into_len, List.length_reverse]
  omega
theorem rws_zero {p : Nat} {es L : List Nat} (h : es.length ≤ L.length) : rws p es L 0 = L.reverse := by
  unfold rws
  rw [Nat.add_zero, List.take_reverse, into_size h]
  have e1 : L.length - (L.length - es.length) = es.length := by omega
  rw [e1]
  have e2 := into_drop p es.reverse L
  rw [List.length_reverse] at e2
  rw [e2]
  have e3 : (L.drop es.length).reverse = (L.reverse).take (L.length - es.length) := by
    rw [List.take_reverse, e1]
  rw [e3, List.take_append_drop]
theorem rws_end {p : Nat} {es L : List Nat} (h : es.length ≤ L.length) : rws p es L es.length = (into p es.reverse L).reverse := by
  unfold rws
  have e : L.length - es.length + es.length = L.length := by omega
  rw [e, List.drop_of_length_le (by rw [List.length_reverse]; exact Nat.le_refl _), List.append_nil, List.take_of_length_le (by rw [List.length_reverse, into_size h]; exact Nat.le_refl _)]
theorem rws_at {p : Nat} {es L : List Nat} {j e : Nat} (h : es.length ≤ L.length) (he : es[j]? = some e) :
    ∃ r, L.reverse[L.length - es.length + j]? = some r ∧ ((into p es.reverse L).reverse)[L.length - es.length + j]? = some (r * p ^ e) ∧ r * p ^ e ∈ into p es.reverse L := by
  have jl : j < es.length := (List.getElem?_eq_some_iff.mp he).1
  have i1 : L.length - 1 - (L.length - es.length + j) = es.length - 1 - j := by omega
  have k1 : es.reverse[es.length - 1 - j]? = some e := by
    rw [List.getElem?_reverse (by omega)]
    have : es.length - 1 - (es.length - 1 - j) = j := by omega
    rw [this, he]
  have g := into_get p es.reverse L _ e k1
  have il : es.length - 1 - j < L.length := by omega
  rw [List.getElem?_eq_getElem il] at g
  refine ⟨L[es.length - 1 - j], ?_, ?_, ?_⟩
  · rw [List.getElem?_reverse (by omega), i1, List.getElem?_eq_getElem il]
  · rw [List.getElem?_reverse (by rw [into_size h]; omega), into_size h, i1, g]
    rfl
  · exact List.mem_of_getElem? g
theorem rws_mid {p : Nat} {es L : List Nat} {j r : Nat} (h : es.length ≤ L.length) (hj : j < es.length) (hr : L.reverse[L.length - es.length + j]? = some r) :
    rws p es L j = ((into p es.reverse L).reverse).take (L.length - es.length + j) ++ r :: (L.reverse).drop (L.length - es.length + j + 1) := by
  unfold rws
  congr 1
  have hl : L.length - es.length + j < L.reverse.length := by rw [List.length_reverse]; omega
  rw [List.drop_eq_getElem_cons hl]
  rw [List.getElem?_eq_getElem hl] at hr
  rw [Option.some.inj hr]
theorem rws_next {p : Nat} {es L : List Nat} {j x : Nat} (h : es.length ≤ L.length) (hx : ((into p es.reverse L).reverse)[L.length - es.length + j]? = some x) :
    rws p es L (j + 1) = ((into p es.reverse L).reverse).take (L.length - es.length + j) ++ x :: (L.reverse).drop (L.length - es.length + j + 1) := by
  unfold rws
  have e : L.length - es.length + (j + 1) = L.length - es.length + j + 1 := by omega
  rw [e, List.take_succ, hx]
  simp
theorem rws_tl {p : Nat} {es L : List Nat} {j : Nat} (h : es.length ≤ L.length) (hj : j < es.length) : (((into p es.reverse L).reverse).take (L.length - es.length + j)).length = L.length - es.length + j := by
  rw [List.length_take, List.length_reverse, into_size h]
  omega
theorem laid_le {d : List (Nat × List Nat)} {m : Nat} (h : ∀ x ∈ d, x.2.length ≤ m) : ∀ k, (laid (d.take k)).length ≤ m
  | 0 => by simp [laid]
  | k + 1 => by
    cases e : d[k]? with
    | none =>
      rw [List.take_succ, e]
      simpa using laid_le h k
    | some x =>
      have t1 : d.take (k + 1) = d.take k ++ [x] := by rw [List.take_succ, e]; rfl
      rw [t1, laid_snoc, into_len, List.length_reverse]
      have := h x (List.mem_of_getElem? e)
      have := laid_le h k
      omega
theorem laid_ge {d : List (Nat × List Nat)} : ∀ k, ∀ x ∈ d.take k, x.2.length ≤ (laid (d.take k)).length
  | 0, x, hx => by simp at hx
  | k + 1, x, hx => by
    cases e : d[k]? with
    | none =>
      have t1 : d.take (k + 1) = d.take k := by rw [List.take_succ, e]; simp
      rw [t1] at hx ⊢
      exact laid_ge k x hx
    | some y =>
      have t1 : d.take (k + 1) = d.take k ++ [y] := by rw [List.take_succ, e]; rfl
      rw [t1] at hx ⊢
      rw [laid_snoc, into_len, List.length_reverse]
      rcases List.mem_append.mp hx with z | z
      · have := laid_ge k x z
        omega
      · rw [List.mem_singleton.mp z]
        omega
end K39

set_option Elab.async false
set_option linter.all false
set_option maxRecDepth 100000
set_option maxHeartbeats 4000000
/-! enumerate of a tuple -/
namespace EnT
open PySem PySem.Spec PyProof.Rows L2
/-- enumerate(v), v told by how its iterator begins -/
theorem meets_one {v : Value} {o : Obj} {U : Heap → Prop} (B : Begins v o U) : Meets (Builtin.«enumerate.__new__» ⟨[.type "enumerate", v], []⟩) (fun _ R s => U s.heap ∧
      R (.ok (.ret (.ref (s.heap.push o).objs.size))) { s with heap := (s.heap.push o).push { cls := .type "enumerate", data := .fields #[.none, .bool false, .ref s.heap.objs.size, rawInt 0, .none, .none] } }) :=
  .of_wp fun prog w A R s h => by
    obtain ⟨hp, g, d, tk, os⟩ := s
    obtain ⟨h1, h⟩ := h
    have hsub := sub_enumerate
    have q1 : ∀ {A' : Around} {E : Value → Shared → Prop} {Q : Value → Shared → Prop}, Q (.ref hp.objs.size) ⟨hp.push o, g, d, tk, os⟩ → wpAny (model prog w) A' (pyIter v) Q E ⟨hp, g, d, tk, os⟩ := fun q => B.iter prog w _ _ ⟨hp, g, d, tk, os⟩ _ h1 q
    wp_walk using q1
    refine wpAny_stack_any fun st => wpAny_pure ?_
    split
    · rename_i c _ _ _ _ _
      cases (c == Value.type "enumerate")
      · wp_walk using q1
        exact ⟨_, rfl, h⟩
      · wp_walk using q1
        exact ⟨_, rfl, h⟩
    · wp_walk using q1
      exact ⟨_, rfl, h⟩
section
variable {prog : Program} {w : World} {A : Around} {E : Value → Shared → Prop} {s : Shared}
theorem call_one {v : Value} {o : Obj} {U : Heap → Prop} {Q : Value → Shared → Prop} (B : Begins v o U) (h1 : U s.heap)
    (h : ∀ g, IsEnum g (s.heap.objs.size + 1) s.heap.objs.size 0 .none → g.get? s.heap.objs.size = some o → (∀ b u, s.heap.get? b = some u → g.get? b = some u) → Q (.ref (s.heap.objs.size + 1)) { s with heap := g }) :
    wpAny (model prog w) A (call (.type "enumerate") [v]) Q E s := by
  refine callType_new F.called_enumerate (by decide) (F.typeCall_enumerate_1 _) (F.newCall_enumerate_1 _) (fun obj => F.args_object_init_2 obj _) F.entry_enumerate_new (meets_one B) ⟨h1, ?_⟩
  have hz : (s.heap.push o).objs.size = s.heap.objs.size + 1 := Heap.size_push ..
  show _ ∧ _
  rw [hz]
  have he : IsEnum ((s.heap.push o).push { cls := .type "enumerate", data := .fields #[.none, .bool false, .ref s.heap.objs.size, rawInt 0, .none, .none] }) (s.heap.objs.size + 1) s.heap.objs.size 0 .none := by
    have := Heap.get?_push_size (s.heap.push o) (o := { cls := .type "enumerate", data := .fields #[.none, .bool false, .ref s.heap.objs.size, rawInt 0, .none, .none] }) rfl
    rw [hz] at this
    exact this
  exact ⟨⟨_, he, rfl⟩, h _ he (Heap.get?_push_of_some _ (Heap.get?_push_size _ B.free)) fun b u x => Heap.get?_push_of_some _ (Heap.get?_push_of_some _ x)⟩
end
/-- the tuple at a as it stands at each turn, each item in a new pair, counted from c -/
def IteT (K : PySem.W.Frag) (a : Addr) (c : Int) : It :=
  ⟨fun i H => ∃ (xs : List V) (x : V), SqT K H a xs ∧ xs[i]? = some x, fun i H v H' => ∃ T x, v = .ref T ∧ H T = none ∧ H' = upd H T (.tup [.int (c + (i : Nat)), x]) ∧ ∀ xs, SqT K H a xs → xs[i]? = some x, fun i H => ∃ xs : List V, SqT K H a xs ∧ xs.length ≤ i⟩
theorem turn_enumT {P : Program} {w : World} {K : PySem.W.Frag} {elts : List Expr} {kk : Nat} {tpos : Pos} (a e it : Addr) (c : Int) :
    Turn P w K (.Tuple elts kk tpos) (IteT K a c) [e, it] e (fun i h => (∃ old, IsEnum h e it (c + ((i : Nat) : Int)) old) ∧ h.IsTupleIter it a i ∧ e ≠ it) where
  mem := by simp
  obj := fun i h st b hb => by
    obtain ⟨⟨old, he⟩, ⟨o, ho, hc, hd⟩, _⟩ := st
    have e' : b = e ∨ b = it := by simpa using hb
    rcases e' with z | z
    · rw [z]; exact ⟨_, he, fun v q => nomatch q⟩
    · rw [z]; exact ⟨o, ho, fun v q => by rw [hd] at q; cases q⟩
  keep := fun i h h' st k => let ⟨⟨old, he⟩, hi, hne⟩ := st; ⟨⟨old, k e (by simp) _ he⟩, hi.at fun o q => k it (by simp) o q, hne⟩
  item := by
    intro X hP hw hK hc i pins s σ H E I hf st hg
    subst hP hw hK
    obtain ⟨⟨old, he⟩, hit, hne⟩ := st
    obtain ⟨xs, x, hq, hx⟩ := hg
    obtain ⟨its, rv, p, hz⟩ := I.tuple hq
    obtain ⟨u, hu, ru⟩ := rv.get hx
    have pt : s.heap.IsTuple a its.toArray := p
    have hel : e < s.heap.objs.size := Heap.lt_size he
    have hil : it < s.heap.objs.size := by obtain ⟨_, q, _⟩ := hit; exact Heap.lt_size q
    have ea : e ≠ a := by
      rintro rfl
      obtain ⟨o, ho, hcl, _⟩ := pt
      rw [he] at ho
      cases ho
      simp at hcl
    have ia : a ≠ it := by
      rintro rfl
      obtain ⟨o, ho, hcl, _⟩ := pt
      obtain ⟨o2, ho2, hcl2, _⟩ := hit
      rw [ho] at ho2
      cases ho2
      rw [hcl] at hcl2
      simp at hcl2
    refine wpAny_pyNext_enum_itemC (Draws.tuple (A := X.A.in1) (by simpa using I.ok.hd hc) it a ia its.toArray) he ⟨hit, pt⟩ (by
      rw [List.size_toArray]
      exact (List.getElem?_eq_some_iff.mp hu).1) hne (by simp [hne, ea]) fun x2 h' tk hP ho hst hT hsz hk => ?_
    have ex : x2 = u := by
      have : its.toArray[i]? = some u := by simpa using hu
      rw [hP] at this
      exact Option.some.inj this
    subst ex
    refine ⟨_, rfl, wpAny_letOwnedTupleGo_enum (s := { s with heap := h', toks := tk + 1 }) ho fun h'' he' sb => ?_⟩
    have hT2 : h''.get? s.heap.objs.size = some { cls := .type "tuple", data := .seq #[.int (c + (i : Nat)) tk, x2] } := (sb.2 _ (Nat.ne_of_gt hel)).trans hT
    have new : ObjOk X.prog X.w (upd H s.heap.objs.size (.tup [.int (c + (i : Nat)), x])) h'' s.heap.objs.size (.tup [.int (c + (i : Nat)), x]) :=
      ⟨by show 2 ≤ sizeLine; decide, [.int (c + (i : Nat)) tk, x2], .cons ⟨_, rfl⟩ (.cons ru .nil), ⟨_, hT2, rfl, _, rfl⟩⟩
    have I1 : Inv X pins σ (upd H s.heap.objs.size (.tup [.int (c + (i : Nat)), x])) { s with heap := h'', toks := tk + 1 } :=
      I.turnedNew (ch := [e, it]) (fun b ob hb q => (sb.2 b (fun z => hb (by simp [z]))).trans (hk b ob (fun z => hb (by simp [z])) (fun z => hb (by simp [z])) q)) hf (Nat.le_refl _) new
    refine ⟨.ref s.heap.objs.size, _, I1, rfl, ⟨_, x, rfl, I.hok.fresh (Nat.le_refl _), rfl, fun ys hy => by rw [I.tuple_inj hy hq]; exact hx⟩, ⟨⟨x2, ?_⟩, hst.1.at fun o q => (sb.2 it (Ne.symm hne)).trans q, hne⟩, fun b hb => ?_⟩
    · have e1 : c + ((i + 1 : Nat) : Int) = c + (i : Int) + 1 := by omega
      rw [e1]; exact he'
    · have hb' : b < s.heap.objs.size := by
        have e' : b = e ∨ b = it := by simpa using hb
        rcases e' with z | z
        · rw [z]; exact hel
        · rw [z]; exact hil
      rw [upd_ne (Nat.ne_of_lt hb')]
      exact (hf b hb).1
  done := by
    intro X hP hw hK hc i pins s σ H E I hf st hg
    subst hP hw hK
    obtain ⟨⟨old, he⟩, hit, hne⟩ := st
    obtain ⟨xs, hq, hx⟩ := hg
    obtain ⟨its, rv, p, hz⟩ := I.tuple hq
    obtain ⟨f0, f1, f2, f3, f4, f5⟩ := hf it (by simp)
    have hl := rv.length
    have pt : s.heap.IsTuple a its.toArray := p
    have hT : s.TypeIs (.ref e) "enumerate" := ⟨_, he, rfl⟩
    unfold pyNext
    refine wpAny_bind (wpAny_attempt (wpAny_callSpecial?_slot (name := Str.ofString "__next__") hT F.slot_enumerate_next (wpAny_call_entry F.slot_enumerate_next hT F.entry_enumerate_next ?_ (F.args_enumerate_next_1 _))))
    show wpAny _ _ (field (.ref e) 2 >>= _) _ _ _
    refine wpAny_bind (wpAny_field he rfl (x := .ref it) rfl ?_)
    refine wpAny_bind (wpAny_nextOf_tuple_end (by simpa using I.ok.hd hc) hit pt (by simp; omega) fun h' x he' hx' => ?_)
    obtain ⟨o, ho, hcl⟩ := hx'
    refine wpAny_bind (wpAny_isInstance (T := "StopIteration") (b := true) ⟨o, ho, hcl⟩ isSubtype_stop ?_)
    exact wpAny_pure ⟨rfl, I.turned (t' := s.toks) (fun b o hb q => he' b o hb q) f0 f1 f3 f4 f5⟩
  self := fun A i s Q E st h => let ⟨⟨_, he⟩, _⟩ := st; wpAny_pyIter_enum he h
def iEnumT (K : PySem.W.Frag) (ta : TA) : TI := fun σ H R => ta σ H fun vs H1 => ∃ a xs, vs = [.ref a] ∧ SqT K H1 a xs ∧ R (IteT K a 0) H1
theorem pi_enumT {X : Cx} {e : Expr} {ta : TA} {p pos tpos : Pos} {elts : List Expr} {kk : Nat} (hg : Gl X "enumerate") (hm : X.mg "enumerate" = none) (ha : PA X [e] ta) (hs : starEach [e] X.env = [(false, eval e X.env)] := by rfl) :
    PI X (.Tuple elts kk tpos) (.Call (.Name "enumerate" p) [e] [] pos) (iEnumT X.K ta) := by
  refine ⟨fun pins s σ H R I h => ?_⟩
  refine Call_ (ld_blt I hg hm boot_enumerate (PyProof.Rows.callWith_type1 (thn (ha.run pos pins s σ H _ I h) fun us s1 ⟨vs, H1, I1, r1, q1⟩ => ?_) hs rfl))
  obtain ⟨a, xs, ex, hq, q⟩ := q1
  subst ex
  cases r1 with
  | cons r rr =>
    cases rr
    cases r
    obtain ⟨its, rv, p', hz⟩ := I1.tuple hq
    have pt : s1.heap.IsTuple a its.toArray := p'
    refine call_one (begins_tuple a its.toArray) pt fun h' he hit hk => wpAny_pyIter_enum he ?_
    have I2 : Inv X pins σ H1 { s1 with heap := h' } := I1.kept (t' := s1.toks) hk
    refine ⟨s1.heap.objs.size + 1, [s1.heap.objs.size + 1, s1.heap.objs.size], _, _, H1, rfl, I2, turn_enumT a (s1.heap.objs.size + 1) s1.heap.objs.size 0, ⟨⟨.none, by simpa using he⟩, ⟨_, hit, rfl, rfl⟩, Nat.succ_ne_self _⟩, fun b hb => ?_, q⟩
    have e' : b = s1.heap.objs.size + 1 ∨ b = s1.heap.objs.size := by simpa using hb
    have hle : s1.heap.objs.size ≤ b := by
      rcases e' with z | z
      · rw [z]; exact Nat.le_add_right _ _
      · rw [z]; exact Nat.le_refl _
    exact I1.fpOk hle (I1.hok.fresh hle)
theorem walk_enumT {K : PySem.W.Frag} {a : Addr} {xs : List V} {c : Int} : Walk (IteT K a c) xs.length (fun H => SqT K H a xs) (fun i H v H' => ∃ T x, v = .ref T ∧ H T = none ∧ H' = upd H T (.tup [.int (c + (i : Nat)), x]) ∧ xs[i]? = some x) := by
  constructor
  · intro i G hi g
    exact ⟨xs, _, g, List.getElem?_eq_getElem hi⟩
  · intro G g
    exact ⟨xs, g, Nat.le_refl _⟩
  · rintro i G v G' _ g ⟨t, x, e1, e2, e3, e4⟩
    exact ⟨t, x, e1, e2, e3, e4 _ g⟩
end EnT

set_option Elab.async false
set_option linter.all false
set_option maxRecDepth 100000
set_option maxHeartbeats 4000000
/-! enumerate of a tuple from a number on -/
namespace EnT
open PySem PySem.Spec PyProof.Rows L2
section
variable {M : Model} {A : Around} {E : Value → Shared → Prop} {s : Shared} {env : Env}
theorem class_kw {pos : Pos} {T : String} {e : Expr} {rest : List Expr} {kws : List Keyword} {Q : Value → Shared → Prop}
    (h : wpAny M A (spliced (backTo pos (starEach (e :: rest) env))) (fun vs s1 => wpAny M A (evalAll ((backToKw pos (keywordEach kws env)).map (·.2))) (fun kvs s2 => wpAny M A (call (.type T) vs (((backToKw pos (keywordEach kws env)).filterMap (·.1)).zip kvs)) Q E s2) E s1) E s)
    (he : backTo pos (starEach (e :: rest) env) = (false, eval e env) :: backTo pos (starEach rest env)) (hp : (backTo pos (starEach (e :: rest) env)).any (·.1) = false) (ha : (backToKw pos (keywordEach kws env)).all (·.1.isSome) = true) (hk : (backToKw pos (keywordEach kws env)).any (·.1.isNone) = false) :
    wpAny M A (callWith pos (.type T) [] (backTo pos (starEach (e :: rest) env)) (backToKw pos (keywordEach kws env))) Q E s := by
  unfold callWith
  refine wpAny_bind (wpAny_holding ?_)
  rw [he] at h hp ⊢
  refine wpAny_mono (PyProof.Rows.evalArgs_kwB (Q := fun a s1 => wpAny M A (call (.type T) ([] ++ a.pos) a.kw) Q E s1) ha h) (fun a s1 h1 => wpAny_bind (wpAny_standAt ?_)) fun _ _ x => x
  simp only [hp, hk, Bool.or_false]
  refine wpAny_bind (wpAny_pure ?_)
  exact wpAny_bind (wpAny_mono h1 (fun r s2 hr => wpAny_bind (wpAny_holding (wpAny_point (wpAny_pure hr)))) fun _ _ x => x)
end
def iEnumS (K : PySem.W.Frag) (ta tk : TA) : TI := fun σ H R => ta σ H fun vs H1 => tk σ H1 fun zs H2 => ∃ a xs c, vs = [.ref a] ∧ zs = [.int c] ∧ SqT K H2 a xs ∧ -(2 ^ 63) ≤ c ∧ c < 2 ^ 63 ∧ R (IteT K a c) H2
theorem pi_enumS {X : Cx} {e : Expr} {kws : List Keyword} {ta tk : TA} {p pos tpos : Pos} {elts : List Expr} {kk : Nat} (hg : Gl X "enumerate") (hm : X.mg "enumerate" = none) (ha : PA X [e] ta) (hk : PK X kws tk)
    (he : backTo pos (starEach [e] X.env) = (false, eval e X.env) :: backTo pos (starEach [] X.env) := by rfl) (hpl : (backTo pos (starEach [e] X.env)).any (·.1) = false := by rfl)
    (hall : (backToKw pos (keywordEach kws X.env)).all (·.1.isSome) = true := by rfl) (hnone : (backToKw pos (keywordEach kws X.env)).any (·.1.isNone) = false := by rfl) (hks : (backToKw pos (keywordEach kws X.env)).filterMap (·.1) = [Str.ofString "start"] := by rfl) :
    PI X (.Tuple elts kk tpos) (.Call (.Name "enumerate" p) [e] kws pos) (iEnumS X.K ta tk) := by
  refine ⟨fun pins s σ H R I h => ?_⟩
  refine wpAny_Call_Name_kw (ld_blt I hg hm boot_enumerate ?_)
  refine class_kw (thn (ha.run pos pins s σ H _ I h) fun us s1 ⟨vs, H1, I1, r1, q1⟩ => thn (hk.run pos pins s1 σ H1 _ I1 q1) fun ws s2 ⟨zs, H2, I2, r2, q2⟩ => ?_) he hpl hall hnone
  rw [hks]
  obtain ⟨a, xs, c, rfl, rfl, hq, c0, c1, q⟩ := q2
  obtain rfl := Vals.ref1 r1
  obtain ⟨w1, rfl, t, rfl⟩ := vals1 r2
  obtain ⟨its, rv, p', hz⟩ := I2.tuple hq
  have pt : s2.heap.IsTuple a its.toArray := p'
  refine enum_begins_start (begins_tuple a its.toArray) pt c0 c1 fun g he hit _ hkp => wpAny_pyIter_enum he ?_
  have I3 : Inv X pins σ H2 { s2 with heap := g } := I2.kept (t' := s2.toks) hkp
  refine ⟨s2.heap.objs.size + 1, [s2.heap.objs.size + 1, s2.heap.objs.size], _, _, H2, rfl, I3, turn_enumT a (s2.heap.objs.size + 1) s2.heap.objs.size c, ⟨⟨.none, by simpa using he⟩, ⟨_, hit, rfl, rfl⟩, Nat.succ_ne_self _⟩, fun b hb => ?_, q⟩
  have hle : s2.heap.objs.size ≤ b := by
    simp only [List.mem_cons, List.not_mem_nil, or_false] at hb
    rcases hb with z | z
    · rw [z]; exact Nat.le_succ _
    · rw [z]; exact Nat.le_refl _
  exact I2.fpOk hle (I2.hok.fresh hle)
end EnT

set_option Elab.async false
set_option linter.all false
set_option maxRecDepth 100000
set_option maxHeartbeats 4000000
/-! max and min of a list of ints with default= -/
namespace MxD
open PySem PySem.Spec PyProof.Rows L2
section
variable {prog : Program} {w : World} {A : Around} {E : Value → Shared → Prop} {s : Shared}
/-- a built-in function that goes on by itself, called with keywords -/
theorem tree_kw {id : String} {b : Builtin} {args : List Value} {kw : List (Str × Value)} {Q : Value → Shared → Prop} (kd : builtinKind id = none) (pn : plainId id = true) (en : entryFor table id = some b) (ok : argsOk id ⟨args, kw⟩)
    (body : wpAny (model prog w) A.in1 (b ⟨args, kw⟩) (fun fin s' => match fin with
      | .done f => (match (Except.ok f : Result) with | .ok (.ret v) => Q v s' | .ok _ => False | .error e => E e s')
      | .again c' => c'.quiet = true ∧ codeAny (model prog w) A c' (fun r s' => match r with | .ok (.ret v) => Q v s' | .ok _ => False | .error e => E e s') s') E s) : wpAny (model prog w) A (call (.builtin id) args kw) Q E s := by
  refine wpAny_call (codeAny_call_builtin pn en ?_)
  simp only [checkBuiltinCall, kd]
  cases sg : Manifest.signature? id with
  | none => exact wpAny_pure body
  | some sig =>
    have z : Bind.checkArgs id sig ⟨args, kw⟩ = pure () := by simpa only [argsOk, sg] using ok
    simp only [z]
    exact wpAny_pure body
end
section
variable {prog : Program} {w : World} {A : Around} {R : Result → Shared → Prop} {I : Addr} {fp wr : List Addr} {n : Nat} {P : Nat → Value → Prop} {St : Nat → Heap → Prop} {kw : List (Str × Value)}
theorem nm_max : (toString "max" ++ toString ".loop" : String) = "max.loop" := by decide
/-- the loop with one best so far, whatever the keywords -/
theorem max_on (W : Walks prog w A.in1 I fp wr n P St) (bt : Nat → Nat → Bool) (cm : CmpOf prog w A.in1 .Gt P bt) (B : Addr) (nf : B ∉ fp) : ∀ (k j : Nat) (s : Shared) (u : Value) (c : Nat), n - (j + 1) = k → j + 1 ≤ n → St (j + 1) s.heap → P (argBest bt j) u →
    s.heap.get? B = some { cls := .type "list", dict := none, data := .seq #[u, u] c, slots := #[] } →
    (∀ v g tk, P (argBest bt (n - 1)) v → (∀ b o, b ∉ wr → b ≠ B → s.heap.get? b = some o → g.get? b = some o) → R (.ok (.ret v)) { s with heap := g, toks := tk }) →
    codeAny (model prog w) A (.builtin "max.loop" ⟨[.ref I, .none, .ref B], kw⟩) R s
  | 0, j, s, u, c, hk, hj, st, pb, hB, hR => by
    have nw : B ∉ wr := fun z => nf (W.sub _ z)
    have last : j + 1 = n := by omega
    refine codeAny_builtin F.entry_max_loop ?_
    rw [Around.under_plainId F.plain_max_loop _]
    show wpAny _ A.in1 (seqItems? (.ref B) >>= _) _ _ s
    refine wpAny_bind (wpAny_seqItems hB rfl ?_)
    show wpAny _ A.in1 (tryCatch (pyNext (.ref I)) _ >>= _) _ _ s
    refine wpAny_bind (wpAny_tryCatch (W.done s _ _ (last ▸ st) fun g tk kp => ?_))
    have hB1 := kp B _ nw hB
    show wpAny _ A.in1 (updateSeq B (fun _ => #[]) >>= _) _ _ _
    refine wpAny_bind (wpAny_updateSeq hB1 rfl (wpAny_bind (wpAny_letGo (wpAny_pure ?_))))
    exact hR u _ tk (by rw [← last]; exact pb) fun b o x y z => (Heap.get?_update_other _ _ (Ne.symm y)).trans (kp b o x z)
  | k + 1, j, s, u, c, hk, hj, st, pb, hB, hR => by
    have nw : B ∉ wr := fun z => nf (W.sub _ z)
    have more : j + 1 < n := by omega
    refine codeAny_builtin F.entry_max_loop ?_
    rw [Around.under_plainId F.plain_max_loop _]
    show wpAny _ A.in1 (seqItems? (.ref B) >>= _) _ _ s
    refine wpAny_bind (wpAny_seqItems hB rfl ?_)
    show wpAny _ A.in1 (tryCatch (pyNext (.ref I)) _ >>= _) _ _ s
    refine wpAny_bind (wpAny_tryCatch (W.item (j + 1) s _ _ more st fun v g tk pv st2 kp => ?_))
    have hB1 := kp B _ nw hB
    show wpAny _ A.in1 (tryCatch (holding [v, v] (richCompare .Gt v u >>= _)) _ >>= _) _ _ _
    refine wpAny_bind (wpAny_tryCatch (wpAny_holding (wpAny_bind (cm (j + 1) (argBest bt j) v u _ _ _ pv pb ?_))))
    refine wpAny_bind (wpAny_holding (wpAny_truthy_bool (wpAny_bind (wpAny_letGo (wpAny_pure ?_)))))
    cases hb : bt (j + 1) (argBest bt j) with
    | true =>
      simp only [if_true]
      refine wpAny_bind (wpAny_updateSeq hB1 rfl (wpAny_bind (wpAny_letGo ?_)))
      rw [nm_max]
      refine wpAny_pure ⟨plainId_quiet F.plain_max_loop _, max_on W bt cm B nf k (j + 1) _ v _ (by omega) more (W.frame _ _ _ st2 fun b hbf o e => ?_) (by simp only [argBest, hb, if_true]; exact pv) (Heap.get?_update_self _ hB1 rfl) fun v2 g2 tk2 pv2 kp2 => ?_⟩
      · exact (Heap.get?_update_other _ _ (fun z : B = b => nf (by rw [z]; exact hbf))).trans e
      · exact hR v2 g2 tk2 pv2 fun b o x y z => kp2 b o x y ((Heap.get?_update_other _ _ (Ne.symm y)).trans (kp b o x z))
    | false =>
      simp only [Bool.false_eq_true, if_false]
      refine wpAny_bind (wpAny_letGo ?_)
      rw [nm_max]
      refine wpAny_pure ⟨plainId_quiet F.plain_max_loop _, max_on W bt cm B nf k (j + 1) _ u c (by omega) more st2 (by simp only [argBest, hb, Bool.false_eq_true, if_false]; exact pb) hB1 fun v2 g2 tk2 pv2 kp2 => ?_⟩
      exact hR v2 g2 tk2 pv2 fun b o x y z => kp2 b o x y (kp b o x z)
theorem max_first (W : Walks prog w A.in1 I fp wr n P St) (bt : Nat → Nat → Bool) (cm : CmpOf prog w A.in1 .Gt P bt) (B : Addr) (nf : B ∉ fp) (pos : 0 < n) {s : Shared} {c : Nat} (st : St 0 s.heap)
    (hB : s.heap.get? B = some { cls := .type "list", dict := none, data := .seq #[] c, slots := #[] })
    (hR : ∀ v g tk, P (argBest bt (n - 1)) v → (∀ b o, b ∉ wr → b ≠ B → s.heap.get? b = some o → g.get? b = some o) → R (.ok (.ret v)) { s with heap := g, toks := tk }) : codeAny (model prog w) A (.builtin "max.loop" ⟨[.ref I, .none, .ref B], kw⟩) R s := by
  have nw : B ∉ wr := fun z => nf (W.sub _ z)
  refine codeAny_builtin F.entry_max_loop ?_
  rw [Around.under_plainId F.plain_max_loop _]
  show wpAny _ A.in1 (seqItems? (.ref B) >>= _) _ _ s
  refine wpAny_bind (wpAny_seqItems hB rfl ?_)
  show wpAny _ A.in1 (tryCatch (pyNext (.ref I)) _ >>= _) _ _ s
  refine wpAny_bind (wpAny_tryCatch (W.item 0 s _ _ pos st fun v g tk pv st2 kp => ?_))
  have hB1 := kp B _ nw hB
  show wpAny _ A.in1 (updateSeq B (fun _ => #[v, v]) >>= _) _ _ _
  refine wpAny_bind (wpAny_updateSeq hB1 rfl ?_)
  rw [nm_max]
  refine wpAny_pure ⟨plainId_quiet F.plain_max_loop _, max_on W bt cm B nf _ 0 _ v _ rfl pos (W.frame _ _ _ st2 fun b hbf o e => ?_) pv (Heap.get?_update_self _ hB1 rfl) fun v2 g2 tk2 pv2 kp2 => ?_⟩
  · exact (Heap.get?_update_other _ _ (fun z : B = b => nf (by rw [z]; exact hbf))).trans e
  · exact hR v2 g2 tk2 pv2 fun b o x y z => kp2 b o x y ((Heap.get?_update_other _ _ (Ne.symm y)).trans (kp b o x z))
/-- nothing there: the default -/
theorem max_none {d : Value} {nm : Str} (W : Walks prog w A.in1 I fp wr 0 P St) (B : Addr) (nf : B ∉ fp) {s : Shared} {c : Nat} (st : St 0 s.heap)
    (hB : s.heap.get? B = some { cls := .type "list", dict := none, data := .seq #[] c, slots := #[] })
    (hR : ∀ g tk, (∀ b o, b ∉ wr → s.heap.get? b = some o → g.get? b = some o) → R (.ok (.ret d)) { s with heap := g, toks := tk }) : codeAny (model prog w) A (.builtin "max.loop" ⟨[.ref I, .none, .ref B], [(nm, d)]⟩) R s := by
  refine codeAny_builtin F.entry_max_loop ?_
  rw [Around.under_plainId F.plain_max_loop _]
  show wpAny _ A.in1 (seqItems? (.ref B) >>= _) _ _ s
  refine wpAny_bind (wpAny_seqItems hB rfl ?_)
  show wpAny _ A.in1 (tryCatch (pyNext (.ref I)) _ >>= _) _ _ s
  refine wpAny_bind (wpAny_tryCatch (W.done s _ _ st fun g tk kp => ?_))
  refine wpAny_bind (wpAny_rule (wpAny_pure ?_))
  exact hR g tk kp
end
theorem args_maxD (a d : Value) : argsOk "max" ⟨[a], [(Str.ofString "default", d)]⟩ := by unfold argsOk; kernel_rfl
section
variable {prog : Program} {w : World} {A : Around} {E : Value → Shared → Prop} {s : Shared} {l : Addr}
theorem max_list {d : Value} {its : List Value} {ns : List Int} {Q : Value → Shared → Prop} (hh : A.handled = none) (hl : s.heap.IsList l its.toArray) (hi : IntsAre its ns)
    (h0 : ns = [] → ∀ g tk, (∀ b o, s.heap.get? b = some o → g.get? b = some o) → Q d { s with heap := g, toks := tk })
    (h1 : ∀ g tk m t', (∀ b o, s.heap.get? b = some o → g.get? b = some o) → m ∈ ns → (∀ a, a ∈ ns → a ≤ m) → Q (.int m t') { s with heap := g, toks := tk }) :
    wpAny (model prog w) A (call (.builtin "max") [.ref l] [(Str.ofString "default", d)]) Q E s := by
  obtain ⟨xs, e⟩ := hi.allInts.items
  have hn : numsOf (intItems xs).toList = ns := by rw [← e]; exact hi.numsOf
  rw [nums_intItems] at hn
  subst hn
  rw [e] at hl
  refine tree_kw F.kind_max F.plain_max F.entry_max (args_maxD _ _) ?_
  show wpAny _ A.in1 (Builtin.Builtins.bindParams "max" ["key", "default"] 0 ⟨[], [(Str.ofString "default", d)]⟩ >>= _) _ _ s
  refine wpAny_bind (wpAny_of_eq (show Builtin.Builtins.bindParams "max" ["key", "default"] 0 ⟨[], [(Str.ofString "default", d)]⟩ = pure [none, some d] from by kernel_rfl) ?_)
  refine wpAny_bind (wpAny_pure ?_)
  refine wpAny_bind (iter_intList hl fun s2 e2 st hfp hlI => ?_)
  subst e2
  refine wpAny_bind (wpAny_newObj_type ?_)
  have W := Walks.list (prog := prog) (w := w) (A := A.in1) hh s.heap.objs.size l hlI (intItems xs)
  have nf : (s.heap.push { cls := .type "list_iterator", data := .fields #[.ref l, .int 0 0] }).objs.size ∉ [s.heap.objs.size, l] := fun hm => Nat.lt_irrefl _ (hfp _ hm)
  rw [nm_max]
  by_cases z : 0 < xs.size
  · refine wpAny_pure ⟨plainId_quiet F.plain_max_loop _, max_first W _ (CmpOf.ints_gt (numAt xs) (fun _ _ => intItems_at)) _ nf (by simpa [intItems] using z) (W.frame _ _ _ st fun b _ o e => Heap.get?_push_of_some _ e) (Heap.get?_push_size _ rfl) fun v g tk pv kp => ?_⟩
    have hv : (intItems xs)[argBest (fun i j => decide (numAt xs i > numAt xs j)) (xs.size - 1)]? = some v := by simpa [intItems] using pv
    obtain ⟨t, rfl⟩ := intItems_at hv
    obtain ⟨b1, b2⟩ := argBest_gt (numAt xs) (xs.size - 1)
    refine h1 g tk _ t (old_kept fun b o x y => kp b o x (Nat.ne_of_lt (Heap.lt_size y)) (Heap.get?_push_of_some _ y)) ?_ fun a ha => ?_
    · rw [numAt_eq]
      exact PySem.getD_mem (by rw [List.length_map, Array.length_toList]; omega)
    · obtain ⟨j, hj, rfl⟩ := mem_getD ha
      rw [List.length_map, Array.length_toList] at hj
      rw [← numAt_eq]
      exact b2 j (by omega)
  · have z0 : xs.size = 0 := by omega
    have zz : (intItems xs).size = 0 := by simpa [intItems] using z0
    rw [zz] at W
    refine wpAny_pure ⟨plainId_quiet F.plain_max_loop _, max_none W _ nf (W.frame _ _ _ st fun b _ o e => Heap.get?_push_of_some _ e) (Heap.get?_push_size _ rfl) fun g tk kp => ?_⟩
    refine h0 ?_ g tk (old_kept fun b o x y => kp b o x (Heap.get?_push_of_some _ y))
    have : xs = #[] := Array.eq_empty_of_size_eq_zero z0
    rw [this]
    rfl
end
def rMaxD (K : PySem.W.Frag) : List V → List V → Hp → VK → Prop := fun vs zs H Q => ∃ (a : Addr) (ns : List Int) (d : V), vs = [V.ref a] ∧ zs = [d] ∧ SqL K H a (ns.map V.int) ∧ (ns = [] → Q d H) ∧ ∀ m, m ∈ ns → (∀ a, a ∈ ns → a ≤ m) → Q (.int m) H
theorem cr_maxD {X : Cx} (hc : X.calm = true) : CallRK X (.builtin "max") [Str.ofString "default"] (rMaxD X.K) := by
  intro pins s σ H vs zs us ws Q I r rz h
  obtain ⟨a, ns, d, rfl, rfl, hs, q0, q1⟩ := h
  obtain rfl := Vals.ref1 r
  obtain ⟨w1, rfl, e1⟩ := vals1 rz
  obtain ⟨its, rv, hl, _⟩ := I.list hs
  exact max_list (I.ok.hd hc) hl.isList rv.ints (fun z g tk kp => ⟨d, H, I.kept kp, e1, q0 z⟩) fun g tk m t' kp m1 m2 => ⟨.int _, H, I.kept kp, ⟨_, rfl⟩, q1 m m1 m2⟩
section
variable {prog : Program} {w : World} {A : Around} {R : Result → Shared → Prop} {I : Addr} {fp wr : List Addr} {n : Nat} {P : Nat → Value → Prop} {St : Nat → Heap → Prop} {kw : List (Str × Value)}
theorem nm_min : (toString "min" ++ toString ".loop" : String) = "min.loop" := by decide
/-- the loop with one best so far, whatever the keywords -/
theorem min_on (W : Walks prog w A.in1 I fp wr n P St) (bt : Nat → Nat → Bool) (cm : CmpOf prog w A.in1 .Lt P bt) (B : Addr) (nf : B ∉ fp) : ∀ (k j : Nat) (s : Shared) (u : Value) (c : Nat), n - (j + 1) = k → j + 1 ≤ n → St (j + 1) s.heap → P (argBest bt j) u →
    s.heap.get? B = some { cls := .type "list", dict := none, data := .seq #[u, u] c, slots := #[] } →
    (∀ v g tk, P (argBest bt (n - 1)) v → (∀ b o, b ∉ wr → b ≠ B → s.heap.get? b = some o → g.get? b = some o) → R (.ok (.ret v)) { s with heap := g, toks := tk }) →
    codeAny (model prog w) A (.builtin "min.loop" ⟨[.ref I, .none, .ref B], kw⟩) R s
  | 0, j, s, u, c, hk, hj, st, pb, hB, hR => by
    have nw : B ∉ wr := fun z => nf (W.sub _ z)
    have last : j + 1 = n := by omega
    refine codeAny_builtin F.entry_min_loop ?_
    rw [Around.under_plainId F.plain_min_loop _]
    show wpAny _ A.in1 (seqItems? (.ref B) >>= _) _ _ s
    refine wpAny_bind (wpAny_seqItems hB rfl ?_)
    show wpAny _ A.in1 (tryCatch (pyNext (.ref I)) _ >>= _) _ _ s
    refine wpAny_bind (wpAny_tryCatch (W.done s _ _ (last ▸ st) fun g tk kp => ?_))
    have hB1 := kp B _ nw hB
    show wpAny _ A.in1 (updateSeq B (fun _ => #[]) >>= _) _ _ _
    refine wpAny_bind (wpAny_updateSeq hB1 rfl (wpAny_bind (wpAny_letGo (wpAny_pure ?_))))
    exact hR u _ tk (by rw [← last]; exact pb) fun b o x y z => (Heap.get?_update_other _ _ (Ne.symm y)).trans (kp b o x z)
  | k + 1, j, s, u, c, hk, hj, st, pb, hB, hR => by
    have nw : B ∉ wr := fun z => nf (W.sub _ z)
    have more : j + 1 < n := by omega
    refine codeAny_builtin F.entry_min_loop ?_
    rw [Around.under_plainId F.plain_min_loop _]
    show wpAny _ A.in1 (seqItems? (.ref B) >>= _) _ _ s
    refine wpAny_bind (wpAny_seqItems hB rfl ?_)
    show wpAny _ A.in1 (tryCatch (pyNext (.ref I)) _ >>= _) _ _ s
    refine wpAny_bind (wpAny_tryCatch (W.item (j + 1) s _ _ more st fun v g tk pv st2 kp => ?_))
    have hB1 := kp B _ nw hB
    show wpAny _ A.in1 (tryCatch (holding [v, v] (richCompare .Lt v u >>= _)) _ >>= _) _ _ _
    refine wpAny_bind (wpAny_tryCatch (wpAny_holding (wpAny_bind (cm (j + 1) (argBest bt j) v u _ _ _ pv pb ?_))))
    refine wpAny_bind (wpAny_holding (wpAny_truthy_bool (wpAny_bind (wpAny_letGo (wpAny_pure ?_)))))
    cases hb : bt (j + 1) (argBest bt j) with
    | true =>
      simp only [if_true]
      refine wpAny_bind (wpAny_updateSeq hB1 rfl (wpAny_bind (wpAny_letGo ?_)))
      rw [nm_min]
      refine wpAny_pure ⟨plainId_quiet F.plain_min_loop _, min_on W bt cm B nf k (j + 1) _ v _ (by omega) more (W.frame _ _ _ st2 fun b hbf o e => ?_) (by simp only [argBest, hb, if_true]; exact pv) (Heap.get?_update_self _ hB1 rfl) fun v2 g2 tk2 pv2 kp2 => ?_⟩
      · exact (Heap.get?_update_other _ _ (fun z : B = b => nf (by rw [z]; exact hbf))).trans e
      · exact hR v2 g2 tk2 pv2 fun b o x y z => kp2 b o x y ((Heap.get?_update_other _ _ (Ne.symm y)).trans (kp b o x z))
    | false =>
      simp only [Bool.false_eq_true, if_false]
      refine wpAny_bind (wpAny_letGo ?_)
      rw [nm_min]
      refine wpAny_pure ⟨plainId_quiet F.plain_min_loop _, min_on W bt cm B nf k (j + 1) _ u c (by omega) more st2 (by simp only [argBest, hb, Bool.false_eq_true, if_false]; exact pb) hB1 fun v2 g2 tk2 pv2 kp2 => ?_⟩
      exact hR v2 g2 tk2 pv2 fun b o x y z => kp2 b o x y (kp b o x z)
theorem min_first (W : Walks prog w A.in1 I fp wr n P St) (bt : Nat → Nat → Bool) (cm : CmpOf prog w A.in1 .Lt P bt) (B : Addr) (nf : B ∉ fp) (pos : 0 < n) {s : Shared} {c : Nat} (st : St 0 s.heap)
    (hB : s.heap.get? B = some { cls := .type "list", dict := none, data := .seq #[] c, slots := #[] })
    (hR : ∀ v g tk, P (argBest bt (n - 1)) v → (∀ b o, b ∉ wr → b ≠ B → s.heap.get? b = some o → g.get? b = some o) → R (.ok (.ret v)) { s with heap := g, toks := tk }) : codeAny (model prog w) A (.builtin "min.loop" ⟨[.ref I, .none, .ref B], kw⟩) R s := by
  have nw : B ∉ wr := fun z => nf (W.sub _ z)
  refine codeAny_builtin F.entry_min_loop ?_
  rw [Around.under_plainId F.plain_min_loop _]
  show wpAny _ A.in1 (seqItems? (.ref B) >>= _) _ _ s
  refine wpAny_bind (wpAny_seqItems hB rfl ?_)
  show wpAny _ A.in1 (tryCatch (pyNext (.ref I)) _ >>= _) _ _ s
  refine wpAny_bind (wpAny_tryCatch (W.item 0 s _ _ pos st fun v g tk pv st2 kp => ?_))
  have hB1 := kp B _ nw hB
  show wpAny _ A.in1 (updateSeq B (fun _ => #[v, v]) >>= _) _ _ _
  refine wpAny_bind (wpAny_updateSeq hB1 rfl ?_)
  rw [nm_min]
  refine wpAny_pure ⟨plainId_quiet F.plain_min_loop _, min_on W bt cm B nf _ 0 _ v _ rfl pos (W.frame _ _ _ st2 fun b hbf o e => ?_) pv (Heap.get?_update_self _ hB1 rfl) fun v2 g2 tk2 pv2 kp2 => ?_⟩
  · exact (Heap.get?_update_other _ _ (fun z : B = b => nf (by rw [z]; exact hbf))).trans e
  · exact hR v2 g2 tk2 pv2 fun b o x y z => kp2 b o x y ((Heap.get?_update_other _ _ (Ne.symm y)).trans (kp b o x z))
/-- nothing there: the default -/
theorem min_none {d : Value} {nm : Str} (W : Walks prog w A.in1 I fp wr 0 P St) (B : Addr) (nf : B ∉ fp) {s : Shared} {c : Nat} (st : St 0 s.heap)
    (hB : s.heap.get? B = some { cls := .type "list", dict := none, data := .seq #[] c, slots := #[] })
    (hR : ∀ g tk, (∀ b o, b ∉ wr → s.heap.get? b = some o → g.get? b = some o) → R (.ok (.ret d)) { s with heap := g, toks := tk }) : codeAny (model prog w) A (.builtin "min.loop" ⟨[.ref I, .none, .ref B], [(nm, d)]⟩) R s := by
  refine codeAny_builtin F.entry_min_loop ?_
  rw [Around.under_plainId F.plain_min_loop _]
  show wpAny _ A.in1 (seqItems? (.ref B) >>= _) _ _ s
  refine wpAny_bind (wpAny_seqItems hB rfl ?_)
  show wpAny _ A.in1 (tryCatch (pyNext (.ref I)) _ >>= _) _ _ s
  refine wpAny_bind (wpAny_tryCatch (W.done s _ _ st fun g tk kp => ?_))
  refine wpAny_bind (wpAny_rule (wpAny_pure ?_))
  exact hR g tk kp
end
theorem args_minD (a d : Value) : argsOk "min" ⟨[a], [(Str.ofString "default", d)]⟩ := by unfold argsOk; kernel_rfl
section
variable {prog : Program} {w : World} {A : Around} {E : Value → Shared → Prop} {s : Shared} {l : Addr}
theorem min_list {d : Value} {its : List Value} {ns : List Int} {Q : Value → Shared → Prop} (hh : A.handled = none) (hl : s.heap.IsList l its.toArray) (hi : IntsAre its ns)
    (h0 : ns = [] → ∀ g tk, (∀ b o, s.heap.get? b = some o → g.get? b = some o) → Q d { s with heap := g, toks := tk })
    (h1 : ∀ g tk m t', (∀ b o, s.heap.get? b = some o → g.get? b = some o) → m ∈ ns → (∀ a, a ∈ ns → m ≤ a) → Q (.int m t') { s with heap := g, toks := tk }) :
    wpAny (model prog w) A (call (.builtin "min") [.ref l] [(Str.ofString "default", d)]) Q E s := by
  obtain ⟨xs, e⟩ := hi.allInts.items
  have hn : numsOf (intItems xs).toList = ns := by rw [← e]; exact hi.numsOf
  rw [nums_intItems] at hn
  subst hn
  rw [e] at hl
  refine tree_kw F.kind_min F.plain_min F.entry_min (args_minD _ _) ?_
  show wpAny _ A.in1 (Builtin.Builtins.bindParams "min" ["key", "default"] 0 ⟨[], [(Str.ofString "default", d)]⟩ >>= _) _ _ s
  refine wpAny_bind (wpAny_of_eq (show Builtin.Builtins.bindParams "min" ["key", "default"] 0 ⟨[], [(Str.ofString "default", d)]⟩ = pure [none, some d] from by kernel_rfl) ?_)
  refine wpAny_bind (wpAny_pure ?_)
  refine wpAny_bind (iter_intList hl fun s2 e2 st hfp hlI => ?_)
  subst e2
  refine wpAny_bind (wpAny_newObj_type ?_)
  have W := Walks.list (prog := prog) (w := w) (A := A.in1) hh s.heap.objs.size l hlI (intItems xs)
  have nf : (s.heap.push { cls := .type "list_iterator", data := .fields #[.ref l, .int 0 0] }).objs.size ∉ [s.heap.objs.size, l] := fun hm => Nat.lt_irrefl _ (hfp _ hm)
  rw [nm_min]
  by_cases z : 0 < xs.size
  · refine wpAny_pure ⟨plainId_quiet F.plain_min_loop _, min_first W _ (CmpOf.ints_lt (numAt xs) (fun _ _ => intItems_at)) _ nf (by simpa [intItems] using z) (W.frame _ _ _ st fun b _ o e => Heap.get?_push_of_some _ e) (Heap.get?_push_size _ rfl) fun v g tk pv kp => ?_⟩
    have hv : (intItems xs)[argBest (fun i j => decide (numAt xs i < numAt xs j)) (xs.size - 1)]? = some v := by simpa [intItems] using pv
    obtain ⟨t, rfl⟩ := intItems_at hv
    obtain ⟨b1, b2⟩ := argBest_lt (numAt xs) (xs.size - 1)
    refine h1 g tk _ t (old_kept fun b o x y => kp b o x (Nat.ne_of_lt (Heap.lt_size y)) (Heap.get?_push_of_some _ y)) ?_ fun a ha => ?_
    · rw [numAt_eq]
      exact PySem.getD_mem (by rw [List.length_map, Array.length_toList]; omega)
    · obtain ⟨j, hj, rfl⟩ := mem_getD ha
      rw [List.length_map, Array.length_toList] at hj
      rw [← numAt_eq]
      exact b2 j (by omega)
  · have z0 : xs.size = 0 := by omega
    have zz : (intItems xs).size = 0 := by simpa [intItems] using z0
    rw [zz] at W
    refine wpAny_pure ⟨plainId_quiet F.plain_min_loop _, min_none W _ nf (W.frame _ _ _ st fun b _ o e => Heap.get?_push_of_some _ e) (Heap.get?_push_size _ rfl) fun g tk kp => ?_⟩
    refine h0 ?_ g tk (old_kept fun b o x y => kp b o x (Heap.get?_push_of_some _ y))
    have : xs = #[] := Array.eq_empty_of_size_eq_zero z0
    rw [this]
    rfl
end
def rMinD (K : PySem.W.Frag) : List V → List V → Hp → VK → Prop := fun vs zs H Q => ∃ (a : Addr) (ns : List Int) (d : V), vs = [V.ref a] ∧ zs = [d] ∧ SqL K H a (ns.map V.int) ∧ (ns = [] → Q d H) ∧ ∀ m, m ∈ ns → (∀ a, a ∈ ns → m ≤ a) → Q (.int m) H
theorem cr_minD {X : Cx} (hc : X.calm = true) : CallRK X (.builtin "min") [Str.ofString "default"] (rMinD X.K) := by
  intro pins s σ H vs zs us ws Q I r rz h
  obtain ⟨a, ns, d, rfl, rfl, hs, q0, q1⟩ := h
  obtain rfl := Vals.ref1 r
  obtain ⟨w1, rfl, e1⟩ := vals1 rz
  obtain ⟨its, rv, hl, _⟩ := I.list hs
  exact min_list (I.ok.hd hc) hl.isList rv.ints (fun z g tk kp => ⟨d, H, I.kept kp, e1, q0 z⟩) fun g tk m t' kp m1 m2 => ⟨.int _, H, I.kept kp, ⟨_, rfl⟩, q1 m m1 m2⟩
end MxD

set_option Elab.async false
set_option linter.all false
set_option maxHeartbeats 4000000
/-! xs[i] op= e, xs a list, i from 0 on -/
namespace AuL
open PySem PySem.Spec PyProof.Rows L2
def rGetL (K : PySem.W.Frag) : V → V → Hp → VK → Prop := fun o i H Q => ∃ (p : Addr) (xs : List V) (k : Int) (j : Nat) (z : V), o = .ref p ∧ i = .int k ∧ SqL K H p xs ∧ k = (j : Int) ∧ xs[j]? = some z ∧ Q z H
theorem get_list {X : Cx} : PGet X (rGetL X.K) := by
  intro pins s σ H o i ov iv Q I r1 r2 h
  obtain ⟨p, xs, k, j, z, rfl, rfl, hs, rfl, hz, q⟩ := h
  cases r1
  obtain ⟨t, rfl⟩ := r2
  obtain ⟨its, rv, pl, sz⟩ := I.list hs
  obtain ⟨u, hu, ru⟩ := rv.get hz
  have jl : j < xs.length := (List.getElem?_eq_some_iff.mp hz).1
  have l63 := line63
  exact wpAny_getItem_list pl.isList (by omega) (by omega) (by simpa using hu) ⟨z, H, I, ru, q⟩
end AuL

set_option Elab.async false
set_option linter.all false
set_option maxRecDepth 100000
set_option maxHeartbeats 4000000
namespace K39
open PySem PySem.Spec PyProof.Rows L2 Cm K01 K02 K35
def topS (i : Nat) : Stmt := PySem.Challenge.pw_commonhouse_k39_by_primes.main.body.getD i (.Pass ⟨0, 0, 0, 0⟩)
abbrev s_power : Stmt := topS 1
abbrev N_power : List Str := ["base", "many", "found", "again"]
theorem sc_power : FnScope N_power ["base", "many"] (defScope s_power) := ⟨rfl, rfl, rfl, by decide +kernel, rfl, by decide +kernel, by decide +kernel⟩
abbrev s_primes_of : Stmt := topS 3
abbrev N_primes_of : List Str := ["n", "found", "prime", "often"]
theorem sc_primes_of : FnScope N_primes_of ["n"] (defScope s_primes_of) := ⟨rfl, rfl, rfl, by decide +kernel, rfl, by decide +kernel, by decide +kernel⟩
abbrev s_by_primes : Stmt := topS 5
abbrev N_by_primes : List Str := ["house", "found", "limit", "prime", "often"]
theorem sc_by_primes : FnScope N_by_primes ["house"] (defScope s_by_primes) := ⟨rfl, rfl, rfl, by decide +kernel, rfl, by decide +kernel, by decide +kernel⟩
abbrev s_from_primes : Stmt := topS 6
abbrev N_from_primes : List Str := ["told", "many", "limits", "prime", "powers", "place", "often"]
theorem sc_from_primes : FnScope N_from_primes ["told"] (defScope s_from_primes) := ⟨rfl, rfl, rfl, by decide +kernel, rfl, by decide +kernel, by decide +kernel⟩
abbrev s_law_pen : Stmt := topS 8
abbrev N_law_pen : List Str := ["_law_script"]
theorem sc_law_pen : FnScope N_law_pen ["_law_script"] (defScope s_law_pen) := ⟨rfl, rfl, rfl, by decide +kernel, rfl, by decide +kernel, by decide +kernel⟩
abbrev s_law_draw : Stmt := topS 9
abbrev N_law_draw : List Str := ["_law_pen_here", "_law_many", "_law_drawn", "_law_at", "_law_cell", "_law_number"]
theorem sc_law_draw : FnScope N_law_draw ["_law_pen_here", "_law_many"] (defScope s_law_draw) := ⟨rfl, rfl, rfl, by decide +kernel, rfl, by decide +kernel, by decide +kernel⟩
abbrev s_law_round : Stmt := topS 10
abbrev N_law_round : List Str := ["_law_pen_here", "_law_way"]
theorem sc_law_round : FnScope N_law_round ["_law_pen_here"] (defScope s_law_round) := ⟨rfl, rfl, rfl, by decide +kernel, rfl, by decide +kernel, by decide +kernel⟩
abbrev s_law_house : Stmt := topS 11
abbrev N_law_house : List Str := ["_law_pen_here", "_law_k"]
theorem sc_law_house : FnScope N_law_house ["_law_pen_here"] (defScope s_law_house) := ⟨rfl, rfl, rfl, by decide +kernel, rfl, by decide +kernel, by decide +kernel⟩
abbrev s_law_thing : Stmt := topS 12
abbrev N_law_thing : List Str := ["_law_pen_here", "_law_house_here", "_law_found", "_law_one", "_law_way", "_law_number"]
theorem sc_law_thing : FnScope N_law_thing ["_law_pen_here", "_law_house_here"] (defScope s_law_thing) := ⟨rfl, rfl, rfl, by decide +kernel, rfl, by decide +kernel, by decide +kernel⟩
abbrev s_law_factors : Stmt := topS 13
abbrev N_law_factors : List Str := ["_law_n", "_law_found", "_law_by", "_law_often"]
theorem sc_law_factors : FnScope N_law_factors ["_law_n"] (defScope s_law_factors) := ⟨rfl, rfl, rfl, by decide +kernel, rfl, by decide +kernel, by decide +kernel⟩
abbrev s_law_by_primes : Stmt := topS 14
abbrev N_law_by_primes : List Str := ["_law_house_here", "_law_found", "_law_one", "_law_by", "_law_often"]
theorem sc_law_by_primes : FnScope N_law_by_primes ["_law_house_here"] (defScope s_law_by_primes) := ⟨rfl, rfl, rfl, by decide +kernel, rfl, by decide +kernel, by decide +kernel⟩
abbrev s_law_form : Stmt := topS 15
abbrev N_law_form : List Str := ["_law_told", "_law_rounds", "_law_by", "_law_powers", "_law_place", "_law_often", "_law_lap"]
theorem sc_law_form : FnScope N_law_form ["_law_told"] (defScope s_law_form) := ⟨rfl, rfl, rfl, by decide +kernel, rfl, by decide +kernel, by decide +kernel⟩
abbrev s_law_mixed : Stmt := topS 16
abbrev N_law_mixed : List Str := ["_law_pen_here", "_law_house_here", "_law_left", "_law_found", "_law_one", "_law_own", "_law_part", "_law_by", "_law_often", "_law_lap"]
theorem sc_law_mixed : FnScope N_law_mixed ["_law_pen_here", "_law_house_here"] (defScope s_law_mixed) := ⟨rfl, rfl, rfl, by decide +kernel, rfl, by decide +kernel, by decide +kernel⟩
abbrev s_law : Stmt := topS 17
abbrev N_law : List Str := ["_law_script", "_law_pen_here", "_law_lap", "_law_house_here", "_law_due", "_law_told"]
theorem sc_law : FnScope N_law ["_law_script"] (defScope s_law) := ⟨rfl, rfl, rfl, by decide +kernel, rfl, by decide +kernel, by decide +kernel⟩
structure Txt (K : PySem.W.Frag) (mg : Str → Option Value) : Prop where
  d_power : Df K mg "power" s_power ["base", "many"]
  d_primes_of : Df K mg "primes_of" s_primes_of ["n"]
  d_by_primes : Df K mg "by_primes" s_by_primes ["house"]
  d_from_primes : Df K mg "from_primes" s_from_primes ["told"]
  d_law_pen : Df K mg "_law_pen" s_law_pen ["_law_script"]
  d_law_draw : Df K mg "_law_draw" s_law_draw ["_law_pen_here", "_law_many"]
  d_law_round : Df K mg "_law_round" s_law_round ["_law_pen_here"]
  d_law_house : Df K mg "_law_house" s_law_house ["_law_pen_here"]
  d_law_thing : Df K mg "_law_thing" s_law_thing ["_law_pen_here", "_law_house_here"]
  d_law_factors : Df K mg "_law_factors" s_law_factors ["_law_n"]
  d_law_by_primes : Df K mg "_law_by_primes" s_law_by_primes ["_law_house_here"]
  d_law_form : Df K mg "_law_form" s_law_form ["_law_told"]
  d_law_mixed : Df K mg "_law_mixed" s_law_mixed ["_law_pen_here", "_law_house_here"]
  d_law : Df K mg "law" s_law ["_law_script"]
  n_abs : mg "abs" = none
  n_enumerate : mg "enumerate" = none
  n_int : mg "int" = none
  n_isinstance : mg "isinstance" = none
  n_len : mg "len" = none
  n_list : mg "list" = none
  n_max : mg "max" = none
  n_range : mg "range" = none
  n_repr : mg "repr" = none
  n_sorted : mg "sorted" = none
  n_tuple : mg "tuple" = none
section
variable {P : Program} {w : World} {K : PySem.W.Frag} {mg : Str → Option Value} {base : Heap}
/-! ### the pen -/
theorem merge_pen (a : Addr) : mergeK [] (penD a 0 0) = penD a 0 0 := by
  show putK (putK (putK [] (Sum.inr ("cells" : Str) : Key) (.ref a)) (Sum.inr ("at" : Str)) (.int 0)) (Sum.inr ("left" : Str)) (.int 0) = _
  have e1 : putK ([] : List (Key × V)) (Sum.inr ("cells" : Str) : Key) (.ref a) = [(Sum.inr ("cells" : Str), .ref a)] := putK_new _ rfl
  have e2 : putK [((Sum.inr ("cells" : Str) : Key), V.ref a)] (Sum.inr ("at" : Str) : Key) (.int 0) = [(Sum.inr ("cells" : Str), .ref a), (Sum.inr ("at" : Str), .int 0)] := putK_new _ ((valV_neg kca).trans rfl)
  have e3 : putK [((Sum.inr ("cells" : Str) : Key), V.ref a), (Sum.inr ("at" : Str), .int 0)] (Sum.inr ("left" : Str) : Key) (.int 0) = penD a 0 0 := putK_new _ ((valV_neg kcl).trans ((valV_neg kal).trans rfl))
  rw [e1, e2, e3]
def rPen (K : PySem.W.Frag) : V → Hp → VK → Prop := fun x H Q => ∃ (a : Addr) (ns : List Int), x = .ref a ∧ SqL K H a (ns.map V.int) ∧ ∀ d H', H d = none → Same H H' → Pen K H' d a ns 0 → Q (.ref d) H'
theorem ok_law_pen (T : Txt K mg) : Fn P w K mg base 1 "_law_pen" ["_law_script"] (sp1 (rPen K)) := by
  refine T.d_law_pen.ok sc_law_pen len1 fun f cdv A outer s H vs Q E hr hg h => ?_
  obtain ⟨_, rfl, a, ns, rfl, hS, q⟩ := h
  refine ⟨_, (pss_one (ps_ret (pe_disp (pps_cons pe_str (pv 0) (pps_cons pe_str pe_int (pps_cons pe_str pe_int pps_nil))) (by rfl) (by rfl) (fun z => by cases z) (by decide)))), ?_⟩
  intro d hd
  refine ⟨_, rfl, upd_same, penD a 0 0, rfl, (by show 3 ≤ 15; decide), ?_⟩
  rw [merge_pen]
  have e : upd (upd H d (.dK [])) d (.dK (penD a 0 0)) = upd H d (.dK (penD a 0 0)) := upd_upd
  rw [e]
  exact q d _ hd (same_new hd) ⟨(same_new hd).seq hS, 0, 0, upd_same, by decide, by decide, by decide⟩
theorem p629 : (0 : Int) < 2147483629 := by decide
theorem p587 : (0 : Int) < 2147483587 := by decide
theorem p563 : (0 : Int) < 2147483563 := by decide
theorem ok_law_draw (T : Txt K mg) : Fn P w K mg base 1 "_law_draw" ["_law_pen_here", "_law_many"] (sp2 (rDraw K)) := by
  refine T.d_law_draw.ok sc_law_draw len2 fun f cdv A outer s H vs Q E hr hg h => ?_
  obtain ⟨_, _, rfl, d, a, ns, c, many, rfl, rfl, ⟨hS, n, m, hd, n0, n1, m0⟩, p0, p1, hc, q⟩ := h
  have hu := hu_of hr
  refine ⟨_, (pss_cons (ps_if (pt_cmpR op_gt (pe_dget hu (pv 0) pe_str (fun _ _ => rfl)) pe_int (nomark _))
(pss_cons (ps_set (i := 2) sc_law_draw.nd rfl (by first | exact Or.inl rfl | exact Or.inr rfl) (pe_op op_mod (pe_dget hu (pv 0) pe_str (fun _ _ => rfl)) (pv 1)))
(pss_cons (ps_dput hu (pv 0) pe_str (pe_op op_fdiv (pe_dget hu (pv 0) pe_str (fun _ _ => rfl)) (pv 1)) rfl)
(pss_one (ps_ret (pv 2)))))
pss_nil)
(pss_cons (ps_set (i := 3) sc_law_draw.nd rfl (by first | exact Or.inl rfl | exact Or.inr rfl) (pe_dget hu (pv 0) pe_str (fun _ _ => rfl)))
(pss_cons (ps_dput hu (pv 0) pe_str (pe_op op_add (pv 3) pe_int) rfl)
(pss_cons (ps_set (i := 4) sc_law_draw.nd rfl (by first | exact Or.inl rfl | exact Or.inr rfl) (pe_op op_add (pe_op op_add (pe_op op_mul (pe_op op_mul pe_int (pv 3)) (pv 3)) (pe_op op_mul pe_int (pv 3))) pe_int))
(pss_cons (ps_if (pt_cmpR op_gt (pe_callB (len_K (K := K) rfl) (by rfl) T.n_len (by decide +kernel) (pa_cons (pe_dget hu (pv 0) pe_str (fun _ _ => rfl)) pa_nil)) pe_int (nomark _))
(pss_cons (ps_set (i := 4) sc_law_draw.nd rfl (by first | exact Or.inl rfl | exact Or.inr rfl) (pe_ix (ixL_K (K := K) rfl) (pe_dget hu (pv 0) pe_str (fun _ _ => rfl)) (pe_op op_mod (pv 3) (pe_callB (len_K (K := K) rfl) (by rfl) T.n_len (by decide +kernel) (pa_cons (pe_dget hu (pv 0) pe_str (fun _ _ => rfl)) pa_nil))) (fun _ _ => rfl)))
(pss_one (ps_if (PW.pt (pw_and (pt_cmpR op_lt (pv 3) (pe_callB (len_K (K := K) rfl) (by rfl) T.n_len (by decide +kernel) (pa_cons (pe_dget hu (pv 0) pe_str (fun _ _ => rfl)) pa_nil)) (nomark _)) (pw_and1 (pt_cmpR op_ge (pe_callB call_abs (by rfl) T.n_abs (by decide +kernel) (pa_cons (pv 4) pa_nil)) (pe_op op_pow pe_int pe_int) (nomark _)))))
(pss_cons (ps_dput hu (pv 0) pe_str (pe_op op_fdiv (pe_callB call_abs (by rfl) T.n_abs (by decide +kernel) (pa_cons (pv 4) pa_nil)) (pv 1)) rfl)
(pss_one (ps_ret (pe_op op_mod (pe_callB call_abs (by rfl) T.n_abs (by decide +kernel) (pa_cons (pv 4) pa_nil)) (pv 1)))))
pss_nil)))
pss_nil)
(pss_cons (ps_set (i := 5) sc_law_draw.nd rfl (by first | exact Or.inl rfl | exact Or.inr rfl) (pe_op op_mod (pe_op op_mul (pe_op op_add (pe_op op_add (pe_op op_mod (pv 4) pe_int) (pe_op op_mul pe_int (pv 3))) pe_int) pe_int) pe_int))
(pss_cons (ps_set (i := 5) sc_law_draw.nd rfl (by first | exact Or.inl rfl | exact Or.inr rfl) (pe_op op_mod (pe_op op_add (pe_op op_add (pe_op op_mul (pv 5) (pv 5)) (pe_op op_mul pe_int (pv 5))) (pv 3)) pe_int))
(pss_one (ps_ret (pe_op op_mod (pe_op op_fdiv (pv 5) pe_int) (pv 1))))))))))), ?_⟩
  refine ⟨_, rfl, d, _, rfl, dg_left hd, _, _, rfl, rfl, _, rfl, ite2 (fun e => ?_) (fun e => ?_)⟩
  · have hm : 0 < m := of_decide_eq_true e
    refine ⟨_, rfl, d, _, rfl, dg_left hd, _, rfl, _, _, rfl, rfl, p0, ?_⟩
    refine ⟨_, rfl, d, _, rfl, dg_left hd, _, rfl, _, _, rfl, rfl, ⟨p0, p1⟩, _, rfl, d, _, rfl, dp_left hd, ?_⟩
    refine ⟨_, rfl, ?_⟩
    exact q _ _ (Int.emod_nonneg _ (by omega)) (Int.emod_lt_of_pos _ p0) ⟨sq_but But.upd hd hS, n, m / many, upd_same, n0, by omega, Int.ediv_nonneg m0 (by omega)⟩ But.upd
  · -- at
    refine ⟨_, rfl, d, _, rfl, dg_at hd, ?_⟩
    refine ⟨_, rfl, _, _, rfl, rfl, _, rfl, d, _, rfl, dp_at hd, ?_⟩
    have hd1 : (upd H d (.dK (penD a (n + 1) m))) d = some (.dK (penD a (n + 1) m)) := upd_same
    have hS1 : SqL K (upd H d (.dK (penD a (n + 1) m))) a (ns.map V.int) := sq_but But.upd hd hS
    have hP1 : Pen K (upd H d (.dK (penD a (n + 1) m))) d a ns (c + 1) := ⟨hS1, n + 1, m, hd1, by omega, by omega, m0⟩
    -- cell
    refine ⟨_, rfl, _, _, rfl, rfl, .inl ⟨by decide, by decide⟩, _, rfl, _, _, rfl, rfl, .inr ⟨by omega, by omega⟩, _, rfl, _, _, rfl, rfl, .inl ⟨by decide, by decide⟩, _, _, rfl, rfl, _, _, rfl, rfl, ?_⟩
    -- the end, whatever the cell
    have fin : ∀ (cell : Int), 0 ≤ (((cell % 2147483629 + 40993 * n + 5) * 48271 % 2147483587 * ((cell % 2147483629 + 40993 * n + 5) * 48271 % 2147483587) + 69941 * ((cell % 2147483629 + 40993 * n + 5) * 48271 % 2147483587) + n) % 2147483563 / 32 % many) ∧
        (((cell % 2147483629 + 40993 * n + 5) * 48271 % 2147483587 * ((cell % 2147483629 + 40993 * n + 5) * 48271 % 2147483587) + 69941 * ((cell % 2147483629 + 40993 * n + 5) * 48271 % 2147483587) + n) % 2147483563 / 32 % many) < many := fun cell =>
      ⟨Int.emod_nonneg _ (by omega), Int.emod_lt_of_pos _ p0⟩
    refine ⟨_, rfl, d, _, rfl, dg_cells hd1, a, _, rfl, .inl hS1, _, _, rfl, rfl, _, rfl, ite2 (fun e1 => ?_) (fun e1 => ?_)⟩
    · have hl : (0 : Int) < ((ns.map V.int).length : Int) := of_decide_eq_true e1
      obtain ⟨z, hz⟩ := cell_at (ns := ns) (i := n % ((ns.map V.int).length : Int)) (Int.emod_nonneg _ (by omega)) (Int.emod_lt_of_pos _ hl)
      refine ⟨_, rfl, d, _, rfl, dg_cells hd1, _, rfl, _, rfl, d, _, rfl, dg_cells hd1, a, _, rfl, .inl hS1, _, _, rfl, rfl, hl, a, _, _, _, rfl, rfl, hS1, hz, ?_⟩
      refine ⟨_, rfl, _, rfl, d, _, rfl, dg_cells hd1, a, _, rfl, .inl hS1, _, _, rfl, rfl, _, rfl, ite2 (fun e2 => ?_) (fun e2 => ?_)⟩
      · refine ⟨_, rfl, _, rfl, 10, 18, rfl, rfl, ⟨by decide, by decide, by decide⟩, _, _, rfl, rfl, _, rfl, ite2 (fun e3 => ?_) (fun e3 => ?_)⟩
        · refine ⟨_, rfl, _, rfl, _, rfl, _, _, rfl, rfl, ⟨p0, p1⟩, _, rfl, d, _, rfl, dp_left hd1, ?_⟩
          refine ⟨_, rfl, _, rfl, _, rfl, _, _, rfl, rfl, p0, ?_⟩
          rw [abs_eq]
          refine q _ _ (Int.emod_nonneg _ (by omega)) (Int.emod_lt_of_pos _ p0) ⟨sq_but But.upd hd1 hS1, n + 1, _, upd_same, by omega, by omega, Int.ediv_nonneg (Int.natCast_nonneg _) (by omega)⟩ (But.trans But.upd But.upd)
        · refine ⟨_, rfl, _, _, rfl, rfl, p629, _, rfl, _, _, rfl, rfl, .inl ⟨by decide, by decide⟩, _, _, rfl, rfl, _, _, rfl, rfl, _, _, rfl, rfl, .inr ⟨by decide, by decide⟩, _, _, rfl, rfl, p587, ?_⟩
          refine ⟨_, rfl, _, rfl, _, _, rfl, rfl, .inl ?_, _, rfl, _, _, rfl, rfl, .inl ⟨by decide, by decide⟩, _, _, rfl, rfl, _, rfl, _, _, rfl, rfl, _, _, rfl, rfl, p563, ?_⟩
          · have h1 := Int.emod_nonneg ((z % 2147483629 + 40993 * n + 5) * 48271) (show (2147483587 : Int) ≠ 0 by decide)
            have h2 := Int.emod_lt_of_pos ((z % 2147483629 + 40993 * n + 5) * 48271) (show (0 : Int) < 2147483587 by decide)
            omega
          · refine ⟨_, rfl, _, _, rfl, rfl, ⟨by decide, by decide⟩, _, rfl, _, _, rfl, rfl, p0, ?_⟩
            exact q _ _ (fin z).1 (fin z).2 hP1 But.upd
      · refine ⟨_, rfl, _, _, rfl, rfl, p629, _, rfl, _, _, rfl, rfl, .inl ⟨by decide, by decide⟩, _, _, rfl, rfl, _, _, rfl, rfl, _, _, rfl, rfl, .inr ⟨by decide, by decide⟩, _, _, rfl, rfl, p587, ?_⟩
        refine ⟨_, rfl, _, rfl, _, _, rfl, rfl, .inl ?_, _, rfl, _, _, rfl, rfl, .inl ⟨by decide, by decide⟩, _, _, rfl, rfl, _, rfl, _, _, rfl, rfl, _, _, rfl, rfl, p563, ?_⟩
        · have h1 := Int.emod_nonneg ((z % 2147483629 + 40993 * n + 5) * 48271) (show (2147483587 : Int) ≠ 0 by decide)
          have h2 := Int.emod_lt_of_pos ((z % 2147483629 + 40993 * n + 5) * 48271) (show (0 : Int) < 2147483587 by decide)
          omega
        · refine ⟨_, rfl, _, _, rfl, rfl, ⟨by decide, by decide⟩, _, rfl, _, _, rfl, rfl, p0, ?_⟩
          exact q _ _ (fin z).1 (fin z).2 hP1 But.upd
    · refine ⟨_, rfl, _, _, rfl, rfl, p629, _, rfl, _, _, rfl, rfl, .inl ⟨by decide, by decide⟩, _, _, rfl, rfl, _, _, rfl, rfl, _, _, rfl, rfl, .inr ⟨by decide, by decide⟩, _, _, rfl, rfl, p587, ?_⟩
      refine ⟨_, rfl, _, rfl, _, _, rfl, rfl, .inl ?_, _, rfl, _, _, rfl, rfl, .inl ⟨by decide, by decide⟩, _, _, rfl, rfl, _, rfl, _, _, rfl, rfl, _, _, rfl, rfl, p563, ?_⟩
      · have h1 := Int.emod_nonneg (((70003 * n * n + 19 * n + 11) % 2147483629 + 40993 * n + 5) * 48271) (show (2147483587 : Int) ≠ 0 by decide)
        have h2 := Int.emod_lt_of_pos (((70003 * n * n + 19 * n + 11) % 2147483629 + 40993 * n + 5) * 48271) (show (0 : Int) < 2147483587 by decide)
        omega
      · refine ⟨_, rfl, _, _, rfl, rfl, ⟨by decide, by decide⟩, _, rfl, _, _, rfl, rfl, p0, ?_⟩
        exact q _ _ (fin (70003 * n * n + 19 * n + 11)).1 (fin (70003 * n * n + 19 * n + 11)).2 hP1 But.upd

def rRound (K : PySem.W.Frag) : V → Hp → VK → Prop := fun p H Q => ∃ (d a : Addr) (ns : List Int) (c : Int), p = .ref d ∧ Pen K H d a ns c ∧ c + 2 ≤ 1000000 ∧ ∀ r H', 1 ≤ r → r ≤ 1000000 → Pen K H' d a ns (c + 2) → But d H H' → Q (.int r) H'
theorem pen_at3 {H : Hp} {d a : Addr} {ns : List Int} {c : Int} (p : Pen K H d a ns c) : ∃ kvs, H d = some (.dK kvs) := by
  obtain ⟨_, n, m, h, _⟩ := p
  exact ⟨_, h⟩
theorem cell_in {ns : List Int} {i : Int} (h0 : 0 ≤ i) (h1 : i < (ns.length : Int)) : ∃ z, z ∈ ns ∧ atI (ns.map V.int) i = some (.int z) := by
  obtain ⟨n, rfl⟩ : ∃ n : Nat, i = n := ⟨i.toNat, by omega⟩
  have hn : n < ns.length := by omega
  refine ⟨ns[n], List.getElem_mem hn, atI_nat (j := n) ?_⟩
  rw [List.getElem?_map, List.getElem?_eq_getElem hn]
  rfl
theorem ok_law_round (T : Txt K mg) : Fn P w K mg base 2 "_law_round" ["_law_pen_here"] (sp1 (rRound K)) := by
  have G_law_draw := ok_law_draw (P := P) (w := w) (base := base) T
  refine T.d_law_round.ok sc_law_round len1 fun f cdv A outer s H vs Q E hr hg h => ?_
  obtain ⟨_, rfl, d, a, ns, c, rfl, hp, hc, q⟩ := h
  refine ⟨_, (pss_cons (ps_set (i := 1) sc_law_round.nd rfl (by first | exact Or.inl rfl | exact Or.inr rfl) (pe_fn G_law_draw (hr.mono (by decide)) hg (by rfl) (pa_cons (pv 0) (pa_cons pe_int pa_nil))))
(pss_cons (ps_if (pt_cmpR op_eq (pv 1) pe_int (nomark _))
(pss_one (ps_ret pe_int))
pss_nil)
(pss_cons (ps_if (pt_cmpR op_eq (pv 1) pe_int (nomark _))
(pss_one (ps_ret (pe_op op_sub (pe_op op_pow pe_int pe_int) (pe_fn G_law_draw (hr.mono (by decide)) hg (by rfl) (pa_cons (pv 0) (pa_cons pe_int pa_nil))))))
pss_nil)
(pss_cons (ps_if (pt_cmpR op_eq (pv 1) pe_int (nomark _))
(pss_one (ps_ret (pe_op op_add pe_int (pe_fn G_law_draw (hr.mono (by decide)) hg (by rfl) (pa_cons (pv 0) (pa_cons (pe_op op_pow pe_int pe_int) pa_nil))))))
pss_nil)
(pss_cons (ps_if (pt_cmpR op_eq (pv 1) pe_int (nomark _))
(pss_one (ps_ret (pe_ix (ixT_K (K := K) rfl) (pe_tup (pa_cons pe_int (pa_cons pe_int (pa_cons pe_int (pa_cons pe_int (pa_cons pe_int (pa_cons pe_int (pa_cons pe_int (pa_cons pe_int (pa_cons pe_int (pa_cons pe_int (pa_cons pe_int pa_nil)))))))))))) (pe_fn G_law_draw (hr.mono (by decide)) hg (by rfl) (pa_cons (pv 0) (pa_cons pe_int pa_nil))) (fun _ _ => rfl))))
pss_nil)
(pss_one (ps_ret (pe_op op_add pe_int (pe_fn G_law_draw (hr.mono (by decide)) hg (by rfl) (pa_cons (pv 0) (pa_cons pe_int pa_nil))))))))))), ?_⟩
  refine ⟨_, rfl, _, _, rfl, d, a, ns, c, _, rfl, rfl, hp, by decide, by decide, by omega, fun way H1 w0 w1 hp1 b1 => ?_⟩
  have e6 : (10 : Int) ^ (6 : Int).toNat = 1000000 := by decide
  refine ⟨_, rfl, rfl, _, rfl, ite2 (fun e1 => ?_) (fun e1 => ?_)⟩
  · exact q _ _ (by decide) (by decide) (hp1.mono (by omega)) b1
  refine ⟨_, rfl, rfl, _, rfl, ite2 (fun e2 => ?_) (fun e2 => ?_)⟩
  · refine ⟨10, 6, rfl, rfl, ⟨by decide, by decide, by decide⟩, _, rfl, _, _, rfl, d, a, ns, _, _, rfl, rfl, hp1, by decide, by decide, by omega, fun x H2 x0 x1 hp2 b2 => ?_⟩
    refine ⟨_, _, rfl, rfl, ?_⟩
    exact q _ _ (by rw [e6]; omega) (by rw [e6]; omega) (hp2.mono (by omega)) (b1.trans b2)
  refine ⟨_, rfl, rfl, _, rfl, ite2 (fun e3 => ?_) (fun e3 => ?_)⟩
  · refine ⟨_, rfl, 10, 6, rfl, rfl, ⟨by decide, by decide, by decide⟩, _, _, rfl, d, a, ns, _, _, rfl, rfl, hp1, by decide, by decide, by omega, fun x H2 x0 x1 hp2 b2 => ?_⟩
    rw [e6] at x1
    refine ⟨_, _, rfl, rfl, ?_⟩
    exact q _ _ (by omega) (by omega) (hp2.mono (by omega)) (b1.trans b2)
  refine ⟨_, rfl, rfl, _, rfl, ite2 (fun e4 => ?_) (fun e4 => ?_)⟩
  · refine ⟨(by show 11 ≤ sizeLine; decide), fun t ht => ?_⟩
    have hp2 := hp1.same (same_new (o := .tup [.int 2, .int 4, .int 8, .int 16, .int 524288, .int 3, .int 9, .int 27, .int 5, .int 25, .int 994009]) ht)
    refine ⟨_, rfl, _, _, rfl, d, a, ns, _, _, rfl, rfl, hp2, by decide, by decide, by omega, fun x H2 x0 x1 hp3 b2 => ?_⟩
    obtain ⟨kvs, hdd⟩ := pen_at3 hp1
    have ht2 := b2 t _ (ne_of_none hdd ht).symm upd_same
    obtain ⟨z, hz, hat⟩ := cell_in (ns := [2, 4, 8, 16, 524288, 3, 9, 27, 5, 25, 994009]) x0 x1
    refine ⟨t, _, _, _, rfl, rfl, SqT.of ht2, hat, ?_⟩
    have hz2 : 1 ≤ z ∧ z ≤ 1000000 := by
      simp only [List.mem_cons, List.not_mem_nil, or_false] at hz
      omega
    exact q _ _ hz2.1 hz2.2 (hp3.mono (by omega)) ((b1.trans (But.new ht)).trans b2)
  · refine ⟨_, rfl, _, _, rfl, d, a, ns, _, _, rfl, rfl, hp1, by decide, by decide, by omega, fun x H2 x0 x1 hp2 b2 => ?_⟩
    refine ⟨_, _, rfl, rfl, ?_⟩
    exact q _ _ (by omega) (by omega) (hp2.mono (by omega)) (b1.trans b2)

theorem but_up {p D : Addr} {H H' : Hp} {o : HO} (b : But p H H') (n : H D = none) : But p H (upd H' D o) := fun c u hc e => by
  rw [upd_ne (ne_of_none e n)]
  exact b c u hc e
theorem pen_up {H1 H2 : Hp} {d a D : Addr} {ns : List Int} {c c1 : Int} {o : HO} (p1 : Pen K H1 d a ns c1) (b : But d H1 H2) (p : Pen K H2 d a ns c) (n : H1 D = none) : Pen K (upd H2 D o) d a ns c := by
  obtain ⟨s1, n1, m1, h1, _⟩ := p1
  obtain ⟨_, n2, m2, h2, r⟩ := p
  exact ⟨sq_but (but_up b n) h1 s1, n2, m2, by rw [upd_ne (ne_of_none h1 n)]; exact h2, r⟩
def rHouse (K : PySem.W.Frag) : V → Hp → VK → Prop := fun p H Q => ∃ (d a : Addr) (ns : List Int) (c : Int), p = .ref d ∧ Pen K H d a ns c ∧ c + 13 ≤ 1000000 ∧
  ∀ b H' (hs : List Int), H' b = some (.tup (hs.map V.int)) → hs.length ≤ 6 → (∀ x ∈ hs, 1 ≤ x ∧ x ≤ 1000000) → Pen K H' d a ns (c + 13) → But d H H' → Q (.ref b) H'
theorem ok_law_house (T : Txt K mg) : Fn P w K mg base 3 "_law_house" ["_law_pen_here"] (sp1 (rHouse K)) := by
  have G_law_draw := ok_law_draw (P := P) (w := w) (base := base) T
  have G_law_round := ok_law_round (P := P) (w := w) (base := base) T
  refine T.d_law_house.ok sc_law_house len1 fun f cdv A outer s H vs Q E hr hg h => ?_
  obtain ⟨_, rfl, d, a, ns, c, rfl, hp, hc, q⟩ := h
  refine ⟨_, (pss_one (ps_ret (pe_callTy (tupOf_K (K := K) rfl) (by rfl) T.n_tuple (by decide +kernel) (pa_cons (pe_lc (own := [("_law_k", 1)]) rfl sc_law_house.nd (pi_range1 (by rfl) T.n_range (pa_cons (pe_fn G_law_draw (hr.mono (by decide)) hg (by rfl) (pa_cons (pv 0) (pa_cons pe_int pa_nil))) pa_nil)) (blkOk_by (own := [("_law_k", 1)]) (N := N_law_house) (sc := defScope s_law_house) (by decide +kernel)) (fun _ _ _ _ _ => (pg_name (i := 1) sc_law_house.nd rfl (by first | exact Or.inl rfl | exact Or.inr rfl))) (fun _ _ _ _ _ => pts_nil) (fun _ _ _ _ _ => (pe_fn G_law_round (hr.mono (by decide)) hg (by rfl) (pa_cons (pv 0) pa_nil)))) pa_nil)))), ?_⟩
  refine ⟨_, rfl, _, _, rfl, d, a, ns, c, _, rfl, rfl, hp, by decide, by decide, by omega, fun n H1 n0 n1 hp1 b1 => ?_⟩
  obtain ⟨n, rfl⟩ : ∃ m : Nat, n = m := ⟨n.toNat, by omega⟩
  refine ⟨_, rfl, by omega, by omega, fun D nD => lc_range (lo := 0) (n := n) (fun i H' => Pen K H' d a ns (c + 1 + 2 * i) ∧ But d H1 H' ∧ ∃ hs : List Int, H' D = some (.lst (hs.map V.int)) ∧ hs.length = i ∧ ∀ x ∈ hs, 1 ≤ x ∧ x ≤ 1000000)
    ⟨by simpa using pen_up hp1 (But.refl d H1) hp1 nD, But.new nD, [], upd_same, rfl, by simp⟩ ?_ ?_⟩
  · rintro i H2 hi ⟨hp2, b2, hs, hD, hl, hx⟩
    obtain ⟨kvs, hdd⟩ := pen_at3 hp1
    have nDd : D ≠ d := (ne_of_none hdd nD).symm
    refine ⟨rfl, _, rfl, _, rfl, d, a, ns, _, rfl, hp2, by omega, fun r H3 r1 r2 hp3 b3 => ?_⟩
    refine ⟨_, b3 _ _ nDd hD, ?_, ?_, but_up (b2.trans b3) nD, hs ++ [r], ?_, ?_, ?_⟩
    · rw [List.length_map]
      exact small1000 (by omega)
    · have ec : c + 1 + 2 * ((i + 1 : Nat) : Int) = c + 1 + 2 * i + 2 := by omega
      rw [ec]
      exact pen_up hp1 (b2.trans b3) hp3 nD
    · rw [upd_same, List.map_append]
      rfl
    · rw [List.length_append, hl]
      rfl
    · intro x hx2
      rcases List.mem_append.mp hx2 with e | e
      · exact hx x e
      · rw [List.mem_singleton.mp e]
        exact ⟨r1, r2⟩
  · rintro H2 ⟨hp2, b2, hs, hD, hl, hx⟩
    refine ⟨D, _, rfl, .inl ⟨SqL.of hD, fun R nR => ?_⟩⟩
    exact q R _ hs upd_same (by omega) hx ((hp2.same (same_new nR)).mono (by omega)) ((b1.trans b2).trans (But.new nR))

def iv (l : List Nat) : List V := l.map fun n : Nat => V.int (n : Int)
theorem iv_len (l : List Nat) : (iv l).length = l.length := List.length_map _
theorem iv_app (l m : List Nat) : iv (l ++ m) = iv l ++ iv m := List.map_append
theorem iv_at {l : List Nat} {i : Nat} {x : Nat} (h : l[i]? = some x) : (iv l)[i]? = some (.int (x : Int)) := by
  unfold iv
  rw [List.getElem?_map, h]
  rfl
theorem iv_get {l : List Nat} {i : Nat} {v : V} (h : (iv l)[i]? = some v) : ∃ x, l[i]? = some x ∧ v = .int (x : Int) := by
  unfold iv at h
  rw [List.getElem?_map] at h
  obtain ⟨x, hx, rfl⟩ := Option.map_eq_some_iff.mp h
  exact ⟨x, hx, rfl⟩
theorem mid_at {A B : List Nat} {x : Nat} : (A ++ x :: B)[A.length]? = some x := by
  rw [List.getElem?_append_right (Nat.le_refl _), Nat.sub_self]
  rfl
theorem iv_set {l : List Nat} {i x : Nat} : (iv l).set i (.int (x : Int)) = iv (l.set i x) := by
  unfold iv
  rw [List.map_set]
theorem mid_set {A B : List Nat} {x y : Nat} : (A ++ x :: B).set A.length y = A ++ y :: B := by
  rw [List.set_append_right _ _ (Nat.le_refl _), Nat.sub_self]
  rfl
theorem fresh_upd {H H1 : Hp} {l : Addr} {o : HO} (s : Same H H1) (n : H l = none) : Same H (upd H1 l o) := fun b z e => by
  rw [upd_ne (ne_of_none e n)]
  exact s b z e

/-! ### told primes on the heap -/
def PL (H : Hp) (D : Addr) (ps : List (Int × Int)) : Prop := ∃ ts : List Addr, H D = some (.lst (ts.map V.ref)) ∧ Paired (fun t (pe : Int × Int) => H t = some (.tup [.int pe.1, .int pe.2])) ts ps
theorem pl_len {H : Hp} {ts : List Addr} {ps : List (Int × Int)} (h : Paired (fun t (pe : Int × Int) => H t = some (.tup [.int pe.1, .int pe.2])) ts ps) : ts.length = ps.length := Paired.length h
theorem paired_snoc {α β : Type} {R : α → β → Prop} {a : α} {b : β} (hr : R a b) : ∀ {l : List α} {m : List β}, Paired R l m → Paired R (l ++ [a]) (m ++ [b])
  | _, _, .nil => .cons hr .nil
  | _, _, .cons h t => .cons h (paired_snoc hr t)
theorem paired_get {α β : Type} {R : α → β → Prop} : ∀ {l : List α} {m : List β} {i : Nat} {a : α}, Paired R l m → l[i]? = some a → ∃ b, m[i]? = some b ∧ R a b
  | _, _, _, _, .nil, e => by simp at e
  | _, _, 0, _, .cons h _, e => by
    have e1 := Option.some.inj e
    subst e1
    exact ⟨_, rfl, h⟩
  | _, _, i + 1, a, .cons _ t, e => paired_get (i := i) (a := a) t e
/-- lists and tuples stay -/
def Stays (H H' : Hp) : Prop := ∀ b xs, (H b = some (.lst xs) → H' b = some (.lst xs)) ∧ (H b = some (.tup xs) → H' b = some (.tup xs))
theorem stays_same {H H' : Hp} (h : Same H H') : Stays H H' := fun b xs => ⟨h b _, h b _⟩
theorem stays_but {H H' : Hp} {d : Addr} {kvs : List (Key × V)} (h : But d H H') (hd : H d = some (.dK kvs)) : Stays H H' := fun b xs =>
  ⟨fun e => h b _ (ne_of e hd (by intro z; cases z)) e, fun e => h b _ (ne_of e hd (by intro z; cases z)) e⟩
theorem PL.stays {H H' : Hp} {D : Addr} {ps : List (Int × Int)} (h : PL H D ps) (s : Stays H H') : PL H' D ps := by
  obtain ⟨ts, h1, h2⟩ := h
  exact ⟨ts, (s _ _).1 h1, Paired.mapP h2 fun t pe e => (s _ _).2 e⟩
theorem PL.other {H : Hp} {D A : Addr} {ps : List (Int × Int)} {xs ys : List V} (h : PL H D ps) (hA : H A = some (.lst xs)) (n : D ≠ A) : PL (upd H A (.lst ys)) D ps := by
  obtain ⟨ts, h1, h2⟩ := h
  refine ⟨ts, by rw [upd_ne n]; exact h1, Paired.mapP h2 fun t pe e => ?_⟩
  rw [upd_ne (ne_of e hA (by intro z; cases z))]
  exact e
theorem PL.app {H : Hp} {D t : Addr} {ps : List (Int × Int)} {p e : Int} {xs : List V} (h : PL H D ps) (ht : H t = none) (hx : H D = some (.lst xs)) : PL (upd (upd H t (.tup [.int p, .int e])) D (.lst (xs ++ [.ref t]))) D (ps ++ [(p, e)]) := by
  obtain ⟨ts, h1, h2⟩ := h
  rw [hx] at h1
  have e1 : xs = ts.map V.ref := by
    injection h1 with h1
    injection h1
  have nD : D ≠ t := ne_of_none hx ht
  refine ⟨ts ++ [t], by rw [upd_same, e1, List.map_append]; rfl, paired_snoc ?_ (Paired.mapP h2 fun b pe z => ?_)⟩
  · rw [upd_ne nD.symm, upd_same]
  · rw [upd_ne (ne_of z hx (by intro z; cases z)), upd_ne (ne_of_none z ht)]
    exact z
/-! ### primes_of -/
theorem sq1000 {p m : Int} (h : p * p ≤ m) (hm : m ≤ 1000000) (hp : 0 ≤ p) : p ≤ 1000 := by
  by_cases h1 : p ≤ 1000
  · exact h1
  · have : (1001 : Int) * 1001 ≤ p * p := Int.mul_le_mul (by omega) (by omega) (by omega) (by omega)
    omega
theorem rest_le {ps : List (Int × Int)} {m n lim : Int} (h : prod ps * m = n) (hr : Rise lim ps) (hm : 1 ≤ m) (hn : n ≤ 1000000) : m ≤ 1000000 := by
  have hp := prod_pos hr.pr
  have : 1 * m ≤ prod ps * m := Int.mul_le_mul_of_nonneg_right (by omega) (by omega)
  omega
def rFac : V → Hp → VK → Prop := fun x H Q => ∃ n : Nat, x = .int (n : Int) ∧ 1 ≤ n ∧ n ≤ 1000000 ∧ ∀ (qs : List (Nat × Nat)) (R : Addr) (H' : Hp), Fac n qs → Same H H' → PL H' R (qs.map ci) → Q (.ref R) H'
theorem same_app {H H1 : Hp} {D t : Addr} {o u : HO} (s : Same H H1) (hD : H D = none) (ht : H1 t = none) : Same H (upd (upd H1 t o) D u) := fun b z e => by
  rw [upd_ne (ne_of_none e hD), upd_ne (ne_of_none (s b z e) ht)]
  exact s b z e
theorem ok_law_factors (T : Txt K mg) : Fn P w K mg base 1 "_law_factors" ["_law_n"] (sp1 rFac) := by
  refine T.d_law_factors.ok sc_law_factors len1 fun f cdv A outer s H vs Q E hr hg h => ?_
  obtain ⟨_, rfl, n0, rfl, n1', n2', q⟩ := h
  obtain ⟨n, en⟩ : ∃ n : Int, n = (n0 : Int) := ⟨_, rfl⟩
  have n1 : 1 ≤ n := by omega
  have n2 : n ≤ 1000000 := by omega
  rw [← en]
  refine ⟨_, (pss_cons (ps_set (i := 1) sc_law_factors.nd rfl (by first | exact Or.inl rfl | exact Or.inr rfl) (pe_lst pa_nil))
(pss_cons (ps_set (i := 2) sc_law_factors.nd rfl (by first | exact Or.inl rfl | exact Or.inr rfl) pe_int)
(pss_cons (ps_while PassesOwn.never (pt_cmpR op_le (pe_op op_mul (pv 2) (pv 2)) (pv 0) (nomark _))
(pss_cons (ps_set (i := 3) sc_law_factors.nd rfl (by first | exact Or.inl rfl | exact Or.inr rfl) pe_int)
(pss_cons (ps_while PassesOwn.never (pt_cmpR op_eq (pe_op op_mod (pv 0) (pv 2)) pe_int (nomark _))
(pss_cons (ps_set (i := 0) sc_law_factors.nd rfl (by first | exact Or.inl rfl | exact Or.inr rfl) (pe_op op_fdiv (pv 0) (pv 2)))
(pss_one (ps_set (i := 3) sc_law_factors.nd rfl (by first | exact Or.inl rfl | exact Or.inr rfl) (pe_op op_add (pv 3) pe_int)))))
(pss_cons (ps_if (pt_cmpR op_gt (pv 3) pe_int (nomark _))
(pss_one (ps_expr (pe_bm PySem.F.plainAttrs_list PySem.F.slot_list_append PySem.F.type_list_append mt_append (pv 1) (pa_cons (pe_tup (pa_cons (pv 2) (pa_cons (pv 3) pa_nil))) pa_nil))))
pss_nil)
(pss_one (ps_set (i := 2) sc_law_factors.nd rfl (by first | exact Or.inl rfl | exact Or.inr rfl) (pe_op op_add (pv 2) pe_int)))))))
(pss_one (ps_ret (pe_op op_cat (pv 1) (pe_op op_rep (pe_lst (pa_cons (pe_tup (pa_cons (pv 0) (pa_cons pe_int pa_nil))) pa_nil)) (pe_callTy call_int1 (by rfl) T.n_int (by decide +kernel) (pa_cons (pe_cmpR op_gt (pv 0) pe_int (nomark _)) pa_nil))))))))), ?_⟩
  refine ⟨Nat.zero_le _, fun D nD => ?_⟩
  -- the outer while
  refine ⟨fun k σ H' => ∃ (m p : Int) (ps : List (Int × Int)) (o3 : Option V), σ = [some (.int m), some (.ref D), some (.int p), o3] ∧ Same H H' ∧ PL H' D ps ∧ prod ps * m = n ∧ Rise p ps ∧ Rough p m ∧ 1 ≤ m ∧ 2 ≤ p ∧ p ≤ 1001 ∧ (ps.length : Int) ≤ p ∧ k = (1002 - p).toNat,
    ⟨_, n, 2, [], none, rfl, same_new nD, ⟨[], upd_same, .nil⟩, by simp [prod], rise_nil _, fun d h1 h2 => by omega, n1, by decide, by decide, by decide, rfl⟩, ?_⟩
  rintro k σ H1 ⟨m, p, ps, o3, rfl, sm, hpl, hn, ri, ro, m1, p2, p3, pl, rfl⟩
  have m6 := rest_le hn ri m1 n2
  refine ⟨_, rfl, _, rfl, _, _, rfl, rfl, .inl ⟨by omega, by omega⟩, _, rfl, _, _, rfl, rfl, _, rfl, ite2 (fun e => ?_) (fun e => ?_)⟩
  · have hsq : p * p ≤ m := of_decide_eq_true e
    have p4 := sq1000 hsq m6 (by omega)
    refine ⟨fun σ' H' => ∃ (m' p' : Int) (ps' : List (Int × Int)) (o3' : Option V), σ' = [some (.int m'), some (.ref D), some (.int p'), o3'] ∧ Same H H' ∧ PL H' D ps' ∧ prod ps' * m' = n ∧ Rise p' ps' ∧ Rough p' m' ∧ 1 ≤ m' ∧ 2 ≤ p' ∧ p' ≤ 1001 ∧ (ps'.length : Int) ≤ p' ∧ (1002 - p').toNat < (1002 - p).toNat, ?_, ?_⟩
    · rintro σ' H' ⟨m', p', ps', o3', rfl, a1, a2, a3, a4, a5, a6, a7, a8, a9, a10⟩
      exact ⟨_, a10, m', p', ps', o3', rfl, a1, a2, a3, a4, a5, a6, a7, a8, a9, rfl⟩
    -- often = 0, the inner while
    refine ⟨fun k σ H' => ∃ (m' : Int) (c : Nat), σ = [some (.int m'), some (.ref D), some (.int p), some (.int (c : Int))] ∧ H' = H1 ∧ 1 ≤ m' ∧ m = p ^ c * m' ∧ k = m'.toNat,
      ⟨_, m, 0, rfl, rfl, m1, by simp, rfl⟩, ?_⟩
    rintro k σ H' ⟨m', c, rfl, rfl, m1', em, rfl⟩
    refine ⟨_, rfl, _, rfl, _, _, rfl, rfl, (show (0 : Int) < p by omega), rfl, _, rfl, ite2 (fun e2 => ?_) (fun e2 => ?_)⟩
    · have hz : m' % p = 0 := V.int.inj (of_decide_eq_true e2)
      have hd := Int.mul_ediv_add_emod m' p
      rw [hz] at hd
      have q1 : 1 ≤ m' / p := by
        have h0 : 0 ≤ m' / p := Int.ediv_nonneg (by omega) (by omega)
        rcases (show m' / p = 0 ∨ 1 ≤ m' / p by omega) with z | z
        · rw [z] at hd
          omega
        · exact z
      have q2 : m' / p < m' := by
        have : 2 * (m' / p) ≤ p * (m' / p) := Int.mul_le_mul_of_nonneg_right p2 (by omega)
        omega
      refine ⟨fun σ' H'' => ∃ (m2 : Int) (c2 : Nat), σ' = [some (.int m2), some (.ref D), some (.int p), some (.int (c2 : Int))] ∧ H'' = H' ∧ 1 ≤ m2 ∧ m = p ^ c2 * m2 ∧ m2.toNat < m'.toNat, ?_, ?_⟩
      · rintro σ' H'' ⟨m2, c2, rfl, rfl, a1, a2, a3⟩
        exact ⟨_, a3, m2, c2, rfl, rfl, a1, a2, rfl⟩
      · refine ⟨_, rfl, _, rfl, m', p, rfl, rfl, ⟨by omega, by omega⟩, ?_⟩
        refine ⟨_, rfl, _, _, rfl, rfl, m' / p, c + 1, rfl, rfl, q1, ?_, by omega⟩
        rw [em, Int.pow_succ, Int.mul_assoc]
        have : p * (m' / p) = m' := by omega
        rw [this]
    · have hz : ¬ p ∣ m' := fun z => e2 (decide_eq_true (congrArg V.int (Int.emod_eq_zero_of_dvd z)))
      have hdm : m' ∣ m := ⟨p ^ c, by rw [em, Int.mul_comm]⟩
      have ro' : Rough (p + 1) m' := rough_next (rough_dvd ro hdm) hz
      refine ⟨_, rfl, _, _, rfl, rfl, _, rfl, ite2 (fun e3 => ?_) (fun e3 => ?_)⟩
      · have hc : (0 : Int) < (c : Int) := of_decide_eq_true e3
        obtain ⟨c', rfl⟩ : ∃ c', c = c' + 1 := ⟨c - 1, by omega⟩
        have hdp : p ∣ m := ⟨p ^ c' * m', by rw [em, Int.pow_succ, Int.mul_comm (p ^ c') p, Int.mul_assoc]⟩
        obtain ⟨ts, hD, hts⟩ := id hpl
        refine ⟨_, rfl, .inl ⟨rfl, _, SqL.of hD⟩, _, rfl, _, rfl, (by show 2 ≤ sizeLine; decide), fun t ht => ?_⟩
        have hD2 : (upd H' t (.tup [.int p, .int ((c' + 1 : Nat) : Int)])) D = some (.lst (ts.map V.ref)) := by
          rw [upd_ne (ne_of_none hD ht)]
          exact hD
        refine ⟨D, _, _, rfl, rfl, hD2, ?_, ?_⟩
        · rw [List.length_map, pl_len hts]
          exact small1000 (by omega)
        · refine ⟨_, rfl, _, _, rfl, rfl, m', p + 1, ps ++ [(p, ((c' + 1 : Nat) : Int))], _, rfl, same_app sm nD ht, hpl.app ht hD, ?_, ri.snoc (pri_least p2 ro hdp) (by omega) (Int.le_refl _), ro', m1', by omega, by omega, ?_, by omega⟩
          · rw [prod_snoc, Int.toNat_natCast, Int.mul_assoc, ← em]
            exact hn
          · have el : (ps ++ [(p, ((c' + 1 : Nat) : Int))]).length = ps.length + 1 := by simp
            rw [el]
            omega
      · have hc : ¬ (0 : Int) < (c : Int) := of_decide_eq_false (Bool.eq_false_iff.mpr e3)
        have hc0 : c = 0 := by omega
        subst hc0
        have em' : m = m' := by simpa using em
        subst em'
        exact ⟨_, rfl, _, _, rfl, rfl, m, p + 1, ps, _, rfl, sm, hpl, hn, ri.mono (by omega), ro', m1, by omega, by omega, by omega, by omega⟩
  · have hsq : ¬ p * p ≤ m := of_decide_eq_false (Bool.eq_false_iff.mpr e)
    obtain ⟨ts, hD, hts⟩ := id hpl
    have tl := pl_len hts
    refine ⟨_, rfl, _, rfl, (by show 2 ≤ sizeLine; decide), fun t ht => ?_⟩
    refine ⟨(by show 1 ≤ sizeLine; decide), fun l hl => ?_⟩
    refine ⟨_, rfl, _, _, rfl, rfl, .inr ⟨_, rfl, ?_⟩⟩
    have fin : ∀ (k : Int), (k = 1 ∧ 1 < m) ∨ (k = 0 ∧ m = 1) → ∀ r, (upd (upd H1 t (.tup [.int m, .int 1])) l (.lst [.ref t])) r = none → ∀ z, (upd (upd (upd H1 t (.tup [.int m, .int 1])) l (.lst [.ref t])) r (.lst (List.replicate k.toNat [V.ref t]).flatten)) z = none →
        Q (.ref z) (upd (upd (upd (upd H1 t (.tup [.int m, .int 1])) l (.lst [.ref t])) r (.lst (List.replicate k.toNat [V.ref t]).flatten)) z (.lst (ts.map V.ref ++ (List.replicate k.toNat [V.ref t]).flatten))) := by
      intro k hk r hr2 z hz
      have s1 := same_new (o := .tup [.int m, .int 1]) ht
      have s2 := s1.trans (same_new (o := .lst [.ref t]) hl)
      have s3 := s2.trans (same_new (o := .lst (List.replicate k.toNat [V.ref t]).flatten) hr2)
      have s4 := s3.trans (same_new (o := .lst (ts.map V.ref ++ (List.replicate k.toNat [V.ref t]).flatten)) hz)
      have old : ∀ b (pe : Int × Int), H1 b = some (.tup [.int pe.1, .int pe.2]) → (upd (upd (upd (upd H1 t (.tup [.int m, .int 1])) l (.lst [.ref t])) r (.lst (List.replicate k.toNat [V.ref t]).flatten)) z (.lst (ts.map V.ref ++ (List.replicate k.toNat [V.ref t]).flatten))) b = some (.tup [.int pe.1, .int pe.2]) := fun b pe e => s4 _ _ e
      rcases hk with ⟨rfl, hm⟩ | ⟨rfl, hm⟩
      · have hpm : p ≤ m := by
          by_cases z : p ≤ m
          · exact z
          · exact absurd (Int.dvd_refl m) (ro m (by omega) (by omega))
        have er : prod (ps ++ [(m, 1)]) = n := by
          rw [prod_snoc]
          have : m ^ (1 : Int).toNat = m := by
            rw [show (1 : Int).toNat = 0 + 1 from rfl, Int.pow_succ, Int.pow_zero, Int.one_mul]
          rw [this]
          exact hn
        obtain ⟨qs, eq, fc⟩ := fac_of er (ri.snoc (pri_rest hm ro (by omega) p2) (by decide) hpm)
        rw [en, Int.toNat_natCast] at fc
        refine q qs z _ fc (sm.trans s4) ?_
        rw [← eq]
        have t4 : (upd (upd (upd (upd H1 t (.tup [.int m, .int 1])) l (.lst [.ref t])) r (.lst (List.replicate (1 : Int).toNat [V.ref t]).flatten)) z (.lst (ts.map V.ref ++ (List.replicate (1 : Int).toNat [V.ref t]).flatten))) t = some (.tup [.int m, .int 1]) :=
          ((same_new hl).trans ((same_new hr2).trans (same_new hz))) _ _ upd_same
        refine ⟨ts ++ [t], by rw [upd_same, List.map_append]; rfl, paired_snoc ?_ (Paired.mapP hts ?_)⟩
        · exact t4
        · intro b pe e
          exact old b pe e
      · obtain ⟨qs, eq, fc⟩ := fac_of (show prod ps = n by rw [hm, Int.mul_one] at hn; exact hn) ri
        rw [en, Int.toNat_natCast] at fc
        refine q qs z _ fc (sm.trans s4) ?_
        rw [← eq]
        refine ⟨ts, by rw [upd_same]; simp, Paired.mapP hts ?_⟩
        intro b pe e
        exact old b pe e
    have kk : ∃ k : Int, (if decide (m > 1) = true then (1 : Int) else 0) = k ∧ ((k = 1 ∧ 1 < m) ∨ (k = 0 ∧ m = 1)) := by
      by_cases z : 1 < m
      · exact ⟨1, by rw [decide_eq_true z]; rfl, .inl ⟨rfl, z⟩⟩
      · exact ⟨0, by rw [decide_eq_false z]; rfl, .inr ⟨rfl, by omega⟩⟩
    obtain ⟨k, ek, hk⟩ := kk
    have kb : 0 ≤ k ∧ k ≤ 1 := by omega
    have s2 := (same_new (o := .tup [.int m, .int 1]) ht).trans (same_new (o := .lst [.ref t]) hl)
    rw [ek]
    refine ⟨l, k, _, rfl, rfl, upd_same, by omega, by omega, ?_, fun r hr2 => ?_⟩
    · show 1 * k.toNat ≤ sizeLine
      exact Nat.le_of_lt (small1000 (by omega))
    · refine ⟨D, r, _, _, rfl, rfl, (s2.trans (same_new hr2)) _ _ hD, upd_same, ?_, fun z hz => fin k hk r hr2 z hz⟩
      rw [List.length_map, tl]
      refine Nat.le_trans (Nat.add_le_add (show ps.length ≤ 1001 by omega) (show _ ≤ 1 from ?_)) (by decide)
      rcases hk with ⟨rfl, _⟩ | ⟨rfl, _⟩ <;> simp

/-! ### by primes -/
def ik (p : Nat) : Key := Sum.inl (p : Int)
theorem ik_inj {p q : Nat} (h : ik p = ik q) : p = q := by
  have := Sum.inl.inj h
  omega
theorem iv_eq (l : List Nat) : iv l = (l.map fun n : Nat => (n : Int)).map V.int := by
  unfold iv
  rw [List.map_map]
  rfl
def DP (H : Hp) (D : Addr) (ks : List Nat) (val : Nat → List Nat) : Prop := ∃ kvs : List (Key × V), H D = some (.dK kvs) ∧ kvs.map (·.1) = ks.map ik ∧ ∀ p ∈ ks, ∃ a, valV kvs (ik p) = some (.ref a) ∧ H a = some (.lst (iv (val p)))
theorem val_out {kvs : List (Key × V)} {ks : List Nat} {p : Nat} (h : kvs.map (·.1) = ks.map ik) (n : p ∉ ks) : valV kvs (ik p) = none := by
  cases e : valV kvs (ik p) with
  | none => rfl
  | some v =>
    exfalso
    have m := valV_in e
    rw [h] at m
    obtain ⟨q, hq, eq⟩ := List.mem_map.mp m
    exact n (ik_inj eq ▸ hq)
theorem keys_put {kvs : List (Key × V)} {ks : List Nat} {p : Nat} {v : V} (h : kvs.map (·.1) = ks.map ik) : (putK kvs (ik p) v).map (·.1) = (kadd ks p).map ik := by
  unfold kadd
  by_cases e : p ∈ ks
  · rw [if_pos e]
    unfold putK
    split
    · rw [← h, List.map_map]
      refine List.map_congr_left fun x hx => ?_
      show (if x.1 = ik p then (x.1, v) else x).1 = x.1
      split <;> rfl
    · rename_i z
      exfalso
      refine z (List.any_eq_true.mpr ?_)
      have : ik p ∈ kvs.map (·.1) := by rw [h]; exact List.mem_map_of_mem e
      obtain ⟨x, hx, ex⟩ := List.mem_map.mp this
      exact ⟨x, hx, decide_eq_true ex⟩
  · rw [if_neg e, putK_new _ (val_out h e), List.map_append, h, List.map_append]
    rfl
theorem DP.put {H : Hp} {D r : Addr} {kvs : List (Key × V)} {ks es : List Nat} {val : Nat → List Nat} {p : Nat} (h : DP H D ks val) (hk : H D = some (.dK kvs)) (hr : H r = some (.lst (iv es))) : DP (upd H D (.dK (putK kvs (ik p) (.ref r)))) D (kadd ks p) (vadd val p es) := by
  obtain ⟨kvs', h1, h2, h3⟩ := h
  rw [hk] at h1
  have e : kvs = kvs' := by
    injection h1 with h1
    injection h1
  subst e
  refine ⟨_, upd_same, keys_put h2, fun q hq => ?_⟩
  rw [valV_put]
  by_cases z : q = p
  · subst z
    rw [if_pos rfl]
    refine ⟨r, rfl, ?_⟩
    rw [upd_ne (ne_of hr hk (by intro z; cases z)), hr]
    unfold vadd
    rw [if_pos rfl]
  · rw [if_neg fun y => z (ik_inj y)]
    have hq2 : q ∈ ks := by
      unfold kadd at hq
      split at hq
      · exact hq
      · rcases List.mem_append.mp hq with y | y
        · exact y
        · exact absurd (List.mem_singleton.mp y) z
    obtain ⟨a, e1, e2⟩ := h3 q hq2
    refine ⟨a, e1, ?_⟩
    rw [upd_ne (ne_of e2 hk (by intro z; cases z)), e2]
    unfold vadd
    rw [if_neg z]
theorem DP.same {H H' : Hp} {D : Addr} {ks : List Nat} {val : Nat → List Nat} (h : DP H D ks val) (s : Same H H') : DP H' D ks val := by
  obtain ⟨kvs, h1, h2, h3⟩ := h
  exact ⟨kvs, s _ _ h1, h2, fun p hp => let ⟨a, e1, e2⟩ := h3 p hp; ⟨a, e1, s _ _ e2⟩⟩
def TL (H : Hp) (R : Addr) (d : List (Nat × List Nat)) : Prop := ∃ ts : List Addr, H R = some (.lst (ts.map V.ref)) ∧ Paired (fun t (x : Nat × List Nat) => ∃ a, H t = some (.tup [.int (x.1 : Int), .ref a]) ∧ H a = some (.tup (iv x.2))) ts d
theorem TL.same {H H' : Hp} {R : Addr} {d : List (Nat × List Nat)} (h : TL H R d) (s : Same H H') : TL H' R d := by
  obtain ⟨ts, h1, h2⟩ := h
  refine ⟨ts, s _ _ h1, Paired.mapP h2 ?_⟩
  rintro t x ⟨a, e1, e2⟩
  exact ⟨a, s _ _ e1, s _ _ e2⟩
theorem ref_at {ts : List Addr} {i : Nat} {v : V} (h : (ts.map V.ref)[i]? = some v) : ∃ t, ts[i]? = some t ∧ v = .ref t := by
  rw [List.getElem?_map] at h
  obtain ⟨x, hx, rfl⟩ := Option.map_eq_some_iff.mp h
  exact ⟨x, hx, rfl⟩
theorem but_same {H H' H2 : Hp} {D : Addr} (s : Same H H') (n : H D = none) (b : But D H' H2) : Same H H2 := fun x o e => b x o (ne_of_none e n) (s x o e)
theorem dl_get {ks : List Nat} {val : Nat → List Nat} {i p : Nat} (h : ks[i]? = some p) : (dl ks val)[i]? = some (p, val p) := by
  unfold K35.dl
  rw [List.getElem?_map, h]
  rfl
theorem take_one {α : Type} {l : List α} {i : Nat} {x : α} (h : l[i]? = some x) : l.take (i + 1) = l.take i ++ [x] := by
  rw [List.take_succ, h]
  rfl

theorem none_same {H H' : Hp} {R : Addr} (s : Same H H') (n : H' R = none) : H R = none := by
  cases e : H R with
  | none => rfl
  | some o =>
    rw [s _ _ e] at n
    cases n
def rBy : V → Hp → VK → Prop := fun x H Q => ∃ (b : Addr) (ms : List Nat), x = .ref b ∧ H b = some (.tup (iv ms)) ∧ ms.length ≤ 6 ∧ (∀ z ∈ ms, 1 ≤ z ∧ z ≤ 1000000) ∧
  ∀ R H' (d : List (Nat × List Nat)), H R = none → Same H H' → TL H' R d → Td d → (∀ n, G n d = F n ms) → d.length ≤ 48 → (∀ x ∈ d, x.2.length ≤ 48) → Q (.ref R) H'
theorem up_vadd {val : Nat → List Nat} {p : Nat} {es : List Nat} (h : ∀ p, (val p).Pairwise (· ≤ ·)) (u : es.Pairwise (· ≤ ·)) : ∀ q, (vadd val p es q).Pairwise (· ≤ ·) := fun q => by
  unfold vadd
  split
  · exact u
  · exact h q
theorem ok_law_by_primes (T : Txt K mg) : Fn P w K mg base 2 "_law_by_primes" ["_law_house_here"] (sp1 rBy) := by
  have G_law_factors := ok_law_factors (P := P) (w := w) (base := base) T
  refine T.d_law_by_primes.ok sc_law_by_primes len1 fun f cdv A outer s H vs Q E hr hg h => ?_
  have hu := hu_of hr
  obtain ⟨_, rfl, b, ms, rfl, hb, h6, hx, q⟩ := h
  refine ⟨_, (pss_cons (ps_set (i := 1) sc_law_by_primes.nd rfl (by first | exact Or.inl rfl | exact Or.inr rfl) pe_dnewK)
(pss_cons (ps_for PassesOwn.never rfl (piT_K (K := K) rfl (pv 0)) (pg_name (i := 2) sc_law_by_primes.nd rfl (by first | exact Or.inl rfl | exact Or.inr rfl))
(pss_one (ps_for PassesOwn.never rfl (piL_K (K := K) rfl (pe_fn G_law_factors (hr.mono (by decide)) hg (by rfl) (pa_cons (pv 2) pa_nil))) (pg_tup rfl (pgs_cons (pg_name (i := 3) sc_law_by_primes.nd rfl (by first | exact Or.inl rfl | exact Or.inr rfl)) (pgs_cons (pg_name (i := 4) sc_law_by_primes.nd rfl (by first | exact Or.inl rfl | exact Or.inr rfl)) pgs_nil)))
(pss_one (ps_dput hu (pv 1) (pv 3) (pe_callB cr_sorted (by rfl) T.n_sorted (by decide +kernel) (pa_cons (pe_op op_cat (pe_dget2 hu (pv 1) (pv 3) (pe_lst pa_nil) ⟨rfl, rfl, rfl, rfl⟩) (pe_lst (pa_cons (pv 4) pa_nil))) pa_nil)) rfl)))))
(pss_one (ps_ret (pe_lc (own := [("_law_by", 3)]) rfl sc_law_by_primes.nd (piL_K (K := K) rfl (pe_callB (call_sortedDI rfl) (by rfl) T.n_sorted (by decide +kernel) (pa_cons (pv 1) pa_nil))) (blkOk_by (own := [("_law_by", 3)]) (N := N_law_by_primes) (sc := defScope s_law_by_primes) (by decide +kernel)) (fun _ _ _ _ _ => (pg_name (i := 3) sc_law_by_primes.nd rfl (by first | exact Or.inl rfl | exact Or.inr rfl))) (fun _ _ _ _ _ => pts_nil) (fun _ _ _ _ _ => (pe_tup (pa_cons (pv 3) (pa_cons (pe_callTy (tupOf_K (K := K) rfl) (by rfl) T.n_tuple (by decide +kernel) (pa_cons (pe_dget hu (pv 1) (pv 3) (fun _ _ => rfl)) pa_nil)) pa_nil))))))))), ?_⟩
  intro D nD
  refine ⟨_, rfl, b, rfl, ⟨_, SqT.of ((same_new nD) _ _ hb)⟩, for_tup (K := K) (a := b) (xs := iv ms) (fun i σ H' => ∃ (o2 o3 o4 : Option V) (ks : List Nat) (val : Nat → List Nat), σ = [some (.ref b), some (.ref D), o2, o3, o4] ∧ Same H H' ∧ DP H' D ks val ∧ BQ ks val (fun n => F n (ms.take i)) (8 * i) ∧ ∀ p, (val p).Pairwise (· ≤ ·))
    ⟨none, none, none, [], fun _ => [], rfl, same_new nD, ⟨[], upd_same, rfl, by simp⟩, bq_nil.mono (fun n => rfl) (Nat.le_refl _), fun _ => List.Pairwise.nil⟩ (fun i σ H' _ ⟨_, _, _, _, _, _, s1, _⟩ => SqT.of (s1 _ _ hb)) ?_ ?_⟩
  · rintro i v σ H1 hi ⟨o2, o3, o4, ks, val, rfl, s1, dp, bp, vup⟩
    obtain ⟨x, hxi, rfl⟩ := iv_get hi
    have xb := hx x (List.mem_of_getElem? hxi)
    have il : i < ms.length := (List.getElem?_eq_some_iff.mp hxi).1
    refine ⟨_, rfl, _, rfl, x, rfl, xb.1, xb.2, fun qs R H2 fc s2 hpl => ?_⟩
    obtain ⟨ts, hR, hts⟩ := hpl
    have q8 := fc.few xb.2
    have tl : ts.length = qs.length := by
      have := Paired.length hts
      rw [List.length_map] at this
      exact this
    refine ⟨R, rfl, ⟨_, SqL.of hR⟩, for_list (K := K) (a := R) (xs := ts.map V.ref) (fun j σ H' => ∃ (o3 o4 : Option V) (ks : List Nat) (val : Nat → List Nat), σ = [some (.ref b), some (.ref D), some (.int (x : Int)), o3, o4] ∧ But D H2 H' ∧ DP H' D ks val ∧ BQ ks val (fun n => F n (ms.take i) * Fo n (qs.take j)) (8 * i + j) ∧ ∀ p, (val p).Pairwise (· ≤ ·))
      ⟨o3, o4, ks, val, rfl, But.refl D H2, dp.same s2, bp.mono (fun n => by simp [Fo]) (Nat.le_refl _), vup⟩ (fun j σ H' _ ⟨_, _, _, _, _, bb, ⟨kvs, hk, _⟩, _⟩ => ?_) ?_ ?_⟩
    · obtain ⟨kv2, hk2, _⟩ := dp.same s2
      exact SqL.of (bb _ _ (ne_of hR hk2 (by intro z; cases z)) hR)
    · rintro j v σ H3 hj ⟨o3, o4, ks, val, rfl, b3, dp3, bp3, vup3⟩
      obtain ⟨t, htj, rfl⟩ := ref_at hj
      obtain ⟨pe, hpe, ht⟩ := paired_get hts htj
      rw [List.getElem?_map] at hpe
      obtain ⟨⟨p, e⟩, hqe, rfl⟩ := Option.map_eq_some_iff.mp hpe
      have hmem := List.mem_of_getElem? hqe
      have hp := fc.pr _ hmem
      have he := fc.of _ hmem
      have jl : j < qs.length := (List.getElem?_eq_some_iff.mp hqe).1
      obtain ⟨kv2, hk2, _⟩ := dp.same s2
      have ht3 : H3 t = some (.tup [.int (p : Int), .int (e : Int)]) := b3 _ _ (ne_of ht hk2 (by intro z; cases z)) ht
      obtain ⟨kvs, hk, keq, kval⟩ := id dp3
      refine ⟨t, _, rfl, SqT.of ht3, rfl, _, _, rfl, _, _, rfl, rfl, ?_⟩
      refine ⟨_, rfl, D, rfl, .inl ⟨kvs, .inl hk⟩, _, rfl, Nat.zero_le _, fun l0 n0 => ?_⟩
      refine ⟨_, DGet.k (k := ik p) ((same_new n0) _ _ hk), ?_⟩
      obtain ⟨la, ela, hla⟩ : ∃ la, (valV kvs (ik p)).getD (.ref l0) = .ref la ∧ (upd H3 l0 (.lst [])) la = some (.lst (iv (val p))) := by
        by_cases z : p ∈ ks
        · obtain ⟨a, e1, e2⟩ := kval p z
          exact ⟨a, by rw [e1]; rfl, (same_new n0) _ _ e2⟩
        · refine ⟨l0, by rw [val_out keq z]; rfl, ?_⟩
          rw [upd_same, bp3.out p z]
          rfl
      have vlen := bp3.len p
      rw [ela]
      refine ⟨_, rfl, (by show 1 ≤ sizeLine; decide), fun l1 n1 => ?_⟩
      refine ⟨la, l1, _, _, rfl, rfl, (same_new n1) _ _ hla, upd_same, ?_, fun l2 n2 => ?_⟩
      · rw [iv_len]
        exact Nat.le_of_lt (small1000 (by simp; omega))
      have ecat : iv (val p) ++ [V.int (e : Int)] = (((val p ++ [e]).map fun n : Nat => (n : Int))).map V.int := by
        rw [← iv_eq, iv_app]
        rfl
      rw [ecat]
      refine ⟨l2, _, rfl, SqL.of upd_same, by simp; omega, fun ns l3 pm up n3 => ?_⟩
      obtain ⟨es, rfl, pm2, up2⟩ := perm_nat pm up
      rw [← iv_eq es]
      have sA : Same H3 (upd (upd (upd (upd H3 l0 (.lst [])) l1 (.lst [.int (e : Int)])) l2 (.lst (((val p ++ [e]).map fun n : Nat => (n : Int)).map V.int))) l3 (.lst (iv es))) := ((same_new n0).trans (same_new n1)).trans ((same_new n2).trans (same_new n3))
      refine ⟨_, rfl, _, rfl, D, _, rfl, DPut.k (k := ik p) (sA _ _ hk) ?_, ?_⟩
      · have : kvs.length = ks.length := by
          have := congrArg List.length keq
          simpa using this
        rw [this]
        exact small1000 (by have := bp3.few; omega)
      · refine ⟨_, _, kadd ks p, vadd val p es, rfl, ?_, (dp3.same sA).put (sA _ _ hk) upd_same, (bq_put bp3 hp he pm2).mono (fun n => ?_) (Nat.le_refl _), up_vadd vup3 up2⟩
        · exact (b3.trans (But.same sA)).trans But.upd
        · rw [take_one hqe, Fo_app, Nat.mul_assoc]
          simp [Fo]
    · rintro σ H3 ⟨o3, o4, ks, val, rfl, b3, dp3, bp3, vup3⟩
      rw [List.length_map, tl, List.take_length] at bp3
      refine ⟨_, _, _, ks, val, rfl, but_same (s1.trans s2) nD b3, dp3, bp3.mono (fun n => ?_) (by omega), vup3⟩
      rw [fc.fo n, take_one hxi, F_app]
      simp [F]
  · rintro σ H1 ⟨o2, o3, o4, ks, val, rfl, s1, dp, bp, vup⟩
    rw [iv_len, List.take_length] at bp
    obtain ⟨kvs, hk, keq, kval⟩ := dp
    have kf := bp.few
    refine ⟨_, rfl, D, kvs, ks.map fun n : Nat => (n : Int), rfl, .inl hk, ?_, by rw [List.length_map]; omega, fun ys l pm up nl => ?_⟩
    · rw [keq, List.map_map]
      rfl
    obtain ⟨ys, rfl, pm2, up2⟩ := perm_nat pm up
    rw [← iv_eq ys]
    obtain ⟨td, gd⟩ := bq_td bp pm2 up2 (fun p _ => List.Perm.refl _) (fun p _ => vup p)
    refine ⟨l, rfl, ⟨_, SqL.of upd_same⟩, fun R nR => lc_list (K := K) (a := l) (xs := iv ys) (fun j H' => Same H1 H' ∧ H' l = some (.lst (iv ys)) ∧ TL H' R ((dl ys val).take j)) ⟨(same_new nl).trans (same_new nR), (same_new nR) _ _ upd_same, [], upd_same, .nil⟩ (fun j H' _ ⟨_, h, _⟩ => SqL.of h) ?_ ?_⟩
    · rintro j v H2 hj ⟨s2, hl2, hTL⟩
      obtain ⟨p, hp, rfl⟩ := iv_get hj
      have pk : p ∈ ks := pm2.mem_iff.mp (List.mem_of_getElem? hp)
      obtain ⟨a, e1, e2⟩ := kval p pk
      have jl : j < ys.length := (List.getElem?_eq_some_iff.mp hp).1
      have yk : ys.length = ks.length := pm2.length_eq
      refine ⟨rfl, _, rfl, _, rfl, _, rfl, D, _, rfl, ?_, a, _, rfl, .inl ⟨SqL.of (s2 _ _ e2), fun t0 n0 => ?_⟩⟩
      · have := DGet.k (k := ik p) (s2 _ _ hk)
        rw [e1] at this
        exact this
      refine ⟨(by show 2 ≤ sizeLine; decide), fun t nt => ?_⟩
      obtain ⟨ts, hR, hts⟩ := hTL
      have sB : Same H2 (upd (upd H2 t0 (.tup (iv (val p)))) t (.tup [.int (p : Int), .ref t0])) := (same_new n0).trans (same_new nt)
      have tl : ts.length = j := by
        have := Paired.length hts
        rw [List.length_take] at this
        unfold K35.dl at this
        rw [List.length_map] at this
        omega
      have nlR : l ≠ R := by
        rintro rfl
        rw [hR] at hl2
        exact absurd nR (by rw [upd_same]; simp)
      refine ⟨_, sB _ _ hR, by rw [List.length_map]; exact small1000 (by omega), ?_, ?_, ?_⟩
      · intro x o e
        have ne : x ≠ R := by
          rintro rfl
          rw [(same_new nl) _ _ e] at nR
          cases nR
        rw [upd_ne ne]
        exact sB _ _ (s2 _ _ e)
      · rw [upd_ne nlR]
        exact sB _ _ hl2
      · have keep : ∀ b xs, H2 b = some (.tup xs) → (upd (upd (upd H2 t0 (.tup (iv (val p)))) t (.tup [.int (p : Int), .ref t0])) R (.lst (ts.map V.ref ++ [.ref t]))) b = some (.tup xs) := fun b xs e => by
          rw [upd_ne (ne_of e hR (by intro z; cases z))]
          exact sB _ _ e
        have nt0R : t0 ≠ R := (ne_of_none hR n0).symm
        have ntR : t ≠ R := (ne_of_none ((same_new n0) _ _ hR) nt).symm
        refine ⟨ts ++ [t], by rw [upd_same, List.map_append]; rfl, ?_⟩
        rw [take_one (dl_get hp)]
        refine paired_snoc ⟨t0, ?a, ?b⟩ (Paired.mapP hts ?c)
        case a => rw [upd_ne ntR, upd_same]
        case b =>
          rw [upd_ne nt0R]
          exact (same_new nt) _ _ upd_same
        case c =>
          rintro t' x' ⟨a', e1', e2'⟩
          exact ⟨a', keep _ _ e1', keep _ _ e2'⟩
    · rintro H2 ⟨s2, hl2, hTL⟩
      have e3 : (dl ys val).take (iv ys).length = dl ys val := by
        rw [iv_len]
        have : (dl ys val).length = ys.length := List.length_map _
        rw [← this, List.take_length]
      rw [e3] at hTL
      refine q R _ _ (none_same (s1.trans (same_new nl)) nR) (s1.trans s2) hTL td gd ?_ ?_
      · unfold K35.dl
        rw [List.length_map, pm2.length_eq]
        omega
      · intro x hx
        obtain ⟨p, _, rfl⟩ := List.mem_map.mp hx
        have := bp.len p
        show (val p).length ≤ 48
        omega

/-! ### the law's own form -/
theorem iv_rev (l : List Nat) : (iv l).reverse = iv l.reverse := by
  unfold iv
  rw [List.map_reverse]
def rLf : V → Hp → VK → Prop := fun x H Q => ∃ (R : Addr) (d : List (Nat × List Nat)), x = .ref R ∧ TL H R d ∧ Told d ∧ G 0 d < 2 ^ 120 ∧ d.length ≤ 48 ∧ (∀ x ∈ d, x.2.length ≤ 48) ∧ ∀ r H', Same H H' → H' r = some (.tup (iv (laid d).reverse)) → Q (.ref r) H'
theorem laid_len {d : List (Nat × List Nat)} (h : ∀ x ∈ d, x.2.length ≤ 48) : ∀ k, (laid (d.take k)).length ≤ 48
  | 0 => by simp [laid]
  | k + 1 => by
    cases e : d[k]? with
    | none =>
      rw [List.take_succ, e]
      simpa using laid_len h k
    | some x =>
      rw [take_one e, laid_snoc, into_len, List.length_reverse]
      have := h x (List.mem_of_getElem? e)
      have := laid_len h k
      omega
theorem small120 {x : Nat} (h : x < 2 ^ 120) : ((x : Int)).natAbs < 2 ^ 120 := by
  rw [Int.natAbs_natCast]
  exact h
theorem ok_law_form (T : Txt K mg) : Fn P w K mg base 1 "_law_form" ["_law_told"] (sp1 rLf) := by
  refine T.d_law_form.ok sc_law_form len1 fun f cdv A outer s H vs Q E hr hg h => ?_
  obtain ⟨_, rfl, R, d, rfl, ⟨ts, hR, hts⟩, td, hG, d48, x48, q⟩ := h
  refine ⟨_, (pss_cons (ps_set (i := 1) sc_law_form.nd rfl (by first | exact Or.inl rfl | exact Or.inr rfl) (pe_lst pa_nil))
(pss_cons (ps_for PassesOwn.never rfl (piL_K (K := K) rfl (pv 0)) (pg_tup rfl (pgs_cons (pg_name (i := 2) sc_law_form.nd rfl (by first | exact Or.inl rfl | exact Or.inr rfl)) (pgs_cons (pg_name (i := 3) sc_law_form.nd rfl (by first | exact Or.inl rfl | exact Or.inr rfl)) pgs_nil)))
(pss_one (ps_for PassesOwn.never rfl (EnT.pi_enumT (by rfl) T.n_enumerate (pa_cons (pe_revT (pv 3)) pa_nil)) (pg_tup rfl (pgs_cons (pg_name (i := 4) sc_law_form.nd rfl (by first | exact Or.inl rfl | exact Or.inr rfl)) (pgs_cons (pg_name (i := 5) sc_law_form.nd rfl (by first | exact Or.inl rfl | exact Or.inr rfl)) pgs_nil)))
(pss_cons (ps_if (pt_cmpR op_eq (pv 4) (pe_callB (len_K (K := K) rfl) (by rfl) T.n_len (by decide +kernel) (pa_cons (pv 1) pa_nil)) (nomark _))
(pss_one (ps_expr (pe_bm PySem.F.plainAttrs_list PySem.F.slot_list_append PySem.F.type_list_append mt_append (pv 1) (pa_cons pe_int pa_nil))))
pss_nil)
(pss_one (ps_for PassesOwn.never rfl (pi_range1 (by rfl) T.n_range (pa_cons (pv 5) pa_nil)) (pg_name (i := 6) sc_law_form.nd rfl (by first | exact Or.inl rfl | exact Or.inr rfl))
(pss_one (ps_asg (pe_op op_mulW (pe_ix (ixL_K (K := K) rfl) (pv 1) (pv 4) (fun _ _ => rfl)) (pv 2)) (pg_sub (pv 1) (pv 4) set_list)))))))))
(pss_one (ps_ret (pe_callTy (tupOf_K (K := K) rfl) (by rfl) T.n_tuple (by decide +kernel) (pa_cons (pe_revL (pv 1)) pa_nil)))))), ?_⟩
  have tl : ts.length = d.length := Paired.length hts
  refine ⟨Nat.zero_le _, fun D nD => ?_⟩
  refine ⟨_, rfl, R, rfl, ⟨_, SqL.of ((same_new nD) _ _ hR)⟩, for_list (K := K) (a := R) (xs := ts.map V.ref) (fun i σ H' => ∃ o2 o3 o4 o5 o6 : Option V, σ = [some (.ref R), some (.ref D), o2, o3, o4, o5, o6] ∧ Same H H' ∧ H' D = some (.lst (iv (laid (d.take i)))))
    ⟨none, none, none, none, none, rfl, same_new nD, upd_same⟩ (fun i σ H' _ ⟨_, _, _, _, _, _, s1, _⟩ => SqL.of (s1 _ _ hR)) ?_ ?_⟩
  · rintro i v σ H1 hi ⟨o2, o3, o4, o5, o6, rfl, s1, hD⟩
    obtain ⟨t, hti, rfl⟩ := ref_at hi
    obtain ⟨⟨p, pws⟩, hxd, a, ht, ha⟩ := paired_get hts hti
    have hm := List.mem_of_getElem? hxd
    have il : i < d.length := (List.getElem?_eq_some_iff.mp hxd).1
    have hp := td.pr _ hm
    have hp2 : 2 ≤ p := hp.1
    have of := td.of _ hm
    have pl := x48 _ hm
    have lp := laid_pre td (i + 1) (by omega)
    rw [take_one hxd, laid_snoc] at lp
    have rl := laid_len x48 i
    have Gle : F 0 (into p pws.reverse (laid (d.take i))) < 2 ^ 120 := by
      rw [lp.f 0]
      have e := List.take_append_drop (i + 1) d
      have := G_pre td.pr e 0
      rw [take_one hxd] at this
      omega
    refine ⟨t, _, rfl, SqT.of (s1 _ _ ht), rfl, _, _, rfl, _, _, rfl, rfl, ?_⟩
    refine ⟨_, rfl, a, _, rfl, SqT.of (s1 _ _ ha), fun a2 n2 => ?_⟩
    rw [iv_rev]
    obtain ⟨es, ees⟩ : ∃ es, es = pws.reverse := ⟨_, rfl⟩
    obtain ⟨rs, ers⟩ : ∃ rs, rs = laid (d.take i) := ⟨_, rfl⟩
    have el : es.length ≤ 48 := by rw [ees, List.length_reverse]; exact pl
    rw [← ees, ← ers] at lp Gle
    rw [← ees]
    rw [← ers] at hD rl
    have hD2 := (same_new (o := .tup (iv es)) n2) _ _ hD
    have na2 : a2 ≠ D := (ne_of_none hD n2).symm
    refine ⟨a2, _, rfl, SqT.of upd_same, for_it (EnT.walk_enumT (K := K) (a := a2) (xs := iv es) (c := 0)) (fun k σ H' => ∃ o4 o5 o6 : Option V, σ = [some (.ref R), some (.ref D), some (.int (p : Int)), some (.ref a), o4, o5, o6] ∧ But D (upd H1 a2 (.tup (iv es))) H' ∧ H' D = some (.lst (iv (stp p es rs k))))
      ⟨o4, o5, o6, rfl, But.refl D _, by rw [stp_zero]; exact hD2⟩ (fun k σ H' _ ⟨_, _, _, _, bb, _⟩ => SqT.of (bb _ _ na2 upd_same)) ?_ ?_⟩
    · rintro k v σ H2 H3 hk ⟨o4, o5, o6, rfl, b2, hD3⟩ ⟨t2, y, rfl, nt2, rfl, hy⟩
      obtain ⟨e, he, rfl⟩ := iv_get hy
      rw [iv_len] at hk
      have e1 : 1 ≤ e := by
        have := List.mem_of_getElem? he
        rw [ees] at this
        exact of e (List.mem_reverse.mp this)
      refine ⟨t2, _, rfl, SqT.of upd_same, rfl, _, _, rfl, _, _, rfl, rfl, ?_⟩
      have hD4 := (same_new (o := .tup [.int (0 + (k : Nat)), .int (e : Int)]) nt2) _ _ hD3
      have b4 := b2.trans (But.same (d := D) (same_new (o := .tup [.int (0 + (k : Nat)), .int (e : Int)]) nt2))
      have e120 : e < 120 := by
        have pos := lp.big.pos
        have h3 := stp_le (m := e) he (Nat.le_refl _) (show 0 < p by omega) pos
        have h4 : 0 < rs[k]?.getD 1 * p ^ e := pos _ (List.mem_of_getElem? (into_get p es rs k e he))
        have h5 : 0 < rs[k]?.getD 1 := Nat.pos_of_mul_pos_right h4
        have h7 : 1 * p ^ e ≤ rs[k]?.getD 1 * p ^ e := Nat.mul_le_mul_right _ h5
        have h8 : 2 ^ e ≤ p ^ e := Nat.pow_le_pow_left hp2 e
        have h9 : 2 ^ e < 2 ^ 120 := by omega
        exact (Nat.pow_lt_pow_iff_right (by decide)).mp h9
      have Al := stp_len (p := p) (es := es) (rs := rs) (Nat.le_of_lt hk)
      have lap : ∀ (m : Nat) (H5 : Hp), H5 D = some (.lst (iv ((into p es rs).take k ++ (rs[k]?.getD 1 * p ^ m) :: rs.drop (k + 1)))) → atI (iv ((into p es rs).take k ++ (rs[k]?.getD 1 * p ^ m) :: rs.drop (k + 1))) (0 + (k : Int)) = some (.int ((rs[k]?.getD 1 * p ^ m : Nat) : Int)) := by
        intro m H5 _
        rw [Int.zero_add]
        refine atI_nat (iv_at ?_)
        have := mid_at (A := (into p es rs).take k) (x := rs[k]?.getD 1 * p ^ m) (B := rs.drop (k + 1))
        rw [Al] at this
        exact this
      have turn : ∀ (m : Nat), m < e → ∀ (o6 : Option V) (H5 : Hp), But D (upd H1 a2 (.tup (iv es))) H5 → H5 D = some (.lst (iv ((into p es rs).take k ++ (rs[k]?.getD 1 * p ^ m) :: rs.drop (k + 1)))) →
          ((rs[k]?.getD 1 * p ^ m : Nat) : Int).natAbs < 2 ^ 120 ∧ ((p : Nat) : Int).natAbs < 2 ^ 120 ∧ ixN (iv ((into p es rs).take k ++ (rs[k]?.getD 1 * p ^ m) :: rs.drop (k + 1))).length (0 + (k : Int)) = some k ∧
          (iv ((into p es rs).take k ++ (rs[k]?.getD 1 * p ^ m) :: rs.drop (k + 1))).set k (.int (((rs[k]?.getD 1 * p ^ m : Nat) : Int) * ((p : Nat) : Int))) = iv ((into p es rs).take k ++ (rs[k]?.getD 1 * p ^ (m + 1)) :: rs.drop (k + 1)) := by
        intro m hm o6 H5 _ _
        have pos := lp.big.pos
        have h1 := stp_le he (Nat.le_of_lt hm) (show 0 < p by omega) pos
        have h2 : p ≤ F 0 (into p es rs) := by
          have h3 := stp_le (m := e) he (Nat.le_refl _) (show 0 < p by omega) pos
          have h4 : 0 < rs[k]?.getD 1 * p ^ e := pos _ (List.mem_of_getElem? (into_get p es rs k e he))
          have h5 : 0 < rs[k]?.getD 1 := Nat.pos_of_mul_pos_right h4
          have h6 : p ^ 1 ≤ p ^ e := Nat.pow_le_pow_right (by omega) e1
          rw [Nat.pow_one] at h6
          have h7 : 1 * p ^ e ≤ rs[k]?.getD 1 * p ^ e := Nat.mul_le_mul_right _ h5
          omega
        refine ⟨small120 (by omega), small120 (by omega), ?_, ?_⟩
        · rw [Int.zero_add, iv_len]
          refine ix_nat ?_
          rw [List.length_append, Al, List.length_cons]
          omega
        · have e2 : (((rs[k]?.getD 1 * p ^ m : Nat) : Int) * ((p : Nat) : Int)) = ((rs[k]?.getD 1 * p ^ (m + 1) : Nat) : Int) := by
            rw [← Int.natCast_mul, Nat.pow_succ, Nat.mul_assoc]
          rw [e2, iv_set]
          have := mid_set (A := (into p es rs).take k) (x := rs[k]?.getD 1 * p ^ m) (y := rs[k]?.getD 1 * p ^ (m + 1)) (B := rs.drop (k + 1))
          rw [Al] at this
          rw [this]
      have sl := stp_all (p := p) (es := es) (rs := rs) (Nat.le_of_lt hk)
      refine ⟨_, rfl, _, rfl, D, _, rfl, .inl (SqL.of hD4), rfl, _, rfl, ite2 (fun ee => ?_) (fun ee => ?_)⟩
      · have hlen : rs.length ≤ k := by
          have := V.int.inj (of_decide_eq_true ee)
          rw [iv_len, sl] at this
          omega
        refine ⟨_, rfl, .inl ⟨rfl, _, SqL.of hD4⟩, D, _, _, rfl, rfl, hD4, by rw [iv_len, sl]; exact small1000 (by omega), ?_⟩
        have e3 : iv (stp p es rs k) ++ [V.int 1] = iv ((into p es rs).take k ++ rs[k]?.getD 1 :: rs.drop (k + 1)) := by
          rw [← stp_new hlen, iv_app]
          rfl
        rw [e3]
        refine ⟨_, rfl, _, rfl, by omega, by omega, for_range (lo := 0) (n := e) (fun m σ H' => ∃ o6 : Option V, σ = [some (.ref R), some (.ref D), some (.int (p : Int)), some (.ref a), some (.int (0 + (k : Nat))), some (.int (e : Int)), o6] ∧ But D (upd H1 a2 (.tup (iv es))) H' ∧ H' D = some (.lst (iv ((into p es rs).take k ++ (rs[k]?.getD 1 * p ^ m) :: rs.drop (k + 1)))))
          ⟨o6, rfl, b4.trans But.upd, by rw [upd_same, Nat.pow_zero, Nat.mul_one]⟩ ?_ ?_⟩
        · rintro m σ H5 hm ⟨o6, rfl, b5, hD5⟩
          obtain ⟨w1, w2, w3, w4⟩ := turn m hm o6 H5 b5 hD5
          refine ⟨_, rfl, _, rfl, D, _, _, _, rfl, rfl, SqL.of hD5, lap m H5 hD5, _, rfl, _, _, rfl, rfl, wide_mul (a := 120) (b := 120) w1 w2 (by decide) (by decide) (by decide), ?_⟩
          refine ⟨_, rfl, _, rfl, D, _, _, k, rfl, rfl, hD5, w3, ?_⟩
          rw [w4]
          exact ⟨_, rfl, b5.trans But.upd, upd_same⟩
        · rintro σ H5 ⟨o6, rfl, b5, hD5⟩
          exact ⟨_, _, _, rfl, b5, by rw [stp_next he]; exact hD5⟩
      · have hlen : k < rs.length := by
          have n : ¬ (0 + (k : Int)) = (((iv (stp p es rs k)).length : Nat) : Int) := fun z => ee (decide_eq_true (congrArg V.int z))
          rw [iv_len, sl] at n
          omega
        rw [stp_old hlen] at hD4
        refine ⟨_, rfl, _, rfl, by omega, by omega, for_range (lo := 0) (n := e) (fun m σ H' => ∃ o6 : Option V, σ = [some (.ref R), some (.ref D), some (.int (p : Int)), some (.ref a), some (.int (0 + (k : Nat))), some (.int (e : Int)), o6] ∧ But D (upd H1 a2 (.tup (iv es))) H' ∧ H' D = some (.lst (iv ((into p es rs).take k ++ (rs[k]?.getD 1 * p ^ m) :: rs.drop (k + 1)))))
          ⟨o6, rfl, b4, by rw [Nat.pow_zero, Nat.mul_one]; exact hD4⟩ ?_ ?_⟩
        · rintro m σ H5 hm ⟨o6, rfl, b5, hD5⟩
          obtain ⟨w1, w2, w3, w4⟩ := turn m hm o6 H5 b5 hD5
          refine ⟨_, rfl, _, rfl, D, _, _, _, rfl, rfl, SqL.of hD5, lap m H5 hD5, _, rfl, _, _, rfl, rfl, wide_mul (a := 120) (b := 120) w1 w2 (by decide) (by decide) (by decide), ?_⟩
          refine ⟨_, rfl, _, rfl, D, _, _, k, rfl, rfl, hD5, w3, ?_⟩
          rw [w4]
          exact ⟨_, rfl, b5.trans But.upd, upd_same⟩
        · rintro σ H5 ⟨o6, rfl, b5, hD5⟩
          exact ⟨_, _, _, rfl, b5, by rw [stp_next he]; exact hD5⟩
    · rintro σ H2 ⟨o4, o5, o6, rfl, b2, hD3⟩
      rw [iv_len, stp_end] at hD3
      refine ⟨_, _, _, _, _, rfl, but_same (s1.trans (same_new n2)) nD b2, ?_⟩
      rw [take_one hxd, laid_snoc, hD3, ees, ers]
  · rintro σ H1 ⟨o2, o3, o4, o5, o6, rfl, s1, hD⟩
    rw [List.length_map, tl, List.take_length] at hD
    refine ⟨_, rfl, D, _, rfl, SqL.of hD, fun l nl => ?_⟩
    rw [iv_rev]
    refine ⟨l, _, rfl, .inl ⟨SqL.of upd_same, fun r nr => ?_⟩⟩
    exact q r _ ((s1.trans (same_new nl)).trans (same_new nr)) upd_same

theorem iop_mulW {X : Cx} : OpR X (inplaceOp .Mult) (rI CMulW fun i j => .int (i * j)) := opI fun _ _ _ _ _ _ _ hc q => imul_int q hc.ok
theorem ok_primes_of (T : Txt K mg) : Fn P w K mg base 1 "primes_of" ["n"] (sp1 rFac) := by
  refine T.d_primes_of.ok sc_primes_of len1 fun f cdv A outer s H vs Q E hr hg h => ?_
  obtain ⟨_, rfl, n0, rfl, n1', n2', q0⟩ := h
  obtain ⟨n, en⟩ : ∃ n : Int, n = (n0 : Int) := ⟨_, rfl⟩
  have n1 : 1 ≤ n := by omega
  have n2 : n ≤ 1000000 := by omega
  have q : ∀ (ps : List (Int × Int)) (D : Addr) (H' : Hp) (lim : Int), prod ps = n → Rise lim ps → ps.length ≤ 1002 → Same H H' → H D = none → PL H' D ps → Q (.ref D) H' := fun ps D H' lim e ri _ s _ pl => by
    obtain ⟨qs, rfl, fc⟩ := fac_of e ri
    rw [en, Int.toNat_natCast] at fc
    exact q0 qs D H' fc s pl
  rw [← en]
  refine ⟨_, (pss_cons (ps_set (i := 1) sc_primes_of.nd rfl (by first | exact Or.inl rfl | exact Or.inr rfl) (pe_lst pa_nil))
(pss_cons (ps_set (i := 2) sc_primes_of.nd rfl (by first | exact Or.inl rfl | exact Or.inr rfl) pe_int)
(pss_cons (ps_while PassesOwn.never (pt_cmpR op_le (pe_op op_mul (pv 2) (pv 2)) (pv 0) (nomark _))
(pss_cons (ps_set (i := 3) sc_primes_of.nd rfl (by first | exact Or.inl rfl | exact Or.inr rfl) pe_int)
(pss_cons (ps_while PassesOwn.never (pt_cmpR op_eq (pe_op op_mod (pv 0) (pv 2)) pe_int (nomark _))
(pss_cons (ps_aug (i := 0) sc_primes_of.nd rfl (.inl rfl) (pv 2) iop_fdiv)
(pss_one (ps_aug (i := 3) sc_primes_of.nd rfl (.inl rfl) pe_int ip_add))))
(pss_cons (ps_if (pt_cmpR op_gt (pv 3) pe_int (nomark _))
(pss_one (ps_expr (pe_bm PySem.F.plainAttrs_list PySem.F.slot_list_append PySem.F.type_list_append mt_append (pv 1) (pa_cons (pe_tup (pa_cons (pv 2) (pa_cons (pv 3) pa_nil))) pa_nil))))
pss_nil)
(pss_one (ps_aug (i := 2) sc_primes_of.nd rfl (.inl rfl) pe_int ip_add))))))
(pss_cons (ps_if (pt_cmpR op_gt (pv 0) pe_int (nomark _))
(pss_one (ps_expr (pe_bm PySem.F.plainAttrs_list PySem.F.slot_list_append PySem.F.type_list_append mt_append (pv 1) (pa_cons (pe_tup (pa_cons (pv 0) (pa_cons pe_int pa_nil))) pa_nil))))
pss_nil)
(pss_one (ps_ret (pv 1))))))), ?_⟩
  refine ⟨Nat.zero_le _, fun D nD => ?_⟩
  -- the outer while
  refine ⟨fun k σ H' => ∃ (m p : Int) (ps : List (Int × Int)) (o3 : Option V), σ = [some (.int m), some (.ref D), some (.int p), o3] ∧ Same H H' ∧ PL H' D ps ∧ prod ps * m = n ∧ Rise p ps ∧ Rough p m ∧ 1 ≤ m ∧ 2 ≤ p ∧ p ≤ 1001 ∧ (ps.length : Int) ≤ p ∧ k = (1002 - p).toNat,
    ⟨_, n, 2, [], none, rfl, same_new nD, ⟨[], upd_same, .nil⟩, by simp [prod], rise_nil _, fun d h1 h2 => by omega, n1, by decide, by decide, by decide, rfl⟩, ?_⟩
  rintro k σ H1 ⟨m, p, ps, o3, rfl, sm, hpl, hn, ri, ro, m1, p2, p3, pl, rfl⟩
  have m6 := rest_le hn ri m1 n2
  refine ⟨_, rfl, _, rfl, _, _, rfl, rfl, .inl ⟨by omega, by omega⟩, _, rfl, _, _, rfl, rfl, _, rfl, ite2 (fun e => ?_) (fun e => ?_)⟩
  · have hsq : p * p ≤ m := of_decide_eq_true e
    have p4 := sq1000 hsq m6 (by omega)
    refine ⟨fun σ' H' => ∃ (m' p' : Int) (ps' : List (Int × Int)) (o3' : Option V), σ' = [some (.int m'), some (.ref D), some (.int p'), o3'] ∧ Same H H' ∧ PL H' D ps' ∧ prod ps' * m' = n ∧ Rise p' ps' ∧ Rough p' m' ∧ 1 ≤ m' ∧ 2 ≤ p' ∧ p' ≤ 1001 ∧ (ps'.length : Int) ≤ p' ∧ (1002 - p').toNat < (1002 - p).toNat, ?_, ?_⟩
    · rintro σ' H' ⟨m', p', ps', o3', rfl, a1, a2, a3, a4, a5, a6, a7, a8, a9, a10⟩
      exact ⟨_, a10, m', p', ps', o3', rfl, a1, a2, a3, a4, a5, a6, a7, a8, a9, rfl⟩
    -- often = 0, the inner while
    refine ⟨fun k σ H' => ∃ (m' : Int) (c : Nat), σ = [some (.int m'), some (.ref D), some (.int p), some (.int (c : Int))] ∧ H' = H1 ∧ 1 ≤ m' ∧ m = p ^ c * m' ∧ k = m'.toNat,
      ⟨_, m, 0, rfl, rfl, m1, by simp, rfl⟩, ?_⟩
    rintro k σ H' ⟨m', c, rfl, rfl, m1', em, rfl⟩
    refine ⟨_, rfl, _, rfl, _, _, rfl, rfl, (show (0 : Int) < p by omega), rfl, _, rfl, ite2 (fun e2 => ?_) (fun e2 => ?_)⟩
    · have hz : m' % p = 0 := V.int.inj (of_decide_eq_true e2)
      have hd := Int.mul_ediv_add_emod m' p
      rw [hz] at hd
      have q1 : 1 ≤ m' / p := by
        have h0 : 0 ≤ m' / p := Int.ediv_nonneg (by omega) (by omega)
        rcases (show m' / p = 0 ∨ 1 ≤ m' / p by omega) with z | z
        · rw [z] at hd
          omega
        · exact z
      have q2 : m' / p < m' := by
        have : 2 * (m' / p) ≤ p * (m' / p) := Int.mul_le_mul_of_nonneg_right p2 (by omega)
        omega
      refine ⟨fun σ' H'' => ∃ (m2 : Int) (c2 : Nat), σ' = [some (.int m2), some (.ref D), some (.int p), some (.int (c2 : Int))] ∧ H'' = H' ∧ 1 ≤ m2 ∧ m = p ^ c2 * m2 ∧ m2.toNat < m'.toNat, ?_, ?_⟩
      · rintro σ' H'' ⟨m2, c2, rfl, rfl, a1, a2, a3⟩
        exact ⟨_, a3, m2, c2, rfl, rfl, a1, a2, rfl⟩
      · refine ⟨_, rfl, _, rfl, m', p, rfl, rfl, ⟨by omega, by omega⟩, ?_⟩
        refine ⟨_, rfl, _, _, rfl, rfl, m' / p, c + 1, rfl, rfl, q1, ?_, by omega⟩
        rw [em, Int.pow_succ, Int.mul_assoc]
        have : p * (m' / p) = m' := by omega
        rw [this]
    · have hz : ¬ p ∣ m' := fun z => e2 (decide_eq_true (congrArg V.int (Int.emod_eq_zero_of_dvd z)))
      have hdm : m' ∣ m := ⟨p ^ c, by rw [em, Int.mul_comm]⟩
      have ro' : Rough (p + 1) m' := rough_next (rough_dvd ro hdm) hz
      refine ⟨_, rfl, _, _, rfl, rfl, _, rfl, ite2 (fun e3 => ?_) (fun e3 => ?_)⟩
      · have hc : (0 : Int) < (c : Int) := of_decide_eq_true e3
        obtain ⟨c', rfl⟩ : ∃ c', c = c' + 1 := ⟨c - 1, by omega⟩
        have hdp : p ∣ m := ⟨p ^ c' * m', by rw [em, Int.pow_succ, Int.mul_comm (p ^ c') p, Int.mul_assoc]⟩
        obtain ⟨ts, hD, hts⟩ := id hpl
        refine ⟨_, rfl, .inl ⟨rfl, _, SqL.of hD⟩, _, rfl, _, rfl, (by show 2 ≤ sizeLine; decide), fun t ht => ?_⟩
        have hD2 : (upd H' t (.tup [.int p, .int ((c' + 1 : Nat) : Int)])) D = some (.lst (ts.map V.ref)) := by
          rw [upd_ne (ne_of_none hD ht)]
          exact hD
        refine ⟨D, _, _, rfl, rfl, hD2, ?_, ?_⟩
        · rw [List.length_map, pl_len hts]
          exact small1000 (by omega)
        · refine ⟨_, rfl, _, _, rfl, rfl, m', p + 1, ps ++ [(p, ((c' + 1 : Nat) : Int))], _, rfl, same_app sm nD ht, hpl.app ht hD, ?_, ri.snoc (pri_least p2 ro hdp) (by omega) (Int.le_refl _), ro', m1', by omega, by omega, ?_, by omega⟩
          · rw [prod_snoc, Int.toNat_natCast, Int.mul_assoc, ← em]
            exact hn
          · have el : (ps ++ [(p, ((c' + 1 : Nat) : Int))]).length = ps.length + 1 := by simp
            rw [el]
            omega
      · have hc : ¬ (0 : Int) < (c : Int) := of_decide_eq_false (Bool.eq_false_iff.mpr e3)
        have hc0 : c = 0 := by omega
        subst hc0
        have em' : m = m' := by simpa using em
        subst em'
        exact ⟨_, rfl, _, _, rfl, rfl, m, p + 1, ps, _, rfl, sm, hpl, hn, ri.mono (by omega), ro', m1, by omega, by omega, by omega, by omega⟩
  · have hsq : ¬ p * p ≤ m := of_decide_eq_false (Bool.eq_false_iff.mpr e)
    refine ⟨_, rfl, _, _, rfl, rfl, _, rfl, ite2 (fun e2 => ?_) (fun e2 => ?_)⟩
    · have hm : 1 < m := of_decide_eq_true e2
      have hpm : p ≤ m := by
        by_cases z : p ≤ m
        · exact z
        · exact absurd (Int.dvd_refl m) (ro m (by omega) (by omega))
      obtain ⟨ts, hD, hts⟩ := id hpl
      refine ⟨_, rfl, .inl ⟨rfl, _, SqL.of hD⟩, _, rfl, (by show 2 ≤ sizeLine; decide), fun t ht => ?_⟩
      have hD2 : (upd H1 t (.tup [.int m, .int 1])) D = some (.lst (ts.map V.ref)) := by
        rw [upd_ne (ne_of_none hD ht)]
        exact hD
      refine ⟨D, _, _, rfl, rfl, hD2, ?_, ?_⟩
      · rw [List.length_map, pl_len hts]
        exact Nat.lt_of_le_of_lt (show ps.length ≤ 1001 by omega) (by decide)
      · refine ⟨_, rfl, ?_⟩
        refine q (ps ++ [(m, 1)]) D _ (m + 1) ?_ (ri.snoc (pri_rest hm ro (by omega) p2) (by decide) hpm) ?_ (same_app sm nD ht) nD (hpl.app ht hD)
        · rw [prod_snoc]
          have : m ^ (1 : Int).toNat = m := by
            rw [show (1 : Int).toNat = 0 + 1 from rfl, Int.pow_succ, Int.pow_zero, Int.one_mul]
          rw [this]
          exact hn
        · have el : (ps ++ [(m, (1 : Int))]).length = ps.length + 1 := by simp
          rw [el]
          omega
    · have hm : ¬ 1 < m := of_decide_eq_false (Bool.eq_false_iff.mpr e2)
      have hm1 : m = 1 := by omega
      subst hm1
      refine ⟨_, rfl, ?_⟩
      exact q ps D _ p (by simpa using hn) ri (by omega) sm nD hpl

/-! ### powers -/
theorem sorted_K {X : Cx} (hK : X.K = K) : CallR X (.builtin "sorted") (rSorted K) := by
  subst hK
  exact cr_sorted
theorem seq_inv1 {s r : TS} {D : Ends} {σ : L2.St} {H : Hp} (I : L2.St → Hp → Prop) (tail : ∀ σ' H', I σ' H' → r D σ' H') (main : (∀ σ' H', I σ' H' → r D σ' H') → tSeq s r D σ H) : tSeq s r D σ H := main tail
def rPow : V → V → Hp → VK → Prop := fun x y H Q => ∃ p e : Nat, x = .int (p : Int) ∧ y = .int (e : Int) ∧ 1 ≤ p ∧ e < 120 ∧ p ^ e < 2 ^ 120 ∧ Q (.int ((p ^ e : Nat) : Int)) H
theorem sm120 {x : Nat} (h : x < 2 ^ 120) : ((x : Int)).natAbs < 2 ^ 120 := by
  rw [Int.natAbs_natCast]
  exact h
theorem ok_power (T : Txt K mg) : Fn P w K mg base 1 "power" ["base", "many"] (sp2 rPow) := by
  refine T.d_power.ok sc_power len2 fun f cdv A outer s H vs Q E hr hg h => ?_
  obtain ⟨_, _, rfl, p, e, rfl, rfl, p1, e120, pb, q⟩ := h
  refine ⟨_, (pss_cons (ps_set (i := 2) sc_power.nd rfl (by first | exact Or.inl rfl | exact Or.inr rfl) pe_int)
(pss_cons (ps_for PassesOwn.never rfl (pi_range1 (by rfl) T.n_range (pa_cons (pv 1) pa_nil)) (pg_name (i := 3) sc_power.nd rfl (by first | exact Or.inl rfl | exact Or.inr rfl))
(pss_one (ps_aug (i := 2) sc_power.nd rfl (.inl rfl) (pv 0) iop_mulW)))
(pss_one (ps_ret (pv 2))))), ?_⟩
  refine ⟨_, rfl, ((e : Nat) : Int), rfl, by omega, by omega, for_range (lo := 0) (n := e) (fun j σ H' => ∃ o : Option V, σ = [some (.int (p : Int)), some (.int (e : Int)), some (.int ((p ^ j : Nat) : Int)), o] ∧ H' = H) ⟨none, rfl, rfl⟩ ?_ ?_⟩
  · rintro j σ H' jl ⟨o, rfl, rfl⟩
    have h1 : p ^ j ≤ p ^ e := Nat.pow_le_pow_right p1 (by omega)
    have h2 : p ^ 1 ≤ p ^ e := Nat.pow_le_pow_right p1 (by omega)
    rw [Nat.pow_one] at h2
    refine ⟨_, rfl, _, rfl, _, _, rfl, rfl, wide_mul (a := 120) (b := 120) (sm120 (by omega)) (sm120 (by omega)) (by decide) (by decide) (by decide), ?_⟩
    refine ⟨some (.int (0 + (j : Int))), ?_, rfl⟩
    have e2 : ((p ^ j : Nat) : Int) * ((p : Nat) : Int) = ((p ^ (j + 1) : Nat) : Int) := by rw [← Int.natCast_mul, Nat.pow_succ]
    rw [← e2]
    rfl
  · rintro σ H' ⟨o, rfl, rfl⟩
    exact ⟨_, rfl, q⟩
/-! ### the program's by_primes -/
def srt (l : List Nat) : List Nat := l.mergeSort fun a b => decide (a ≤ b)
theorem srt_perm (l : List Nat) : (srt l).Perm l := List.mergeSort_perm _ _
theorem srt_up (l : List Nat) : (srt l).Pairwise (· ≤ ·) := by
  have h := List.pairwise_mergeSort (le := fun a b : Nat => decide (a ≤ b)) (fun a b c h1 h2 => by simp at *; omega) (fun a b => by simp; omega) l
  exact h.imp fun h => by simpa using h
theorem sort_uniq : ∀ {l m : List Nat}, l.Perm m → l.Pairwise (· ≤ ·) → m.Pairwise (· ≤ ·) → l = m
  | [], [], _, _, _ => rfl
  | [], b :: m, p, _, _ => by simpa using p.length_eq
  | a :: l, [], p, _, _ => by simpa using p.length_eq
  | a :: l, b :: m, p, h1, h2 => by
    have x1 := List.pairwise_cons.mp h1
    have x2 := List.pairwise_cons.mp h2
    have ab : a = b := by
      have m1 : a ∈ b :: m := p.mem_iff.mp List.mem_cons_self
      have m2 : b ∈ a :: l := p.mem_iff.mpr List.mem_cons_self
      rcases List.mem_cons.mp m1 with z | z
      · exact z
      · rcases List.mem_cons.mp m2 with y | y
        · exact y.symm
        · have := x2.1 a z
          have := x1.1 b y
          omega
    subst ab
    rw [sort_uniq p.cons_inv x1.2 x2.2]
theorem ok_by_primes (T : Txt K mg) : Fn P w K mg base 2 "by_primes" ["house"] (sp1 rBy) := by
  have G_primes_of := ok_primes_of (P := P) (w := w) (base := base) T
  refine T.d_by_primes.ok sc_by_primes len1 fun f cdv A outer s H vs Q E hr hg h => ?_
  have hu := hu_of hr
  obtain ⟨_, rfl, b, ms, rfl, hb, h6, hx, q⟩ := h
  refine ⟨_, (pss_cons (ps_set (i := 1) sc_by_primes.nd rfl (by first | exact Or.inl rfl | exact Or.inr rfl) pe_dnewK)
(pss_cons (ps_for PassesOwn.never rfl (piT_K (K := K) rfl (pv 0)) (pg_name (i := 2) sc_by_primes.nd rfl (by first | exact Or.inl rfl | exact Or.inr rfl))
(pss_one (ps_for PassesOwn.never rfl (piL_K (K := K) rfl (pe_fn G_primes_of (hr.mono (by decide)) hg (by rfl) (pa_cons (pv 2) pa_nil))) (pg_tup rfl (pgs_cons (pg_name (i := 3) sc_by_primes.nd rfl (by first | exact Or.inl rfl | exact Or.inr rfl)) (pgs_cons (pg_name (i := 4) sc_by_primes.nd rfl (by first | exact Or.inl rfl | exact Or.inr rfl)) pgs_nil)))
(pss_one (ps_dput hu (pv 1) (pv 3) (pe_lst (StX.pa_star (pe_dget2 hu (pv 1) (pv 3) (pe_lst pa_nil) ⟨rfl, rfl, rfl, rfl⟩) (pa_cons (pv 4) pa_nil))) rfl)))))
(pss_one (ps_ret (pe_lc (own := [("prime", 3)]) rfl sc_by_primes.nd (piL_K (K := K) rfl (pe_callB (call_sortedDI rfl) (by rfl) T.n_sorted (by decide +kernel) (pa_cons (pv 1) pa_nil))) (blkOk_by (own := [("prime", 3)]) (N := N_by_primes) (sc := defScope s_by_primes) (by decide +kernel)) (fun _ _ _ _ _ => (pg_name (i := 3) sc_by_primes.nd rfl (by first | exact Or.inl rfl | exact Or.inr rfl))) (fun _ _ _ _ _ => pts_nil) (fun _ _ _ _ _ => (pe_tup (pa_cons (pv 3) (pa_cons (pe_callTy (tupOf_K (K := K) rfl) (by rfl) T.n_tuple (by decide +kernel) (pa_cons (pe_callB (sorted_K (K := K) rfl) (by rfl) T.n_sorted (by decide +kernel) (pa_cons (pe_dget hu (pv 1) (pv 3) (fun _ _ => rfl)) pa_nil)) pa_nil)) pa_nil))))))))), ?_⟩
  intro D nD
  refine ⟨_, rfl, b, rfl, ⟨_, SqT.of ((same_new nD) _ _ hb)⟩, for_tup (K := K) (a := b) (xs := iv ms) (fun i σ H' => ∃ (o2 o3 o4 : Option V) (ks : List Nat) (val : Nat → List Nat), σ = [some (.ref b), some (.ref D), o2, o3, o4] ∧ Same H H' ∧ DP H' D ks val ∧ BQ ks val (fun n => F n (ms.take i)) (8 * i))
    ⟨none, none, none, [], fun _ => [], rfl, same_new nD, ⟨[], upd_same, rfl, by simp⟩, bq_nil.mono (fun n => rfl) (Nat.le_refl _)⟩ (fun i σ H' _ ⟨_, _, _, _, _, _, s1, _⟩ => SqT.of (s1 _ _ hb)) ?_ ?_⟩
  · rintro i v σ H1 hi ⟨o2, o3, o4, ks, val, rfl, s1, dp, bp⟩
    obtain ⟨x, hxi, rfl⟩ := iv_get hi
    have xb := hx x (List.mem_of_getElem? hxi)
    have il : i < ms.length := (List.getElem?_eq_some_iff.mp hxi).1
    refine ⟨_, rfl, _, rfl, x, rfl, xb.1, xb.2, fun qs R H2 fc s2 hpl => ?_⟩
    obtain ⟨ts, hR, hts⟩ := hpl
    have q8 := fc.few xb.2
    have tl : ts.length = qs.length := by
      have := Paired.length hts
      rw [List.length_map] at this
      exact this
    refine ⟨R, rfl, ⟨_, SqL.of hR⟩, for_list (K := K) (a := R) (xs := ts.map V.ref) (fun j σ H' => ∃ (o3 o4 : Option V) (ks : List Nat) (val : Nat → List Nat), σ = [some (.ref b), some (.ref D), some (.int (x : Int)), o3, o4] ∧ But D H2 H' ∧ DP H' D ks val ∧ BQ ks val (fun n => F n (ms.take i) * Fo n (qs.take j)) (8 * i + j))
      ⟨o3, o4, ks, val, rfl, But.refl D H2, dp.same s2, bp.mono (fun n => by simp [Fo]) (Nat.le_refl _)⟩ (fun j σ H' _ ⟨_, _, _, _, _, bb, _, _⟩ => ?_) ?_ ?_⟩
    · obtain ⟨kv2, hk2, _⟩ := dp.same s2
      exact SqL.of (bb _ _ (ne_of hR hk2 (by intro z; cases z)) hR)
    · rintro j v σ H3 hj ⟨o3, o4, ks, val, rfl, b3, dp3, bp3⟩
      obtain ⟨t, htj, rfl⟩ := ref_at hj
      obtain ⟨pe, hpe, ht⟩ := paired_get hts htj
      rw [List.getElem?_map] at hpe
      obtain ⟨⟨p, e⟩, hqe, rfl⟩ := Option.map_eq_some_iff.mp hpe
      have hmem := List.mem_of_getElem? hqe
      have hp := fc.pr _ hmem
      have he := fc.of _ hmem
      have jl : j < qs.length := (List.getElem?_eq_some_iff.mp hqe).1
      obtain ⟨kv2, hk2, _⟩ := dp.same s2
      have ht3 : H3 t = some (.tup [.int (p : Int), .int (e : Int)]) := b3 _ _ (ne_of ht hk2 (by intro z; cases z)) ht
      obtain ⟨kvs, hk, keq, kval⟩ := id dp3
      refine ⟨t, _, rfl, SqT.of ht3, rfl, _, _, rfl, _, _, rfl, rfl, ?_⟩
      refine ⟨_, rfl, D, rfl, .inl ⟨kvs, .inl hk⟩, _, rfl, Nat.zero_le _, fun l0 n0 => ?_⟩
      refine ⟨_, DGet.k (k := ik p) ((same_new n0) _ _ hk), ?_⟩
      obtain ⟨la, ela, hla⟩ : ∃ la, (valV kvs (ik p)).getD (.ref l0) = .ref la ∧ (upd H3 l0 (.lst [])) la = some (.lst (iv (val p))) := by
        by_cases z : p ∈ ks
        · obtain ⟨a, e1, e2⟩ := kval p z
          exact ⟨a, by rw [e1]; rfl, (same_new n0) _ _ e2⟩
        · refine ⟨l0, by rw [val_out keq z]; rfl, ?_⟩
          rw [upd_same, bp3.out p z]
          rfl
      have vlen := bp3.len p
      rw [ela]
      refine ⟨la, _, rfl, .inr (SqL.of hla), _, rfl, ?_, fun l1 n1 => ?_⟩
      · rw [List.length_append, iv_len]
        exact Nat.le_of_lt (small1000 (by simp; omega))
      have ecat : iv (val p) ++ [V.int (e : Int)] = iv (val p ++ [e]) := by
        rw [iv_app]
        rfl
      rw [ecat]
      have sA : Same H3 (upd (upd H3 l0 (.lst [])) l1 (.lst (iv (val p ++ [e])))) := (same_new n0).trans (same_new n1)
      refine ⟨_, rfl, _, rfl, D, _, rfl, DPut.k (k := ik p) (sA _ _ hk) ?_, ?_⟩
      · have : kvs.length = ks.length := by
          have := congrArg List.length keq
          simpa using this
        rw [this]
        exact small1000 (by have := bp3.few; omega)
      · refine ⟨_, _, kadd ks p, vadd val p (val p ++ [e]), rfl, ?_, (dp3.same sA).put (sA _ _ hk) upd_same, (bq_put bp3 hp he (List.Perm.refl _)).mono (fun n => ?_) (Nat.le_refl _)⟩
        · exact (b3.trans (But.same sA)).trans But.upd
        · rw [take_one hqe, Fo_app, Nat.mul_assoc]
          simp [Fo]
    · rintro σ H3 ⟨o3, o4, ks, val, rfl, b3, dp3, bp3⟩
      rw [List.length_map, tl, List.take_length] at bp3
      refine ⟨_, _, _, ks, val, rfl, but_same (s1.trans s2) nD b3, dp3, bp3.mono (fun n => ?_) (by omega)⟩
      rw [fc.fo n, take_one hxi, F_app]
      simp [F]
  · rintro σ H1 ⟨o2, o3, o4, ks, val, rfl, s1, dp, bp⟩
    rw [iv_len, List.take_length] at bp
    obtain ⟨kvs, hk, keq, kval⟩ := dp
    have kf := bp.few
    refine ⟨_, rfl, D, kvs, ks.map fun n : Nat => (n : Int), rfl, .inl hk, ?_, by rw [List.length_map]; omega, fun ys l pm up nl => ?_⟩
    · rw [keq, List.map_map]
      rfl
    obtain ⟨ys, rfl, pm2, up2⟩ := perm_nat pm up
    rw [← iv_eq ys]
    obtain ⟨td, gd⟩ := bq_td (wal := fun p => srt (val p)) bp pm2 up2 (fun p _ => srt_perm _) (fun p _ => srt_up _)
    refine ⟨l, rfl, ⟨_, SqL.of upd_same⟩, fun R nR => lc_list (K := K) (a := l) (xs := iv ys) (fun j H' => Same H1 H' ∧ H' l = some (.lst (iv ys)) ∧ TL H' R ((dl ys fun p => srt (val p)).take j)) ⟨(same_new nl).trans (same_new nR), (same_new nR) _ _ upd_same, [], upd_same, .nil⟩ (fun j H' _ ⟨_, h, _⟩ => SqL.of h) ?_ ?_⟩
    · rintro j v H2 hj ⟨s2, hl2, hTL⟩
      obtain ⟨p, hp, rfl⟩ := iv_get hj
      have pk : p ∈ ks := pm2.mem_iff.mp (List.mem_of_getElem? hp)
      obtain ⟨a, e1, e2⟩ := kval p pk
      have jl : j < ys.length := (List.getElem?_eq_some_iff.mp hp).1
      have yk : ys.length = ks.length := pm2.length_eq
      have vl := bp.len p
      have e22 := s2 _ _ e2
      rw [iv_eq] at e22
      refine ⟨rfl, _, rfl, _, rfl, _, rfl, D, _, rfl, ?_, a, _, rfl, SqL.of e22, by rw [List.length_map]; omega, fun ns l2 pm3 up3 n2 => ?_⟩
      · have := DGet.k (k := ik p) (s2 _ _ hk)
        rw [e1] at this
        exact this
      obtain ⟨es, rfl, pm4, up4⟩ := perm_nat pm3 up3
      have ees : es = srt (val p) := sort_uniq (pm4.trans (srt_perm _).symm) up4 (srt_up _)
      subst ees
      rw [← iv_eq]
      refine ⟨l2, _, rfl, .inl ⟨SqL.of upd_same, fun t0 n0 => ?_⟩⟩
      refine ⟨(by show 2 ≤ sizeLine; decide), fun t nt => ?_⟩
      obtain ⟨ts, hR, hts⟩ := hTL
      have sB : Same H2 (upd (upd (upd H2 l2 (.lst (iv (srt (val p))))) t0 (.tup (iv (srt (val p))))) t (.tup [.int (p : Int), .ref t0])) := ((same_new n2).trans (same_new n0)).trans (same_new nt)
      have tl : ts.length = j := by
        have := Paired.length hts
        rw [List.length_take] at this
        unfold K35.dl at this
        rw [List.length_map] at this
        omega
      have nlR : l ≠ R := by
        rintro rfl
        rw [hR] at hl2
        exact absurd nR (by rw [upd_same]; simp)
      refine ⟨_, sB _ _ hR, by rw [List.length_map]; exact small1000 (by omega), ?_, ?_, ?_⟩
      · intro x o e
        have ne : x ≠ R := by
          rintro rfl
          rw [(same_new nl) _ _ e] at nR
          cases nR
        rw [upd_ne ne]
        exact sB _ _ (s2 _ _ e)
      · rw [upd_ne nlR]
        exact sB _ _ hl2
      · have keep : ∀ b xs, H2 b = some (.tup xs) → (upd (upd (upd (upd H2 l2 (.lst (iv (srt (val p))))) t0 (.tup (iv (srt (val p))))) t (.tup [.int (p : Int), .ref t0])) R (.lst (ts.map V.ref ++ [.ref t]))) b = some (.tup xs) := fun b xs e => by
          rw [upd_ne (ne_of e hR (by intro z; cases z))]
          exact sB _ _ e
        have nt0R : t0 ≠ R := (ne_of_none ((same_new n2) _ _ hR) n0).symm
        have ntR : t ≠ R := (ne_of_none (((same_new n2).trans (same_new n0)) _ _ hR) nt).symm
        refine ⟨ts ++ [t], by rw [upd_same, List.map_append]; rfl, ?_⟩
        rw [take_one (dl_get (val := fun p => srt (val p)) hp)]
        refine paired_snoc ⟨t0, ?a, ?b⟩ (Paired.mapP hts ?c)
        case a => rw [upd_ne ntR, upd_same]
        case b =>
          rw [upd_ne nt0R]
          exact (same_new nt) _ _ upd_same
        case c =>
          rintro t' x' ⟨a', e1', e2'⟩
          exact ⟨a', keep _ _ e1', keep _ _ e2'⟩
    · rintro H2 ⟨s2, hl2, hTL⟩
      have e3 : (dl ys fun p => srt (val p)).take (iv ys).length = dl ys fun p => srt (val p) := by
        rw [iv_len]
        have : (dl ys fun p => srt (val p)).length = ys.length := List.length_map _
        rw [← this, List.take_length]
      rw [e3] at hTL
      refine q R _ _ (none_same (s1.trans (same_new nl)) nR) (s1.trans s2) hTL td gd ?_ ?_
      · unfold K35.dl
        rw [List.length_map, pm2.length_eq]
        omega
      · intro x hx
        obtain ⟨p, _, rfl⟩ := List.mem_map.mp hx
        have := bp.len p
        show (srt (val p)).length ≤ 48
        rw [(srt_perm (val p)).length_eq]
        omega
/-! ### a house from primes -/
def lens (d : List (Nat × List Nat)) : List Int := d.map fun x => ((x.2.length : Nat) : Int)
theorem rep_rev (m : Nat) : (pad m []).reverse = List.replicate m 1 := by
  unfold pad
  rw [List.nil_append, List.length_nil, Nat.sub_zero, List.reverse_replicate]
theorem ok_from_primes (T : Txt K mg) : Fn P w K mg base 2 "from_primes" ["told"] (sp1 rLf) := by
  have G_power := ok_power (P := P) (w := w) (base := base) T
  refine T.d_from_primes.ok sc_from_primes len1 fun f cdv A outer s H vs Q E hr hg h => ?_
  obtain ⟨_, rfl, R, d, rfl, ⟨ts, hR, hts⟩, td, hG, d48, x48, q⟩ := h
  refine ⟨_, (pss_cons (ps_set (i := 1) sc_from_primes.nd rfl (by first | exact Or.inl rfl | exact Or.inr rfl) (pe_callBK (MxD.cr_maxD rfl) (by rfl) T.n_max (by decide +kernel) (pa_cons (pe_lc (own := [("prime", 3), ("powers", 4)]) (g := gTup K 2 (gCons (gName 3) (gCons (gName 4) gNil))) rfl sc_from_primes.nd (piL_K (K := K) rfl (pv 0)) (blkOk_by (own := [("prime", 3), ("powers", 4)]) (N := N_from_primes) (sc := defScope s_from_primes) (by decide +kernel)) (fun _ _ _ _ _ => (pg_tup rfl (pgs_cons (pg_name (i := 3) sc_from_primes.nd rfl (by first | exact Or.inl rfl | exact Or.inr rfl)) (pgs_cons (pg_name (i := 4) sc_from_primes.nd rfl (by first | exact Or.inl rfl | exact Or.inr rfl)) pgs_nil)))) (fun _ _ _ _ _ => pts_nil) (fun _ _ _ _ _ => (pe_callB (len_K (K := K) rfl) (by rfl) T.n_len (by decide +kernel) (pa_cons (pv 4) pa_nil)))) pa_nil) (pk_cons pe_int pk_nil)))
(pss_cons (ps_setLc (i := 2) (own := [("place", 5)]) rfl sc_from_primes.nd rfl rfl (sw_true rfl rfl rfl (by decide +kernel)) (pi_range1 (by rfl) T.n_range (pa_cons (pv 1) pa_nil)) (blkOk_by (own := [("place", 5)]) (N := N_from_primes) (sc := defScope s_from_primes) (by decide +kernel)) (fun _ _ _ _ _ => (pg_name (i := 5) sc_from_primes.nd rfl (by first | exact Or.inl rfl | exact Or.inr rfl))) (fun _ _ _ _ _ => pts_nil) (fun _ _ _ _ _ => pe_int))
(pss_cons (ps_for PassesOwn.never rfl (piL_K (K := K) rfl (pv 0)) (pg_tup rfl (pgs_cons (pg_name (i := 3) sc_from_primes.nd rfl (by first | exact Or.inl rfl | exact Or.inr rfl)) (pgs_cons (pg_name (i := 4) sc_from_primes.nd rfl (by first | exact Or.inl rfl | exact Or.inr rfl)) pgs_nil)))
(pss_one (ps_for PassesOwn.never rfl (EnT.pi_enumS (by rfl) T.n_enumerate (pa_cons (pv 4) pa_nil) (pk_cons (pe_op op_sub (pv 1) (pe_callB (len_K (K := K) rfl) (by rfl) T.n_len (by decide +kernel) (pa_cons (pv 4) pa_nil))) pk_nil)) (pg_tup rfl (pgs_cons (pg_name (i := 5) sc_from_primes.nd rfl (by first | exact Or.inl rfl | exact Or.inr rfl)) (pgs_cons (pg_name (i := 6) sc_from_primes.nd rfl (by first | exact Or.inl rfl | exact Or.inr rfl)) pgs_nil)))
(pss_one (ps_augS (pv 2) (pv 5) AuL.get_list (pe_fn G_power (hr.mono (by decide)) hg (by rfl) (pa_cons (pv 3) (pa_cons (pv 6) pa_nil))) iop_mulW set_list)))))
(pss_one (ps_ret (pe_callTy (tupOf_K (K := K) rfl) (by rfl) T.n_tuple (by decide +kernel) (pa_cons (pv 2) pa_nil))))))), ?_⟩
  have tl : ts.length = d.length := Paired.length hts
  refine seq_inv1 (fun σ' H' => ∃ m : Nat, σ' = [some (.ref R), some (.int (m : Int)), none, none, none, none, none] ∧ Same H H' ∧ m ≤ 48 ∧ (∀ x ∈ d, x.2.length ≤ m) ∧ (m = 0 ∨ ∃ x ∈ d, x.2.length = m)) ?_ ?_
  · rintro σ' H1 ⟨m, rfl, s1, m48, mle, mex⟩
    refine ⟨_, rfl, (m : Int), rfl, by omega, by omega, fun L nL => ?_⟩
    refine lc_range (lo := 0) (n := m) (fun j H' => Same H1 H' ∧ H' L = some (.lst (iv (List.replicate j 1)))) ⟨same_new nL, upd_same⟩ ?_ ?_
    · rintro j H2 jl ⟨s2, hL⟩
      refine ⟨rfl, _, hL, by rw [iv_len, List.length_replicate]; exact small1000 (by omega), fresh_upd s2 nL, ?_⟩
      rw [upd_same, List.replicate_succ', iv_app]
      rfl
    rintro H2 ⟨s2, hL2⟩
    have nL0 : H L = none := by
      cases e : H L with
      | none => rfl
      | some o =>
        rw [s1 _ _ e] at nL
        cases nL
    have s02 := s1.trans s2
    refine ⟨_, rfl, R, rfl, ⟨_, SqL.of (s02 _ _ hR)⟩, for_list (K := K) (a := R) (xs := ts.map V.ref) (fun i σ H' => ∃ o3 o4 o5 o6 : Option V, σ = [some (.ref R), some (.int (m : Int)), some (.ref L), o3, o4, o5, o6] ∧ Same H H' ∧ H' L = some (.lst (iv (pad m (laid (d.take i))).reverse)))
      ⟨none, none, none, none, rfl, s02, by rw [List.take_zero]; show _ = some (HO.lst (iv (pad m []).reverse)); rw [rep_rev]; exact hL2⟩ (fun i σ H' _ ⟨_, _, _, _, _, s3, _⟩ => SqL.of (s3 _ _ hR)) ?_ ?_⟩
    · rintro i v σ H3 hi ⟨o3, o4, o5, o6, rfl, s3, hL3⟩
      obtain ⟨t, hti, rfl⟩ := ref_at hi
      obtain ⟨⟨p, pws⟩, hxd, a, ht, ha⟩ := paired_get hts hti
      replace ha : H a = some (.tup (iv pws)) := ha
      have hm := List.mem_of_getElem? hxd
      have il : i < d.length := (List.getElem?_eq_some_iff.mp hxd).1
      have hp := td.pr _ hm
      have hp2 : 2 ≤ p := hp.1
      have of := td.of _ hm
      have pl : pws.length ≤ m := mle _ hm
      have lp := laid_pre td (i + 1) (by omega)
      rw [take_one hxd, laid_snoc] at lp
      have rl := laid_le mle i
      obtain ⟨rs, ers⟩ : ∃ rs, rs = laid (d.take i) := ⟨_, rfl⟩
      rw [← ers] at lp rl hL3
      have Gle : F 0 (into p pws.reverse rs) < 2 ^ 120 := by
        have f0 := lp.f 0
        have e := List.take_append_drop (i + 1) d
        have := G_pre td.pr e 0
        rw [take_one hxd] at this
        have f1 : F 0 (into p pws.reverse rs) = G 0 (d.take i ++ [(p, pws)]) := f0
        omega
      obtain ⟨LL, eLL⟩ : ∃ LL, LL = pad m rs := ⟨_, rfl⟩
      have LLl : LL.length = m := by rw [eLL]; exact pad_len rl
      have hle : pws.length ≤ LL.length := by omega
      have epad : into p pws.reverse LL = pad m (into p pws.reverse rs) := by rw [eLL]; exact into_pad (by rw [List.length_reverse]; exact pl) rl
      have Gle2 : F 0 (into p pws.reverse LL) < 2 ^ 120 := by rw [epad, F_pad]; exact Gle
      have posL : Pos (into p pws.reverse LL) := by rw [epad]; exact pad_pos lp.big.pos
      rw [← eLL] at hL3
      refine ⟨t, _, rfl, SqT.of (s3 _ _ ht), rfl, _, _, rfl, _, _, rfl, rfl, ?_⟩
      have ha3 := s3 _ _ ha
      refine ⟨_, rfl, _, rfl, _, rfl, a, _, rfl, .inr (SqT.of ha3), _, _, rfl, rfl, ?_⟩
      have naL : a ≠ L := ne_of ha3 hL3 (by intro z; cases z)
      refine ⟨a, _, _, rfl, rfl, SqT.of ha3, by rw [iv_len]; omega, by rw [iv_len]; omega, for_it (EnT.walk_enumT (K := K) (a := a) (xs := iv pws)) (fun k σ H' => ∃ o5 o6 : Option V, σ = [some (.ref R), some (.int (m : Int)), some (.ref L), some (.int (p : Int)), some (.ref a), o5, o6] ∧ But L H3 H' ∧ H' L = some (.lst (iv (rws p pws LL k))))
        ⟨o5, o6, rfl, But.refl L _, by rw [rws_zero hle]; exact hL3⟩ (fun k σ H' _ ⟨_, _, _, bb, _⟩ => SqT.of (bb _ _ naL ha3)) ?_ ?_⟩
      · rintro k v σ H4 H5 hk ⟨o5, o6, rfl, b4, hL4⟩ ⟨t2, y, rfl, nt2, rfl, hy⟩
        obtain ⟨e, he, rfl⟩ := iv_get hy
        rw [iv_len] at hk
        obtain ⟨r, r1, r2, r3⟩ := rws_at (p := p) hle he
        have e1 : 1 ≤ e := of e (List.mem_of_getElem? he)
        have bnd := F_max posL r3
        have rpos := posL _ r3
        have r0 : 0 < r := Nat.pos_of_mul_pos_right rpos
        have pe : 1 * p ^ e ≤ r * p ^ e := Nat.mul_le_mul_right _ r0
        have rr : r * 1 ≤ r * p ^ e := Nat.mul_le_mul_left _ (Nat.pow_pos (by omega))
        have e120 : e < 120 := by
          have h8 : 2 ^ e ≤ p ^ e := Nat.pow_le_pow_left hp2 e
          have h9 : 2 ^ e < 2 ^ 120 := by omega
          exact (Nat.pow_lt_pow_iff_right (by decide)).mp h9
        have hL5 : (upd H4 t2 (.tup [.int (((m : Nat) : Int) - (((iv pws).length : Nat) : Int) + (k : Nat)), .int (e : Int)])) L = some (.lst (iv (rws p pws LL k))) := (same_new nt2) _ _ hL4
        refine ⟨t2, _, rfl, SqT.of upd_same, rfl, _, _, rfl, _, _, rfl, rfl, ?_⟩
        have idx : ((m : Nat) : Int) - (((iv pws).length : Nat) : Int) + ((k : Nat) : Int) = ((LL.length - pws.length + k : Nat) : Int) := by
          rw [iv_len]
          omega
        have tk := rws_tl (p := p) hle hk
        have mid := rws_mid (p := p) hle hk r1
        have at1 : (rws p pws LL k)[LL.length - pws.length + k]? = some r := by
          rw [mid]
          have := mid_at (A := ((into p pws.reverse LL).reverse).take (LL.length - pws.length + k)) (x := r) (B := (LL.reverse).drop (LL.length - pws.length + k + 1))
          rw [tk] at this
          exact this
        have set1 : (rws p pws LL k).set (LL.length - pws.length + k) (r * p ^ e) = rws p pws LL (k + 1) := by
          rw [mid, rws_next (p := p) hle r2]
          have := mid_set (A := ((into p pws.reverse LL).reverse).take (LL.length - pws.length + k)) (x := r) (y := r * p ^ e) (B := (LL.reverse).drop (LL.length - pws.length + k + 1))
          rw [tk] at this
          exact this
        have ilt : LL.length - pws.length + k < (rws p pws LL k).length := (List.getElem?_eq_some_iff.mp at1).1
        have ix1 : ixN (iv (rws p pws LL k)).length (((m : Nat) : Int) - (((iv pws).length : Nat) : Int) + ((k : Nat) : Int)) = some (LL.length - pws.length + k) := by
          rw [idx, iv_len]
          exact ix_nat ilt
        have mul1 : ((r : Nat) : Int) * ((p ^ e : Nat) : Int) = ((r * p ^ e : Nat) : Int) := by rw [Int.natCast_mul]
        refine ⟨_, rfl, _, rfl, L, _, _, LL.length - pws.length + k, _, rfl, rfl, SqL.of hL5, idx, iv_at at1, ?_⟩
        refine ⟨_, rfl, _, rfl, _, _, rfl, p, e, rfl, rfl, by omega, e120, by omega, ?_⟩
        refine ⟨_, _, rfl, rfl, wide_mul (a := 120) (b := 120) (sm120 (by omega)) (sm120 (by omega)) (by decide) (by decide) (by decide), ?_⟩
        refine ⟨L, _, _, LL.length - pws.length + k, rfl, rfl, hL5, ix1, ?_⟩
        refine ⟨_, _, rfl, (b4.trans (But.same (same_new nt2))).trans But.upd, ?_⟩
        rw [upd_same, ← set1, ← iv_set, ← mul1]
      · rintro σ H4 ⟨o5, o6, rfl, b4, hL4⟩
        rw [iv_len, rws_end hle, epad] at hL4
        refine ⟨_, _, _, _, rfl, but_same s3 nL0 b4, ?_⟩
        rw [take_one hxd, laid_snoc, hL4, ers]
    · rintro σ H3 ⟨o3, o4, o5, o6, rfl, s3, hL3⟩
      rw [List.length_map, tl, List.take_length] at hL3
      have full : pad m (laid d) = laid d := by
        have l1 := laid_le mle d.length
        rw [List.take_length] at l1
        have l2 : m ≤ (laid d).length := by
          rcases mex with z | ⟨x, hx, z⟩
          · omega
          · have := laid_ge (d := d) d.length x (by rw [List.take_length]; exact hx)
            rw [List.take_length] at this
            omega
        unfold pad
        rw [Nat.sub_eq_zero_of_le l2]
        simp
      rw [full] at hL3
      refine ⟨_, rfl, L, _, rfl, .inl ⟨SqL.of hL3, fun r nr => ?_⟩⟩
      exact q r _ (s3.trans (same_new nr)) upd_same
  · intro tail
    refine ⟨_, rfl, R, rfl, ⟨_, SqL.of hR⟩, fun D nD => lc_list (K := K) (a := R) (xs := ts.map V.ref) (fun j H' => Same H H' ∧ H' D = some (.lst ((lens (d.take j)).map V.int))) ⟨same_new nD, upd_same⟩ (fun j H' _ ⟨s1, _⟩ => SqL.of (s1 _ _ hR)) ?_ ?_⟩
    · rintro j v H1 hj ⟨s1, hD⟩
      obtain ⟨t, htj, rfl⟩ := ref_at hj
      obtain ⟨⟨p, pws⟩, hxd, a, ht, ha⟩ := paired_get hts htj
      have jl : j < d.length := (List.getElem?_eq_some_iff.mp hxd).1
      refine ⟨t, _, rfl, SqT.of (s1 _ _ ht), rfl, _, _, rfl, _, _, rfl, rfl, rfl, _, rfl, a, _, rfl, .inr (SqT.of (s1 _ _ ha)), _, hD, ?_, fresh_upd s1 nD, ?_⟩
      · rw [List.length_map]
        unfold lens
        rw [List.length_map, List.length_take]
        exact small1000 (by omega)
      · rw [upd_same, take_one hxd, iv_len]
        unfold lens
        rw [List.map_append, List.map_append]
        rfl
    · rintro H1 ⟨s1, hD⟩
      rw [List.length_map, tl, List.take_length] at hD
      refine ⟨D, lens d, .int 0, rfl, rfl, SqL.of hD, fun z => ?_, fun m hm hle => ?_⟩
      · refine tail _ _ ⟨0, rfl, s1, by omega, fun x hx => ?_, .inl rfl⟩
        exfalso
        have : d = [] := List.map_eq_nil_iff.mp z
        rw [this] at hx
        simp at hx
      · obtain ⟨x, hx, rfl⟩ := List.mem_map.mp hm
        refine tail _ _ ⟨x.2.length, rfl, s1, x48 x hx, fun y hy => ?_, .inr ⟨x, hx, rfl⟩⟩
        have := hle _ (List.mem_map_of_mem hy)
        omega

/-! ### the house otherwise told -/
theorem seq_inv {s r : TS} {D : Ends} {σ : L2.St} {H : Hp} (I : L2.St → Hp → Prop) (tail : ∀ σ' H', I σ' H' → r D σ' H') (main : (∀ σ' H', I σ' H' → r D σ' H') → tSeq s r D σ H) : tSeq s r D σ H := main tail
theorem erase_perm : ∀ {l : List Nat} {i y : Nat}, l[i]? = some y → (y :: l.eraseIdx i).Perm l
  | [], i, y, h => by simp at h
  | x :: l, 0, y, h => by
    have : x = y := by simpa using h
    subst this
    exact List.Perm.refl _
  | x :: l, i + 1, y, h => by
    have ih := erase_perm (l := l) (i := i) (y := y) (by simpa using h)
    show (y :: x :: l.eraseIdx i).Perm (x :: l)
    exact (List.Perm.swap x y _).trans (ih.cons x)
theorem iv_erase : ∀ (l : List Nat) (i : Nat), (iv l).eraseIdx i = iv (l.eraseIdx i)
  | [], i => by simp [iv]
  | x :: l, 0 => rfl
  | x :: l, i + 1 => by
    have ih := iv_erase l i
    show V.int (x : Int) :: (iv l).eraseIdx i = V.int (x : Int) :: iv (l.eraseIdx i)
    rw [ih]
theorem iv_take (l : List Nat) (i : Nat) : (iv l).take i = iv (l.take i) := by
  unfold iv
  rw [List.map_take]
theorem iv_drop (l : List Nat) (i : Nat) : (iv l).drop i = iv (l.drop i) := by
  unfold iv
  rw [List.map_drop]
theorem shaped_ints (l : List Int) : SeqAt.shaped (.list (l.map .int)) = true := by
  have h3 : PyData.canLayAll0 ([l].map rowD) = true := lay_rows [l]
  have h4 : (PyData.canLayAll0 (l.map .int) && PyData.canLayAll0 ([].map rowD)) = true := h3
  rw [Bool.and_eq_true] at h4
  have h5 := depth_ints l
  have e : (PyData.list (l.map .int)).depth = PyData.depthAll (l.map .int) + 1 := by simp [PyData.depth]
  show (PyData.canLayAll0 (l.map .int) && decide ((PyData.list (l.map .int)).depth ≤ 64)) = true
  rw [h4.1, decide_eq_true (by omega)]
  rfl
theorem eqv_nilI (l : List Int) : PyData.eqv (.list (l.map .int)) (.list []) = decide (l = []) := by
  cases l with
  | nil => rfl
  | cons x r => rfl
theorem ne_nilN {H : Hp} {a b : Addr} {l : List Nat} {Q : VK} (h1 : H a = some (.lst (iv l))) (h2 : H b = some (.lst [])) (q : Q (.bl (!decide (l = []))) H) : rNeK K (.ref a) (.ref b) H Q := by
  rw [iv_eq] at h1
  have e : decide ((l.map fun n : Nat => (n : Int)) = []) = decide (l = []) := by simp
  exact ⟨.list ((l.map fun n : Nat => (n : Int)).map .int), .list [], .lst (SqL.of h1) (dp_ints _), .lst (SqL.of h2) .nil, shaped_ints _, shaped_ints [], by rw [eqv_nilI, e]; exact q⟩
theorem cut_take {xs : List V} {j : Nat} (h : j ≤ xs.length) : cutV xs none (some (j : Int)) = xs.take j := by
  unfold cutV
  rw [HT.sIx_none, HT.sIx_nat, List.drop_zero, Nat.sub_zero, Nat.min_eq_left h]
theorem pdn_pre {qs : List (Nat × Nat)} {m l : Nat} {p e : Nat} (h : ∀ x ∈ qs, Pr x.1) (hm : qs[m]? = some (p, e)) (hl : l ≤ e) : pdn (qs.take m) * p ^ l ≤ pdn qs := by
  have hp : 2 ≤ p := (h _ (List.mem_of_getElem? hm)).1
  have e1 : pdn (qs.take (m + 1)) = pdn (qs.take m) * p ^ e := by
    rw [take_one hm, pdn_app]
    simp [pdn]
  have e2 : pdn (qs.take (m + 1)) * pdn (qs.drop (m + 1)) = pdn qs := by rw [← pdn_app, List.take_append_drop]
  have h2 : 0 < pdn (qs.drop (m + 1)) := pdn_pos fun x hx => h x (List.mem_of_mem_drop hx)
  have h3 : pdn (qs.take (m + 1)) * 1 ≤ pdn (qs.take (m + 1)) * pdn (qs.drop (m + 1)) := Nat.mul_le_mul_left _ h2
  have h4 : p ^ l ≤ p ^ e := Nat.pow_le_pow_right (by omega) hl
  have h5 : pdn (qs.take m) * p ^ l ≤ pdn (qs.take m) * p ^ e := Nat.mul_le_mul_left _ h4
  omega
def Bd (ms : List Nat) : Prop := ∀ z ∈ ms, 1 ≤ z ∧ z ≤ 1000000
def rMix (K : PySem.W.Frag) : V → V → Hp → VK → Prop := fun p x H Q => ∃ (d a : Addr) (ns : List Int) (c : Int) (b : Addr) (ms : List Nat), p = .ref d ∧ x = .ref b ∧ Pen K H d a ns c ∧ c + 12 ≤ 1000000 ∧ H b = some (.tup (iv ms)) ∧ ms.length ≤ 6 ∧ Bd ms ∧
  ∀ r H' (ms' : List Nat), H' r = some (.tup (iv ms')) → ms'.length ≤ 6 → Bd ms' → (∀ n, F n ms' = F n ms) → Pen K H' d a ns (c + 12) → But d H H' → Q (.ref r) H'
theorem lst_but {H H' : Hp} {d a x : Addr} {ns : List Int} {c : Int} {xs : List V} (p : Pen K H d a ns c) (b : But d H H') (h : H x = some (.lst xs)) : H' x = some (.lst xs) := by
  obtain ⟨kvs, hd⟩ := pen_at3 p
  exact b _ _ (ne_of h hd (by intro z; cases z)) h
theorem pen_ne {H : Hp} {d a x : Addr} {ns : List Int} {c : Int} {xs : List V} (p : Pen K H d a ns c) (h : H x = some (.lst xs)) : x ≠ d := by
  obtain ⟨kvs, hd⟩ := pen_at3 p
  exact ne_of h hd (by intro z; cases z)
/-- a pen whose cells stood there before a new list came stays when that list changes -/
theorem pen_new {H0 H : Hp} {d a x : Addr} {ns : List Int} {c0 c : Int} {o : HO} (p0 : Pen K H0 d a ns c0) (b : But d H0 H) (p : Pen K H d a ns c) (n : H0 x = none) : Pen K (upd H x o) d a ns c := pen_up p0 b p n
theorem none_of {H H' : Hp} {d Z : Addr} (n : H' Z = none) (b : But d H H') (hd : ∃ kvs, H' d = some (.dK kvs)) : H Z = none := by
  cases e : H Z with
  | none => rfl
  | some o =>
    exfalso
    by_cases z : Z = d
    · obtain ⟨kvs, hd⟩ := hd
      rw [← z, n] at hd
      cases hd
    · have := b Z o z e
      rw [n] at this
      cases this
theorem ok_law_mixed (T : Txt K mg) : Fn P w K mg base 2 "_law_mixed" ["_law_pen_here", "_law_house_here"] (sp2 (rMix K)) := by
  have G_law_draw := ok_law_draw (P := P) (w := w) (base := base) T
  have G_law_factors := ok_law_factors (P := P) (w := w) (base := base) T
  refine T.d_law_mixed.ok sc_law_mixed len2 fun f cdv A outer s H vs Q E hr hg h => ?_
  obtain ⟨_, _, rfl, d, a, ns, c, b, ms, rfl, rfl, hp, hc, hb, h6, hx, q⟩ := h
  refine ⟨_, (pss_cons (ps_set (i := 2) sc_law_mixed.nd rfl (by first | exact Or.inl rfl | exact Or.inr rfl) (pe_callTy (listOf_K (K := K) rfl) (by rfl) T.n_list (by decide +kernel) (pa_cons (pv 1) pa_nil)))
(pss_cons (ps_set (i := 3) sc_law_mixed.nd rfl (by first | exact Or.inl rfl | exact Or.inr rfl) (pe_lst pa_nil))
(pss_cons (ps_while PassesOwn.never (pt_cmpR (neD_K (K := K) hr rfl) (pv 2) (pe_lst pa_nil) (nomark _))
(pss_one (ps_expr (pe_bm PySem.F.plainAttrs_list PySem.F.slot_list_append PySem.F.type_list_append mt_append (pv 3) (pa_cons (pe_bm PySem.F.plainAttrs_list PySem.F.slot_list_pop PySem.F.type_list_pop mt_popAt (pv 2) (pa_cons (pe_fn G_law_draw (hr.mono (by decide)) hg (by rfl) (pa_cons (pv 0) (pa_cons (pe_callB (len_K (K := K) rfl) (by rfl) T.n_len (by decide +kernel) (pa_cons (pv 2) pa_nil)) pa_nil))) pa_nil)) pa_nil)))))
(pss_cons (ps_if (PW.pt (pw_and (pt_cmpR (neD_K (K := K) hr rfl) (pv 3) (pe_lst pa_nil) (nomark _)) (pw_and (pt_cmpR op_lt (pe_callB (len_K (K := K) rfl) (by rfl) T.n_len (by decide +kernel) (pa_cons (pv 3) pa_nil)) pe_int (nomark _)) (pw_and1 (pt_cmpR op_eq (pe_fn G_law_draw (hr.mono (by decide)) hg (by rfl) (pa_cons (pv 0) (pa_cons pe_int pa_nil))) pe_int (nomark _))))))
(pss_cons (ps_set (i := 4) sc_law_mixed.nd rfl (by first | exact Or.inl rfl | exact Or.inr rfl) (pe_bm PySem.F.plainAttrs_list PySem.F.slot_list_pop PySem.F.type_list_pop mt_popAt (pv 3) (pa_cons (pe_fn G_law_draw (hr.mono (by decide)) hg (by rfl) (pa_cons (pv 0) (pa_cons (pe_callB (len_K (K := K) rfl) (by rfl) T.n_len (by decide +kernel) (pa_cons (pv 3) pa_nil)) pa_nil))) pa_nil)))
(pss_cons (ps_set (i := 5) sc_law_mixed.nd rfl (by first | exact Or.inl rfl | exact Or.inr rfl) (pe_fn G_law_factors (hr.mono (by decide)) hg (by rfl) (pa_cons (pv 4) pa_nil)))
(pss_cons (ps_set (i := 6) sc_law_mixed.nd rfl (by first | exact Or.inl rfl | exact Or.inr rfl) pe_int)
(pss_cons (ps_for PassesOwn.never rfl (piL_K (K := K) rfl (pe_slice sl_list (pv 5) po_none (po_some (pe_fn G_law_draw (hr.mono (by decide)) hg (by rfl) (pa_cons (pv 0) (pa_cons (pe_op op_add (pe_callB (len_K (K := K) rfl) (by rfl) T.n_len (by decide +kernel) (pa_cons (pv 5) pa_nil)) pe_int) pa_nil)))))) (pg_tup rfl (pgs_cons (pg_name (i := 7) sc_law_mixed.nd rfl (by first | exact Or.inl rfl | exact Or.inr rfl)) (pgs_cons (pg_name (i := 8) sc_law_mixed.nd rfl (by first | exact Or.inl rfl | exact Or.inr rfl)) pgs_nil)))
(pss_one (ps_for PassesOwn.never rfl (pi_range1 (by rfl) T.n_range (pa_cons (pv 8) pa_nil)) (pg_name (i := 9) sc_law_mixed.nd rfl (by first | exact Or.inl rfl | exact Or.inr rfl))
(pss_one (ps_set (i := 6) sc_law_mixed.nd rfl (by first | exact Or.inl rfl | exact Or.inr rfl) (pe_op op_mul (pv 6) (pv 7)))))))
(pss_one (ps_set (i := 3) sc_law_mixed.nd rfl (by first | exact Or.inl rfl | exact Or.inr rfl) (pe_op op_cat (pv 3) (pe_lst (pa_cons (pv 6) (pa_cons (pe_op op_fdiv (pv 4) (pv 6)) pa_nil))))))))))
pss_nil)
(pss_cons (ps_if (PW.pt (pw_and (pt_cmpR op_lt (pe_callB (len_K (K := K) rfl) (by rfl) T.n_len (by decide +kernel) (pa_cons (pv 3) pa_nil)) pe_int (nomark _)) (pw_and1 (pt_cmpR op_eq (pe_fn G_law_draw (hr.mono (by decide)) hg (by rfl) (pa_cons (pv 0) (pa_cons pe_int pa_nil))) pe_int (nomark _)))))
(pss_one (ps_expr (pe_bm PySem.F.plainAttrs_list PySem.F.slot_list_insert PySem.F.type_list_insert mt_insert (pv 3) (pa_cons (pe_fn G_law_draw (hr.mono (by decide)) hg (by rfl) (pa_cons (pv 0) (pa_cons (pe_op op_add (pe_callB (len_K (K := K) rfl) (by rfl) T.n_len (by decide +kernel) (pa_cons (pv 3) pa_nil)) pe_int) pa_nil))) (pa_cons pe_int pa_nil)))))
pss_nil)
(pss_one (ps_ret (pe_callTy (tupOf_K (K := K) rfl) (by rfl) T.n_tuple (by decide +kernel) (pa_cons (pv 3) pa_nil))))))))), ?_⟩
  refine ⟨_, rfl, b, _, rfl, .inr (SqT.of hb), fun Lf nL => ?_⟩
  refine ⟨Nat.zero_le _, fun Fd nF => ?_⟩
  have nF0 : H Fd = none := by
    by_cases z : Fd = Lf
    · rw [z]; exact nL
    · rw [upd_ne z] at nF; exact nF
  have nLF : Lf ≠ Fd := ne_of_none upd_same nF
  have sm0 : Same H (upd (upd H Lf (.lst (iv ms))) Fd (.lst [])) := (same_new nL).trans (same_new nF)
  refine ⟨fun k σ H' => ∃ left found : List Nat, σ = [some (.ref d), some (.ref b), some (.ref Lf), some (.ref Fd), none, none, none, none, none, none] ∧ Pen K H' d a ns (c + found.length) ∧ But d H H' ∧ H' Lf = some (.lst (iv left)) ∧ H' Fd = some (.lst (iv found)) ∧ (left ++ found).Perm ms ∧ k = left.length,
    ⟨_, ms, [], rfl, by simpa using hp.same sm0, But.same sm0, (same_new nF) _ _ upd_same, upd_same, by simp, rfl⟩, ?_⟩
  rintro k σ H1 ⟨left, found, rfl, hp1, b1, hL1, hF1, pm, rfl⟩
  have pl : left.length + found.length = ms.length := by
    have := pm.length_eq
    rwa [List.length_append] at this
  refine ⟨_, rfl, Nat.zero_le _, fun e0 ne0 => ?_⟩
  have se := same_new (H := H1) (o := .lst []) ne0
  refine ne_nilN (l := left) (se _ _ hL1) upd_same ⟨_, rfl, ite2 (fun e1 => ?_) (fun e1 => ?_)⟩
  · have lne : 0 < left.length := by
      cases left with
      | nil => simp at e1
      | cons x r => simp
    have hp2 := hp1.same se
    have hL2 := se _ _ hL1
    have hF2 := se _ _ hF1
    have b2 : But d H (upd H1 e0 (.lst [])) := b1.trans (But.same se)
    refine ⟨fun σ' H'' => ∃ left2 found2 : List Nat, σ' = [some (.ref d), some (.ref b), some (.ref Lf), some (.ref Fd), none, none, none, none, none, none] ∧ Pen K H'' d a ns (c + found2.length) ∧ But d H H'' ∧ H'' Lf = some (.lst (iv left2)) ∧ H'' Fd = some (.lst (iv found2)) ∧ (left2 ++ found2).Perm ms ∧ left2.length < left.length, ?_, ?_⟩
    · rintro σ' H'' ⟨l2, f2, rfl, x1, x2, x3, x4, x5, x6⟩
      exact ⟨_, x6, l2, f2, rfl, x1, x2, x3, x4, x5, rfl⟩
    refine ⟨_, rfl, .inl ⟨rfl, _, SqL.of hF2⟩, _, rfl, .inl ⟨rfl, _, SqL.of hL2⟩, _, rfl, _, rfl, Lf, _, rfl, .inl (SqL.of hL2), ?_⟩
    rw [iv_len]
    refine ⟨_, _, rfl, d, a, ns, _, _, rfl, rfl, hp2, by omega, by omega, by omega, fun r H3 r0 r1 hp3 b3 => ?_⟩
    obtain ⟨j, rfl⟩ : ∃ j : Nat, r = j := ⟨r.toNat, by omega⟩
    have jl : j < left.length := by omega
    obtain ⟨y, hy⟩ : ∃ y, left[j]? = some y := ⟨_, List.getElem?_eq_getElem jl⟩
    have hL3 := lst_but hp2 b3 hL2
    have hF3 := lst_but hp2 b3 hF2
    refine ⟨Lf, _, _, j, _, rfl, rfl, hL3, by omega, by omega, ?_, iv_at hy, ?_⟩
    · rw [iv_len]
      exact (ixN_seq (ix_nat jl)).1
    rw [iv_erase]
    have hF4 : (upd H3 Lf (.lst (iv (left.eraseIdx j)))) Fd = some (.lst (iv found)) := by
      rw [upd_ne nLF.symm]
      exact hF3
    have hp4 := pen_up (o := .lst (iv (left.eraseIdx j))) hp (b2.trans b3) hp3 nL
    have b4 : But d H (upd H3 Lf (.lst (iv (left.eraseIdx j)))) := but_up (b2.trans b3) nL
    refine ⟨Fd, _, _, rfl, rfl, hF4, by rw [iv_len]; exact small1000 (by omega), ?_⟩
    have e2 : iv found ++ [V.int (y : Int)] = iv (found ++ [y]) := by
      rw [iv_app]
      rfl
    rw [e2]
    refine ⟨left.eraseIdx j, found ++ [y], rfl, (pen_up hp b4 hp4 nF0).mono (by simp; omega), but_up b4 nF0, ?_, upd_same, ?_, ?_⟩
    · rw [upd_ne nLF]
      exact upd_same
    · have h1 := erase_perm hy
      have h2 : (left.eraseIdx j ++ (found ++ [y])).Perm (y :: left.eraseIdx j ++ found) := by
        rw [← List.append_assoc]
        exact List.perm_append_comm
      exact h2.trans ((h1.append_right found).trans pm)
    · rw [List.length_eraseIdx_of_lt jl]
      omega
  · have l0 : left = [] := by
      cases left with
      | nil => rfl
      | cons x r => simp at e1
    subst l0
    rw [List.nil_append] at pm
    have fl : found.length = ms.length := pm.length_eq
    have hF2 := se _ _ hF1
    have hp2 := (hp1.same se).mono (show c + (found.length : Int) ≤ c + 6 by omega)
    have b2 : But d H (upd H1 e0 (.lst [])) := b1.trans (But.same se)
    have bdf : Bd found := fun z hz => hx z (pm.mem_iff.mp hz)
    have ff : ∀ n, F n found = F n ms := fun n => F_perm n pm
    generalize hH2 : upd H1 e0 (.lst []) = H2 at *
    try dsimp only [gName]
    refine seq_inv (fun σ' H' => ∃ (F2 : Addr) (fo : List Nat) (o4 o5 o6 o7 o8 o9 : Option V), σ' = [some (.ref d), some (.ref b), some (.ref Lf), some (.ref F2), o4, o5, o6, o7, o8, o9] ∧ Pen K H' d a ns (c + 9) ∧ But d H H' ∧ H' F2 = some (.lst (iv fo)) ∧ H F2 = none ∧ fo.length ≤ 6 ∧ Bd fo ∧ ∀ n, F n fo = F n ms) ?_ ?_
    · rintro σ' H3 ⟨F2, fo, o4, o5, o6, o7, o8, o9, rfl, hp3, b3, hF3, nF2, fl2, bd2, ff2⟩
      try dsimp only [gName]
      refine seq_inv (fun σ' H' => ∃ (fo : List Nat) (o4 o5 o6 o7 o8 o9 : Option V), σ' = [some (.ref d), some (.ref b), some (.ref Lf), some (.ref F2), o4, o5, o6, o7, o8, o9] ∧ Pen K H' d a ns (c + 12) ∧ But d H H' ∧ H' F2 = some (.lst (iv fo)) ∧ fo.length ≤ 6 ∧ Bd fo ∧ ∀ n, F n fo = F n ms) ?_ ?_
      · rintro σ' H4 ⟨fo, o4, o5, o6, o7, o8, o9, rfl, hp4, b4, hF4, fl4, bd4, ff4⟩
        refine ⟨_, rfl, F2, _, rfl, .inl ⟨SqL.of hF4, fun r nr => ?_⟩⟩
        exact q r _ fo upd_same fl4 bd4 ff4 (hp4.same (same_new nr)) (b4.trans (But.new nr))
      · intro tail
        refine ⟨_, rfl, F2, _, rfl, .inl (SqL.of hF3), _, _, rfl, rfl, _, rfl, ite2 (fun e2 => ?_) (fun e2 => ?_)⟩
        · have fl3 : fo.length < 6 := by
            have : ((iv fo).length : Int) < 6 := of_decide_eq_true e2
            rw [iv_len] at this
            omega
          refine ⟨_, rfl, _, _, rfl, d, a, ns, _, _, rfl, rfl, hp3, by decide, by decide, by omega, fun r H4 r0 r1 hp4 b4 => ?_⟩
          have hF4 := lst_but hp3 b4 hF3
          refine ⟨rfl, _, rfl, ite2 (fun e3 => ?_) (fun e3 => ?_)⟩
          · refine ⟨_, rfl, .inl ⟨rfl, _, SqL.of hF4⟩, _, rfl, _, rfl, F2, _, rfl, .inl (SqL.of hF4), ?_⟩
            rw [iv_len]
            refine ⟨_, _, rfl, rfl, _, _, rfl, d, a, ns, _, _, rfl, rfl, hp4, by omega, by omega, by omega, fun r5 H5 r50 r51 hp5 b5 => ?_⟩
            obtain ⟨j, rfl⟩ : ∃ j : Nat, r5 = j := ⟨r5.toNat, by omega⟩
            have hF5 := lst_but hp4 b5 hF4
            refine ⟨F2, _, _, _, rfl, rfl, hF5, by rw [iv_len]; exact small1000 (by omega), by omega, by omega, ?_⟩
            rw [Int.toNat_natCast, iv_take, iv_drop]
            have e4 : iv (fo.take j) ++ [V.int 1] ++ iv (fo.drop j) = iv (fo.take j ++ 1 :: fo.drop j) := by
              rw [iv_app, List.append_assoc]
              rfl
            rw [e4]
            have b05 := (b3.trans b4).trans b5
            refine tail _ _ ⟨fo.take j ++ 1 :: fo.drop j, o4, o5, o6, o7, o8, o9, rfl, (pen_up hp b05 hp5 nF2).mono (by omega), but_up b05 nF2, upd_same, ?_, ?_, fun n => ?_⟩
            · rw [List.length_append, List.length_cons, List.length_take, List.length_drop]
              omega
            · intro z hz
              rcases List.mem_append.mp hz with h | h
              · exact bd2 z (List.mem_of_mem_take h)
              · rcases List.mem_cons.mp h with rfl | h
                · exact ⟨by decide, by decide⟩
                · exact bd2 z (List.mem_of_mem_drop h)
            · rw [← ff2 n]
              have e5 := congrArg (F n) (List.take_append_drop j fo)
              rw [F_app] at e5
              rw [F_app]
              simp only [F, Nat.gcd_one_right, Nat.one_mul]
              exact e5
          · exact tail _ _ ⟨fo, o4, o5, o6, o7, o8, o9, rfl, hp4.mono (by omega), b3.trans b4, hF4, fl2, bd2, ff2⟩
        · exact iteF (tail _ _ ⟨fo, o4, o5, o6, o7, o8, o9, rfl, hp3.mono (by omega), b3, hF3, fl2, bd2, ff2⟩)
    · intro tail
      have stay : ∀ H3, Same H2 H3 → ∃ (F2 : Addr) (fo : List Nat) (o4 o5 o6 o7 o8 o9 : Option V), [some (V.ref d), some (.ref b), some (.ref Lf), some (.ref Fd), none, none, none, none, none, none] = [some (.ref d), some (.ref b), some (.ref Lf), some (.ref F2), o4, o5, o6, o7, o8, o9] ∧ Pen K H3 d a ns (c + 9) ∧ But d H H3 ∧ H3 F2 = some (.lst (iv fo)) ∧ H F2 = none ∧ fo.length ≤ 6 ∧ Bd fo ∧ ∀ n, F n fo = F n ms := fun H3 s3 =>
        ⟨Fd, found, none, none, none, none, none, none, rfl, (hp2.same s3).mono (by omega), b2.trans (But.same s3), s3 _ _ hF2, nF0, by omega, bdf, ff⟩
      refine ⟨_, rfl, Nat.zero_le _, fun e5 ne5 => ?_⟩
      have s5 := same_new (H := H2) (o := .lst []) ne5
      refine ne_nilN (l := found) (s5 _ _ hF2) upd_same ⟨_, rfl, ite2 (fun e6 => ?_) (fun e6 => ?_)⟩
      · have fne : 0 < found.length := by
          cases found with
          | nil => simp at e6
          | cons x r => simp
        have hF3 := s5 _ _ hF2
        refine ⟨_, rfl, Fd, _, rfl, .inl (SqL.of hF3), _, _, rfl, rfl, _, rfl, ite2 (fun e7 => ?_) (fun e7 => ?_)⟩
        · have fl5 : found.length < 6 := by
            have : ((iv found).length : Int) < 6 := of_decide_eq_true e7
            rw [iv_len] at this
            omega
          have hp3 := hp2.same s5
          have b3 : But d H (upd H2 e5 (.lst [])) := b2.trans (But.same s5)
          refine ⟨_, rfl, _, _, rfl, d, a, ns, _, _, rfl, rfl, hp3, by decide, by decide, by omega, fun r H4 r0 r1 hp4 b4 => ?_⟩
          have hF4 := lst_but hp3 b4 hF3
          refine ⟨rfl, _, rfl, ite2 (fun e8 => ?_) (fun e8 => ?_)⟩
          · -- one = found.pop(..)
            refine ⟨_, rfl, .inl ⟨rfl, _, SqL.of hF4⟩, _, rfl, _, rfl, Fd, _, rfl, .inl (SqL.of hF4), ?_⟩
            rw [iv_len]
            refine ⟨_, _, rfl, d, a, ns, _, _, rfl, rfl, hp4, by omega, by omega, by omega, fun r5 H5 r50 r51 hp5 b5 => ?_⟩
            obtain ⟨j, rfl⟩ : ∃ j : Nat, r5 = j := ⟨r5.toNat, by omega⟩
            have jl : j < found.length := by omega
            obtain ⟨x, hxj⟩ : ∃ y, found[j]? = some y := ⟨_, List.getElem?_eq_getElem jl⟩
            have xb := bdf x (List.mem_of_getElem? hxj)
            have hF5 := lst_but hp4 b5 hF4
            refine ⟨Fd, _, _, j, _, rfl, rfl, hF5, by omega, by omega, ?_, iv_at hxj, ?_⟩
            · rw [iv_len]
              exact (ixN_seq (ix_nat jl)).1
            rw [iv_erase]
            have b05 := (b3.trans b4).trans b5
            have hp6 := pen_up (o := .lst (iv (found.eraseIdx j))) hp b05 hp5 nF0
            have b6 : But d H (upd H5 Fd (.lst (iv (found.eraseIdx j)))) := but_up b05 nF0
            have hF6 : (upd H5 Fd (.lst (iv (found.eraseIdx j)))) Fd = some (.lst (iv (found.eraseIdx j))) := upd_same
            generalize hH6 : upd H5 Fd (.lst (iv (found.eraseIdx j))) = H6 at *
            -- own = factors(one)
            refine ⟨_, rfl, _, rfl, x, rfl, xb.1, xb.2, fun qs R H7 fc s7 hpl => ?_⟩
            obtain ⟨ts, hR, hts⟩ := hpl
            have q8 := fc.few xb.2
            have tl : ts.length = qs.length := by
              have := Paired.length hts
              rw [List.length_map] at this
              exact this
            have hp7 := hp6.same s7
            have hF7 := s7 _ _ hF6
            -- own[:draw]
            refine ⟨_, rfl, _, rfl, _, rfl, R, _, rfl, .inl (SqL.of hR), ?_⟩
            rw [List.length_map, tl]
            refine ⟨_, _, rfl, rfl, _, _, rfl, d, a, ns, _, _, rfl, rfl, hp7, by omega, by omega, by omega, fun r8 H8 r80 r81 hp8 b8 => ?_⟩
            obtain ⟨u, rfl⟩ : ∃ j : Nat, r8 = j := ⟨r8.toNat, by omega⟩
            have ul : u ≤ qs.length := by omega
            have hR8 := lst_but hp7 b8 hR
            have hF8 := lst_but hp7 b8 hF7
            have hts8 : ∀ t (pe : Int × Int), H7 t = some (.tup [.int pe.1, .int pe.2]) → H8 t = some (.tup [.int pe.1, .int pe.2]) := fun t pe e => by
              obtain ⟨kvs, hd⟩ := pen_at3 hp7
              exact b8 _ _ (ne_of e hd (by intro z; cases z)) e
            refine ⟨_, rfl, R, _, rfl, SqL.of hR8, fun S nS => ?_⟩
            rw [cut_take (by rw [List.length_map]; omega), ← List.map_take]
            have s9 := same_new (H := H8) (o := .lst ((ts.take u).map V.ref)) nS
            refine ⟨S, rfl, ⟨_, SqL.of upd_same⟩, for_list (K := K) (a := S) (xs := (ts.take u).map V.ref) (fun m σ H' => ∃ o7 o8 o9 : Option V, σ = [some (.ref d), some (.ref b), some (.ref Lf), some (.ref Fd), some (.int (x : Int)), some (.ref R), some (.int ((pdn (qs.take m) : Nat) : Int)), o7, o8, o9] ∧ H' = upd H8 S (.lst ((ts.take u).map V.ref)))
              ⟨none, none, none, rfl, rfl⟩ (fun m σ H' _ ⟨_, _, _, _, e⟩ => by rw [e]; exact SqL.of upd_same) ?_ ?_⟩
            · rintro m v σ H9 hm ⟨o7, o8, o9, rfl, rfl⟩
              obtain ⟨t, htm, rfl⟩ := ref_at hm
              have mu : m < u := by
                have := (List.getElem?_eq_some_iff.mp htm).1
                rw [List.length_take] at this
                omega
              rw [List.getElem?_take_of_lt mu] at htm
              obtain ⟨pe, hpe, ht⟩ := paired_get hts htm
              rw [List.getElem?_map] at hpe
              obtain ⟨⟨p, e⟩, hqe, rfl⟩ := Option.map_eq_some_iff.mp hpe
              have pr := fc.pr _ (List.mem_of_getElem? hqe)
              have p2 : 2 ≤ p := pr.1
              have lim : ∀ l, l ≤ e → pdn (qs.take m) * p ^ l ≤ 1000000 := fun l hl => by
                have := pdn_pre fc.pr hqe hl
                rw [fc.eq] at this
                omega
              have ppos : 0 < pdn (qs.take m) := pdn_pos fun y hy => fc.pr y (List.mem_of_mem_take hy)
              have e20 : e < 20 := by
                have h1 := lim e (Nat.le_refl _)
                have h2 : 1 * p ^ e ≤ pdn (qs.take m) * p ^ e := Nat.mul_le_mul_right _ ppos
                have h3 : 2 ^ e ≤ p ^ e := Nat.pow_le_pow_left p2 e
                have h4 : 2 ^ e < 2 ^ 20 := by
                  have : (2 : Nat) ^ 20 = 1048576 := by decide
                  omega
                exact (Nat.pow_lt_pow_iff_right (by decide)).mp h4
              refine ⟨t, _, rfl, SqT.of (s9 _ _ (hts8 _ _ ht)), rfl, _, _, rfl, _, _, rfl, rfl, ?_⟩
              refine ⟨_, rfl, ((e : Nat) : Int), rfl, by omega, by omega, for_range (lo := 0) (n := e) (fun l σ H' => ∃ o9 : Option V, σ = [some (.ref d), some (.ref b), some (.ref Lf), some (.ref Fd), some (.int (x : Int)), some (.ref R), some (.int ((pdn (qs.take m) * p ^ l : Nat) : Int)), some (.int ((p : Nat) : Int)), some (.int ((e : Nat) : Int)), o9] ∧ H' = upd H8 S (.lst ((ts.take u).map V.ref)))
                ⟨o9, by rw [Nat.pow_zero, Nat.mul_one]; rfl, rfl⟩ ?_ ?_⟩
              · rintro l σ H9 hl ⟨o9, rfl, rfl⟩
                have := lim l (by omega)
                refine ⟨_, rfl, _, rfl, _, _, rfl, rfl, .inl ⟨by omega, by omega⟩, ?_⟩
                refine ⟨some (.int (0 + (l : Int))), ?_, rfl⟩
                have e9 : ((pdn (qs.take m) * p ^ l : Nat) : Int) * ((p : Nat) : Int) = ((pdn (qs.take m) * p ^ (l + 1) : Nat) : Int) := by
                  rw [← Int.natCast_mul, Nat.pow_succ, Nat.mul_assoc]
                rw [← e9]
                rfl
              · rintro σ H9 ⟨o9, rfl, rfl⟩
                refine ⟨some (.int ((p : Nat) : Int)), some (.int ((e : Nat) : Int)), o9, ?_, rfl⟩
                have e9 : pdn (qs.take (m + 1)) = pdn (qs.take m) * p ^ e := by
                  rw [take_one hqe, pdn_app]
                  simp [pdn]
                rw [e9]
            · rintro σ H9 ⟨o7, o8, o9, rfl, rfl⟩
              have eu : ((ts.take u).map V.ref).length = u := by
                rw [List.length_map, List.length_take]
                omega
              rw [eu]
              obtain ⟨sp, p1, p2, gg⟩ := fc.split u
              have l1 : pdn (qs.take u) ≤ x := by
                rw [← sp]
                exact Nat.le_mul_of_pos_right _ p2
              have l2 : pdn (qs.drop u) ≤ x := by
                rw [← sp]
                exact Nat.le_mul_of_pos_left _ p1
              have ediv : ((x : Int)) / ((pdn (qs.take u) : Nat) : Int) = ((pdn (qs.drop u) : Nat) : Int) := by
                rw [← Int.natCast_ediv, ← sp, Nat.mul_div_cancel_left _ p1]
              refine ⟨_, rfl, _, rfl, _, rfl, _, rfl, _, _, rfl, rfl, ⟨by omega, by omega⟩, (by show 2 ≤ sizeLine; decide), fun W nW => ?_⟩
              have hF9 := s9 _ _ hF8
              have el : (found.eraseIdx j).length = found.length - 1 := List.length_eraseIdx_of_lt jl
              refine ⟨Fd, W, _, _, rfl, rfl, (same_new nW) _ _ hF9, upd_same, by rw [iv_len]; exact Nat.le_of_lt (small1000 (by simp; omega)), fun Z nZ => ?_⟩
              have e11 : iv (found.eraseIdx j) ++ [V.int ((pdn (qs.take u) : Nat) : Int), V.int (((x : Int)) / ((pdn (qs.take u) : Nat) : Int))] = iv (found.eraseIdx j ++ [pdn (qs.take u), pdn (qs.drop u)]) := by
                rw [ediv, iv_app]
                rfl
              have nZ0 : H Z = none := none_of nZ (((b6.trans (But.same s7)).trans b8).trans (But.same (s9.trans (same_new nW)))) (pen_at3 (hp8.same (s9.trans (same_new nW))))
              refine tail _ _ ⟨Z, found.eraseIdx j ++ [pdn (qs.take u), pdn (qs.drop u)], _, _, _, _, _, _, rfl, (hp8.same ((s9.trans (same_new nW)).trans (same_new nZ))).mono (by omega), ((b6.trans (But.same s7)).trans b8).trans (But.same ((s9.trans (same_new nW)).trans (same_new nZ))), upd_same.trans (congrArg (fun l => some (HO.lst l)) e11), nZ0, ?_, ?_, fun n => ?_⟩
              · rw [List.length_append, el]
                show found.length - 1 + 2 ≤ 6
                omega
              · intro z hz
                rcases List.mem_append.mp hz with h | h
                · exact bdf z ((erase_perm hxj).mem_iff.mp (List.mem_cons_of_mem _ h))
                · simp only [List.mem_cons, List.not_mem_nil, or_false] at h
                  rcases h with rfl | rfl <;> omega
              · rw [← ff n, ← F_perm n (erase_perm hxj), F_app]
                simp only [F, Nat.mul_one]
                rw [gg n, Nat.mul_comm]
          · exact tail _ _ ⟨Fd, found, none, none, none, none, none, none, rfl, hp4.mono (by omega), b3.trans b4, hF4, nF0, by omega, bdf, ff⟩
        · exact iteF (tail _ _ (stay _ s5))
      · exact iteF (tail _ _ (stay _ s5))

def ni (l : List Nat) : List Int := l.map fun n : Nat => (n : Int)
theorem repr_row {H : Hp} {a : Addr} {l : List Nat} (h : H a = some (.tup (iv l))) (hl : l.length ≤ 60) (hx : ∀ x ∈ l, x < 2 ^ 120)   : Dp K H (.ref a) (rowD (ni l)) ∧ (rowD (ni l)).showable = true ∧ (rowD (ni l)).hasDict = false ∧ (rowD (ni l)).depth ≤ 60 ∧ (rowD (ni l)).shown.length ≤ sizeLine := by
  rw [iv_eq] at h
  have hb : ∀ x ∈ ni l, x.natAbs < 2 ^ 1000 := fun x hx2 => by
    obtain ⟨y, hy, rfl⟩ := List.mem_map.mp hx2
    rw [Int.natAbs_natCast]
    exact Nat.lt_trans (hx y hy) (by decide +kernel)
  obtain ⟨h1, h2, h3, h4⟩ := show_ints hb
  refine ⟨TI.dp ⟨a, rfl, h⟩, h1, h2, ?_, ?_⟩
  · have := depth_row (ni l)
    omega
  · have hb2 := PyData.shown_le_bulk 1001 (by decide) (rowD (ni l)) h3
    have e : (rowD (ni l)).bulk = l.length := by
      show PyData.bulkAll ((ni l).map .int) = l.length
      rw [h4]
      exact List.length_map _
    rw [e] at hb2
    exact Nat.le_trans hb2 (Nat.le_trans (Nat.add_le_add_right (Nat.mul_le_mul_left _ hl) _) (by decide))
theorem shaped_row (r : List Int) : SeqAt.shaped (rowD r) = true := by
  have h2 := depth_row r
  have h3 : PyData.canLayAll0 ([r].map rowD) = true := lay_rows [r]
  have h4 : (PyData.canLayAll0 (r.map .int) && PyData.canLayAll0 ([].map rowD)) = true := h3
  rw [Bool.and_eq_true] at h4
  show (PyData.canLayAll0 (r.map .int) && decide ((rowD r).depth ≤ 64)) = true
  rw [h4.1, decide_eq_true (by omega)]
  rfl
theorem eqv_row (r : List Int) : PyData.eqv (rowD r) (rowD r) = true := SeqAt.eqv_refl _ (SeqAt.canLay_of_shaped (shaped_row r))
def rEqDK (K : PySem.W.Frag) : R2 := fun x y H Q => ∃ d e, Dp K H x d ∧ Dp K H y e ∧ SeqAt.shaped d = true ∧ SeqAt.shaped e = true ∧ Q (.bl (PyData.eqv d e)) H
theorem eqD_K {X : Cx} {k : Nat} (hr : Room k X.A) (hK : X.K = K) : OpR X (compareOp .Eq) (rEqDK K) := by
  subst hK
  exact op_eqD hr.units
theorem eq_rowN {H : Hp} {a b : Addr} {l : List Nat} {Q : VK} (h1 : H a = some (.tup (iv l))) (h2 : H b = some (.tup (iv l))) (q : Q (.bl true) H) : rEqDK K (.ref a) (.ref b) H Q := by
  rw [iv_eq] at h1 h2
  exact ⟨rowD (ni l), rowD (ni l), TI.dp ⟨a, rfl, h1⟩, TI.dp ⟨b, rfl, h2⟩, shaped_row _, shaped_row _, by rw [eqv_row]; exact q⟩
theorem nats_of {hs : List Int} (h : ∀ x ∈ hs, 1 ≤ x ∧ x ≤ 1000000) : ∃ ms : List Nat, hs.map V.int = iv ms ∧ ms.length = hs.length ∧ Bd ms := by
  refine ⟨hs.map Int.toNat, ?_, List.length_map _, fun z hz => ?_⟩
  · unfold iv
    rw [List.map_map]
    refine List.map_congr_left fun x hx => ?_
    have := h x hx
    show V.int x = V.int ((x.toNat : Nat) : Int)
    rw [Int.toNat_of_nonneg (by omega)]
  · obtain ⟨x, hx, rfl⟩ := List.mem_map.mp hz
    have := h x hx
    omega

/-! ### a told list as a text -/
def tupE (x : Nat × List Nat) : PyData := .tuple [.int (x.1 : Int), rowD (ni x.2)]
def listE (d : List (Nat × List Nat)) : PyData := .list (d.map tupE)
theorem dp_tupE {H : Hp} : ∀ {ts : List Addr} {d : List (Nat × List Nat)}, Paired (fun t (x : Nat × List Nat) => ∃ a, H t = some (.tup [.int (x.1 : Int), .ref a]) ∧ H a = some (.tup (iv x.2))) ts d → DpAll K H (ts.map V.ref) (d.map tupE)
  | _, _, .nil => .nil
  | _, _, .cons ⟨a, h1, h2⟩ t => .cons (.tup (SqT.of h1) (.cons (.int _) (.cons (TI.dp ⟨a, rfl, by rw [h2, iv_eq]; rfl⟩) .nil))) (dp_tupE t)
def Gd (d : List (Nat × List Nat)) : Prop := d.length ≤ 48 ∧ ∀ x ∈ d, x.1 < 2 ^ 120 ∧ x.2.length ≤ 48 ∧ ∀ e ∈ x.2, e < 2 ^ 120
theorem small_all {x : Nat} (h : x < 2 ^ 120) : ((x : Int)).natAbs < 2 ^ 1000 := by
  rw [Int.natAbs_natCast]
  exact Nat.lt_trans h (by decide +kernel)
theorem show_tupE : ∀ {d : List (Nat × List Nat)}, (∀ x ∈ d, x.1 < 2 ^ 120 ∧ x.2.length ≤ 48 ∧ ∀ e ∈ x.2, e < 2 ^ 120) → PyData.showableAll (d.map tupE) = true ∧ PyData.hasDictAll (d.map tupE) = false ∧ PyData.leavesShortAll 1001 (d.map tupE) = true ∧ PyData.bulkAll (d.map tupE) ≤ 60 * d.length
  | [], _ => ⟨rfl, rfl, rfl, Nat.le_refl _⟩
  | x :: r, h => by
    obtain ⟨h1, h2, h3, h4⟩ := show_tupE fun y hy => h y (List.mem_cons_of_mem _ hy)
    obtain ⟨s1, s2, s3⟩ := h x List.mem_cons_self
    have l1 := log_big (small_all s1)
    have l2 := int_text (small_all s1)
    have hb : ∀ y ∈ ni x.2, y.natAbs < 2 ^ 1000 := fun y hy => by
      obtain ⟨z, hz, rfl⟩ := List.mem_map.mp hy
      exact small_all (s3 z hz)
    obtain ⟨g1, g2, g3, g4⟩ := show_ints hb
    have nl : (ni x.2).length = x.2.length := List.length_map _
    refine ⟨?_, ?_, ?_, ?_⟩
    · show ((decide (((x.1 : Int)).natAbs.log2 < 1920) && (PyData.showableAll ((ni x.2).map .int) && true)) && PyData.showableAll (r.map tupE)) = true
      rw [h1, g1, decide_eq_true (by omega)]
      rfl
    · show ((PyData.hasDict (.int (x.1 : Int)) || (PyData.hasDictAll ((ni x.2).map .int) || false)) || PyData.hasDictAll (r.map tupE)) = false
      rw [h2, g2]
      rfl
    · show ((decide ((PyData.shown (.int (x.1 : Int))).length ≤ 1001) && (PyData.leavesShortAll 1001 ((ni x.2).map .int) && true)) && PyData.leavesShortAll 1001 (r.map tupE)) = true
      rw [h3, g3, decide_eq_true l2]
      rfl
    · show (PyData.bulk (.int (x.1 : Int)) + 1 + (PyData.bulkAll ((ni x.2).map .int) + 1 + 0)) + 1 + PyData.bulkAll (r.map tupE) ≤ 60 * (r.length + 1)
      rw [g4, nl]
      show (0 + 1 + (x.2.length + 1 + 0)) + 1 + PyData.bulkAll (r.map tupE) ≤ 60 * (r.length + 1)
      omega
theorem depth_tupE : ∀ d : List (Nat × List Nat), PyData.depthAll (d.map tupE) ≤ 5
  | [] => by decide
  | x :: r => by
    have h1 := depth_tupE r
    have h2 := depth_row (ni x.2)
    show max (PyData.depth (tupE x)) (PyData.depthAll (r.map tupE)) ≤ 5
    have h3 : PyData.depth (tupE x) = max (PyData.depth (.int (x.1 : Int))) (max (rowD (ni x.2)).depth 0) + 1 := by simp [tupE, PyData.depth, PyData.depthAll]
    have h4 : PyData.depth (.int (x.1 : Int)) ≤ 1 := by simp [PyData.depth]
    omega
theorem repr_list {H : Hp} {R : Addr} {d : List (Nat × List Nat)} (h : TL H R d) (g : Gd d) : Dp K H (.ref R) (listE d) ∧ (listE d).showable = true ∧ (listE d).hasDict = false ∧ (listE d).depth ≤ 60 ∧ (listE d).shown.length ≤ sizeLine := by
  obtain ⟨ts, h1, h2⟩ := h
  obtain ⟨g1, g2⟩ := g
  obtain ⟨s1, s2, s3, s4⟩ := show_tupE g2
  refine ⟨.lst (SqL.of h1) (dp_tupE h2), s1, s2, ?_, ?_⟩
  · have := depth_tupE d
    have e : (listE d).depth = PyData.depthAll (d.map tupE) + 1 := by simp [listE, PyData.depth]
    omega
  · have hb2 := PyData.shown_le_bulk 1001 (by decide) (listE d) s3
    have e : (listE d).bulk ≤ 60 * 48 := Nat.le_trans s4 (Nat.mul_le_mul_left _ g1)
    exact Nat.le_trans hb2 (Nat.le_trans (Nat.add_le_add_right (Nat.mul_le_mul_left _ e) _) (by decide))
theorem gd_of {d : List (Nat × List Nat)} (td : Td d) (hG : G 0 d < 2 ^ 120) (d48 : d.length ≤ 48) (x48 : ∀ x ∈ d, x.2.length ≤ 48) : Gd d := by
  refine ⟨d48, fun x hx => ?_⟩
  have hp := td.told.pr x hx
  have hp2 : 2 ≤ x.1 := hp.1
  have key : ∀ e ∈ x.2, x.1 ^ e < 2 ^ 120 := fun e he => by
    obtain ⟨a, b, rfl⟩ := List.append_of_mem hx
    have f1 : x.1 ^ e ≤ F 0 (pw x.1 x.2) := F_max (pw_pos (by omega) _) (List.mem_map_of_mem he)
    have f2 : G 0 (a ++ x :: b) = G 0 a * (F 0 (pw x.1 x.2) * G 0 b) := by rw [G_app]; rfl
    have p1 : 0 < G 0 a := G_pos 0 fun y hy => td.told.pr y (List.mem_append.mpr (.inl hy))
    have p2 : 0 < G 0 b := G_pos 0 fun y hy => td.told.pr y (List.mem_append.mpr (.inr (List.mem_cons_of_mem _ hy)))
    have f3 : F 0 (pw x.1 x.2) * 1 ≤ F 0 (pw x.1 x.2) * G 0 b := Nat.mul_le_mul_left _ p2
    have f4 : 1 * (F 0 (pw x.1 x.2) * G 0 b) ≤ G 0 a * (F 0 (pw x.1 x.2) * G 0 b) := Nat.mul_le_mul_right _ p1
    omega
  have elt : ∀ e ∈ x.2, e < 2 ^ 120 := fun e he => by
    have h1 := key e he
    have h2 : 2 ^ e ≤ x.1 ^ e := Nat.pow_le_pow_left hp2 e
    have h3 : e < 2 ^ e := Nat.lt_two_pow_self
    omega
  refine ⟨?_, x48 x hx, elt⟩
  obtain ⟨e, he⟩ : ∃ e, e ∈ x.2 := by
    cases h : x.2 with
    | nil => exact absurd h (td.ne x hx)
    | cons y r => exact ⟨y, List.mem_cons_self⟩
  have h1 := key e he
  have h2 := td.told.of x hx e he
  have h3 : x.1 ^ 1 ≤ x.1 ^ e := Nat.pow_le_pow_right (by omega) h2
  rw [Nat.pow_one] at h3
  omega
theorem laid_small {d : List (Nat × List Nat)} (td : Told d) (hG : G 0 d < 2 ^ 120) : ∀ x ∈ (laid d).reverse, x < 2 ^ 120 := fun x hx => by
  obtain ⟨f1, f2⟩ := told_form td
  have h1 := F_max f1.big.pos hx
  rw [f2 0] at h1
  omega
theorem laid_48 {d : List (Nat × List Nat)} (x48 : ∀ x ∈ d, x.2.length ≤ 48) : (laid d).reverse.length ≤ 60 := by
  have := laid_le x48 d.length
  rw [List.take_length] at this
  rw [List.length_reverse]
  omega
theorem TL.but {H H' : Hp} {R D : Addr} {d : List (Nat × List Nat)} {o : HO} (h : TL H R d) (b : But D H H') (hd : H D = some o) (n : ∀ xs, o ≠ .tup xs) (nR : R ≠ D) : TL H' R d := by
  obtain ⟨ts, h1, h2⟩ := h
  refine ⟨ts, b _ _ nR h1, Paired.mapP h2 ?_⟩
  rintro t x ⟨a, e1, e2⟩
  have k : ∀ y xs, H y = some (.tup xs) → H' y = some (.tup xs) := fun y xs e => b _ _ (fun z => n xs (by rw [z, hd] at e; exact Option.some.inj e)) e
  exact ⟨a, k _ _ e1, k _ _ e2⟩
/-! ### the law -/
def spLaw (K : PySem.W.Frag) : Sp := fun vs H Q _ => ∃ (a : Addr) (ns : List Int), vs = [.ref a] ∧ SqL K H a (ns.map V.int) ∧ ns.length ≤ 63 ∧ ∀ H', Q (.bl true) H'
theorem kit_lstK : kitB (tyK .lst) "list" = some true := by decide +kernel
theorem ok_law {f : Addr} {fd : FuncData} (T : Txt K mg) (Fu : Fun K "law" "law" s_law f fd) : FnG P w K mg base CX0 4 f fd ["_law_script"] (spLaw K) := by
  have G_law_pen := ok_law_pen (P := P) (w := w) (base := base) T
  have G_law_house := ok_law_house (P := P) (w := w) (base := base) T
  have G_law_form := ok_law_form (P := P) (w := w) (base := base) T
  have G_law_by_primes := ok_law_by_primes (P := P) (w := w) (base := base) T
  have G_by_primes := ok_by_primes (P := P) (w := w) (base := base) T
  have G_from_primes := ok_from_primes (P := P) (w := w) (base := base) T
  have G_law_mixed := ok_law_mixed (P := P) (w := w) (base := base) T
  refine fng_mk Fu sc_law (fun vs H Q E h => ?_) (fun cdv A outer s H vs Q E hr hg h => ?_)
  · obtain ⟨a, ns, rfl, _⟩ := h
    rfl
  obtain ⟨a0, ns, rfl, hS, hl, q⟩ := h
  refine ⟨_, PSs.nox (pss_cons (ps_set (i := 1) sc_law.nd rfl (by first | exact Or.inl rfl | exact Or.inr rfl) (pe_fn G_law_pen (hr.mono (by decide)) hg (by rfl) (pa_cons (pv 0) pa_nil)))
(pss_cons (ps_for PassesOwn.never rfl (pi_range1 (by rfl) T.n_range (pa_cons pe_int pa_nil)) (pg_name (i := 2) sc_law.nd rfl (by first | exact Or.inl rfl | exact Or.inr rfl))
(pss_cons (ps_set (i := 3) sc_law.nd rfl (by first | exact Or.inl rfl | exact Or.inr rfl) (pe_fn G_law_house (hr.mono (by decide)) hg (by rfl) (pa_cons (pv 1) pa_nil)))
(pss_cons (ps_set (i := 4) sc_law.nd rfl (by first | exact Or.inl rfl | exact Or.inr rfl) (pe_fn G_law_by_primes (hr.mono (by decide)) hg (by rfl) (pa_cons (pv 3) pa_nil)))
(pss_cons (ps_set (i := 5) sc_law.nd rfl (by first | exact Or.inl rfl | exact Or.inr rfl) (pe_fn G_by_primes (hr.mono (by decide)) hg (by rfl) (pa_cons (pv 3) pa_nil)))
(pss_cons (ps_if (PW.pt (pw_or (pt_not (pt_val (pe_callB (isi_K (K := K) rfl) (by rfl) T.n_isinstance (by decide +kernel) (pa_cons (pv 5) (pa_cons (pe_bltn (v := .ty "list") (by rfl) T.n_list (by decide +kernel) rfl) pa_nil))))) (pw_or1 (pt_cmpR op_ne (pe_callB (call_repr (K := K) hr hg rfl) (by rfl) T.n_repr (by decide +kernel) (pa_cons (pv 5) pa_nil)) (pe_callB (call_repr (K := K) hr hg rfl) (by rfl) T.n_repr (by decide +kernel) (pa_cons (pv 4) pa_nil)) (nomark _)))))
(pss_one (ps_ret pe_bl))
pss_nil)
(pss_cons (ps_if (PW.pt (pw_or (pt_cmpR op_ne (pe_callB (call_repr (K := K) hr hg rfl) (by rfl) T.n_repr (by decide +kernel) (pa_cons (pe_fn G_from_primes (hr.mono (by decide)) hg (by rfl) (pa_cons (pv 5) pa_nil)) pa_nil)) (pe_callB (call_repr (K := K) hr hg rfl) (by rfl) T.n_repr (by decide +kernel) (pa_cons (pe_fn G_law_form (hr.mono (by decide)) hg (by rfl) (pa_cons (pv 4) pa_nil)) pa_nil)) (nomark _)) (pw_or1 (pt_cmpR op_ne (pe_callB (call_repr (K := K) hr hg rfl) (by rfl) T.n_repr (by decide +kernel) (pa_cons (pv 5) pa_nil)) (pe_callB (call_repr (K := K) hr hg rfl) (by rfl) T.n_repr (by decide +kernel) (pa_cons (pv 4) pa_nil)) (nomark _)))))
(pss_one (ps_ret pe_bl))
pss_nil)
(pss_cons (ps_expr (pe_bm PySem.F.plainAttrs_list PySem.F.slot_list_append PySem.F.type_list_append mt_append (pv 5) (pa_cons (pe_tup (pa_cons pe_int (pa_cons (pe_tup (pa_cons pe_int pa_nil)) pa_nil))) pa_nil)))
(pss_one (ps_if (PW.pt (pw_or (pt_cmpR op_ne (pe_callB (call_repr (K := K) hr hg rfl) (by rfl) T.n_repr (by decide +kernel) (pa_cons (pe_fn G_by_primes (hr.mono (by decide)) hg (by rfl) (pa_cons (pv 3) pa_nil)) pa_nil)) (pe_callB (call_repr (K := K) hr hg rfl) (by rfl) T.n_repr (by decide +kernel) (pa_cons (pv 4) pa_nil)) (nomark _)) (pw_or1 (pt_cmpR op_ne (pe_callB (call_repr (K := K) hr hg rfl) (by rfl) T.n_repr (by decide +kernel) (pa_cons (pe_fn G_by_primes (hr.mono (by decide)) hg (by rfl) (pa_cons (pe_fn G_law_mixed (hr.mono (by decide)) hg (by rfl) (pa_cons (pv 1) (pa_cons (pv 3) pa_nil))) pa_nil)) pa_nil)) (pe_callB (call_repr (K := K) hr hg rfl) (by rfl) T.n_repr (by decide +kernel) (pa_cons (pv 4) pa_nil)) (nomark _)))))
(pss_one (ps_ret pe_bl))
pss_nil)))))))))
(pss_one (ps_ret (pe_and (pe_cmpR (op_eqLE hr) (pe_fn G_by_primes (hr.mono (by decide)) hg (by rfl) (pa_cons (pe_tup pa_nil) pa_nil)) (pe_lst pa_nil) (nomark _)) (pe_and (pe_cmpR (eqD_K (K := K) hr rfl) (pe_fn G_from_primes (hr.mono (by decide)) hg (by rfl) (pa_cons (pe_lst pa_nil) pa_nil)) (pe_tup pa_nil) (nomark _)) (pe_one (pe_cmpR (op_eqLE hr) (pe_fn G_by_primes (hr.mono (by decide)) hg (by rfl) (pa_cons (pe_tup (pa_cons pe_int (pa_cons pe_int pa_nil))) pa_nil)) (pe_lst pa_nil) (nomark _))))))))), ?_⟩
  refine ⟨_, rfl, _, rfl, a0, ns, rfl, hS, fun d H1 nd sm hp => ?_⟩
  refine ⟨3, rfl, by decide, by decide, for_range (lo := 0) (n := 3) (fun k σ H' => ∃ o2 o3 o4 o5 : Option V, σ = [some (.ref a0), some (.ref d), o2, o3, o4, o5] ∧ Pen K H' d a0 ns (30 * k)) ⟨none, none, none, none, rfl, by simpa using hp⟩ ?_ ?_⟩
  · rintro k σ H2 hk ⟨o2, o3, o4, o5, rfl, hp2⟩
    refine ⟨_, rfl, _, rfl, d, a0, ns, _, rfl, hp2, by omega, fun hb H3 hs hhb h6 hx hp3 b3 => ?_⟩
    obtain ⟨ms, ems, ml, bd⟩ := nats_of hx
    rw [ems] at hhb
    have m6 : ms.length ≤ 6 := by omega
    obtain ⟨f0, f1⟩ := F_house bd m6
    -- due, told
    refine ⟨_, rfl, _, rfl, hb, ms, rfl, hhb, m6, bd, fun R H4 dd nR s4 tl td gd d48 x48 => ?_⟩
    refine ⟨_, rfl, _, rfl, hb, ms, rfl, s4 _ _ hhb, m6, bd, fun R2 H5 d2 nR2 s5 tl2 td2 gd2 _ _ => ?_⟩
    have ed2 : d2 = dd := td_uniq td2 td fun n => by rw [gd2 n, gd n]
    subst ed2
    have hG : G 0 d2 < 2 ^ 120 := by rw [gd 0]; exact f1
    have Gg := gd_of td hG d48 x48
    have tlR5 := tl.same s5
    have hhb5 := (s4.trans s5) _ _ hhb
    have hp5 := hp3.same (s4.trans s5)
    obtain ⟨ts2, hR2, _⟩ := id tl2
    try dsimp only [gName]
    refine if_no (fun H' => H' = H5) (fun Q2 q2 => ?_) (fun H' e => ?_)
    · refine or_no (fun H' => H' = H5) (fun Q3 q3 => ?_) (fun H' e => ?_)
      · refine ⟨_, rfl, _, _, _, _, true, rfl, .ty "list", (HasK.lst hR2).ty, kit_ty kit_lstK, true, rfl, ?_⟩
        exact q3 _ rfl
      · obtain rfl : H5 = H' := e.symm
        obtain ⟨x1, x2, x3, x4, x5⟩ := repr_list (K := K) tl2 Gg
        obtain ⟨y1, y2, y3, y4, y5⟩ := repr_list (K := K) tlR5 Gg
        refine ⟨_, rfl, R2, _, rfl, x1, x2, x3, x4, x5, _, rfl, R, _, rfl, y1, y2, y3, y4, y5, rfl, _, rfl, ?_⟩
        rw [decide_eq_true rfl]
        exact q2 _ rfl
    obtain rfl : H5 = H' := e.symm
    try dsimp only [gName]
    refine if_no (fun H' => Same H5 H') (fun Q2 q2 => ?_) (fun H6 s6 => ?_)
    · refine or_no (fun H' => Same H5 H') (fun Q3 q3 => ?_) (fun H6 s6 => ?_)
      · refine ⟨_, rfl, _, rfl, R2, d2, rfl, tl2, td.told, hG, d48, x48, fun r H6 s6 hr6 => ?_⟩
        obtain ⟨x1, x2, x3, x4, x5⟩ := repr_row (K := K) hr6 (laid_48 x48) (laid_small td.told hG)
        refine ⟨r, _, rfl, x1, x2, x3, x4, x5, _, rfl, _, rfl, R, d2, rfl, tlR5.same s6, td.told, hG, d48, x48, fun r7 H7 s7 hr7 => ?_⟩
        obtain ⟨y1, y2, y3, y4, y5⟩ := repr_row (K := K) hr7 (laid_48 x48) (laid_small td.told hG)
        refine ⟨r7, _, rfl, y1, y2, y3, y4, y5, rfl, _, rfl, ?_⟩
        rw [decide_eq_true rfl]
        exact q3 _ (s6.trans s7)
      · obtain ⟨x1, x2, x3, x4, x5⟩ := repr_list (K := K) (tl2.same s6) Gg
        obtain ⟨y1, y2, y3, y4, y5⟩ := repr_list (K := K) (tlR5.same s6) Gg
        refine ⟨_, rfl, R2, _, rfl, x1, x2, x3, x4, x5, _, rfl, R, _, rfl, y1, y2, y3, y4, y5, rfl, _, rfl, ?_⟩
        rw [decide_eq_true rfl]
        exact q2 _ s6
    -- told.append((2, (1,)))
    have hR26 := s6 _ _ hR2
    have tlR6 := tlR5.same s6
    have hhb6 := s6 _ _ hhb5
    have hp6 := hp5.same s6
    obtain ⟨tsR, hRR, _⟩ := id tl
    have neR : R ≠ R2 := by
      rintro rfl
      rw [hRR] at nR2
      cases nR2
    have tl2l : ts2.length ≤ 48 := by
      obtain ⟨ts', h1', h2'⟩ := id tl2
      rw [hR2] at h1'
      have e1 : ts2.map V.ref = ts'.map V.ref := by
        injection h1' with z
        injection z
      have e2 := congrArg List.length e1
      rw [List.length_map, List.length_map] at e2
      have := Paired.length h2'
      omega
    refine ⟨_, rfl, .inl ⟨rfl, _, SqL.of hR26⟩, (by show 1 ≤ sizeLine; decide), fun t1 n1 => ⟨(by show 2 ≤ sizeLine; decide), fun t2 n2 => ?_⟩⟩
    have sN := (same_new (H := H6) (o := .tup [.int 1]) n1).trans (same_new (o := .tup [.int 2, .ref t1]) n2)
    have hR2N := sN _ _ hR26
    refine ⟨R2, _, _, rfl, rfl, hR2N, by rw [List.length_map]; exact small1000 (by omega), ?_⟩
    have tlR7 : TL (upd (upd (upd H6 t1 (.tup [.int 1])) t2 (.tup [.int 2, .ref t1])) R2 (.lst (ts2.map V.ref ++ [.ref t2]))) R d2 := (tlR6.same sN).but But.upd hR2N (by intro xs z; cases z) neR
    have hhb7 : (upd (upd (upd H6 t1 (.tup [.int 1])) t2 (.tup [.int 2, .ref t1])) R2 (.lst (ts2.map V.ref ++ [.ref t2]))) hb = some (.tup (iv ms)) := by
      rw [upd_ne (ne_of (sN _ _ hhb6) hR2N (by intro z; cases z))]
      exact sN _ _ hhb6
    have hp7 := pen_up (o := .lst (ts2.map V.ref ++ [.ref t2])) (hp3.same s4) (But.same (s5.trans (s6.trans sN))) (hp6.same sN) nR2
    generalize upd (upd (upd H6 t1 (.tup [.int 1])) t2 (.tup [.int 2, .ref t1])) R2 (.lst (ts2.map V.ref ++ [.ref t2])) = H7 at *
    try dsimp only [gName]
    refine if_no1 (fun H' => Pen K H' d a0 ns (30 * k + 25)) (fun Q2 q2 => ?_) (fun H8 hp8 => ?_)
    · refine or_no (fun H' => Same H7 H') (fun Q3 q3 => ?_) (fun H8 s8 => ?_)
      · refine ⟨_, rfl, _, rfl, hb, ms, rfl, hhb7, m6, bd, fun R3 H8 d3 _ s8 tl3 td3 gd3 _ _ => ?_⟩
        have ed3 : d3 = d2 := td_uniq td3 td fun n => by rw [gd3 n, gd n]
        rw [ed3] at tl3
        obtain ⟨x1, x2, x3, x4, x5⟩ := repr_list (K := K) tl3 Gg
        obtain ⟨y1, y2, y3, y4, y5⟩ := repr_list (K := K) (tlR7.same s8) Gg
        refine ⟨R3, _, rfl, x1, x2, x3, x4, x5, _, rfl, R, _, rfl, y1, y2, y3, y4, y5, rfl, _, rfl, ?_⟩
        rw [decide_eq_true rfl]
        exact q3 _ s8
      · have hp8 := hp7.same s8
        refine ⟨_, rfl, _, rfl, _, _, rfl, d, a0, ns, _, hb, ms, rfl, rfl, hp8, by omega, s8 _ _ hhb7, m6, bd, fun mb H9 ms2 hmb m26 bd2 ff hp9 b9 => ?_⟩
        refine ⟨_, rfl, mb, ms2, rfl, hmb, m26, bd2, fun R4 H10 d4 _ s10 tl4 td4 gd4 _ _ => ?_⟩
        have ed4 : d4 = d2 := td_uniq td4 td fun n => by rw [gd4 n, ff n, gd n]
        rw [ed4] at tl4
        obtain ⟨kvs, hd8⟩ := pen_at3 hp8
        have tlR8 := tlR7.same s8
        obtain ⟨tsq, hRq, _⟩ := id tlR8
        have tlR10 := (tlR8.but b9 hd8 (by intro xs z; cases z) (ne_of hRq hd8 (by intro z; cases z))).same s10
        obtain ⟨x1, x2, x3, x4, x5⟩ := repr_list (K := K) tl4 Gg
        obtain ⟨y1, y2, y3, y4, y5⟩ := repr_list (K := K) tlR10 Gg
        refine ⟨R4, _, rfl, x1, x2, x3, x4, x5, _, rfl, R, _, rfl, y1, y2, y3, y4, y5, rfl, _, rfl, ?_⟩
        rw [decide_eq_true rfl]
        exact q2 _ ((hp9.same s10).mono (by omega))
    · exact ⟨_, _, _, _, rfl, hp8.mono (by omega)⟩
  · rintro σ H2 ⟨o2, o3, o4, o5, rfl, hp2⟩
    have tdn : Td [] := ⟨⟨by simp, List.Pairwise.nil, by simp, by simp⟩, List.Pairwise.nil, by simp⟩
    have nil_of : ∀ {H : Hp} {R : Addr}, TL H R [] → H R = some (.lst []) := fun {H R} h => by
      obtain ⟨ts, h1, h2⟩ := h
      cases h2
      exact h1
    refine ⟨Nat.zero_le _, fun t1 n1 => ⟨_, rfl, t1, [], rfl, upd_same, by decide, by simp, fun R H3 d1 _ s3 tl td gd _ _ => ?_⟩⟩
    have e1 : d1 = [] := td_uniq td tdn fun n => by rw [gd n]; rfl
    rw [e1] at tl
    refine ⟨Nat.zero_le _, fun l2 n2 => ⟨R, l2, [], rfl, rfl, (same_new n2) _ _ (nil_of tl), upd_same, true, rfl, iteT ?_⟩⟩
    refine ⟨Nat.zero_le _, fun l3 n3 => ⟨_, rfl, l3, [], rfl, ⟨[], upd_same, .nil⟩, tdn.told, by decide, by decide, by simp, fun r4 H4 s4 h4 => ?_⟩⟩
    refine ⟨Nat.zero_le _, fun t5 n5 => eq_rowN (l := []) ((same_new n5) _ _ h4) upd_same ⟨true, rfl, iteT ?_⟩⟩
    refine ⟨(by show 2 ≤ sizeLine; decide), fun t6 n6 => ⟨_, rfl, t6, [1, 1], rfl, upd_same, by decide, by decide, fun R7 H7 d7 _ s7 tl7 td7 gd7 _ _ => ?_⟩⟩
    have e7 : d7 = [] := td_uniq td7 tdn fun n => by
      rw [gd7 n]
      simp [F, G]
    rw [e7] at tl7
    refine ⟨Nat.zero_le _, fun l8 n8 => ⟨R7, l8, [], rfl, rfl, (same_new n8) _ _ (nil_of tl7), upd_same, ?_⟩⟩
    exact q _

end
theorem all_mk {l : PySem.W.OpenLaw} {w : World} {K : PySem.W.Frag} {h : Heap} {mg : Str → Option Value} {fa : Addr} (X : K.In h) (G : h.Ns mainGlobals mg) (hfa : mg "law" = some (.ref fa))
    {f1 : Addr} {od1 an1 : Option Addr} {sl1 : Array (Option Value)} {oc1 kV1 dc1 pm1 cd1 ct1 : Value}
    {f2 : Addr} {od2 an2 : Option Addr} {sl2 : Array (Option Value)} {oc2 kV2 dc2 pm2 cd2 ct2 : Value}
    {f3 : Addr} {od3 an3 : Option Addr} {sl3 : Array (Option Value)} {oc3 kV3 dc3 pm3 cd3 ct3 : Value}
    {f4 : Addr} {od4 an4 : Option Addr} {sl4 : Array (Option Value)} {oc4 kV4 dc4 pm4 cd4 ct4 : Value}
    {f5 : Addr} {od5 an5 : Option Addr} {sl5 : Array (Option Value)} {oc5 kV5 dc5 pm5 cd5 ct5 : Value}
    {f6 : Addr} {od6 an6 : Option Addr} {sl6 : Array (Option Value)} {oc6 kV6 dc6 pm6 cd6 ct6 : Value}
    {f7 : Addr} {od7 an7 : Option Addr} {sl7 : Array (Option Value)} {oc7 kV7 dc7 pm7 cd7 ct7 : Value}
    {f8 : Addr} {od8 an8 : Option Addr} {sl8 : Array (Option Value)} {oc8 kV8 dc8 pm8 cd8 ct8 : Value}
    {f9 : Addr} {od9 an9 : Option Addr} {sl9 : Array (Option Value)} {oc9 kV9 dc9 pm9 cd9 ct9 : Value}
    {f10 : Addr} {od10 an10 : Option Addr} {sl10 : Array (Option Value)} {oc10 kV10 dc10 pm10 cd10 ct10 : Value}
    {f11 : Addr} {od11 an11 : Option Addr} {sl11 : Array (Option Value)} {oc11 kV11 dc11 pm11 cd11 ct11 : Value}
    {f12 : Addr} {od12 an12 : Option Addr} {sl12 : Array (Option Value)} {oc12 kV12 dc12 pm12 cd12 ct12 : Value}
    {f13 : Addr} {od13 an13 : Option Addr} {sl13 : Array (Option Value)} {oc13 kV13 dc13 pm13 cd13 ct13 : Value}
    {f14 : Addr} {od14 an14 : Option Addr} {sl14 : Array (Option Value)} {oc14 kV14 dc14 pm14 cd14 ct14 : Value}
    (a1 : PySem.W.nsIn K mainGlobals "power" = some (some (.ref f1))) (l1 : K.lookup f1 = some ⟨oc1, od1, .func (PySem.W.fnOf "power" "power" (defArgs s_power) (defBody s_power) (defScope s_power) .none kV1 dc1 pm1 an1 cd1 ct1), sl1⟩) (c1 : PySem.W.codeIn K cd1 "power" = true) (k1 : PySem.W.keepIn K (.ref f1) = true)
    (a2 : PySem.W.nsIn K mainGlobals "primes_of" = some (some (.ref f2))) (l2 : K.lookup f2 = some ⟨oc2, od2, .func (PySem.W.fnOf "primes_of" "primes_of" (defArgs s_primes_of) (defBody s_primes_of) (defScope s_primes_of) .none kV2 dc2 pm2 an2 cd2 ct2), sl2⟩) (c2 : PySem.W.codeIn K cd2 "primes_of" = true) (k2 : PySem.W.keepIn K (.ref f2) = true)
    (a3 : PySem.W.nsIn K mainGlobals "by_primes" = some (some (.ref f3))) (l3 : K.lookup f3 = some ⟨oc3, od3, .func (PySem.W.fnOf "by_primes" "by_primes" (defArgs s_by_primes) (defBody s_by_primes) (defScope s_by_primes) .none kV3 dc3 pm3 an3 cd3 ct3), sl3⟩) (c3 : PySem.W.codeIn K cd3 "by_primes" = true) (k3 : PySem.W.keepIn K (.ref f3) = true)
    (a4 : PySem.W.nsIn K mainGlobals "from_primes" = some (some (.ref f4))) (l4 : K.lookup f4 = some ⟨oc4, od4, .func (PySem.W.fnOf "from_primes" "from_primes" (defArgs s_from_primes) (defBody s_from_primes) (defScope s_from_primes) .none kV4 dc4 pm4 an4 cd4 ct4), sl4⟩) (c4 : PySem.W.codeIn K cd4 "from_primes" = true) (k4 : PySem.W.keepIn K (.ref f4) = true)
    (a5 : PySem.W.nsIn K mainGlobals "_law_pen" = some (some (.ref f5))) (l5 : K.lookup f5 = some ⟨oc5, od5, .func (PySem.W.fnOf "_law_pen" "_law_pen" (defArgs s_law_pen) (defBody s_law_pen) (defScope s_law_pen) .none kV5 dc5 pm5 an5 cd5 ct5), sl5⟩) (c5 : PySem.W.codeIn K cd5 "_law_pen" = true) (k5 : PySem.W.keepIn K (.ref f5) = true)
    (a6 : PySem.W.nsIn K mainGlobals "_law_draw" = some (some (.ref f6))) (l6 : K.lookup f6 = some ⟨oc6, od6, .func (PySem.W.fnOf "_law_draw" "_law_draw" (defArgs s_law_draw) (defBody s_law_draw) (defScope s_law_draw) .none kV6 dc6 pm6 an6 cd6 ct6), sl6⟩) (c6 : PySem.W.codeIn K cd6 "_law_draw" = true) (k6 : PySem.W.keepIn K (.ref f6) = true)
    (a7 : PySem.W.nsIn K mainGlobals "_law_round" = some (some (.ref f7))) (l7 : K.lookup f7 = some ⟨oc7, od7, .func (PySem.W.fnOf "_law_round" "_law_round" (defArgs s_law_round) (defBody s_law_round) (defScope s_law_round) .none kV7 dc7 pm7 an7 cd7 ct7), sl7⟩) (c7 : PySem.W.codeIn K cd7 "_law_round" = true) (k7 : PySem.W.keepIn K (.ref f7) = true)
    (a8 : PySem.W.nsIn K mainGlobals "_law_house" = some (some (.ref f8))) (l8 : K.lookup f8 = some ⟨oc8, od8, .func (PySem.W.fnOf "_law_house" "_law_house" (defArgs s_law_house) (defBody s_law_house) (defScope s_law_house) .none kV8 dc8 pm8 an8 cd8 ct8), sl8⟩) (c8 : PySem.W.codeIn K cd8 "_law_house" = true) (k8 : PySem.W.keepIn K (.ref f8) = true)
    (a9 : PySem.W.nsIn K mainGlobals "_law_thing" = some (some (.ref f9))) (l9 : K.lookup f9 = some ⟨oc9, od9, .func (PySem.W.fnOf "_law_thing" "_law_thing" (defArgs s_law_thing) (defBody s_law_thing) (defScope s_law_thing) .none kV9 dc9 pm9 an9 cd9 ct9), sl9⟩) (c9 : PySem.W.codeIn K cd9 "_law_thing" = true) (k9 : PySem.W.keepIn K (.ref f9) = true)
    (a10 : PySem.W.nsIn K mainGlobals "_law_factors" = some (some (.ref f10))) (l10 : K.lookup f10 = some ⟨oc10, od10, .func (PySem.W.fnOf "_law_factors" "_law_factors" (defArgs s_law_factors) (defBody s_law_factors) (defScope s_law_factors) .none kV10 dc10 pm10 an10 cd10 ct10), sl10⟩) (c10 : PySem.W.codeIn K cd10 "_law_factors" = true) (k10 : PySem.W.keepIn K (.ref f10) = true)
    (a11 : PySem.W.nsIn K mainGlobals "_law_by_primes" = some (some (.ref f11))) (l11 : K.lookup f11 = some ⟨oc11, od11, .func (PySem.W.fnOf "_law_by_primes" "_law_by_primes" (defArgs s_law_by_primes) (defBody s_law_by_primes) (defScope s_law_by_primes) .none kV11 dc11 pm11 an11 cd11 ct11), sl11⟩) (c11 : PySem.W.codeIn K cd11 "_law_by_primes" = true) (k11 : PySem.W.keepIn K (.ref f11) = true)
    (a12 : PySem.W.nsIn K mainGlobals "_law_form" = some (some (.ref f12))) (l12 : K.lookup f12 = some ⟨oc12, od12, .func (PySem.W.fnOf "_law_form" "_law_form" (defArgs s_law_form) (defBody s_law_form) (defScope s_law_form) .none kV12 dc12 pm12 an12 cd12 ct12), sl12⟩) (c12 : PySem.W.codeIn K cd12 "_law_form" = true) (k12 : PySem.W.keepIn K (.ref f12) = true)
    (a13 : PySem.W.nsIn K mainGlobals "_law_mixed" = some (some (.ref f13))) (l13 : K.lookup f13 = some ⟨oc13, od13, .func (PySem.W.fnOf "_law_mixed" "_law_mixed" (defArgs s_law_mixed) (defBody s_law_mixed) (defScope s_law_mixed) .none kV13 dc13 pm13 an13 cd13 ct13), sl13⟩) (c13 : PySem.W.codeIn K cd13 "_law_mixed" = true) (k13 : PySem.W.keepIn K (.ref f13) = true)
    (a14 : PySem.W.nsIn K mainGlobals "law" = some (some (.ref f14))) (l14 : K.lookup f14 = some ⟨oc14, od14, .func (PySem.W.fnOf "law" "law" (defArgs s_law) (defBody s_law) (defScope s_law) .none kV14 dc14 pm14 an14 cd14 ct14), sl14⟩) (c14 : PySem.W.codeIn K cd14 "law" = true) (k14 : PySem.W.keepIn K (.ref f14) = true)
    (z1 : PySem.W.nsIn K mainGlobals "abs" = some none)
    (z2 : PySem.W.nsIn K mainGlobals "enumerate" = some none)
    (z3 : PySem.W.nsIn K mainGlobals "int" = some none)
    (z4 : PySem.W.nsIn K mainGlobals "isinstance" = some none)
    (z5 : PySem.W.nsIn K mainGlobals "len" = some none)
    (z6 : PySem.W.nsIn K mainGlobals "list" = some none)
    (z7 : PySem.W.nsIn K mainGlobals "max" = some none)
    (z8 : PySem.W.nsIn K mainGlobals "range" = some none)
    (z9 : PySem.W.nsIn K mainGlobals "repr" = some none)
    (z10 : PySem.W.nsIn K mainGlobals "sorted" = some none)
    (z11 : PySem.W.nsIn K mainGlobals "tuple" = some none) :
    ∃ fd : FuncData, (∀ (s : Shared) (v : Value), BindsTo s fd ⟨[v], []⟩ [("_law_script", v)]) ∧ ∀ base : Heap, K.In base → base.Ns mainGlobals mg → FnG l.prog w K mg base CX0 4 fa fd ["_law_script"] (spLaw K) := by
  have e := hfa.symm.trans (PySem.W.mg_of X G a14)
  cases e
  have T : Txt K mg := ⟨df_mk (PySem.W.mg_of X G a1) l1 c1 k1 (fun _ _ _ _ _ _ us hl => match us, hl with | [_, _], _ => rfl),
    df_mk (PySem.W.mg_of X G a2) l2 c2 k2 (fun _ _ _ _ _ _ us hl => match us, hl with | [_], _ => rfl),
    df_mk (PySem.W.mg_of X G a3) l3 c3 k3 (fun _ _ _ _ _ _ us hl => match us, hl with | [_], _ => rfl),
    df_mk (PySem.W.mg_of X G a4) l4 c4 k4 (fun _ _ _ _ _ _ us hl => match us, hl with | [_], _ => rfl),
    df_mk (PySem.W.mg_of X G a5) l5 c5 k5 (fun _ _ _ _ _ _ us hl => match us, hl with | [_], _ => rfl),
    df_mk (PySem.W.mg_of X G a6) l6 c6 k6 (fun _ _ _ _ _ _ us hl => match us, hl with | [_, _], _ => rfl),
    df_mk (PySem.W.mg_of X G a7) l7 c7 k7 (fun _ _ _ _ _ _ us hl => match us, hl with | [_], _ => rfl),
    df_mk (PySem.W.mg_of X G a8) l8 c8 k8 (fun _ _ _ _ _ _ us hl => match us, hl with | [_], _ => rfl),
    df_mk (PySem.W.mg_of X G a9) l9 c9 k9 (fun _ _ _ _ _ _ us hl => match us, hl with | [_, _], _ => rfl),
    df_mk (PySem.W.mg_of X G a10) l10 c10 k10 (fun _ _ _ _ _ _ us hl => match us, hl with | [_], _ => rfl),
    df_mk (PySem.W.mg_of X G a11) l11 c11 k11 (fun _ _ _ _ _ _ us hl => match us, hl with | [_], _ => rfl),
    df_mk (PySem.W.mg_of X G a12) l12 c12 k12 (fun _ _ _ _ _ _ us hl => match us, hl with | [_], _ => rfl),
    df_mk (PySem.W.mg_of X G a13) l13 c13 k13 (fun _ _ _ _ _ _ us hl => match us, hl with | [_, _], _ => rfl),
    df_mk (PySem.W.mg_of X G a14) l14 c14 k14 (fun _ _ _ _ _ _ us hl => match us, hl with | [_], _ => rfl),
    PySem.W.mg_none_of X G z1,
    PySem.W.mg_none_of X G z2,
    PySem.W.mg_none_of X G z3,
    PySem.W.mg_none_of X G z4,
    PySem.W.mg_none_of X G z5,
    PySem.W.mg_none_of X G z6,
    PySem.W.mg_none_of X G z7,
    PySem.W.mg_none_of X G z8,
    PySem.W.mg_none_of X G z9,
    PySem.W.mg_none_of X G z10,
    PySem.W.mg_none_of X G z11⟩
  exact ⟨PySem.W.fnOf "law" "law" (defArgs s_law) (defBody s_law) (defScope s_law) .none kV14 dc14 pm14 an14 cd14 ct14, fun s v => .of_eq rfl, fun base _ _ => ok_law T (fun_mk (st := s_law) l14 c14 k14)⟩
end K39
open PySem PySem.W PyProof.Rows
set_option maxRecDepth 100000 in
set_option maxHeartbeats 0 in
theorem PySem.Challenge.cw_commonhouse_k39_by_primes_holds : PySem.Challenge.rw_commonhouse_k39_by_primes.Holds := by
  w_on; o_law; k_head; (case hw => w_witness2)
  k_fill
  refine Cm.walk_g (l := PySem.Challenge.rw_commonhouse_k39_by_primes) (n := 63) (k := 4) (x := "_law_script") (sp := K39.spLaw) rfl (by decide) rfl ⟨rfl, by decide, by decide⟩ (fun w h Y => PySem.W.kIn_of Y) ?F (fun _ _ a ns hl hS => ⟨a, ns, rfl, hS, hl, fun _ => rfl⟩)
  case F =>
    intro w mg fa h KX G hmg
    refine' K39.all_mk KX G hmg ?a1 ?l1 ?c1 ?k1 ?a2 ?l2 ?c2 ?k2 ?a3 ?l3 ?c3 ?k3 ?a4 ?l4 ?c4 ?k4 ?a5 ?l5 ?c5 ?k5 ?a6 ?l6 ?c6 ?k6 ?a7 ?l7 ?c7 ?k7 ?a8 ?l8 ?c8 ?k8 ?a9 ?l9 ?c9 ?k9 ?a10 ?l10 ?c10 ?k10 ?a11 ?l11 ?c11 ?k11 ?a12 ?l12 ?c12 ?k12 ?a13 ?l13 ?c13 ?k13 ?a14 ?l14 ?c14 ?k14 ?z1 ?z2 ?z3 ?z4 ?z5 ?z6 ?z7 ?z8 ?z9 ?z10 ?z11
    (case a1 => k_is); (case l1 => k_is); (case c1 => k_is); (case k1 => k_is); (case a2 => k_is); (case l2 => k_is)
    (case c2 => k_is); (case k2 => k_is); (case a3 => k_is); (case l3 => k_is); (case c3 => k_is); (case k3 => k_is)
    (case a4 => k_is); (case l4 => k_is); (case c4 => k_is); (case k4 => k_is); (case a5 => k_is); (case l5 => k_is)
    (case c5 => k_is); (case k5 => k_is); (case a6 => k_is); (case l6 => k_is); (case c6 => k_is); (case k6 => k_is)
    (case a7 => k_is); (case l7 => k_is); (case c7 => k_is); (case k7 => k_is); (case a8 => k_is); (case l8 => k_is)
    (case c8 => k_is); (case k8 => k_is); (case a9 => k_is); (case l9 => k_is); (case c9 => k_is); (case k9 => k_is)
    (case a10 => k_is); (case l10 => k_is); (case c10 => k_is); (case k10 => k_is); (case a11 => k_is); (case l11 => k_is)
    (case c11 => k_is); (case k11 => k_is); (case a12 => k_is); (case l12 => k_is); (case c12 => k_is); (case k12 => k_is)
    (case a13 => k_is); (case l13 => k_is); (case c13 => k_is); (case k13 => k_is); (case a14 => k_is); (case l14 => k_is)
    (case c14 => k_is); (case k14 => k_is); (case z1 => k_is); (case z2 => k_is); (case z3 => k_is); (case z4 => k_is)
    (case z5 => k_is); (case z6 => k_is); (case z7 => k_is); (case z8 => k_is); (case z9 => k_is); (case z10 => k_is)
    (case z11 => k_is)

