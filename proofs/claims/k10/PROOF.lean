import PyProof.Rows.All
import Wide.All
import OpenK.AllK
import Wide.FinOn
import HandS.Base
import HandS.Call
import HandS.List
import HandS.Comp
import HandS.Ends
import HandS.Dict
import HandS.Iter
import HandS.Words
import HandS.IsInst
import HandS.TupAny
import HandS.TupLe
import HandS.WordsList
import PySem.Challenge.RW_commonhouse_k10_steps_known
set_option Elab.async false
set_option linter.all false
set_option maxRecDepth 100000
set_option maxHeartbeats 4000000
namespace Cm
open PySem PySem.Spec PyProof.Rows L2
/-! ### defs by their names -/
/-- the def x of the text stands behind the top by its name -/
def Df (K : PySem.W.Frag) (mg : Str → Option Value) (x : Str) (st : Stmt) (ps : List Str) : Prop :=
  ∃ f fd, Fun K x x st f fd ∧ mg x = some (.ref f) ∧ Binds K fd ps []
theorem df_mk {K : PySem.W.Frag} {mg : Str → Option Value} {x : Str} {st : Stmt} {ps : List Str} {f : Addr} {oc : Value} {od an : Option Addr} {osl : Array (Option Value)} {kV doc pm cdv ct : Value} (hm : mg x = some (.ref f))
    (l : K.lookup f = some ⟨oc, od, .func (PySem.W.fnOf x x (defArgs st) (defBody st) (defScope st) .none kV doc pm an cdv ct), osl⟩) (c : PySem.W.codeIn K cdv x = true) (k : PySem.W.keepIn K (.ref f) = true)
    (h : ∀ (kV doc pm : Value) (an : Option Addr) (cdv ct : Value) (us : List Value), us.length = ps.length → bindArgs (PySem.W.fnOf x x (defArgs st) (defBody st) (defScope st) .none kV doc pm an cdv ct) ⟨us, []⟩ = pure (ps.zip us)) : Df K mg x st ps :=
  ⟨f, _, fun_mk l c k, hm, (fun_mk l c k).binds h⟩
/-! ### a promise that is kept where no repr runs around (the recursion guards are empty) -/
structure FnG (P : Program) (w : World) (K : PySem.W.Frag) (mg : Str → Option Value) (base : Heap) (CX : CXT) (k : Nat) (f : Addr) (fd : FuncData) (ps : List Str) (sp : Sp) : Prop where
  len : ∀ vs H Q E, sp vs H Q E → vs.length = ps.length
  go : ∀ (A : Around) (outer : List Env) (s : Shared) (H : Hp) (args : Args) (us : List Value) (vs : List V) (Q : VK) (E : XK), Room k A → A.guards = some [] → Env0 P w K mg base A outer s H → BindsTo s fd args (ps.zip us) → Vals vs us → sp vs H Q E →
    codeAny (model P w) A (.call (.ref f) args) (CR CX outer P w H s Q E) s
section
variable {P : Program} {w : World} {K : PySem.W.Frag} {mg : Str → Option Value} {base : Heap} {CX : CXT}
/-- a def's body keeps its promise there -/
theorem fng_mk {k : Nat} {f : Addr} {x qual : Str} {st : Stmt} {fd : FuncData} {N ps : List Str} {sp : Sp} (F : Fun K x qual st f fd) (S : FnScope N ps (defScope st))
    (len : ∀ vs H Q E, sp vs H Q E → vs.length = ps.length)
    (body : ∀ (cdv : Value) (A : Around) (outer : List Env) (s : Shared) (H : Hp) (vs : List V) (Q : VK) (E : XK), Room k (A.deeper (envOfC qual (defScope st) s.heap.objs.size f cdv)) → A.guards = some [] → sp vs H Q E →
      ∃ t, PSs (cxOf CX P w K mg base N qual (defScope st) f cdv A outer s H E) (defBody st) t ∧ t { nx := fun _ H' => Q .non H', rt := Q } (start N vs) H) : FnG P w K mg base CX (k + 1) f fd ps sp := by
  obtain ⟨oc, od, kV, doc, pm, an, cdv, ct, osl, hfd, lk, hcd⟩ := F.ex
  subst hfd
  refine ⟨len, fun A outer s H args us vs Q E room gd env bind rel prom => ?_⟩
  have llen := len _ _ _ _ prom
  have inK : K.In s.heap := env.mod.kin.keeps fun b o e => (env.bs b o e).1
  have nolim : s.heap.NoLimit := env.mod.nolimit.keeps fun b o e => (env.bs b o e).1
  have kinds : ∀ y ∈ ps.zip us, (defScope st).names.lookup y.1 = some .local ∨ ((defScope st).names.lookup y.1 = some .cell ∧ ((cellsFrom (s.heap.objs.size + 1) (defScope st).names []).lookup y.1).isSome = true) := by
    rintro ⟨n, v⟩ hy
    rcases S.par n (List.of_mem_zip hy).1 with z | z
    · exact .inl z
    · exact .inr ⟨z, PySem.W.cellsFrom_some _ _ _ (.inl z)⟩
  refine codeAny_call_function room.depth (inK _ _ lk) rfl S.co S.gen rfl (PySem.W.codeRec_of inK hcd) (bind _ _ _ _ ?_)
  refine wpAny_newFunctionEnv_cells S.kind kinds fun fenv hfe s1 ent => ?_
  subst hfe
  refine ⟨nolim.keeps ent.toInCall.keep, codeAny_func ?_⟩
  obtain ⟨t, ht, hq⟩ := body cdv A outer s H vs Q E (room.deeper _) gd prom
  have I0 : Inv (cxOf CX P w K mg base N qual (defScope st) f cdv A outer s H E) [] (start N vs) H s1 := inv_start S room.hd env llen rel ent
  refine wpAny_mono (ht.run [] s1 (start N vs) H _ I0 hq) (fun fl s' out => ?_) fun e s' out => out
  cases fl with
  | ret u =>
    obtain ⟨v, σ', H', J, rv, q⟩ := out
    exact ⟨v, H', J.os, J.bare, J.base, J.hok, rv, q⟩
  | next =>
    obtain ⟨σ', H', J, q⟩ := out
    exact ⟨V.non, H', J.os, J.bare, J.base, J.hok, rfl, q⟩
  | brk =>
    obtain ⟨_, _, _, q⟩ := out
    exact q.elim
  | cont =>
    obtain ⟨_, _, _, q⟩ := out
    exact q.elim
end
/-- the def x keeps the promise sp; no exception leaves it -/
def Fn (P : Program) (w : World) (K : PySem.W.Frag) (mg : Str → Option Value) (base : Heap) (k : Nat) (x : Str) (ps : List Str) (sp : Sp) : Prop :=
  ∃ f fd, FnG P w K mg base CX0 k f fd ps sp ∧ mg x = some (.ref f) ∧ PySem.W.keepIn K (.ref f) = true ∧ Binds K fd ps []
section
variable {P : Program} {w : World} {K : PySem.W.Frag} {mg : Str → Option Value} {base : Heap}
theorem Df.ok {x : Str} {st : Stmt} {ps N : List Str} {k : Nat} {sp : Sp} (D : Df K mg x st ps) (S : FnScope N ps (defScope st)) (len : ∀ vs H Q E, sp vs H Q E → vs.length = ps.length)
    (hbody : ∀ (f : Addr) (cdv : Value) (A : Around) (outer : List Env) (s : Shared) (H : Hp) (vs : List V) (Q : VK) (E : XK), Room k (A.deeper (envOfC x (defScope st) s.heap.objs.size f cdv)) → A.guards = some [] → sp vs H Q E →
      ∃ t, PSs (cxOf CX0 P w K mg base N x (defScope st) f cdv A outer s H E).nox (defBody st) t ∧ t { nx := fun _ H' => Q .non H', rt := Q } (start N vs) H) : Fn P w K mg base (k + 1) x ps sp := by
  obtain ⟨f, fd, F, hm, hb⟩ := D
  refine ⟨f, fd, fng_mk F S len fun cdv A outer s H vs Q E hr hg h => ?_, hm, F.kp, hb⟩
  obtain ⟨t, ht, q⟩ := hbody f cdv A outer s H vs Q E hr hg h
  exact ⟨t, ht.nox, q⟩
end
section
variable {X : Cx} {k : Nat} {x : Str} {ps : List Str} {sp : Sp} {e : Expr} {es : List Expr} {t : TA} {p pos : Pos}
theorem run_g {CX : CXT} {f : Addr} {fd : FuncData} {E : XK} {pins : List (Addr × Obj)} {σ : L2.St} {H : Hp} {s : Shared} {Q : VK} {us : List Value} {vs : List V} (F : FnG X.prog X.w X.K X.mg X.base CX k f fd ps sp) (hr : Room k X.A) (hg : X.A.guards = some [])
    (hb : Binds X.K fd ps []) (hx : Passes CX X E) (I : Inv X pins σ H s) (r : Vals vs us) (h : sp (vs ++ []) H Q E) : wpAny (model X.prog X.w) X.A (call (.ref f) us) (EP X pins σ Q) X.xe s := by
  rw [List.append_nil] at h
  have hl : (us ++ []).length = ps.length := by
    rw [List.append_nil, ← r.length]
    exact F.len _ _ _ _ h
  have hb2 := hb s us I.kIn hl
  rw [List.append_nil] at hb2
  refine wpAny_call (codeAny_mono (F.go X.A X.stack s H ⟨us, []⟩ us vs Q E hr hg I.env0 hb2 r h) fun r s' hq => ?_)
  cases r with
  | error e => exact hx pins σ H s e s' I hq
  | ok fl =>
    cases fl with
    | ret u => exact I.after hq
    | next => exact hq.elim
    | brk => exact hq.elim
    | cont => exact hq.elim
theorem pe_fn (F : Fn X.prog X.w X.K X.mg X.base k x ps sp) (hr : Room k X.A) (hgd : X.A.guards = some []) (hg : Gl X x) (ha : PA X (e :: es) t) (hdb : (x == ("__debug__" : Str)) = false := by decide)
    (he : starEach (e :: es) X.env = (false, eval e X.env) :: starEach es X.env := by rfl) (hpl : (backTo pos (starEach es X.env)).any (·.1) = false := by rfl) : PE X (.Call (.Name x p) (e :: es) [] pos) (tCall sp [] E0 t) := by
  obtain ⟨f, fd, F, hm, hk, hb⟩ := F
  refine ⟨fun pins s σ H Q I h => ?_⟩
  refine wpAny_Call_Name_kw (ld_glob I hg hm ?_ hdb)
  refine PySem.W.callWith_K (h₀ := X.base) I.ok.mod.kin hk (thn (ha.run pos pins s σ H _ I h) fun us s1 out => ?_) he hpl
  obtain ⟨vs, H1, I1, r, q⟩ := out
  exact ⟨I1.kIn, run_g F hr hgd hb pass0 I1 r q⟩
end
/-! ### promises by the number of arguments -/
def sp1 (R : V → Hp → VK → Prop) : Sp := fun vs H Q _ => ∃ a, vs = [a] ∧ R a H Q
def sp2 (R : V → V → Hp → VK → Prop) : Sp := fun vs H Q _ => ∃ a b, vs = [a, b] ∧ R a b H Q
def sp3 (R : V → V → V → Hp → VK → Prop) : Sp := fun vs H Q _ => ∃ a b c, vs = [a, b, c] ∧ R a b c H Q
def sp4 (R : V → V → V → V → Hp → VK → Prop) : Sp := fun vs H Q _ => ∃ a b c d, vs = [a, b, c, d] ∧ R a b c d H Q
theorem len1 {R : V → Hp → VK → Prop} {x : Str} : ∀ vs H Q E, sp1 R vs H Q E → vs.length = [x].length := by
  rintro vs H Q E ⟨a, rfl, _⟩
  rfl
theorem len2 {R : V → V → Hp → VK → Prop} {x y : Str} : ∀ vs H Q E, sp2 R vs H Q E → vs.length = [x, y].length := by
  rintro vs H Q E ⟨a, b, rfl, _⟩
  rfl
theorem len3 {R : V → V → V → Hp → VK → Prop} {x y z : Str} : ∀ vs H Q E, sp3 R vs H Q E → vs.length = [x, y, z].length := by
  rintro vs H Q E ⟨a, b, c, rfl, _⟩
  rfl
theorem len4 {R : V → V → V → V → Hp → VK → Prop} {x y z u : Str} : ∀ vs H Q E, sp4 R vs H Q E → vs.length = [x, y, z, u].length := by
  rintro vs H Q E ⟨a, b, c, d, rfl, _⟩
  rfl
/-! ### heaps -/
/-- all but the object at d is kept -/
def But (d : Addr) (H H' : Hp) : Prop := ∀ b o, b ≠ d → H b = some o → H' b = some o
theorem But.refl (d : Addr) (H : Hp) : But d H H := fun _ _ _ h => h
theorem But.trans {d : Addr} {H H1 H2 : Hp} (a : But d H H1) (b : But d H1 H2) : But d H H2 := fun c o n h => b c o n (a c o n h)
theorem But.upd {d : Addr} {H : Hp} {o : HO} : But d H (L2.upd H d o) := fun b u n h => by
  rw [upd_ne n]
  exact h
theorem But.new {d p : Addr} {H : Hp} {o : HO} (n : H p = none) : But d H (L2.upd H p o) := fun b u _ h => by
  rw [upd_ne (ne_of_none h n)]
  exact h
theorem But.same {d : Addr} {H H1 : Hp} (a : Same H H1) : But d H H1 := fun b o _ h => a b o h
theorem same_new {H : Hp} {p : Addr} {o : HO} (h : H p = none) : Same H (L2.upd H p o) := fun b x e => by
  rw [upd_ne (ne_of_none e h)]
  exact e
theorem sqt_of_same {K : PySem.W.Frag} {H H' : Hp} {a : Addr} {xs : List V} (e : Same H H') (h : SqT K H a xs) : SqT K H' a xs := by
  rcases h with (h | ⟨o, h⟩) | h
  · exact .inl (.inl (e _ _ h))
  · exact .inl (.inr ⟨o, e _ _ h⟩)
  · exact .inr h
/-- abs -/
theorem abs_eq (i : Int) : (if i < 0 then -i else i) = (i.natAbs : Int) := by
  split <;> omega
theorem qNS {c : Prop} [Decidable c] (hc : c) {Q : Bool → Hp → Prop} {H : Hp} (q : Q false H) : Q (!decide c) H := by
  rw [decide_eq_true hc]
  exact q
theorem qN {c : Prop} [Decidable c] (hc : ¬ c) {Q : Bool → Hp → Prop} {H : Hp} (q : Q false H) : Q (decide c) H := by
  rw [decide_eq_false hc]
  exact q
theorem qS {c : Prop} [Decidable c] (hc : c) {Q : VK} {H : Hp} (q : Q (.bl true) H) : Q (.bl (decide c)) H := by
  rw [decide_eq_true hc]
  exact q
theorem iteN {c A B : Prop} [Decidable c] (hc : ¬ c) (h : B) : if decide c = true then A else B := by
  rw [decide_eq_false hc]
  exact iteF h
theorem iteS {c A B : Prop} [Decidable c] (hc : c) (h : A) : if decide c = true then A else B := by
  rw [decide_eq_true hc]
  exact iteT h
/-! ### an if that is not taken -/
theorem if_no {c : TT} {t r : TS} {D : Ends} {σ : L2.St} {H : Hp} (R : Hp → Prop) (h : ∀ Q : Bool → Hp → Prop, (∀ H', R H' → Q false H') → c σ H Q) (k : ∀ H', R H' → r D σ H') : tSeq (tIfS c t tNext) r D σ H := by
  show c σ H _
  exact h _ fun H' q => iteF (k H' q)
/-- the last if of a block that is not taken -/
theorem if_no1 {c : TT} {t : TS} {D : Ends} {σ : L2.St} {H : Hp} (R : Hp → Prop) (h : ∀ Q : Bool → Hp → Prop, (∀ H', R H' → Q false H') → c σ H Q) (k : ∀ H', R H' → D.nx σ H') : tIfS c t tNext D σ H := by
  show c σ H _
  exact h _ fun H' q => iteF (k H' q)
theorem or_no {t u : TT} {σ : L2.St} {H : Hp} {Q : Bool → Hp → Prop} (R : Hp → Prop) (h : ∀ Q : Bool → Hp → Prop, (∀ H', R H' → Q false H') → t σ H Q) (k : ∀ H', R H' → u σ H' Q) : tOr t u σ H Q := by
  show t σ H _
  exact h _ fun H' q => iteF (k H' q)
end Cm

set_option Elab.async false
set_option linter.all false
set_option maxRecDepth 100000
set_option maxHeartbeats 4000000
namespace Cm
open PySem PySem.Spec PyProof.Rows L2
/-! ### the end of a law whose promise is kept where no repr runs around -/
/-- the heap that is tracked at the law's entry: the script alone, where it is none of the module's own objects -/
def scriptH (K : PySem.W.Frag) (a : Addr) (vs : List Value) (ns : List Int) : Hp := fun b =>
  if b = a ∧ K.lookup a = none then some (.frz { cls := .type "list", data := .seq vs.toArray } (.lst (ns.map V.int))) else none
theorem scriptH_some {K : PySem.W.Frag} {a b : Addr} {vs : List Value} {ns : List Int} {u : HO} (h : scriptH K a vs ns b = some u) :
    b = a ∧ K.lookup a = none ∧ u = .frz { cls := .type "list", data := .seq vs.toArray } (.lst (ns.map V.int)) := by
  unfold scriptH at h
  split at h
  · rename_i z
    exact ⟨z.1, z.2, (Option.some.inj h).symm⟩
  · cases h
theorem scriptH_free {K : PySem.W.Frag} {a b : Addr} {vs : List Value} {ns : List Int} (h : b ≠ a ∨ K.lookup a ≠ none) : scriptH K a vs ns b = none := by
  unfold scriptH
  split
  · rename_i z
    rcases h with h | h
    · exact absurd z.1 h
    · exact absurd z.2 h
  · rfl
theorem call_law_g {P : Program} {w : World} {K : PySem.W.Frag} {mg mb : Str → Option Value} {k : Nat} {fa a : Addr} {fd : FuncData} {x : Str} {sp : Sp} {s1 : Shared} {vs : List Value} {ns : List Int}
    (inK : K.In s1.heap) (glob : s1.heap.Ns mainGlobals mg) (blt : s1.heap.Ns builtinsNs mb) (bltEq : ∀ x : Str, x ≠ "__name__" → mb x = bootBuiltins x) (nolim : s1.heap.NoLimit) (nogen : s1.gens = #[])
    (scr : s1.heap.get? a = some { cls := .type "list", data := .seq vs.toArray }) (hns : IntsAre vs ns) (short : ns.length ≤ sizeLine) (room : Room k callerA)
    (F : ∀ base : Heap, K.In base → base.Ns mainGlobals mg → FnG P w K mg base CX0 k fa fd [x] sp) (bind : ∀ (s : Shared) (u : Value), BindsTo s fd ⟨[u], []⟩ [(x, u)])
    (prom : ∀ H : Hp, SqL K H a (ns.map V.int) → sp [.ref a] H (fun v _ => v = .bl true) fun _ _ _ => False) :
    codeAny (model P w) callerA (.call (.ref fa) ⟨[.ref a], []⟩) (fun r s' => r = .ok (.ret (.bool true)) ∧ OldK s1.heap s'.heap ∧ s'.os = s1.os ∧ AllBare s'.gens) s1 := by
  have rel := vals_ints hns
  have vlen := hns.length
  -- what the script's address holds, in the abstract heap
  have hS : SqL K (scriptH K a vs ns) a (ns.map V.int) := by
    cases hk : K.lookup a with
    | none =>
      refine .inl (.inr ⟨{ cls := .type "list", data := .seq vs.toArray }, ?_⟩)
      unfold scriptH
      exact if_pos ⟨rfl, hk⟩
    | some o =>
      have e := inK a o hk
      rw [scr] at e
      cases e
      exact .inr ⟨_, vs.toArray, _, hk, rfl, rfl, rfl, by rw [List.size_toArray, vlen]; exact short, by simpa using rel⟩
  have hok : HOk P w (scriptH K a vs ns) s1.heap := by
    intro b u e
    obtain ⟨rfl, _, rfl⟩ := scriptH_some e
    exact ⟨scr, by rw [List.length_map]; exact short, vs, _, rel, scr⟩
  -- a namespace is no list, so it is not tracked
  have free : ∀ {b : Addr} {o : Obj} {es : Array DictEntry} {ep : Nat}, s1.heap.get? b = some o → o.data = .dict es ep → scriptH K a vs ns b = none := by
    intro b o es ep e d
    by_cases hb : b = a
    · rw [hb, scr] at e
      cases e
      cases (show Data.seq vs.toArray _ = Data.dict es ep from d)
    · exact scriptH_free (.inl hb)
  have nsOf : ∀ {b : Addr} {m : Str → Option Value}, s1.heap.Ns b m → (hidT s1.heap (scriptH K a vs ns)).Ns b m := by
    rintro b m ⟨o, es, ep, e, d, r⟩
    exact ⟨o, es, ep, hidT_get e (free e d), d, r⟩
  have inKb : K.In (hidT s1.heap (scriptH K a vs ns)) := by
    intro b o e
    refine hidT_get (inK b o e) ?_
    by_cases hb : b = a
    · refine scriptH_free (.inr fun z => ?_)
      rw [hb, z] at e
      cases e
    · exact scriptH_free (.inl hb)
  obtain ⟨mc, lim1, lim2⟩ := nolim
  have env : Env0 P w K mg (hidT s1.heap (scriptH K a vs ns)) callerA [] s1 (scriptH K a vs ns) :=
    ⟨rfl, ⟨inKb, nsOf glob, ⟨mb, nsOf blt, bltEq⟩, ⟨mc, nsOf lim1, lim2⟩⟩, fun b o e => of_hidT e, Nat.le_of_eq (hidT_size _ _), trivial, fun b hb => (nomatch (show b ∈ ([] : List Addr) from hb)), hok, .of_eq nogen⟩
  refine codeAny_mono ((F _ inKb (nsOf glob)).go callerA [] s1 _ ⟨[.ref a], []⟩ [.ref a] [.ref a] _ _ room rfl env (bind s1 (.ref a)) (.cons rfl .nil) (prom _ hS)) fun r s' out => ?_
  cases r with
  | error e => exact out.elim
  | ok fl =>
    cases fl with
    | next => exact out.elim
    | brk => exact out.elim
    | cont => exact out.elim
    | ret u =>
      obtain ⟨v, H', os, bare, un, hok', rv, q⟩ := out
      have q' : v = .bl true := q
      subst q'
      obtain rfl : u = Value.bool true := rv
      refine ⟨rfl, OldK.of_keep fun b o e => ?_, os, bare⟩
      cases hb : scriptH K a vs ns b with
      | none => exact un.keep b o e hb (fun z => (nomatch (show b ∈ ([] : List Addr) from z))) (fun z => (nomatch z))
      | some u =>
        obtain ⟨rfl, _, rfl⟩ := scriptH_some hb
        obtain ⟨e2, _⟩ := hok' _ _ (un.frzs _ _ _ hb)
        rw [scr] at e
        cases e
        exact e2
theorem walk_g {l : PySem.W.OpenLaw} {n k : Nat} {q : Program} {loose : List Str} {XP : (Str → Option Value) → Heap → Prop} {YP : World → Heap → Prop} {d : DefRec} {K : Params → PySem.W.Frag} {sp : PySem.W.Frag → Sp} {x : Str}
    (most : l.most = some n) (line : n ≤ sizeLine) (nodef : d.params.defaults = []) (room : Room k callerA) (hY : ∀ (w : World) (h : Heap), YP w h → (K w.params).In h)
    (F : ∀ (w : World) (mg : Str → Option Value) (fa : Addr) (h : Heap), (K w.params).In h → h.Ns mainGlobals mg → mg d.name = some (.ref fa) →
      ∃ fd : FuncData, (∀ (s : Shared) (u : Value), BindsTo s fd ⟨[u], []⟩ [(x, u)]) ∧ ∀ base : Heap, (K w.params).In base → base.Ns mainGlobals mg → FnG l.prog w (K w.params) mg base CX0 k fa fd [x] (sp (K w.params)))
    (prom : ∀ (K : PySem.W.Frag) (H : Hp) (a : Addr) (ns : List Int), ns.length ≤ n → SqL K H a (ns.map V.int) → sp K [.ref a] H (fun v _ => v = .bl true) fun _ _ _ => False) :
    PySem.W.WalkO q loose XP YP l.row.toRowW d [] (fun f vs => PySem.call f vs) := by
  refine Att.attach_call most nodef fun w s0 s1 mg mb fa o pm cd doc a vs ns G Y ho hd hcd hmg hobj hints hlen hg => ?_
  obtain ⟨fd, hb, hF⟩ := F w mg fa _ (hY w _ Y) G.T.g hmg
  exact call_law_g (hY w _ Y) G.T.g G.T.b G.T.builtins G.T.nolimit hg hobj hints (Nat.le_trans hlen line) room hF hb fun H hS => prom _ H a ns hlen hS
/-! ### repr -/
/-- repr of data: None, truths, numbers, texts, lists and tuples of them -/
def rRepr (K : PySem.W.Frag) : List V → Hp → VK → Prop := fun xs H Q => ∃ (a : Addr) (d : PyData), xs = [.ref a] ∧ Dp K H (.ref a) d ∧ d.showable = true ∧ d.hasDict = false ∧ d.depth ≤ 60 ∧ d.shown.length ≤ sizeLine ∧ Q (.str d.shown) H
theorem call_repr {X : Cx} {K : PySem.W.Frag} {k : Nat} (hr : Room k X.A) (hg : X.A.guards = some []) (hK : X.K = K) : CallR X (.builtin "repr") (rRepr K) := by
  subst hK
  intro pins s σ H xs us Q I r h
  obtain ⟨a, d, rfl, hd, sh, nd, dp, sz, q⟩ := h
  obtain ⟨u, rfl, ru⟩ := vals1 r
  obtain ⟨as, rd⟩ := Dp.reads I d _ _ hd ru
  cases ru
  refine repr_of_reads' rd sh (fun z => absurd (nd.symm.trans z) Bool.false_ne_true) hg (by have := hr.units; omega) (fun _ _ e => e) (fun h' u tk keep => ?_) sz
  exact ⟨.str d.shown, H, I.kept keep, ⟨_, rfl⟩, q⟩
end Cm

set_option Elab.async false
set_option linter.all false
set_option maxRecDepth 100000
set_option maxHeartbeats 4000000
namespace Cm
open PySem PySem.Spec PyProof.Rows L2
/-! ### kinds of things -/
inductive Kd where
  | non | bl (b : Bool) | int (i : Int) | str (s : Str) | lst | tup (xs : List V) | dct
inductive HasK (H : Hp) : V → Kd → Prop where
  | non : HasK H .non .non
  | bl (b : Bool) : HasK H (.bl b) (.bl b)
  | int (i : Int) : HasK H (.int i) (.int i)
  | str (s : Str) : HasK H (.str s) (.str s)
  | lst {a : Addr} {xs : List V} (h : H a = some (.lst xs)) : HasK H (.ref a) .lst
  | tup {a : Addr} {xs : List V} (h : H a = some (.tup xs)) : HasK H (.ref a) (.tup xs)
  | dct {a : Addr} {kvs : List (Key × V)} (h : H a = some (.dK kvs)) : HasK H (.ref a) .dct
/-- tuples stay, lists stay lists, dicts dicts -/
structure Ext (H H' : Hp) : Prop where
  t : ∀ b xs, H b = some (.tup xs) → H' b = some (.tup xs)
  l : ∀ b xs, H b = some (.lst xs) → ∃ ys, H' b = some (.lst ys)
  d : ∀ b kvs, H b = some (.dK kvs) → ∃ kvs', H' b = some (.dK kvs')
theorem Ext.refl (H : Hp) : Ext H H := ⟨fun _ _ h => h, fun _ _ h => ⟨_, h⟩, fun _ _ h => ⟨_, h⟩⟩
theorem Ext.trans {H H1 H2 : Hp} (a : Ext H H1) (b : Ext H1 H2) : Ext H H2 :=
  ⟨fun x xs h => b.t x xs (a.t x xs h), fun x xs h => let ⟨ys, e⟩ := a.l x xs h; b.l x ys e, fun x xs h => let ⟨ys, e⟩ := a.d x xs h; b.d x ys e⟩
theorem Ext.same {H H' : Hp} (h : Same H H') : Ext H H' := ⟨fun b _ e => h b _ e, fun b _ e => ⟨_, h b _ e⟩, fun b _ e => ⟨_, h b _ e⟩⟩
theorem Ext.lst {H : Hp} {a : Addr} {xs ys : List V} (h : H a = some (.lst xs)) : Ext H (upd H a (.lst ys)) := by
  refine ⟨fun b zs e => ?_, fun b zs e => ?_, fun b zs e => ?_⟩
  · rw [upd_ne (ne_of e h (by intro z; cases z))]
    exact e
  · by_cases hb : b = a
    · exact ⟨ys, by rw [hb, upd_same]⟩
    · exact ⟨zs, by rw [upd_ne hb]; exact e⟩
  · exact ⟨zs, by rw [upd_ne (ne_of e h (by intro z; cases z))]; exact e⟩
theorem HasK.ext {H H' : Hp} {v : V} {k : Kd} (h : HasK H v k) (e : Ext H H') : HasK H' v k := by
  cases h with
  | non => exact .non
  | bl b => exact .bl b
  | int i => exact .int i
  | str s => exact .str s
  | lst h => obtain ⟨ys, q⟩ := e.l _ _ h; exact .lst q
  | tup h => exact .tup (e.t _ _ h)
  | dct h => obtain ⟨ys, q⟩ := e.d _ _ h; exact .dct q
def tyK : Kd → String
  | .non => "NoneType" | .bl _ => "bool" | .int _ => "int" | .str _ => "str" | .lst => "list" | .tup _ => "tuple" | .dct => "dict"
theorem HasK.ty {K : PySem.W.Frag} {H : Hp} {v : V} {k : Kd} (h : HasK H v k) : TyX K H v (.type (tyK k)) := by
  cases h with
  | non => exact .base .non
  | bl b => exact .base (.bl b)
  | int i => exact .base (.int i)
  | str s => exact .base (.str s)
  | lst h => exact .base (.lst h)
  | tup h => exact .base (.tup h)
  | dct h => exact .base (.dK h)
def isTupK : Kd → Bool
  | .tup _ => true | _ => false
def isIntK : Kd → Bool
  | .int _ => true | .bl _ => true | _ => false
def isBoolK : Kd → Bool
  | .bl _ => true | _ => false
def isStrK : Kd → Bool
  | .str _ => true | _ => false
def wholeK : Kd → Bool
  | .int _ => true | _ => false
theorem kit_tup : ∀ k : Kd, kitB (tyK k) "tuple" = some (isTupK k)
  | .non => (by decide +kernel : kitB "NoneType" "tuple" = some false)
  | .bl _ => (by decide +kernel : kitB "bool" "tuple" = some false)
  | .int _ => (by decide +kernel : kitB "int" "tuple" = some false)
  | .str _ => (by decide +kernel : kitB "str" "tuple" = some false)
  | .lst => (by decide +kernel : kitB "list" "tuple" = some false)
  | .tup _ => (by decide +kernel : kitB "tuple" "tuple" = some true)
  | .dct => (by decide +kernel : kitB "dict" "tuple" = some false)
theorem kit_int : ∀ k : Kd, kitB (tyK k) "int" = some (isIntK k)
  | .non => (by decide +kernel : kitB "NoneType" "int" = some false)
  | .bl _ => (by decide +kernel : kitB "bool" "int" = some true)
  | .int _ => (by decide +kernel : kitB "int" "int" = some true)
  | .str _ => (by decide +kernel : kitB "str" "int" = some false)
  | .lst => (by decide +kernel : kitB "list" "int" = some false)
  | .tup _ => (by decide +kernel : kitB "tuple" "int" = some false)
  | .dct => (by decide +kernel : kitB "dict" "int" = some false)
theorem kit_bool : ∀ k : Kd, kitB (tyK k) "bool" = some (isBoolK k)
  | .non => (by decide +kernel : kitB "NoneType" "bool" = some false)
  | .bl _ => (by decide +kernel : kitB "bool" "bool" = some true)
  | .int _ => (by decide +kernel : kitB "int" "bool" = some false)
  | .str _ => (by decide +kernel : kitB "str" "bool" = some false)
  | .lst => (by decide +kernel : kitB "list" "bool" = some false)
  | .tup _ => (by decide +kernel : kitB "tuple" "bool" = some false)
  | .dct => (by decide +kernel : kitB "dict" "bool" = some false)
theorem kit_str : ∀ k : Kd, kitB (tyK k) "str" = some (isStrK k)
  | .non => (by decide +kernel : kitB "NoneType" "str" = some false)
  | .bl _ => (by decide +kernel : kitB "bool" "str" = some false)
  | .int _ => (by decide +kernel : kitB "int" "str" = some false)
  | .str _ => (by decide +kernel : kitB "str" "str" = some true)
  | .lst => (by decide +kernel : kitB "list" "str" = some false)
  | .tup _ => (by decide +kernel : kitB "tuple" "str" = some false)
  | .dct => (by decide +kernel : kitB "dict" "str" = some false)
section
variable {X : Cx} {K : PySem.W.Frag}
/-! ### the rules of the layer over a named K (so that they serve within a comprehension too) -/
theorem isi_K (hK : X.K = K) : CallR X (.builtin "isinstance") (rIsi K) := by
  subst hK
  exact call_isi
def rLenK (K : PySem.W.Frag) : List V → Hp → VK → Prop := fun xs H Q => ∃ p ys, xs = [.ref p] ∧ (SqL K H p ys ∨ SqT K H p ys) ∧ Q (.int ys.length) H
theorem len_K (hK : X.K = K) : CallR X (.builtin "len") (rLenK K) := by
  subst hK
  exact call_len_seq
theorem sl_K (hK : X.K = K) : SlR X (rSlA K) := by
  subst hK
  exact sl_tupA
theorem cat_K (hK : X.K = K) : OpR X (binaryOp .Add) (rCatA K) := by
  subst hK
  exact op_catA
theorem ixT_K (hK : X.K = K) : IxR X (rIxT K) := by
  subst hK
  exact ix_tup
theorem ixL_K (hK : X.K = K) : IxR X (rIxL K) := by
  subst hK
  exact ix_list
def rTupOf (K : PySem.W.Frag) : List V → Hp → VK → Prop := fun xs H Q => ∃ p ys, xs = [.ref p] ∧ ((SqL K H p ys ∧ ∀ l, H l = none → Q (.ref l) (upd H l (.tup ys))) ∨ (SqT K H p ys ∧ Q (.ref p) H))
/-! ### x == 'text', whatever x is -/
def eqK : Kd → Str → Bool
  | .str w, s => decide (w = s)
  | _, _ => false
theorem dict_eq_declines_text (l : Addr) (es : Array DictEntry) (n : Nat) (dd : Option Addr) (sl : Array (Option Value)) (b : Str) (u : Tok) :
    Meets (Builtin.«dict.__eq__» ⟨[.ref l, .str b u], []⟩) (fun _ R s => s.heap.get? l = some { cls := .type "dict", dict := dd, data := .dict es n, slots := sl } ∧ R (.ok (.ret .notImplemented)) s) :=
  .of_wp fun prog w A R s h => by obtain ⟨hp, g, d, tk, os⟩ := s; obtain ⟨hl, h⟩ := h; have f1 := F.sub_str_dict; wp_walk using AutoSeq1.wpAny_loadPart' hl; exact ⟨_, rfl, h⟩
theorem str_eq_declines_dict (b : Str) (u : Tok) (l : Addr) (c : Value) (es : Array DictEntry) (n : Nat) (dd : Option Addr) (sl : Array (Option Value)) :
    Meets (Builtin.«str.__eq__» ⟨[.str b u, .ref l], []⟩) (fun _ R s => s.heap.get? l = some { cls := c, dict := dd, data := .dict es n, slots := sl } ∧ R (.ok (.ret .notImplemented)) s) :=
  .of_wp fun prog w A R s h => by obtain ⟨hp, g, d, tk, os⟩ := s; obtain ⟨hl, h⟩ := h; wp_walk using AutoSeq1.wpAny_loadPart' hl, wpAny_load hl; exact ⟨_, rfl, h⟩
theorem rc_dict_str {A : Around} {s : Shared} {l : Addr} {o : Obj} {es : Array DictEntry} {n : Nat} (b : Str) (u : Tok) (ho : s.heap.get? l = some o) (hc : o.cls = .type "dict") (hd : o.data = .dict es n) (hu : A.units < cLine) : SeqAt.RcAt A s (.ref l) (.str b u) false := fun prog w E Q h => by
  obtain ⟨cls, dd, data, sl⟩ := o
  simp only at hc hd
  subst hc hd
  exact SeqAt.rc_eq_decline_or (k := false) ⟨_, ho, rfl⟩ (typeIs_str s b u) (by decide) F.sub_str_dict F.slot_dict_eq F.slot_str_eq_refl
    (fun _ hq => call_meets F.slot_dict_eq ⟨_, ho, rfl⟩ F.entry_dict_eq (F.args_dict_eq_2 _ _) (dict_eq_declines_text l es n dd sl b u) ⟨ho, hq⟩)
    (fun _ hq => call_meets F.slot_str_eq_refl (typeIs_str s b u) F.entry_str_eq (F.args_str_eq_2 _ _) (str_eq_declines_dict b u l (.type "dict") es n dd sl) ⟨ho, hq⟩)
    (fun _ hq => wpAny_pure hq) (.inr hu) h
def rEqK : R2 := fun x y H Q => ∃ k s, HasK H x k ∧ y = .str s ∧ Q (.bl (eqK k s)) H
theorem op_eqK {k : Nat} (hr : Room k X.A) : OpR X (compareOp .Eq) rEqK := by
  intro pins s σ H x y v u Q I rx ry h
  obtain ⟨kd, w, hk, rfl, q⟩ := h
  have hu := hr.units0
  cases hk with
  | non => exact op_eq pins s σ H _ _ v u Q I rx ry ⟨rfl, by simpa [eqK] using q⟩
  | bl b => exact op_eq pins s σ H _ _ v u Q I rx ry ⟨rfl, by simpa [eqK] using q⟩
  | int i => exact op_eq pins s σ H _ _ v u Q I rx ry ⟨rfl, by simpa [eqK] using q⟩
  | str z => exact op_eq pins s σ H _ _ v u Q I rx ry ⟨rfl, by simpa [eqK] using q⟩
  | lst h =>
    cases rx
    obtain ⟨t, rfl⟩ := ry
    obtain ⟨its, r, p, _⟩ := I.list (SqL.of h)
    exact SeqAt.RcAt.list_str w t p.isList hu _ _ _ _ ⟨.bl false, H, I, rfl, q⟩
  | tup h =>
    cases rx
    obtain ⟨t, rfl⟩ := ry
    obtain ⟨its, r, p, _⟩ := I.tuple (SqT.of h)
    exact SeqAt.RcAt.tuple_str w t p hu _ _ _ _ ⟨.bl false, H, I, rfl, q⟩
  | @dct a kvs h =>
    cases rx
    obtain ⟨t, rfl⟩ := ry
    obtain ⟨_, _, vs, _, o, es, ep, h1, h2, h3, _⟩ := (show ObjOk X.prog X.w H s.heap a (.dK kvs) from I.hok a _ h)
    exact rc_dict_str w t h1 h2.1 h3 hu _ _ _ _ ⟨.bl false, H, I, rfl, q⟩
/-! ### t == () -/
def rEqE : R2 := fun x y H Q => ∃ a b xs, x = .ref a ∧ y = .ref b ∧ H a = some (.tup xs) ∧ H b = some (.tup []) ∧ Q (.bl xs.isEmpty) H
theorem op_eqE {k : Nat} (hr : Room k X.A) : OpR X (compareOp .Eq) rEqE := by
  intro pins s σ H x y v u Q I rx ry h
  obtain ⟨a, b, xs, rfl, rfl, ha, hb, q⟩ := h
  cases rx
  cases ry
  obtain ⟨its, r1, p1, _⟩ := I.tuple (SqT.of ha)
  obtain ⟨its2, r2, p2, _⟩ := I.tuple (SqT.of hb)
  cases r2
  refine SeqAt.eq_tupleAt (e := fun _ => true) p1 p2 hr.units0 (fun j h1 h2 => absurd h2 (by simp)) ?_
  have hl := r1.length
  have e : ((List.range (min its.toArray.size ([] : List Value).toArray.size)).all (fun _ => true) && its.toArray.size == ([] : List Value).toArray.size) = xs.isEmpty := by
    cases xs with
    | nil =>
      cases r1
      rfl
    | cons x t =>
      cases r1
      simp
  rw [e]
  exact ⟨.bl _, H, I, rfl, q⟩
end
/-! ### t[::-1] -/
section
variable {prog : Program} {w : World} {A : Around} {E : Value → Shared → Prop} {s : Shared}
theorem back_applied {sl : Addr} {vk : Value} {n : Nat} {Q : Int × Int × Nat → Shared → Prop} (hs : s.heap.IsSliceOf sl .none .none vk) (pk : IsPart vk (some (-1))) (h : Q ((n : Int) - 1, -1, n) s) :
    wpAny (model prog w) A (Builtin.Slice.sliceApplied (.ref sl) (pure (n : Int))) Q E s := by
  obtain ⟨os, hos, hcs, hds⟩ := _root_.id hs
  unfold Builtin.Slice.sliceApplied Builtin.Slice.sliceFields
  refine wpAny_bind (wpAny_bind (wpAny_field hos hds (x := .none) rfl (wpAny_bind (wpAny_field hos hds (x := .none) rfl (wpAny_bind (wpAny_field hos hds (x := vk) rfl (wpAny_pure ?_)))))))
  refine wpAny_bind (HT.slicePart_ pk ?_)
  show wpAny _ _ (if ((-1 : Int) == 0) = true then _ else _) _ _ s
  rw [if_neg (by decide)]
  refine wpAny_bind (slicePart_none (wpAny_bind (slicePart_none (wpAny_bind (wpAny_pure ?_)))))
  have e1 : Builtin.Slice.sliceAdjust none none (-1) (n : Int) = ((n : Int) - 1, -1) := rfl
  have e2 : Builtin.Slice.slicePlaces ((n : Int) - 1) (-1) (-1) = n := by
    unfold Builtin.Slice.slicePlaces
    have h1 : ¬ ((-1 : Int) > 0) := by omega
    simp only [h1, if_false]
    split
    · rw [show (- (-1 : Int)) = 1 from rfl, Int.ediv_one]
      omega
    · omega
  show wpAny _ _ (pure ((Builtin.Slice.sliceAdjust none none (-1) (n : Int)).1, (-1 : Int), Builtin.Slice.slicePlaces (Builtin.Slice.sliceAdjust none none (-1) (n : Int)).1 (Builtin.Slice.sliceAdjust none none (-1) (n : Int)).2 (-1))) _ _ s
  rw [e1]
  show wpAny _ _ (pure ((n : Int) - 1, (-1 : Int), Builtin.Slice.slicePlaces ((n : Int) - 1) (-1) (-1))) _ _ s
  rw [e2]
  exact wpAny_pure h
theorem fm_some {α β : Type} {f : α → Option β} {g : α → β} : ∀ {l : List α}, (∀ a ∈ l, f a = some (g a)) → l.filterMap f = l.map g
  | [], _ => rfl
  | a :: r, h => by
    rw [List.filterMap_cons, h a (List.mem_cons.mpr (.inl rfl))]
    show g a :: r.filterMap f = g a :: r.map g
    rw [fm_some fun x hx => h x (List.mem_cons.mpr (.inr hx))]
theorem back_pick (xs : Array Value) : ((List.range xs.size).filterMap fun (m : Nat) => xs[(((xs.size : Int) - 1) + (m : Int) * (-1)).toNat]?).toArray = xs.toList.reverse.toArray := by
  congr 1
  have e : ((List.range xs.size).filterMap fun (m : Nat) => xs[(((xs.size : Int) - 1) + (m : Int) * (-1)).toNat]?) = (List.range xs.size).map (fun m => (xs.toList[xs.size - 1 - m]?).getD .none) := by
    refine fm_some fun m hm => ?_
    have hlt := List.mem_range.mp hm
    have e1 : (((xs.size : Int) - 1) + (m : Int) * (-1)).toNat = xs.size - 1 - m := by omega
    rw [e1, ← Array.getElem?_toList, List.getElem?_eq_getElem (by rw [Array.length_toList]; omega)]
    rfl
  rw [e]
  refine List.ext_getElem (by simp) fun i h1 h2 => ?_
  have h3 : i < xs.size := by simpa using h1
  rw [List.getElem_map, List.getElem_range, List.getElem_reverse, List.getElem?_eq_getElem (by rw [Array.length_toList]; omega)]
  simp
theorem tup_back {t sl : Addr} {items : Array Value} {vk : Value} {Q : Value → Shared → Prop} (ht : IsTup s.heap t items) (hs : s.heap.IsSliceOf sl .none .none vk) (pk : IsPart vk (some (-1)))
    (h : Q (.ref s.heap.objs.size) { s with heap := s.heap.push { cls := .type "tuple", data := .seq items.toList.reverse.toArray } }) (hsz : items.size ≤ sizeLine) : wpAny (model prog w) A (getItem (.ref t) (.ref sl)) Q E s := by
  have fits : sizeOk (.seq items.toList.reverse.toArray) := by
    show items.toList.reverse.toArray.size ≤ sizeLine
    rw [List.size_toArray, List.length_reverse, Array.length_toList]
    exact hsz
  obtain ⟨os, hos, hcs, hds⟩ := _root_.id hs
  have hTs : s.TypeIs (.ref sl) "slice" := ⟨os, hos, hcs⟩
  unfold getItem
  try with_reducible refine wpAny_holding ?_
  first | refine wpAny_bind (wpAny_pure ?_) | skip
  refine wpAny_bind (wpAny_sequenceKey ht.typeIs (by decide) ?_)
  refine wpAny_bind (wpAny_callSpecial?_slot (name := Str.ofString "__getitem__") ht.typeIs PyProof.Rows.slot_tuple_getitem (wpAny_call_entry PyProof.Rows.slot_tuple_getitem ht.typeIs entry_tuple_getitem ?_ (args_tuple_getitem _ _)))
  show wpAny _ _ (Builtin.Tuple.tupleItemsOf (.ref t) >>= _) _ _ s
  refine wpAny_bind (tupleItemsOf_ ht (wpAny_bind (wpAny_typeOf hTs ?_)))
  rw [if_pos (by decide)]
  refine wpAny_bind (back_applied (n := items.size) hs pk ?_)
  have hno : ¬ ((((items.size : Int) - 1) == 0 && (-1 : Int) == 1 && items.size == items.size) = true) := by simp
  show wpAny _ _ (if (((items.size : Int) - 1) == 0 && (-1 : Int) == 1 && items.size == items.size) = true then _ else _) _ _ s
  rw [if_neg hno, back_pick]
  first
    | exact wpAny_bind (m := Builtin.Tuple.tupleExact _) (wpAny_newObj_type (wpAny_pure ⟨_, rfl, wpAny_pure h⟩) fits)
    | exact wpAny_bind (m := Builtin.Tuple.tupleExact _) (wpAny_newObj_type (wpAny_bind (wpAny_pure (wpAny_pure ⟨_, rfl, wpAny_pure h⟩))) fits)
    | exact wpAny_bind (wpAny_bind (m := Builtin.Tuple.tupleExact _) (wpAny_newObj_type (wpAny_pure (wpAny_pure ⟨_, rfl, wpAny_pure h⟩)) fits))
    | exact wpAny_bind (wpAny_bind (m := Builtin.Tuple.tupleExact _) (wpAny_newObj_type (wpAny_pure ⟨_, rfl, wpAny_pure h⟩) fits))
end
section
variable {X : Cx}
def tRevT (K : PySem.W.Frag) (te : TE) : TE := fun σ H Q => te σ H fun x H1 => ∃ a xs, x = .ref a ∧ SqT K H1 a xs ∧ ∀ p, H1 p = none → Q (.ref p) (upd H1 p (.tup xs.reverse))
theorem pe_revT {e : Expr} {te : TE} {k : Nat} {p1 p2 p3 pos : Pos} (he : PE X e te) : PE X (.Subscript e (.Slice none none (some (.UnaryOp .USub (.Constant (.int 1) k p1) p2)) p3) pos) (tRevT X.K te) := by
  refine ⟨fun pins s σ H Q I h => Subscript_ (thn (he.run pins s σ H _ I h) fun v s1 out => ?_)⟩
  obtain ⟨x, H1, I1, r1, a, xs, rfl, hx, q⟩ := out
  cases r1
  have part : PO X (some (.UnaryOp .USub (.Constant (.int 1) k p1) p2)) (tPart (tUn (rU fun i => .int (-i)) (tC (.int 1)))) := po_some (pe_un un_neg pe_int)
  refine wpAny_Slice ?_
  rw [evalPart_none]
  refine wpAny_pure (wpAny_pure ?_)
  refine thn (part.run pins s1 σ H1 (fun o H4 => o = some (-1) ∧ H4 = H1) I1 ⟨1, rfl, -1, rfl, rfl, rfl⟩) fun vk s4 out => ?_
  obtain ⟨o, H4, I4, pk, rfl, rfl⟩ := out
  have I5 : Inv X pins σ H4 { s4 with heap := s4.heap.push { cls := .type "slice", data := .fields #[.none, .none, vk] } } := I4.kept (t' := s4.toks) fun b ob z => Heap.get?_push_of_some _ z
  obtain ⟨its, r, ht, hz⟩ := I5.tuple hx
  have hlen := r.length
  show wpAny (model X.prog X.w) X.A (subscriptTail e (.Slice none none (some (.UnaryOp .USub (.Constant (.int 1) k p1) p2)) p3) (.ref a) (.ref s4.heap.objs.size)) (EP X pins σ Q) X.xe { s4 with heap := s4.heap.push { cls := .type "slice", data := .fields #[.none, .none, vk] } }
  refine tail_any (ops := [.ref a, .ref s4.heap.objs.size]) ht.typeIs PyProof.Rows.slot_tuple_getitem.lookup ?_ (by with_unfolding_all rfl)
  refine tup_back ht (Heap.IsSliceOf.new _ .none .none vk) pk ?_ (by rw [List.size_toArray]; omega)
  refine ⟨.ref _, _, I5.laid (t' := s4.toks) (o := .tup xs.reverse) (fun b ob z => Heap.get?_push_of_some _ z) (Nat.le_refl _) ?_, rfl, q _ (I5.hok.fresh (Nat.le_refl _))⟩
  exact ⟨by rw [List.length_reverse]; exact hz, _, r.reverse, _, Heap.get?_push_size _ rfl, rfl, 0, rfl⟩
end
section
end
end Cm

set_option Elab.async false
set_option linter.all false
set_option maxRecDepth 100000
set_option maxHeartbeats 4000000
namespace Cm
open PySem PySem.Spec PyProof.Rows L2
/-! ### the drawing list: left, seed, count -/
def LP (H : Hp) (p : Addr) : Prop := ∃ x y z : Int, H p = some (.lst [.int x, .int y, .int z])
theorem LP.same {H H' : Hp} {p : Addr} (h : LP H p) (s : Same H H') : LP H' p := by
  obtain ⟨x, y, z, e⟩ := h
  exact ⟨x, y, z, s _ _ e⟩
theorem LP.but {H H' : Hp} {p q : Addr} (h : LP H p) (s : But q H H') (n : p ≠ q) : LP H' p := by
  obtain ⟨x, y, z, e⟩ := h
  exact ⟨x, y, z, s _ _ n e⟩
def rPenL (K : PySem.W.Frag) : V → V → Hp → VK → Prop := fun x y H Q => ∃ (a : Addr) (ns : List Int) (k : Int), x = .ref a ∧ y = .int k ∧ SqL K H a (ns.map V.int) ∧ 0 ≤ k ∧ ∀ p H', H p = none → Same H H' → LP H' p → Q (.ref p) H'
def rDrawL : V → V → Hp → VK → Prop := fun a b H Q => ∃ (p : Addr) (many : Int), a = .ref p ∧ b = .int many ∧ LP H p ∧ 0 < many ∧ many < 1073741824 ∧ ∀ r H', 0 ≤ r → r < many → LP H' p → But p H H' → Ext H H' → Q (.int r) H'
theorem cellL {ns : List Int} {i : Int} (h0 : 0 ≤ i) (h1 : i < ((ns.map V.int).length : Int)) : ∃ z, atI (ns.map V.int) i = some (.int z) := by
  rw [List.length_map] at h1
  have hj : i.toNat < ns.length := by omega
  refine ⟨ns[i.toNat], ?_⟩
  have e : ((i.toNat : Nat) : Int) = i := by omega
  have q : atI (ns.map V.int) ((i.toNat : Nat) : Int) = some (.int ns[i.toNat]) := atI_nat (by rw [List.getElem?_map, List.getElem?_eq_getElem hj]; rfl)
  rw [e] at q
  exact q
theorem eq_yes {i j : Int} (e : decide (V.int i = V.int j) = true) : i = j := V.int.inj (of_decide_eq_true e)
theorem eq_no {i j : Int} (e : ¬ decide (V.int i = V.int j) = true) : i ≠ j := fun z => e (by rw [z]; exact decide_eq_true rfl)
theorem ne_yes {i j : Int} (e : (!decide (V.int i = V.int j)) = true) : i ≠ j := fun z => by
  rw [z, decide_eq_true rfl] at e
  exact Bool.noConfusion e
theorem ne_no {i j : Int} (e : ¬ (!decide (V.int i = V.int j)) = true) : i = j := by
  by_cases h : i = j
  · exact h
  · exact absurd (by rw [decide_eq_false fun z => h (V.int.inj z)]; rfl) e
theorem q587 : (0 : Int) < 2147483587 := by decide
theorem q647 : (0 : Int) < 2147483647 := by decide
theorem q629 : (0 : Int) < 2147483629 := by decide
theorem q521 : (0 : Int) < 65521 := by decide
theorem p15 : (0 : Int) < 10 ^ (15 : Int).toNat := by decide
end Cm

set_option Elab.async false
set_option linter.all false
set_option maxRecDepth 100000
set_option maxHeartbeats 4000000
namespace Cm
open PySem PySem.Spec PyProof.Rows L2
/-! ### what a step is, by kinds -/
def numK (many : Int) : Kd → Bool
  | .int i => decide (0 ≤ i) && decide (i < many)
  | _ => false
def unlikeK (many : Int) : Kd → Kd → Bool
  | .int i, .int j => (decide (0 ≤ i) && decide (i < many)) && ((decide (0 ≤ j) && decide (j < many)) && !decide (V.int i = V.int j))
  | _, _ => false
def addK (many : Int) : List Kd → Bool
  | [a, b, c] => unlikeK many a b && wholeK c
  | _ => false
def swapK (many : Int) : List Kd → Bool
  | [a, b] => unlikeK many a b
  | _ => false
def turnK (many : Int) : List Kd → Bool
  | [a] => numK many a
  | _ => false
def stepK (many : Int) : List Kd → Bool
  | [] => false
  | k :: r => if eqK k "add" = true then addK many r else if eqK k "swap" = true then swapK many r else if eqK k "turn" = true then turnK many r else false
def stepO (many : Int) : Option (List Kd) → Bool
  | none => false
  | some ks => stepK many ks
/-- the kinds of a tuple's items; none of what is no tuple -/
def KsOf (H : Hp) (v : V) : Option (List Kd) → Prop
  | none => ∃ k, HasK H v k ∧ isTupK k = false
  | some ks => ∃ a xs, v = .ref a ∧ H a = some (.tup xs) ∧ Paired (HasK H) xs ks
theorem KsOf.ext {H H' : Hp} {v : V} : ∀ {o : Option (List Kd)}, KsOf H v o → Ext H H' → KsOf H' v o
  | none, ⟨k, h1, h2⟩, e => ⟨k, h1.ext e, h2⟩
  | some ks, ⟨a, xs, h1, h2, h3⟩, e => ⟨a, xs, h1, e.t _ _ h2, Paired.mapP h3 fun _ _ z => z.ext e⟩
/-- a tuple of at most n things of known kinds -/
def TK (n : Nat) (H : Hp) (v : V) : Prop := ∃ a xs, v = .ref a ∧ H a = some (.tup xs) ∧ xs.length ≤ n ∧ ∀ x ∈ xs, ∃ k, HasK H x k
theorem TK.ext {n : Nat} {H H' : Hp} {v : V} (h : TK n H v) (e : Ext H H') : TK n H' v := by
  obtain ⟨a, xs, h1, h2, h3, h4⟩ := h
  exact ⟨a, xs, h1, e.t _ _ h2, h3, fun x hx => let ⟨k, q⟩ := h4 x hx; ⟨k, q.ext e⟩⟩
/-- a thing of known kind, a tuple of such things -/
def Gd (H : Hp) (v : V) : Prop := ∃ o, KsOf H v o
theorem Gd.ext {H H' : Hp} {v : V} (h : Gd H v) (e : Ext H H') : Gd H' v := let ⟨o, q⟩ := h; ⟨o, q.ext e⟩
theorem kinds_of {H : Hp} : ∀ {xs : List V}, (∀ x ∈ xs, ∃ k, HasK H x k) → ∃ ks, Paired (HasK H) xs ks
  | [], _ => ⟨[], .nil⟩
  | x :: r, h => by
    obtain ⟨k, hk⟩ := h x (List.mem_cons.mpr (.inl rfl))
    obtain ⟨ks, hks⟩ := kinds_of fun y hy => h y (List.mem_cons.mpr (.inr hy))
    exact ⟨k :: ks, .cons hk hks⟩
theorem TK.gd {n : Nat} {H : Hp} {v : V} (h : TK n H v) : Gd H v := by
  obtain ⟨a, xs, h1, h2, _, h4⟩ := h
  obtain ⟨ks, hks⟩ := kinds_of h4
  exact ⟨some ks, a, xs, h1, h2, hks⟩
theorem HasK.gd {H : Hp} {v : V} {k : Kd} (h : HasK H v k) (hk : isTupK k = false) : Gd H v := ⟨none, k, h, hk⟩
/-! ### slices and sums of such tuples -/
theorem cut_mem {xs : List V} {lo hi : Option Int} {x : V} (h : x ∈ cutV xs lo hi) : x ∈ xs := List.mem_of_mem_drop (List.mem_of_mem_take h)
theorem sl_TK {K : PySem.W.Frag} {n : Nat} {H : Hp} {v : V} {lo hi : Option Int} {Q : VK} (h : TK n H v) (q : ∀ v' H', Same H H' → TK n H' v' → Q v' H') : rSlA K v lo hi H Q := by
  obtain ⟨a, xs, rfl, h2, h3, h4⟩ := id h
  refine ⟨a, xs, rfl, SqT.of h2, fun _ => q _ _ (Same.refl H) h, fun _ p hp => q _ _ (same_new hp) ⟨p, _, rfl, upd_same, Nat.le_trans (cutV_length _ _ _) h3, fun x hx => ?_⟩⟩
  obtain ⟨k, hk⟩ := h4 x (cut_mem hx)
  exact ⟨k, hk.ext (Ext.same (same_new hp))⟩
theorem cat_TK {K : PySem.W.Frag} {n m : Nat} {H : Hp} {v u : V} {Q : VK} (h : TK n H v) (h' : TK m H u) (hs : n + m ≤ 1000) (q : ∀ v' H', Same H H' → TK (n + m) H' v' → Q v' H') : rCatA K v u H Q := by
  obtain ⟨a, xs, rfl, h2, h3, h4⟩ := id h
  obtain ⟨b, ys, rfl, k2, k3, k4⟩ := id h'
  have up1 : TK (n + m) H (.ref a) := ⟨a, xs, rfl, h2, by omega, h4⟩
  have up2 : TK (n + m) H (.ref b) := ⟨b, ys, rfl, k2, by omega, k4⟩
  refine ⟨a, b, xs, ys, rfl, rfl, SqT.of h2, SqT.of k2, Nat.le_of_lt (small1000 (by omega)), fun _ => q _ _ (Same.refl H) up2, fun _ _ => q _ _ (Same.refl H) up1, fun _ _ p hp => q _ _ (same_new hp) ⟨p, _, rfl, upd_same, ?_, fun x hx => ?_⟩⟩
  · rw [List.length_append]
    omega
  · rcases List.mem_append.mp hx with z | z
    · obtain ⟨k, hk⟩ := h4 x z
      exact ⟨k, hk.ext (Ext.same (same_new hp))⟩
    · obtain ⟨k, hk⟩ := k4 x z
      exact ⟨k, hk.ext (Ext.same (same_new hp))⟩
theorem one_TK {H : Hp} {p : Addr} {x : V} {k : Kd} (hp : H p = none) (hk : HasK H x k) : TK 1 (upd H p (.tup [x])) (.ref p) :=
  ⟨p, [x], rfl, upd_same, Nat.le_refl _, fun y hy => ⟨k, by rw [List.mem_singleton.mp hy]; exact hk.ext (Ext.same (same_new hp))⟩⟩
/-! ### a step by kinds: what isn't whole makes none -/
theorem not_whole_num {many : Int} {k : Kd} (h : wholeK k = false) : numK many k = false := by cases k <;> first | rfl | exact absurd h (by simp [wholeK])
theorem not_whole_l {many : Int} {k k' : Kd} (h : wholeK k = false) : unlikeK many k k' = false := by cases k <;> first | rfl | exact absurd h (by simp [wholeK])
theorem not_whole_r {many : Int} {k k' : Kd} (h : wholeK k' = false) : unlikeK many k k' = false := by
  cases k <;> cases k' <;> first | rfl | exact absurd h (by simp [wholeK])
theorem step_not_whole {many : Int} {k0 : Kd} {r : List Kd} {k : Kd} (hm : k ∈ r) (h : wholeK k = false) : stepK many (k0 :: r) = false := by
  have ha : addK many r = false := by
    rcases r with _ | ⟨a, _ | ⟨b, _ | ⟨c, _ | ⟨d, r⟩⟩⟩⟩ <;> first | rfl | skip
    show (unlikeK many a b && wholeK c) = false
    rcases List.mem_cons.mp hm with rfl | hm
    · rw [not_whole_l h]
      rfl
    rcases List.mem_cons.mp hm with rfl | hm
    · rw [not_whole_r h]
      rfl
    rw [List.mem_singleton.mp hm] at h
    rw [h, Bool.and_false]
  have hs : swapK many r = false := by
    rcases r with _ | ⟨a, _ | ⟨b, _ | ⟨c, r⟩⟩⟩ <;> first | rfl | skip
    show unlikeK many a b = false
    rcases List.mem_cons.mp hm with rfl | hm
    · exact not_whole_l h
    rw [List.mem_singleton.mp hm] at h
    exact not_whole_r h
  have ht : turnK many r = false := by
    rcases r with _ | ⟨a, _ | ⟨b, r⟩⟩ <;> first | rfl | skip
    show numK many a = false
    rw [List.mem_singleton.mp hm] at h
    exact not_whole_num h
  show (if eqK k0 "add" = true then addK many r else if eqK k0 "swap" = true then swapK many r else if eqK k0 "turn" = true then turnK many r else false) = false
  rw [ha, hs, ht]
  split
  · rfl
  · split
    · rfl
    · split <;> rfl
theorem step_not_str {many : Int} {k0 : Kd} {r : List Kd} (h : isStrK k0 = false) : stepK many (k0 :: r) = false := by
  have e : ∀ s, eqK k0 s = false := fun s => by cases k0 <;> first | rfl | exact absurd h (by simp [isStrK])
  show (if eqK k0 "add" = true then addK many r else if eqK k0 "swap" = true then swapK many r else if eqK k0 "turn" = true then turnK many r else false) = false
  rw [e, e, e]
  rfl
theorem whole_int {k : Kd} (h : wholeK k = true) : ∃ i, k = .int i := by
  cases k <;> first | exact ⟨_, rfl⟩ | exact absurd h (by simp [wholeK])
theorem all_ints {H : Hp} : ∀ {xs : List V} {ks : List Kd}, Paired (HasK H) xs ks → (∀ k ∈ ks, wholeK k = true) → ∃ ns : List Int, xs = ns.map V.int ∧ ks = ns.map Kd.int
  | _, _, .nil, _ => ⟨[], rfl, rfl⟩
  | _, _, .cons h t, hw => by
    obtain ⟨i, rfl⟩ := whole_int (hw _ (List.mem_cons.mpr (.inl rfl)))
    obtain ⟨ns, rfl, rfl⟩ := all_ints t fun k hk => hw k (List.mem_cons.mpr (.inr hk))
    cases h
    exact ⟨i :: ns, rfl, rfl⟩
end Cm

set_option Elab.async false
set_option linter.all false
set_option maxRecDepth 100000
set_option maxHeartbeats 4000000
namespace K10
open PySem PySem.Spec PyProof.Rows L2 Cm
def topS (i : Nat) : Stmt := PySem.Challenge.pw_commonhouse_k10_steps_known.main.body.getD i (.Pass ⟨0, 0, 0, 0⟩)
abbrev s_is_whole : Stmt := topS 1
abbrev N_is_whole : List Str := ["thing"]
theorem sc_is_whole : FnScope N_is_whole ["thing"] (defScope s_is_whole) := ⟨rfl, rfl, rfl, by decide +kernel, rfl, by decide +kernel, by decide +kernel⟩
abbrev s_is_number_of_row : Stmt := topS 3
abbrev N_is_number_of_row : List Str := ["many", "thing"]
theorem sc_is_number_of_row : FnScope N_is_number_of_row ["many", "thing"] (defScope s_is_number_of_row) := ⟨rfl, rfl, rfl, by decide +kernel, rfl, by decide +kernel, by decide +kernel⟩
abbrev s_are_unlike_rows : Stmt := topS 4
abbrev N_are_unlike_rows : List Str := ["many", "one", "other"]
theorem sc_are_unlike_rows : FnScope N_are_unlike_rows ["many", "one", "other"] (defScope s_are_unlike_rows) := ⟨rfl, rfl, rfl, by decide +kernel, rfl, by decide +kernel, by decide +kernel⟩
abbrev s_is_step : Stmt := topS 5
abbrev N_is_step : List Str := ["many", "thing"]
theorem sc_is_step : FnScope N_is_step ["many", "thing"] (defScope s_is_step) := ⟨rfl, rfl, rfl, by decide +kernel, rfl, by decide +kernel, by decide +kernel⟩
abbrev s_law_pen : Stmt := topS 7
abbrev N_law_pen : List Str := ["_law_script", "_law_k", "_law_cell"]
theorem sc_law_pen : FnScope N_law_pen ["_law_script", "_law_k"] (defScope s_law_pen) := ⟨rfl, rfl, rfl, by decide +kernel, rfl, by decide +kernel, by decide +kernel⟩
abbrev s_law_draw : Stmt := topS 8
abbrev N_law_draw : List Str := ["_law_pen_here", "_law_many", "_law_found", "_law_number_here"]
theorem sc_law_draw : FnScope N_law_draw ["_law_pen_here", "_law_many"] (defScope s_law_draw) := ⟨rfl, rfl, rfl, by decide +kernel, rfl, by decide +kernel, by decide +kernel⟩
abbrev s_law_number : Stmt := topS 9
abbrev N_law_number : List Str := ["_law_pen_here"]
theorem sc_law_number : FnScope N_law_number ["_law_pen_here"] (defScope s_law_number) := ⟨rfl, rfl, rfl, by decide +kernel, rfl, by decide +kernel, by decide +kernel⟩
abbrev s_law_is_step : Stmt := topS 10
abbrev N_law_is_step : List Str := ["_law_many", "_law_thing", "_law_one"]
theorem sc_law_is_step : FnScope N_law_is_step ["_law_many", "_law_thing"] (defScope s_law_is_step) := ⟨rfl, rfl, rfl, by decide +kernel, rfl, by decide +kernel, by decide +kernel⟩
abbrev s_law_bent : Stmt := topS 11
abbrev N_law_bent : List Str := ["_law_pen_here", "_law_many", "_law_step", "_law_at", "_law_odd", "_law_found", "_law_word", "_law_one"]
theorem sc_law_bent : FnScope N_law_bent ["_law_pen_here", "_law_many", "_law_step"] (defScope s_law_bent) := ⟨rfl, rfl, rfl, by decide +kernel, rfl, by decide +kernel, by decide +kernel⟩
abbrev s_law : Stmt := topS 12
abbrev N_law : List Str := ["_law_script", "_law_k", "_law_pen_here", "_law_many", "_law_i", "_law_j", "_law_step", "_law_some", "_law_thing", "_law_found"]
theorem sc_law : FnScope N_law ["_law_script"] (defScope s_law) := ⟨rfl, rfl, rfl, by decide +kernel, rfl, by decide +kernel, by decide +kernel⟩
structure Txt (K : PySem.W.Frag) (mg : Str → Option Value) : Prop where
  d_is_whole : Df K mg "is_whole" s_is_whole ["thing"]
  d_is_number_of_row : Df K mg "is_number_of_row" s_is_number_of_row ["many", "thing"]
  d_are_unlike_rows : Df K mg "are_unlike_rows" s_are_unlike_rows ["many", "one", "other"]
  d_is_step : Df K mg "is_step" s_is_step ["many", "thing"]
  d_law_pen : Df K mg "_law_pen" s_law_pen ["_law_script", "_law_k"]
  d_law_draw : Df K mg "_law_draw" s_law_draw ["_law_pen_here", "_law_many"]
  d_law_number : Df K mg "_law_number" s_law_number ["_law_pen_here"]
  d_law_is_step : Df K mg "_law_is_step" s_law_is_step ["_law_many", "_law_thing"]
  d_law_bent : Df K mg "_law_bent" s_law_bent ["_law_pen_here", "_law_many", "_law_step"]
  d_law : Df K mg "law" s_law ["_law_script"]
  n_abs : mg "abs" = none
  n_bool : mg "bool" = none
  n_int : mg "int" = none
  n_isinstance : mg "isinstance" = none
  n_len : mg "len" = none
  n_list : mg "list" = none
  n_max : mg "max" = none
  n_min : mg "min" = none
  n_range : mg "range" = none
  n_str : mg "str" = none
  n_tuple : mg "tuple" = none
section
variable {P : Program} {w : World} {K : PySem.W.Frag} {mg : Str → Option Value} {base : Heap}
theorem ok_law_pen (T : Txt K mg) : Fn P w K mg base 1 "_law_pen" ["_law_script", "_law_k"] (sp2 (rPenL K)) := by
  refine T.d_law_pen.ok sc_law_pen len2 fun f cdv A outer s H vs Q E hr hg h => ?_
  obtain ⟨_, _, rfl, a, ns, k, rfl, rfl, hS, k0, q⟩ := h
  refine ⟨_, (pss_cons (ps_set (i := 2) sc_law_pen.nd rfl (by first | exact Or.inl rfl | exact Or.inr rfl) (pe_op op_add (pe_op op_mul pe_int (pv 1)) pe_int))
(pss_cons (ps_if (pt_cmpR op_lt (pv 1) (pe_callB (len_K (K := K) rfl) (by rfl) T.n_len (by decide +kernel) (pa_cons (pv 0) pa_nil)) (nomark _))
(pss_one (ps_set (i := 2) sc_law_pen.nd rfl (by first | exact Or.inl rfl | exact Or.inr rfl) (pe_ix (ixL_K (K := K) rfl) (pv 0) (pv 1) (fun _ _ => rfl))))
(pss_one (ps_if (pt_cmpR op_gt (pe_callB (len_K (K := K) rfl) (by rfl) T.n_len (by decide +kernel) (pa_cons (pv 0) pa_nil)) pe_int (nomark _))
(pss_one (ps_set (i := 2) sc_law_pen.nd rfl (by first | exact Or.inl rfl | exact Or.inr rfl) (pe_op op_add (pe_op op_mod (pe_ix (ixL_K (K := K) rfl) (pv 0) (pe_op op_mod (pv 1) (pe_callB (len_K (K := K) rfl) (by rfl) T.n_len (by decide +kernel) (pa_cons (pv 0) pa_nil))) (fun _ _ => rfl)) (pe_op op_pow pe_int pe_int)) (pe_op op_mul pe_int (pv 1)))))
pss_nil)))
(pss_cons (ps_if (pt_cmpR op_ge (pe_callB call_abs (by rfl) T.n_abs (by decide +kernel) (pa_cons (pv 2) pa_nil)) (pe_op op_pow pe_int pe_int) (nomark _))
(pss_one (ps_ret (pe_lst (pa_cons (pe_op op_sub (pe_callB call_abs (by rfl) T.n_abs (by decide +kernel) (pa_cons (pv 2) pa_nil)) (pe_op op_pow pe_int pe_int)) (pa_cons (pe_op op_mod (pv 2) pe_int) (pa_cons pe_int pa_nil))))))
pss_nil)
(pss_one (ps_ret (pe_lst (pa_cons pe_int (pa_cons (pe_op op_add (pe_op op_mod (pv 2) pe_int) (pe_op op_mul pe_int (pv 1))) (pa_cons pe_int pa_nil))))))))), ?_⟩
  refine ⟨_, rfl, _, _, rfl, rfl, .inl ⟨by decide, by decide⟩, _, _, rfl, rfl, ?_⟩
  refine ⟨_, rfl, _, rfl, a, _, rfl, .inl hS, _, _, rfl, rfl, _, rfl, ite2 (fun e1 => ?_) (fun e1 => ?_)⟩
  · obtain ⟨z, hz⟩ := cellL (ns := ns) k0 (of_decide_eq_true e1)
    refine ⟨_, rfl, _, rfl, a, _, _, _, rfl, rfl, hS, hz, ?_⟩
    refine ⟨_, rfl, _, rfl, 10, 18, rfl, rfl, ⟨by decide, by decide, by decide⟩, _, _, rfl, rfl, _, rfl, ite2 (fun e2 => ?_) (fun e2 => ?_)⟩
    · refine ⟨_, rfl, _, rfl, 10, 18, rfl, rfl, ⟨by decide, by decide, by decide⟩, _, _, rfl, rfl, _, rfl, _, _, rfl, rfl, q587, (by show 3 ≤ sizeLine; decide), fun p hp => ?_⟩
      exact q p _ hp (same_new hp) ⟨_, _, _, upd_same⟩
    · refine ⟨_, rfl, _, _, rfl, rfl, q587, _, rfl, _, _, rfl, rfl, .inl ⟨by decide, by decide⟩, _, _, rfl, rfl, (by show 3 ≤ sizeLine; decide), fun p hp => ?_⟩
      exact q p _ hp (same_new hp) ⟨_, _, _, upd_same⟩
  · refine ⟨_, rfl, a, _, rfl, .inl hS, _, _, rfl, rfl, _, rfl, ite2 (fun e3 => ?_) (fun e3 => ?_)⟩
    · have hl : (0 : Int) < ((ns.map V.int).length : Int) := of_decide_eq_true e3
      obtain ⟨z, hz⟩ := cellL (ns := ns) (i := k % ((ns.map V.int).length : Int)) (Int.emod_nonneg _ (by omega)) (Int.emod_lt_of_pos _ hl)
      refine ⟨_, rfl, _, rfl, _, rfl, a, _, rfl, .inl hS, _, _, rfl, rfl, hl, a, _, _, _, rfl, rfl, hS, hz, 10, 15, rfl, rfl, ⟨by decide, by decide, by decide⟩, _, _, rfl, rfl, p15, _, rfl, _, _, rfl, rfl, .inl ⟨by decide, by decide⟩, _, _, rfl, rfl, ?_⟩
      refine ⟨_, rfl, _, rfl, 10, 18, rfl, rfl, ⟨by decide, by decide, by decide⟩, _, _, rfl, rfl, _, rfl, ite2 (fun e2 => ?_) (fun e2 => ?_)⟩
      · refine ⟨_, rfl, _, rfl, 10, 18, rfl, rfl, ⟨by decide, by decide, by decide⟩, _, _, rfl, rfl, _, rfl, _, _, rfl, rfl, q587, (by show 3 ≤ sizeLine; decide), fun p hp => ?_⟩
        exact q p _ hp (same_new hp) ⟨_, _, _, upd_same⟩
      · refine ⟨_, rfl, _, _, rfl, rfl, q587, _, rfl, _, _, rfl, rfl, .inl ⟨by decide, by decide⟩, _, _, rfl, rfl, (by show 3 ≤ sizeLine; decide), fun p hp => ?_⟩
        exact q p _ hp (same_new hp) ⟨_, _, _, upd_same⟩
    · refine ⟨_, rfl, _, rfl, 10, 18, rfl, rfl, ⟨by decide, by decide, by decide⟩, _, _, rfl, rfl, _, rfl, ite2 (fun e2 => ?_) (fun e2 => ?_)⟩
      · refine ⟨_, rfl, _, rfl, 10, 18, rfl, rfl, ⟨by decide, by decide, by decide⟩, _, _, rfl, rfl, _, rfl, _, _, rfl, rfl, q587, (by show 3 ≤ sizeLine; decide), fun p hp => ?_⟩
        exact q p _ hp (same_new hp) ⟨_, _, _, upd_same⟩
      · refine ⟨_, rfl, _, _, rfl, rfl, q587, _, rfl, _, _, rfl, rfl, .inl ⟨by decide, by decide⟩, _, _, rfl, rfl, (by show 3 ≤ sizeLine; decide), fun p hp => ?_⟩
        exact q p _ hp (same_new hp) ⟨_, _, _, upd_same⟩
theorem ok_law_draw (T : Txt K mg) : Fn P w K mg base 1 "_law_draw" ["_law_pen_here", "_law_many"] (sp2 rDrawL) := by
  refine T.d_law_draw.ok sc_law_draw len2 fun f cdv A outer s H vs Q E hr hg h => ?_
  obtain ⟨_, _, rfl, p, many, rfl, rfl, ⟨x, y, z, hp⟩, p0, p1, q⟩ := h
  refine ⟨_, (pss_cons (ps_asg (pe_op op_add (pe_ix (ixL_K (K := K) rfl) (pv 0) pe_int (fun _ _ => rfl)) pe_int) (pg_sub (pv 0) pe_int set_list))
(pss_cons (ps_if (pt_cmpR op_gt (pe_ix (ixL_K (K := K) rfl) (pv 0) pe_int (fun _ _ => rfl)) pe_int (nomark _))
(pss_cons (ps_set (i := 2) sc_law_draw.nd rfl (by first | exact Or.inl rfl | exact Or.inr rfl) (pe_op op_mod (pe_ix (ixL_K (K := K) rfl) (pv 0) pe_int (fun _ _ => rfl)) (pv 1)))
(pss_cons (ps_asg (pe_op op_fdiv (pe_ix (ixL_K (K := K) rfl) (pv 0) pe_int (fun _ _ => rfl)) (pv 1)) (pg_sub (pv 0) pe_int set_list))
(pss_one (ps_ret (pv 2)))))
pss_nil)
(pss_cons (ps_set (i := 3) sc_law_draw.nd rfl (by first | exact Or.inl rfl | exact Or.inr rfl) (pe_op op_mod (pe_op op_mul (pe_op op_add (pe_op op_add (pe_ix (ixL_K (K := K) rfl) (pv 0) pe_int (fun _ _ => rfl)) (pe_op op_mul pe_int (pe_ix (ixL_K (K := K) rfl) (pv 0) pe_int (fun _ _ => rfl)))) pe_int) pe_int) pe_int))
(pss_cons (ps_set (i := 3) sc_law_draw.nd rfl (by first | exact Or.inl rfl | exact Or.inr rfl) (pe_op op_mod (pe_op op_add (pe_op op_mul (pv 3) (pv 3)) (pe_op op_mul pe_int (pe_ix (ixL_K (K := K) rfl) (pv 0) pe_int (fun _ _ => rfl)))) pe_int))
(pss_one (ps_ret (pe_op op_mod (pe_op op_fdiv (pe_op op_mod (pe_op op_mul (pv 3) (pe_op op_add (pe_op op_mod (pv 3) pe_int) pe_int)) pe_int) pe_int) (pv 1)))))))), ?_⟩
  refine ⟨_, rfl, p, _, 2, _, rfl, rfl, SqL.of hp, atI_nat (j := 2) rfl, _, _, rfl, rfl, _, rfl, p, _, 2, 2, rfl, rfl, hp, rfl, ?_⟩
  have h1 : (upd H p (.lst [.int x, .int y, .int (z + 1)])) p = some (.lst [.int x, .int y, .int (z + 1)]) := upd_same
  have e1 : ([.int x, .int y, .int z] : List V).set 2 (.int (z + 1)) = [.int x, .int y, .int (z + 1)] := rfl
  refine ⟨_, rfl, p, _, 0, _, rfl, rfl, SqL.of h1, atI_nat (j := 0) rfl, _, _, rfl, rfl, _, rfl, ite2 (fun e => ?_) (fun e => ?_)⟩
  · refine ⟨_, rfl, p, _, 0, _, rfl, rfl, SqL.of h1, atI_nat (j := 0) rfl, _, rfl, _, _, rfl, rfl, p0, ?_⟩
    refine ⟨_, rfl, p, _, 0, _, rfl, rfl, SqL.of h1, atI_nat (j := 0) rfl, _, rfl, _, _, rfl, rfl, ⟨p0, p1⟩, _, rfl, p, _, 0, 0, rfl, rfl, h1, rfl, ?_⟩
    refine ⟨_, rfl, ?_⟩
    exact q _ _ (Int.emod_nonneg _ (by omega)) (Int.emod_lt_of_pos _ p0) ⟨_, _, _, upd_same⟩ (But.trans But.upd But.upd) ((Ext.lst hp).trans (Ext.lst h1))
  · refine ⟨_, rfl, p, _, 1, _, rfl, rfl, SqL.of h1, atI_nat (j := 1) rfl, _, rfl, p, _, 2, _, rfl, rfl, SqL.of h1, atI_nat (j := 2) rfl, _, _, rfl, rfl, .inl ⟨by decide, by decide⟩, _, _, rfl, rfl, _, _, rfl, rfl, _, _, rfl, rfl, .inr ⟨by decide, by decide⟩, _, _, rfl, rfl, q647, ?_⟩
    have a1 := Int.emod_nonneg ((y + 50021 * (z + 1) + 19) * 48271) (show (2147483647 : Int) ≠ 0 by decide)
    have a2 := Int.emod_lt_of_pos ((y + 50021 * (z + 1) + 19) * 48271) q647
    refine ⟨_, rfl, _, rfl, _, _, rfl, rfl, .inl ⟨by omega, by omega⟩, _, rfl, p, _, 2, _, rfl, rfl, SqL.of h1, atI_nat (j := 2) rfl, _, _, rfl, rfl, .inl ⟨by decide, by decide⟩, _, _, rfl, rfl, _, _, rfl, rfl, q629, ?_⟩
    generalize (y + 50021 * (z + 1) + 19) * 48271 % 2147483647 = u at *
    have b1 := Int.emod_nonneg (u * u + 69621 * (z + 1)) (show (2147483629 : Int) ≠ 0 by decide)
    have b2 := Int.emod_lt_of_pos (u * u + 69621 * (z + 1)) q629
    refine ⟨_, rfl, _, rfl, _, _, rfl, rfl, q521, _, _, rfl, rfl, _, _, rfl, rfl, .inl ⟨by omega, by omega⟩, _, _, rfl, rfl, q587, _, _, rfl, rfl, ⟨by decide, by decide⟩, _, rfl, _, _, rfl, rfl, p0, ?_⟩
    exact q _ _ (Int.emod_nonneg _ (by omega)) (Int.emod_lt_of_pos _ p0) ⟨_, _, _, h1⟩ But.upd (Ext.lst hp)

/-! ### is_whole, is_step -/
def rWholeK : V → Hp → VK → Prop := fun x H Q => ∃ k, HasK H x k ∧ Q (.bl (wholeK k)) H
theorem ok_is_whole (T : Txt K mg) : Fn P w K mg base 1 "is_whole" ["thing"] (sp1 rWholeK) := by
  refine T.d_is_whole.ok sc_is_whole len1 fun f cdv A outer s H vs Q E hr hg h => ?_
  obtain ⟨_, rfl, k, hk, q⟩ := h
  refine ⟨_, (pss_one (ps_ret (pe_and (pe_callB (isi_K (K := K) rfl) (by rfl) T.n_isinstance (by decide +kernel) (pa_cons (pv 0) (pa_cons (pe_bltn (v := .ty "int") (by rfl) T.n_int (by decide +kernel) rfl) pa_nil))) (pe_one (pe_not (pe_callB (isi_K (K := K) rfl) (by rfl) T.n_isinstance (by decide +kernel) (pa_cons (pv 0) (pa_cons (pe_bltn (v := .ty "bool") (by rfl) T.n_bool (by decide +kernel) rfl) pa_nil)))))))), ?_⟩
  refine ⟨_, rfl, _, _, _, _, _, rfl, .ty "int", hk.ty, kit_ty (kit_int k), _, rfl, ite2 (fun e => ?_) (fun e => ?_)⟩
  · refine ⟨_, rfl, _, _, _, _, _, rfl, .ty "bool", hk.ty, kit_ty (kit_bool k), _, rfl, ?_⟩
    have ez : wholeK k = !isBoolK k := by
      cases k <;> first | rfl | exact absurd e (by simp [isIntK])
    rw [← ez]
    exact q
  · have ez : wholeK k = false := by
      cases k <;> first | rfl | exact absurd rfl e
    rw [ez] at q
    exact q
def rNumK : V → V → Hp → VK → Prop := fun x y H Q => ∃ (many : Int) (k : Kd), x = .int many ∧ HasK H y k ∧ Q (.bl (numK many k)) H
theorem ok_is_number_of_row (T : Txt K mg) : Fn P w K mg base 2 "is_number_of_row" ["many", "thing"] (sp2 rNumK) := by
  have G_is_whole := ok_is_whole (P := P) (w := w) (base := base) T
  refine T.d_is_number_of_row.ok sc_is_number_of_row len2 fun f cdv A outer s H vs Q E hr hg h => ?_
  obtain ⟨_, y, rfl, many, k, rfl, hk, q⟩ := h
  refine ⟨_, (pss_one (ps_ret (pe_and (pe_fn G_is_whole (hr.mono (by decide)) hg (by rfl) (pa_cons (pv 1) pa_nil)) (pe_one (pe_chain op_le op_lt pe_int (pv 1) (pv 0)))))), ?_⟩
  refine ⟨_, rfl, _, rfl, k, hk, _, rfl, ite2 (fun e => ?_) (fun e => ?_)⟩
  · obtain ⟨i, rfl⟩ := whole_int e
    cases hk
    refine ⟨_, rfl, 0, i, rfl, rfl, _, rfl, ite2 (fun e2 => ?_) (fun e2 => ?_)⟩
    · refine ⟨_, rfl, _, _, rfl, rfl, ?_⟩
      have ez : numK many (.int i) = decide (i < many) := by
        show (decide (0 ≤ i) && decide (i < many)) = _
        rw [e2, Bool.true_and]
      rw [ez] at q
      exact q
    · have ez : numK many (.int i) = false := by
        show (decide (0 ≤ i) && decide (i < many)) = _
        rw [Bool.eq_false_iff.mpr e2, Bool.false_and]
      rw [ez] at q
      exact q
  · rw [not_whole_num (Bool.eq_false_iff.mpr e)] at q
    exact q
def rUnlikeK : V → V → V → Hp → VK → Prop := fun x y z H Q => ∃ (many : Int) (k k' : Kd), x = .int many ∧ HasK H y k ∧ HasK H z k' ∧ Q (.bl (unlikeK many k k')) H
theorem num_int {many : Int} {k : Kd} (h : numK many k = true) : ∃ i, k = .int i := by
  cases k <;> first | exact ⟨_, rfl⟩ | exact absurd h (by simp [numK])
theorem ok_are_unlike_rows (T : Txt K mg) : Fn P w K mg base 3 "are_unlike_rows" ["many", "one", "other"] (sp3 rUnlikeK) := by
  have G_is_number_of_row := ok_is_number_of_row (P := P) (w := w) (base := base) T
  refine T.d_are_unlike_rows.ok sc_are_unlike_rows len3 fun f cdv A outer s H vs Q E hr hg h => ?_
  obtain ⟨_, y, z, rfl, many, k, k', rfl, hk, hk', q⟩ := h
  refine ⟨_, (pss_one (ps_ret (pe_and (pe_fn G_is_number_of_row (hr.mono (by decide)) hg (by rfl) (pa_cons (pv 0) (pa_cons (pv 1) pa_nil))) (pe_and (pe_fn G_is_number_of_row (hr.mono (by decide)) hg (by rfl) (pa_cons (pv 0) (pa_cons (pv 2) pa_nil))) (pe_one (pe_cmpR op_ne (pv 1) (pv 2) (nomark _))))))), ?_⟩
  refine ⟨_, rfl, _, rfl, _, _, rfl, many, k, rfl, hk, _, rfl, ite2 (fun e => ?_) (fun e => ?_)⟩
  · obtain ⟨i, rfl⟩ := num_int e
    refine ⟨_, rfl, _, rfl, _, _, rfl, many, k', rfl, hk', _, rfl, ite2 (fun e2 => ?_) (fun e2 => ?_)⟩
    · obtain ⟨j, rfl⟩ := num_int e2
      cases hk
      cases hk'
      refine ⟨_, rfl, _, rfl, rfl, ?_⟩
      have ez : unlikeK many (.int i) (.int j) = !decide (V.int i = V.int j) := by
        show (numK many (.int i) && (numK many (.int j) && _)) = _
        rw [e, e2, Bool.true_and, Bool.true_and]
      rw [ez] at q
      exact q
    · have ez : unlikeK many (.int i) k' = false := by
        cases k' with
        | int j =>
          show (numK many (.int i) && (numK many (.int j) && _)) = _
          rw [Bool.eq_false_iff.mpr e2, Bool.false_and, Bool.and_false]
        | _ => rfl
      rw [ez] at q
      exact q
  · have ez : unlikeK many k k' = false := by
      cases k with
      | int i =>
        cases k' with
        | int j =>
          show (numK many (.int i) && (numK many (.int j) && _)) = _
          rw [Bool.eq_false_iff.mpr e, Bool.false_and]
        | _ => rfl
      | _ => rfl
    rw [ez] at q
    exact q
def rStepK : V → V → Hp → VK → Prop := fun x y H Q => ∃ (many : Int) (o : Option (List Kd)), x = .int many ∧ KsOf H y o ∧ Q (.bl (stepO many o)) H
theorem ok_is_step (T : Txt K mg) : Fn P w K mg base 4 "is_step" ["many", "thing"] (sp2 rStepK) := by
  have G_is_whole := ok_is_whole (P := P) (w := w) (base := base) T
  have G_is_number_of_row := ok_is_number_of_row (P := P) (w := w) (base := base) T
  have G_are_unlike_rows := ok_are_unlike_rows (P := P) (w := w) (base := base) T
  refine T.d_is_step.ok sc_is_step len2 fun f cdv A outer s H vs Q E hr hg h => ?_
  obtain ⟨_, y, rfl, many, o, rfl, hk, q⟩ := h
  refine ⟨_, (pss_cons (ps_if (PW.pt (pw_or (pt_not (pt_val (pe_callB (isi_K (K := K) rfl) (by rfl) T.n_isinstance (by decide +kernel) (pa_cons (pv 1) (pa_cons (pe_bltn (v := .ty "tuple") (by rfl) T.n_tuple (by decide +kernel) rfl) pa_nil))))) (pw_or1 (pt_cmpR op_eq (pe_callB (len_K (K := K) rfl) (by rfl) T.n_len (by decide +kernel) (pa_cons (pv 1) pa_nil)) pe_int (nomark _)))))
(pss_one (ps_ret pe_bl))
pss_nil)
(pss_cons (ps_if (pt_cmpR (op_eqK hr) (pe_ix (ixT_K (K := K) rfl) (pv 1) pe_int (fun _ _ => rfl)) pe_str (nomark _))
(pss_one (ps_ret (pe_and (pe_cmpR op_eq (pe_callB (len_K (K := K) rfl) (by rfl) T.n_len (by decide +kernel) (pa_cons (pv 1) pa_nil)) pe_int (nomark _)) (pe_and (pe_fn G_are_unlike_rows (hr.mono (by decide)) hg (by rfl) (pa_cons (pv 0) (pa_cons (pe_ix (ixT_K (K := K) rfl) (pv 1) pe_int (fun _ _ => rfl)) (pa_cons (pe_ix (ixT_K (K := K) rfl) (pv 1) pe_int (fun _ _ => rfl)) pa_nil)))) (pe_one (pe_fn G_is_whole (hr.mono (by decide)) hg (by rfl) (pa_cons (pe_ix (ixT_K (K := K) rfl) (pv 1) pe_int (fun _ _ => rfl)) pa_nil)))))))
pss_nil)
(pss_cons (ps_if (pt_cmpR (op_eqK hr) (pe_ix (ixT_K (K := K) rfl) (pv 1) pe_int (fun _ _ => rfl)) pe_str (nomark _))
(pss_one (ps_ret (pe_and (pe_cmpR op_eq (pe_callB (len_K (K := K) rfl) (by rfl) T.n_len (by decide +kernel) (pa_cons (pv 1) pa_nil)) pe_int (nomark _)) (pe_one (pe_fn G_are_unlike_rows (hr.mono (by decide)) hg (by rfl) (pa_cons (pv 0) (pa_cons (pe_ix (ixT_K (K := K) rfl) (pv 1) pe_int (fun _ _ => rfl)) (pa_cons (pe_ix (ixT_K (K := K) rfl) (pv 1) pe_int (fun _ _ => rfl)) pa_nil))))))))
pss_nil)
(pss_cons (ps_if (pt_cmpR (op_eqK hr) (pe_ix (ixT_K (K := K) rfl) (pv 1) pe_int (fun _ _ => rfl)) pe_str (nomark _))
(pss_one (ps_ret (pe_and (pe_cmpR op_eq (pe_callB (len_K (K := K) rfl) (by rfl) T.n_len (by decide +kernel) (pa_cons (pv 1) pa_nil)) pe_int (nomark _)) (pe_one (pe_fn G_is_number_of_row (hr.mono (by decide)) hg (by rfl) (pa_cons (pv 0) (pa_cons (pe_ix (ixT_K (K := K) rfl) (pv 1) pe_int (fun _ _ => rfl)) pa_nil)))))))
pss_nil)
(pss_one (ps_ret pe_bl)))))), ?_⟩
  cases o with
  | none =>
    obtain ⟨k, hk, hn⟩ := hk
    refine ⟨_, rfl, _, _, _, _, false, rfl, .ty "tuple", hk.ty, kit_ty (by rw [kit_tup, hn]), false, rfl, iteT ?_⟩
    exact q
  | some ks =>
    obtain ⟨a, xs, rfl, ha, hp⟩ := hk
    have hpl : xs.length = ks.length := Paired.length hp
    refine ⟨_, rfl, _, _, _, _, true, rfl, .ty "tuple", (HasK.tup ha).ty, kit_ty (kit_tup (.tup xs)), true, rfl, iteF ?_⟩
    refine ⟨_, rfl, a, _, rfl, .inr (SqT.of ha), rfl, _, rfl, ite2 (fun e => ?_) (fun e => ?_)⟩
    · have e0 : (xs.length : Int) = 0 := eq_yes e
      have ex : ks = [] := List.length_eq_zero_iff.mp (by omega)
      subst ex
      exact q
    · cases hp with
      | nil => exact absurd (decide_eq_true rfl) e
      | @cons x0 k0 xr kr h0 hr0 =>
        have hrl : xr.length = kr.length := Paired.length hr0
        refine ⟨_, rfl, a, _, 0, _, rfl, rfl, SqT.of ha, atI_nat (j := 0) rfl, k0, "add", h0, rfl, _, rfl, ite2 (fun e1 => ?_) (fun e1 => ?_)⟩
        · have ez : stepO many (some (k0 :: kr)) = addK many kr := if_pos e1
          rw [ez] at q
          refine ⟨_, rfl, a, _, rfl, .inr (SqT.of ha), rfl, _, rfl, ite2 (fun e2 => ?_) (fun e2 => ?_)⟩
          · have el : ((x0 :: xr).length : Int) = 4 := eq_yes e2
            cases hr0 with
            | nil => exact absurd el (by simp)
            | @cons x1 k1 xr kr h1 hr1 =>
              cases hr1 with
              | nil => exact absurd el (by simp)
              | @cons x2 k2 xr kr h2 hr2 =>
                cases hr2 with
                | nil => exact absurd el (by simp)
                | @cons x3 k3 xr kr h3 hr3 =>
                  cases hr3 with
                  | cons h4 hr4 => exact absurd el (by simp only [List.length_cons]; omega)
                  | nil =>
                    refine ⟨_, rfl, _, rfl, a, _, 1, _, rfl, rfl, SqT.of ha, atI_nat (j := 1) rfl, _, rfl, a, _, 2, _, rfl, rfl, SqT.of ha, atI_nat (j := 2) rfl, _, _, _, rfl, many, k1, k2, rfl, h1, h2, _, rfl, ite2 (fun e3 => ?_) (fun e3 => ?_)⟩
                    · refine ⟨_, rfl, a, _, 3, _, rfl, rfl, SqT.of ha, atI_nat (j := 3) rfl, _, rfl, k3, h3, ?_⟩
                      have ew : addK many [k1, k2, k3] = wholeK k3 := by
                        show (unlikeK many k1 k2 && wholeK k3) = _
                        rw [e3, Bool.true_and]
                      rw [ew] at q
                      exact q
                    · have ew : addK many [k1, k2, k3] = false := by
                        show (unlikeK many k1 k2 && wholeK k3) = _
                        rw [Bool.eq_false_iff.mpr e3, Bool.false_and]
                      rw [ew] at q
                      exact q
          · have el : ((x0 :: xr).length : Int) ≠ 4 := eq_no e2
            have ew : addK many kr = false := by
              rcases kr with _ | ⟨k1, _ | ⟨k2, _ | ⟨k3, _ | ⟨k4, kr⟩⟩⟩⟩ <;> first | rfl | skip
              exact absurd (by simp only [List.length_cons, hrl, List.length_nil]; rfl) el
            rw [ew] at q
            exact q
        refine ⟨_, rfl, a, _, 0, _, rfl, rfl, SqT.of ha, atI_nat (j := 0) rfl, k0, "swap", h0, rfl, _, rfl, ite2 (fun e2 => ?_) (fun e2 => ?_)⟩
        · have ez : stepO many (some (k0 :: kr)) = swapK many kr := (if_neg e1).trans (if_pos e2)
          rw [ez] at q
          refine ⟨_, rfl, a, _, rfl, .inr (SqT.of ha), rfl, _, rfl, ite2 (fun e3 => ?_) (fun e3 => ?_)⟩
          · have el : ((x0 :: xr).length : Int) = 3 := eq_yes e3
            cases hr0 with
            | nil => exact absurd el (by simp)
            | @cons x1 k1 xr kr h1 hr1 =>
              cases hr1 with
              | nil => exact absurd el (by simp)
              | @cons x2 k2 xr kr h2 hr2 =>
                cases hr2 with
                | cons h4 hr4 => exact absurd el (by simp only [List.length_cons]; omega)
                | nil =>
                  refine ⟨_, rfl, _, rfl, a, _, 1, _, rfl, rfl, SqT.of ha, atI_nat (j := 1) rfl, _, rfl, a, _, 2, _, rfl, rfl, SqT.of ha, atI_nat (j := 2) rfl, _, _, _, rfl, many, k1, k2, rfl, h1, h2, ?_⟩
                  exact q
          · have el : ((x0 :: xr).length : Int) ≠ 3 := eq_no e3
            have ew : swapK many kr = false := by
              rcases kr with _ | ⟨k1, _ | ⟨k2, _ | ⟨k3, kr⟩⟩⟩ <;> first | rfl | skip
              exact absurd (by simp only [List.length_cons, hrl, List.length_nil]; rfl) el
            rw [ew] at q
            exact q
        refine ⟨_, rfl, a, _, 0, _, rfl, rfl, SqT.of ha, atI_nat (j := 0) rfl, k0, "turn", h0, rfl, _, rfl, ite2 (fun e3 => ?_) (fun e3 => ?_)⟩
        · have ez : stepO many (some (k0 :: kr)) = turnK many kr := ((if_neg e1).trans (if_neg e2)).trans (if_pos e3)
          rw [ez] at q
          refine ⟨_, rfl, a, _, rfl, .inr (SqT.of ha), rfl, _, rfl, ite2 (fun e4 => ?_) (fun e4 => ?_)⟩
          · have el : ((x0 :: xr).length : Int) = 2 := eq_yes e4
            cases hr0 with
            | nil => exact absurd el (by simp)
            | @cons x1 k1 xr kr h1 hr1 =>
              cases hr1 with
              | cons h4 hr4 => exact absurd el (by simp only [List.length_cons]; omega)
              | nil =>
                refine ⟨_, rfl, _, rfl, a, _, 1, _, rfl, rfl, SqT.of ha, atI_nat (j := 1) rfl, _, _, rfl, many, k1, rfl, h1, ?_⟩
                exact q
          · have el : ((x0 :: xr).length : Int) ≠ 2 := eq_no e4
            have ew : turnK many kr = false := by
              rcases kr with _ | ⟨k1, _ | ⟨k2, kr⟩⟩ <;> first | rfl | skip
              exact absurd (by simp only [List.length_cons, hrl, List.length_nil]; rfl) el
            rw [ew] at q
            exact q
        · have ez : stepO many (some (k0 :: kr)) = false := ((if_neg e1).trans (if_neg e2)).trans (if_neg e3)
          rw [ez] at q
          exact q

/-! ### the law's own look at a step -/
theorem n_ts : ¬ (("turn" : Str) = "swap") := by decide +kernel
theorem n_ta : ¬ (("turn" : Str) = "add") := by decide +kernel
theorem n_sa : ¬ (("swap" : Str) = "add") := by decide +kernel
theorem paired_at {α β : Type} {R : α → β → Prop} : ∀ {l : List α} {m : List β} {i : Nat} {a : α}, Paired R l m → l[i]? = some a → ∃ b, m[i]? = some b ∧ R a b
  | _, _, _, _, .nil, e => by simp at e
  | _, _, 0, _, .cons h _, e => by
    have e1 := Option.some.inj e
    subst e1
    exact ⟨_, rfl, h⟩
  | _, _, i + 1, a, .cons _ t, e => paired_at (i := i) (a := a) t e
theorem cut_one (x : V) (r : List V) : HT.sIx (x :: r).length 0 (some 1) = 1 := by
  have := HT.sIx_nat (x :: r).length 0 1
  rw [show ((1 : Nat) : Int) = 1 from rfl] at this
  rw [this, List.length_cons]
  omega
theorem cut_rest (x : V) (r : List V) : cutV (x :: r) (some 1) none = r := by
  unfold cutV
  rw [cut_one, HT.sIx_none]
  show (r.take ((x :: r).length - 1)) = r
  rw [List.length_cons, Nat.add_sub_cancel]
  exact List.take_length
def rLawStep : V → V → Hp → VK → Prop := fun x y H Q => ∃ (many : Int) (o : Option (List Kd)), x = .int many ∧ KsOf H y o ∧ ∀ H', Same H H' → Q (.bl (stepO many o)) H'
theorem ok_law_is_step (T : Txt K mg) : Fn P w K mg base 1 "_law_is_step" ["_law_many", "_law_thing"] (sp2 rLawStep) := by
  refine T.d_law_is_step.ok sc_law_is_step len2 fun f cdv A outer s H vs Q E hr hg h => ?_
  obtain ⟨_, y, rfl, many, o, rfl, hk, q⟩ := h
  refine ⟨_, (pss_cons (ps_if (PW.pt (pw_or (pt_not (pt_val (pe_callB (isi_K (K := K) rfl) (by rfl) T.n_isinstance (by decide +kernel) (pa_cons (pv 1) (pa_cons (pe_bltn (v := .ty "tuple") (by rfl) T.n_tuple (by decide +kernel) rfl) pa_nil))))) (pw_or (pt_cmpR (op_eqE hr) (pv 1) (pe_tup pa_nil) (nomark _)) (pw_or1 (pt_not (pt_val (pe_callB (isi_K (K := K) rfl) (by rfl) T.n_isinstance (by decide +kernel) (pa_cons (pe_ix (ixT_K (K := K) rfl) (pv 1) pe_int (fun _ _ => rfl)) (pa_cons (pe_bltn (v := .ty "str") (by rfl) T.n_str (by decide +kernel) rfl) pa_nil)))))))))
(pss_one (ps_ret pe_bl))
pss_nil)
(pss_cons (ps_for PassesOwn.never rfl (pi_tup (pe_slice (sl_K (K := K) rfl) (pv 1) (po_some pe_int) po_none)) (pg_name (i := 2) sc_law_is_step.nd rfl (by first | exact Or.inl rfl | exact Or.inr rfl))
(pss_one (ps_if (PW.pt (pw_or (pt_val (pe_callB (isi_K (K := K) rfl) (by rfl) T.n_isinstance (by decide +kernel) (pa_cons (pv 2) (pa_cons (pe_bltn (v := .ty "bool") (by rfl) T.n_bool (by decide +kernel) rfl) pa_nil)))) (pw_or1 (pt_not (pt_val (pe_callB (isi_K (K := K) rfl) (by rfl) T.n_isinstance (by decide +kernel) (pa_cons (pv 2) (pa_cons (pe_bltn (v := .ty "int") (by rfl) T.n_int (by decide +kernel) rfl) pa_nil))))))))
(pss_one (ps_ret pe_bl))
pss_nil)))
(pss_cons (ps_if (pt_cmpR op_eq (pe_ix (ixT_K (K := K) rfl) (pv 1) pe_int (fun _ _ => rfl)) pe_str (nomark _))
(pss_one (ps_ret (pe_and (pe_cmpR op_eq (pe_callB (len_K (K := K) rfl) (by rfl) T.n_len (by decide +kernel) (pa_cons (pv 1) pa_nil)) pe_int (nomark _)) (pe_one (pe_chain op_le op_lt pe_int (pe_ix (ixT_K (K := K) rfl) (pv 1) pe_int (fun _ _ => rfl)) (pv 0))))))
pss_nil)
(pss_cons (ps_if (PW.pt (pw_or (PW.pt (pw_and (pt_cmpR op_eq (pe_ix (ixT_K (K := K) rfl) (pv 1) pe_int (fun _ _ => rfl)) pe_str (nomark _)) (pw_and1 (pt_cmpR op_ne (pe_callB (len_K (K := K) rfl) (by rfl) T.n_len (by decide +kernel) (pa_cons (pv 1) pa_nil)) pe_int (nomark _))))) (pw_or1 (PW.pt (pw_and (pt_cmpR op_eq (pe_ix (ixT_K (K := K) rfl) (pv 1) pe_int (fun _ _ => rfl)) pe_str (nomark _)) (pw_and1 (pt_cmpR op_ne (pe_callB (len_K (K := K) rfl) (by rfl) T.n_len (by decide +kernel) (pa_cons (pv 1) pa_nil)) pe_int (nomark _))))))))
(pss_one (ps_ret pe_bl))
pss_nil)
(pss_cons (ps_if (PW.pt (pw_and (pt_cmpR op_ne (pe_ix (ixT_K (K := K) rfl) (pv 1) pe_int (fun _ _ => rfl)) pe_str (nomark _)) (pw_and1 (pt_cmpR op_ne (pe_ix (ixT_K (K := K) rfl) (pv 1) pe_int (fun _ _ => rfl)) pe_str (nomark _)))))
(pss_one (ps_ret pe_bl))
pss_nil)
(pss_one (ps_ret (pe_and (pe_chain op_le op_lt pe_int (pe_ix (ixT_K (K := K) rfl) (pv 1) pe_int (fun _ _ => rfl)) (pv 0)) (pe_and (pe_chain op_le op_lt pe_int (pe_ix (ixT_K (K := K) rfl) (pv 1) pe_int (fun _ _ => rfl)) (pv 0)) (pe_one (pe_cmpR op_ne (pe_ix (ixT_K (K := K) rfl) (pv 1) pe_int (fun _ _ => rfl)) (pe_ix (ixT_K (K := K) rfl) (pv 1) pe_int (fun _ _ => rfl)) (nomark _)))))))))))), ?_⟩
  cases o with
  | none =>
    obtain ⟨k, hk, hn⟩ := hk
    refine ⟨_, rfl, _, _, _, _, false, rfl, .ty "tuple", hk.ty, kit_ty (by rw [kit_tup, hn]), false, rfl, iteT ?_⟩
    exact q _ (Same.refl H)
  | some ks =>
    obtain ⟨a, xs, rfl, ha, hp⟩ := hk
    refine ⟨_, rfl, _, _, _, _, true, rfl, .ty "tuple", (HasK.tup ha).ty, kit_ty (kit_tup (.tup xs)), true, rfl, iteF ?_⟩
    refine ⟨_, rfl, Nat.zero_le _, fun e0 he0 => ?_⟩
    have s1 : Same H (upd H e0 (.tup [])) := same_new he0
    refine ⟨a, e0, xs, rfl, rfl, s1 _ _ ha, upd_same, _, rfl, ?_⟩
    have ha1 := s1 _ _ ha
    generalize upd H e0 (.tup []) = H1 at *
    cases hp with
    | nil => exact iteT (q _ s1)
    | @cons x0 k0 xr kr h0 hr0 =>
      have hrl : xr.length = kr.length := Paired.length hr0
      refine iteF ?_
      have h01 := h0.ext (Ext.same s1)
      refine ⟨_, rfl, a, _, 0, _, rfl, rfl, SqT.of ha1, atI_nat (j := 0) rfl, _, _, _, _, _, rfl, .ty "str", h01.ty, kit_ty (kit_str k0), _, rfl, ite2 (fun e1 => ?_) (fun e1 => ?_)⟩
      · have hn : isStrK k0 = false := by
          cases hz : isStrK k0 with
          | false => rfl
          | true =>
            rw [hz] at e1
            exact Bool.noConfusion e1
        have ez : stepO many (some (k0 :: kr)) = false := step_not_str hn
        rw [ez] at q
        exact q _ s1
      have hstr : isStrK k0 = true := by
        cases hz : isStrK k0 with
        | true => rfl
        | false =>
          rw [hz] at e1
          exact absurd rfl e1
      obtain ⟨w0, rfl⟩ : ∃ w0, k0 = .str w0 := by
        cases k0 <;> first | exact ⟨_, rfl⟩ | exact absurd hstr (by simp [isStrK])
      cases h0
      -- the loop over the rest
      refine ⟨_, rfl, 1, rfl, a, _, rfl, SqT.of ha1, fun z => absurd (z.1.symm.trans (cut_one _ _)) (by decide), fun _ p hpn => ?_⟩
      have s2 : Same H (upd H1 p (.tup (cutV (.str w0 :: xr) (some 1) none))) := s1.trans (same_new hpn)
      have hP : (upd H1 p (.tup (cutV (.str w0 :: xr) (some 1) none))) p = some (.tup xr) := by
        rw [upd_same, cut_rest]
      generalize upd H1 p (.tup (cutV (.str w0 :: xr) (some 1) none)) = H2 at *
      have ha2 := s2 _ _ ha
      refine ⟨p, rfl, ⟨_, SqT.of hP⟩, for_tup (K := K) (a := p) (xs := xr) (fun i σ H' => H' = H2 ∧ ∃ o2, σ = [some (.int many), some (.ref a), o2] ∧ ∀ k ∈ kr.take i, wholeK k = true) ⟨rfl, none, rfl, by simp⟩ (fun i σ H' _ h => by rw [h.1]; exact SqT.of hP) ?_ ?_⟩
      · rintro i x σ H' hx ⟨rfl, o2, rfl, hw⟩
        obtain ⟨k, hk, hxk⟩ := paired_at hr0 hx
        have hxk2 := hxk.ext (Ext.same s2)
        have hmem : k ∈ kr := List.mem_of_getElem? hk
        refine ⟨_, rfl, _, _, _, _, _, rfl, .ty "bool", hxk2.ty, kit_ty (kit_bool k), _, rfl, ite2 (fun e2 => ?_) (fun e2 => ?_)⟩
        · have ez : stepO many (some (.str w0 :: kr)) = false := step_not_whole hmem (by cases k <;> first | rfl | exact absurd e2 (by simp [isBoolK]))
          rw [ez] at q
          exact iteT (q _ s2)
        · refine ⟨_, rfl, _, _, _, _, _, rfl, .ty "int", hxk2.ty, kit_ty (kit_int k), _, rfl, ite2 (fun e3 => ?_) (fun e3 => ?_)⟩
          · have ez : stepO many (some (.str w0 :: kr)) = false := step_not_whole hmem (by cases k <;> first | rfl | exact absurd e3 (by simp [isIntK]))
            rw [ez] at q
            exact q _ s2
          · refine ⟨rfl, _, rfl, fun k' hk' => ?_⟩
            rw [List.take_add_one, hk] at hk'
            rcases List.mem_append.mp hk' with z | z
            · exact hw k' z
            · have ek : k' = k := by simpa using z
              subst ek
              cases k' <;> first | rfl | exact absurd rfl e2 | exact absurd rfl e3
      · rintro σ H' ⟨rfl, o2, rfl, hw⟩
        rw [hrl, List.take_length] at hw
        obtain ⟨ns, rfl, rfl⟩ := all_ints hr0 hw
        have st : ∀ wd : Str, eqK (.str w0) wd = decide (w0 = wd) := fun _ => rfl
        by_cases ht : w0 = "turn"
        · subst ht
          have ez : stepO many (some (.str "turn" :: ns.map Kd.int)) = turnK many (ns.map Kd.int) := by
            show (if eqK (.str "turn") "add" = true then addK many (ns.map Kd.int) else if eqK (.str "turn") "swap" = true then swapK many (ns.map Kd.int) else if eqK (.str "turn") "turn" = true then turnK many (ns.map Kd.int) else false) = _
            rw [st, st, st, decide_eq_false n_ta, decide_eq_false n_ts, decide_eq_true rfl]
            rfl
          rw [ez] at q
          refine ⟨_, rfl, a, _, 0, _, rfl, rfl, SqT.of ha2, atI_nat (j := 0) rfl, rfl, _, rfl, iteS rfl ?_⟩
          refine ⟨_, rfl, a, _, rfl, .inr (SqT.of ha2), rfl, _, rfl, ite2 (fun e2 => ?_) (fun e2 => ?_)⟩
          · have el : ((V.str "turn" :: ns.map V.int).length : Int) = 2 := eq_yes e2
            simp only [List.length_cons, List.length_map] at el
            rcases ns with _ | ⟨i, _ | ⟨j, r⟩⟩
            · simp at el
            · refine ⟨_, rfl, a, _, 1, _, rfl, rfl, SqT.of ha2, atI_nat (j := 1) rfl, 0, i, rfl, rfl, _, rfl, ite2 (fun e3 => ?_) (fun e3 => ?_)⟩
              · refine ⟨_, rfl, _, _, rfl, rfl, ?_⟩
                have ew : turnK many (List.map Kd.int [i]) = decide (i < many) := by
                  show (decide (0 ≤ i) && decide (i < many)) = _
                  rw [e3, Bool.true_and]
                rw [ew] at q
                exact q _ s2
              · have ew : turnK many (List.map Kd.int [i]) = false := by
                  show (decide (0 ≤ i) && decide (i < many)) = _
                  rw [Bool.eq_false_iff.mpr e3, Bool.false_and]
                rw [ew] at q
                exact q _ s2
            · simp only [List.length_cons] at el
              omega
          · have el : ((V.str "turn" :: ns.map V.int).length : Int) ≠ 2 := eq_no e2
            simp only [List.length_cons, List.length_map] at el
            have ew : turnK many (ns.map Kd.int) = false := by
              rcases ns with _ | ⟨i, _ | ⟨j, r⟩⟩
              · rfl
              · exact absurd rfl el
              · rfl
            rw [ew] at q
            exact q _ s2
        refine ⟨_, rfl, a, _, 0, _, rfl, rfl, SqT.of ha2, atI_nat (j := 0) rfl, rfl, _, rfl, iteN (fun z => ht (V.str.inj z)) ?_⟩
        by_cases hs : w0 = "swap"
        · subst hs
          have ez : stepO many (some (.str "swap" :: ns.map Kd.int)) = swapK many (ns.map Kd.int) := by
            show (if eqK (.str "swap") "add" = true then addK many (ns.map Kd.int) else if eqK (.str "swap") "swap" = true then swapK many (ns.map Kd.int) else if eqK (.str "swap") "turn" = true then turnK many (ns.map Kd.int) else false) = _
            rw [st, st, decide_eq_false n_sa, decide_eq_true rfl]
            rfl
          rw [ez] at q
          refine ⟨_, rfl, a, _, 0, _, rfl, rfl, SqT.of ha2, atI_nat (j := 0) rfl, rfl, _, rfl, iteS rfl ?_⟩
          refine ⟨_, rfl, a, _, rfl, .inr (SqT.of ha2), rfl, _, rfl, ite2 (fun e2 => ?_) (fun e2 => ?_)⟩
          · have el : ((V.str "swap" :: ns.map V.int).length : Int) ≠ 3 := ne_yes e2
            simp only [List.length_cons, List.length_map] at el
            have ew : swapK many (ns.map Kd.int) = false := by
              rcases ns with _ | ⟨i, _ | ⟨j, _ | ⟨k, r⟩⟩⟩
              · rfl
              · rfl
              · exact absurd rfl el
              · rfl
            rw [ew] at q
            exact q _ s2
          have el : ((V.str "swap" :: ns.map V.int).length : Int) = 3 := ne_no e2
          simp only [List.length_cons, List.length_map] at el
          obtain ⟨i, j, rfl⟩ : ∃ i j, ns = [i, j] := by
            rcases ns with _ | ⟨i, _ | ⟨j, _ | ⟨k, r⟩⟩⟩
            · simp at el
            · simp at el
            · exact ⟨i, j, rfl⟩
            · simp only [List.length_cons] at el
              omega
          refine ⟨_, rfl, a, _, 0, _, rfl, rfl, SqT.of ha2, atI_nat (j := 0) rfl, rfl, _, rfl, iteN (fun z => n_sa (V.str.inj z)) ?_⟩
          refine iteF ?_
          refine ⟨_, rfl, a, _, 0, _, rfl, rfl, SqT.of ha2, atI_nat (j := 0) rfl, rfl, _, rfl, iteNS rfl (iteF ?_)⟩
          have eu : swapK many (List.map Kd.int [i, j]) = ((decide (0 ≤ i) && decide (i < many)) && ((decide (0 ≤ j) && decide (j < many)) && !decide (V.int i = V.int j))) := rfl
          rw [eu] at q
          refine ⟨_, rfl, a, _, 1, _, rfl, rfl, SqT.of ha2, atI_nat (j := 1) rfl, 0, i, rfl, rfl, _, rfl, ite2 (fun f1 => ?_) (fun f1 => ?_)⟩
          · refine ⟨_, rfl, _, _, rfl, rfl, _, rfl, ite2 (fun f2 => ?_) (fun f2 => ?_)⟩
            · rw [f1, f2, Bool.true_and, Bool.true_and] at q
              refine ⟨_, rfl, a, _, 2, _, rfl, rfl, SqT.of ha2, atI_nat (j := 2) rfl, 0, j, rfl, rfl, _, rfl, ite2 (fun f3 => ?_) (fun f3 => ?_)⟩
              · refine ⟨_, rfl, _, _, rfl, rfl, _, rfl, ite2 (fun f4 => ?_) (fun f4 => ?_)⟩
                · rw [f3, f4, Bool.true_and, Bool.true_and] at q
                  refine ⟨_, rfl, a, _, 1, _, rfl, rfl, SqT.of ha2, atI_nat (j := 1) rfl, _, rfl, a, _, 2, _, rfl, rfl, SqT.of ha2, atI_nat (j := 2) rfl, rfl, ?_⟩
                  exact q _ s2
                · rw [f3, Bool.eq_false_iff.mpr f4, Bool.and_false, Bool.false_and] at q
                  exact q _ s2
              · refine ⟨false, rfl, iteF ?_⟩
                rw [Bool.eq_false_iff.mpr f3, Bool.false_and, Bool.false_and] at q
                exact q _ s2
            · rw [f1, Bool.eq_false_iff.mpr f2, Bool.and_false, Bool.false_and] at q
              exact q _ s2
          · refine ⟨false, rfl, iteF ?_⟩
            rw [Bool.eq_false_iff.mpr f1, Bool.false_and, Bool.false_and] at q
            exact q _ s2
        · by_cases hd : w0 = "add"
          · subst hd
            have ez : stepO many (some (.str "add" :: ns.map Kd.int)) = addK many (ns.map Kd.int) := by
              show (if eqK (.str "add") "add" = true then addK many (ns.map Kd.int) else if eqK (.str "add") "swap" = true then swapK many (ns.map Kd.int) else if eqK (.str "add") "turn" = true then turnK many (ns.map Kd.int) else false) = _
              rw [st, decide_eq_true rfl]
              rfl
            rw [ez] at q
            refine ⟨_, rfl, a, _, 0, _, rfl, rfl, SqT.of ha2, atI_nat (j := 0) rfl, rfl, _, rfl, iteN (fun z => hs (V.str.inj z)) (iteF ?_)⟩
            refine ⟨_, rfl, a, _, 0, _, rfl, rfl, SqT.of ha2, atI_nat (j := 0) rfl, rfl, _, rfl, iteS rfl ?_⟩
            refine ⟨_, rfl, a, _, rfl, .inr (SqT.of ha2), rfl, _, rfl, ite2 (fun e2 => ?_) (fun e2 => ?_)⟩
            · have el : ((V.str "add" :: ns.map V.int).length : Int) ≠ 4 := ne_yes e2
              simp only [List.length_cons, List.length_map] at el
              have ew : addK many (ns.map Kd.int) = false := by
                rcases ns with _ | ⟨i, _ | ⟨j, _ | ⟨k, _ | ⟨l, r⟩⟩⟩⟩
                · rfl
                · rfl
                · rfl
                · exact absurd rfl el
                · rfl
              rw [ew] at q
              exact q _ s2
            have el : ((V.str "add" :: ns.map V.int).length : Int) = 4 := ne_no e2
            simp only [List.length_cons, List.length_map] at el
            obtain ⟨i, j, k, rfl⟩ : ∃ i j k, ns = [i, j, k] := by
              rcases ns with _ | ⟨i, _ | ⟨j, _ | ⟨k, _ | ⟨l, r⟩⟩⟩⟩
              · simp at el
              · simp at el
              · simp at el
              · exact ⟨i, j, k, rfl⟩
              · simp only [List.length_cons] at el
                omega
            refine ⟨_, rfl, a, _, 0, _, rfl, rfl, SqT.of ha2, atI_nat (j := 0) rfl, rfl, _, rfl, ?_⟩
            refine (?_ : if (!decide (V.str "add" = V.str "swap")) = true then _ else _)
            rw [decide_eq_false (fun z => hs (V.str.inj z))]
            refine iteT ?_
            refine ⟨_, rfl, a, _, 0, _, rfl, rfl, SqT.of ha2, atI_nat (j := 0) rfl, rfl, _, rfl, iteNS rfl ?_⟩
            have eu : addK many (List.map Kd.int [i, j, k]) = ((decide (0 ≤ i) && decide (i < many)) && ((decide (0 ≤ j) && decide (j < many)) && !decide (V.int i = V.int j))) := by
              show (unlikeK many (.int i) (.int j) && true) = _
              rw [Bool.and_true]
              rfl
            rw [eu] at q
            refine ⟨_, rfl, a, _, 1, _, rfl, rfl, SqT.of ha2, atI_nat (j := 1) rfl, 0, i, rfl, rfl, _, rfl, ite2 (fun f1 => ?_) (fun f1 => ?_)⟩
            · refine ⟨_, rfl, _, _, rfl, rfl, _, rfl, ite2 (fun f2 => ?_) (fun f2 => ?_)⟩
              · rw [f1, f2, Bool.true_and, Bool.true_and] at q
                refine ⟨_, rfl, a, _, 2, _, rfl, rfl, SqT.of ha2, atI_nat (j := 2) rfl, 0, j, rfl, rfl, _, rfl, ite2 (fun f3 => ?_) (fun f3 => ?_)⟩
                · refine ⟨_, rfl, _, _, rfl, rfl, _, rfl, ite2 (fun f4 => ?_) (fun f4 => ?_)⟩
                  · rw [f3, f4, Bool.true_and, Bool.true_and] at q
                    refine ⟨_, rfl, a, _, 1, _, rfl, rfl, SqT.of ha2, atI_nat (j := 1) rfl, _, rfl, a, _, 2, _, rfl, rfl, SqT.of ha2, atI_nat (j := 2) rfl, rfl, ?_⟩
                    exact q _ s2
                  · rw [f3, Bool.eq_false_iff.mpr f4, Bool.and_false, Bool.false_and] at q
                    exact q _ s2
                · refine ⟨false, rfl, iteF ?_⟩
                  rw [Bool.eq_false_iff.mpr f3, Bool.false_and, Bool.false_and] at q
                  exact q _ s2
              · rw [f1, Bool.eq_false_iff.mpr f2, Bool.and_false, Bool.false_and] at q
                exact q _ s2
            · refine ⟨false, rfl, iteF ?_⟩
              rw [Bool.eq_false_iff.mpr f1, Bool.false_and, Bool.false_and] at q
              exact q _ s2
          · have ez : stepO many (some (.str w0 :: ns.map Kd.int)) = false := by
              show (if eqK (.str w0) "add" = true then addK many (ns.map Kd.int) else if eqK (.str w0) "swap" = true then swapK many (ns.map Kd.int) else if eqK (.str w0) "turn" = true then turnK many (ns.map Kd.int) else false) = _
              rw [st, st, st, decide_eq_false hd, decide_eq_false hs, decide_eq_false ht]
              rfl
            rw [ez] at q
            refine ⟨_, rfl, a, _, 0, _, rfl, rfl, SqT.of ha2, atI_nat (j := 0) rfl, rfl, _, rfl, iteN (fun z => hs (V.str.inj z)) (iteF ?_)⟩
            refine ⟨_, rfl, a, _, 0, _, rfl, rfl, SqT.of ha2, atI_nat (j := 0) rfl, rfl, _, rfl, iteN (fun z => hd (V.str.inj z)) (iteF ?_)⟩
            refine ⟨_, rfl, a, _, 0, _, rfl, rfl, SqT.of ha2, atI_nat (j := 0) rfl, rfl, _, rfl, ?_⟩
            refine (?_ : if (!decide (V.str w0 = V.str "swap")) = true then _ else _)
            rw [decide_eq_false (fun z => hs (V.str.inj z))]
            refine iteT ?_
            refine ⟨_, rfl, a, _, 0, _, rfl, rfl, SqT.of ha2, atI_nat (j := 0) rfl, rfl, _, rfl, ?_⟩
            refine (?_ : if (!decide (V.str w0 = V.str "add")) = true then _ else _)
            rw [decide_eq_false (fun z => hd (V.str.inj z))]
            exact iteT (q _ s2)

/-! ### a step bent -/
theorem sl_TKn {K : PySem.W.Frag} {n : Nat} {H : Hp} {v : V} {lo : Option Int} {Q : VK} {σ : L2.St} (h : TK n H v) (q : ∀ v' H', Same H H' → TK n H' v' → Q v' H') : tNoPart σ H (fun u H3 => rSlA K v lo u H3 Q) := sl_TK (lo := lo) (hi := none) h q
def rNum10 : V → Hp → VK → Prop := fun x H Q => ∃ p, x = .ref p ∧ LP H p ∧ ∀ r H', LP H' p → But p H H' → Ext H H' → Q (.int r) H'
theorem ok_law_number (T : Txt K mg) : Fn P w K mg base 2 "_law_number" ["_law_pen_here"] (sp1 rNum10) := by
  have G_law_draw := ok_law_draw (P := P) (w := w) (base := base) T
  refine T.d_law_number.ok sc_law_number len1 fun f cdv A outer s H vs Q E hr hg h => ?_
  obtain ⟨_, rfl, p, rfl, lp, q⟩ := h
  refine ⟨_, (pss_cons (ps_if (pt_cmpR op_eq (pe_fn G_law_draw (hr.mono (by decide)) hg (by rfl) (pa_cons (pv 0) (pa_cons pe_int pa_nil))) pe_int (nomark _))
(pss_one (ps_ret (pe_op op_mul (pe_op op_sub (pe_op op_sub (pe_op op_pow pe_int pe_int) pe_int) (pe_fn G_law_draw (hr.mono (by decide)) hg (by rfl) (pa_cons (pv 0) (pa_cons pe_int pa_nil)))) (pe_op op_sub pe_int (pe_op op_mul pe_int (pe_fn G_law_draw (hr.mono (by decide)) hg (by rfl) (pa_cons (pv 0) (pa_cons pe_int pa_nil))))))))
pss_nil)
(pss_one (ps_ret (pe_op op_sub (pe_fn G_law_draw (hr.mono (by decide)) hg (by rfl) (pa_cons (pv 0) (pa_cons pe_int pa_nil))) pe_int)))), ?_⟩
  refine ⟨_, rfl, _, _, rfl, p, _, rfl, rfl, lp, by decide, by decide, fun r H1 r0 r1 lp1 b1 x1 => ?_⟩
  refine ⟨rfl, _, rfl, ite2 (fun e => ?_) (fun e => ?_)⟩
  · refine ⟨10, 30, rfl, rfl, ⟨by decide, by decide, by decide⟩, _, _, rfl, rfl, _, rfl, _, _, rfl, p, _, rfl, rfl, lp1, by decide, by decide, fun r2 H2 s0 s1 lp2 b2 x2 => ?_⟩
    refine ⟨_, _, rfl, rfl, _, rfl, _, _, rfl, p, _, rfl, rfl, lp2, by decide, by decide, fun r3 H3 t0 t1 lp3 b3 x3 => ?_⟩
    refine ⟨_, _, rfl, rfl, .inl ⟨by decide, by decide⟩, _, _, rfl, rfl, _, _, rfl, rfl, .inr ⟨by omega, by omega⟩, ?_⟩
    exact q _ _ lp3 ((b1.trans b2).trans b3) ((x1.trans x2).trans x3)
  · refine ⟨_, rfl, _, _, rfl, p, _, rfl, rfl, lp1, by decide, by decide, fun r2 H2 s0 s1 lp2 b2 x2 => ?_⟩
    refine ⟨_, _, rfl, rfl, ?_⟩
    exact q _ _ lp2 (b1.trans b2) (x1.trans x2)
theorem same_fresh {H H' : Hp} {D : Addr} {o : HO} (s : Same H H') (n : H D = none) : Same H (upd H' D o) := fun b u e => by
  rw [upd_ne (ne_of_none e n)]
  exact s b u e
/-- a list at D of things of known kinds -/
def Lst (H : Hp) (D : Addr) (n : Nat) : Prop := ∃ vs, H D = some (.lst vs) ∧ vs.length ≤ n ∧ ∀ v ∈ vs, Gd H v
theorem Lst.same {H H' : Hp} {D : Addr} {n : Nat} (h : Lst H D n) (s : Same H H') : Lst H' D n := by
  obtain ⟨vs, h1, h2, h3⟩ := h
  exact ⟨vs, s _ _ h1, h2, fun v hv => (h3 v hv).ext (Ext.same s)⟩
theorem Lst.app {H : Hp} {D : Addr} {n : Nat} {vs : List V} {v : V} (h : H D = some (.lst vs)) (hl : vs.length ≤ n) (hg : ∀ v ∈ vs, Gd H v) (hv : Gd H v) : Lst (upd H D (.lst (vs ++ [v]))) D (n + 1) := by
  refine ⟨_, upd_same, by rw [List.length_append]; exact Nat.add_le_add_right hl 1, fun u hu => ?_⟩
  rcases List.mem_append.mp hu with z | z
  · exact (hg u z).ext (Ext.lst h)
  · rw [List.mem_singleton.mp z]
    exact hv.ext (Ext.lst h)
def rBent : V → V → V → Hp → VK → Prop := fun x y z H Q => ∃ (p : Addr) (many : Int) (st : Addr) (xs : List V), x = .ref p ∧ y = .int many ∧ z = .ref st ∧ LP H p ∧ H st = some (.tup xs) ∧ 2 ≤ xs.length ∧ xs.length ≤ 4 ∧ (∀ v ∈ xs, ∃ k, HasK H v k) ∧
  ∀ D H', Lst H' D 60 → LP H' p → But p H H' → Ext H H' → H D = none → Q (.ref D) H'
theorem ok_law_bent (T : Txt K mg) : Fn P w K mg base 2 "_law_bent" ["_law_pen_here", "_law_many", "_law_step"] (sp3 rBent) := by
  have G_law_draw := ok_law_draw (P := P) (w := w) (base := base) T
  refine T.d_law_bent.ok sc_law_bent len3 fun f cdv A outer s H vs Q E hr hg h => ?_
  obtain ⟨_, _, _, rfl, p, many, st, xs, rfl, rfl, rfl, lp, hst0, l2, l4, hks, q⟩ := h
  refine ⟨_, (pss_cons (ps_set (i := 3) sc_law_bent.nd rfl (by first | exact Or.inl rfl | exact Or.inr rfl) (pe_op op_add pe_int (pe_fn G_law_draw (hr.mono (by decide)) hg (by rfl) (pa_cons (pv 0) (pa_cons (pe_op op_sub (pe_callB (len_K (K := K) rfl) (by rfl) T.n_len (by decide +kernel) (pa_cons (pv 2) pa_nil)) pe_int) pa_nil)))))
(pss_cons (ps_set (i := 4) sc_law_bent.nd rfl (by first | exact Or.inl rfl | exact Or.inr rfl) (pe_lst (pa_cons pe_bl (pa_cons pe_bl (pa_cons pe_non (pa_cons pe_str (pa_cons (pe_tup (pa_cons pe_int pa_nil)) (pa_cons (pe_lst (pa_cons pe_int pa_nil)) (pa_cons pe_dnewK (pa_cons (pe_un un_neg pe_int) (pa_cons (pv 1) (pa_cons (pe_op op_add (pv 1) (pe_op op_pow pe_int pe_int)) (pa_cons (pe_ix (ixT_K (K := K) rfl) (pv 2) pe_int (fun _ _ => rfl)) pa_nil)))))))))))))
(pss_cons (ps_setLc (i := 5) (own := [("_law_one", 7)]) rfl sc_law_bent.nd rfl rfl (sw_true rfl rfl rfl (by decide +kernel)) (pi_list (pv 4)) (blkOk_by (own := [("_law_one", 7)]) (N := N_law_bent) (sc := defScope s_law_bent) (by decide +kernel)) (fun _ _ _ _ _ => (pg_name (i := 7) sc_law_bent.nd rfl (by first | exact Or.inl rfl | exact Or.inr rfl))) (fun _ _ _ _ _ => pts_nil) (fun _ _ _ _ _ => (pe_op (cat_K (K := K) rfl) (pe_op (cat_K (K := K) rfl) (pe_slice (sl_K (K := K) rfl) (pv 2) po_none (po_some (pv 3))) (pe_tup (pa_cons (pv 7) pa_nil))) (pe_slice (sl_K (K := K) rfl) (pv 2) (po_some (pe_op op_add (pv 3) pe_int)) po_none))))
(pss_cons (ps_for PassesOwn.never rfl (pi_tup (pe_tup (pa_cons pe_str (pa_cons pe_str (pa_cons pe_str (pa_cons pe_str (pa_cons pe_str (pa_cons pe_str (pa_cons pe_str (pa_cons pe_non (pa_cons pe_int (pa_cons pe_bl (pa_cons (pe_tup (pa_cons pe_str pa_nil)) (pa_cons (pe_lst (pa_cons pe_str pa_nil)) (pa_cons pe_dnewK pa_nil))))))))))))))) (pg_name (i := 6) sc_law_bent.nd rfl (by first | exact Or.inl rfl | exact Or.inr rfl))
(pss_one (ps_expr (pe_bm PySem.F.plainAttrs_list PySem.F.slot_list_append PySem.F.type_list_append mt_append (pv 5) (pa_cons (pe_op (cat_K (K := K) rfl) (pe_tup (pa_cons (pv 6) pa_nil)) (pe_slice (sl_K (K := K) rfl) (pv 2) (po_some pe_int) po_none)) pa_nil)))))
(pss_cons (ps_set (i := 5) sc_law_bent.nd rfl (by first | exact Or.inl rfl | exact Or.inr rfl) (pe_op op_cat (pv 5) (pe_lst (pa_cons (pe_callTy call_list_of (by rfl) T.n_list (by decide +kernel) (pa_cons (pv 2) pa_nil)) (pa_cons (pe_slice (sl_K (K := K) rfl) (pv 2) (po_some pe_int) po_none) (pa_cons (pe_slice (sl_K (K := K) rfl) (pv 2) po_none (po_some (pe_un un_neg pe_int))) (pa_cons (pe_op (cat_K (K := K) rfl) (pv 2) (pe_tup (pa_cons pe_int pa_nil))) (pa_cons (pe_op (cat_K (K := K) rfl) (pv 2) (pe_tup (pa_cons pe_int pa_nil))) (pa_cons (pe_tup (pa_cons (pv 2) pa_nil)) (pa_cons (pe_slice (sl_K (K := K) rfl) (pv 2) po_none (po_some pe_int)) (pa_cons (pe_revT (pv 2)) pa_nil)))))))))))
(pss_one (ps_ret (pv 5)))))))), ?_⟩
  -- at
  refine ⟨_, rfl, _, rfl, st, _, rfl, .inr (SqT.of hst0), _, _, rfl, rfl, _, _, rfl, p, _, rfl, rfl, lp, by omega, by omega, fun r H1 r0 r1 lp1 b1 x1 => ?_⟩
  refine ⟨_, _, rfl, rfl, ?_⟩
  have hst1 : H1 st = some (.tup xs) := x1.t _ _ hst0
  have tk1 : TK 4 H1 (.ref st) := ⟨st, xs, rfl, hst1, l4, fun v hv => let ⟨k, hk⟩ := hks v hv; ⟨k, hk.ext x1⟩⟩
  obtain ⟨v1, hv1⟩ : ∃ v1, xs[1]? = some v1 := ⟨xs[1], List.getElem?_eq_getElem (by omega)⟩
  obtain ⟨kv1, hkv1⟩ : ∃ k, HasK H1 v1 k := let ⟨k, hk⟩ := hks v1 (List.mem_of_getElem? hv1); ⟨k, hk.ext x1⟩
  -- odd
  refine ⟨(by show 1 ≤ sizeLine; decide), fun t1 n1 => ?_⟩
  refine ⟨(by show 1 ≤ sizeLine; decide), fun t2 n2 => ?_⟩
  intro t3 n3
  have s1 : Same H1 (upd (upd (upd H1 t1 (.tup [.int 0])) t2 (.lst [.int 0])) t3 (.dK [])) := ((same_new n1).trans (same_new n2)).trans (same_new n3)
  have g1 : HasK (upd (upd (upd H1 t1 (.tup [.int 0])) t2 (.lst [.int 0])) t3 (.dK [])) (.ref t1) (.tup [.int 0]) := .tup ((same_new n3) _ _ ((same_new n2) _ _ upd_same))
  have g2 : HasK (upd (upd (upd H1 t1 (.tup [.int 0])) t2 (.lst [.int 0])) t3 (.dK [])) (.ref t2) .lst := .lst ((same_new n3) _ _ upd_same)
  have g3 : HasK (upd (upd (upd H1 t1 (.tup [.int 0])) t2 (.lst [.int 0])) t3 (.dK [])) (.ref t3) .dct := .dct upd_same
  generalize upd (upd (upd H1 t1 (.tup [.int 0])) t2 (.lst [.int 0])) t3 (.dK []) = H2 at *
  refine ⟨1, rfl, _, rfl, _, rfl, 10, 20, rfl, rfl, ⟨by decide, by decide, by decide⟩, _, _, rfl, rfl, _, rfl, st, _, 1, _, rfl, rfl, SqT.of (s1 _ _ hst1), atI_nat (j := 1) hv1, (by show 11 ≤ sizeLine; decide), fun O nO => ?_⟩
  have s2 : Same H1 (upd H2 O (.lst [.bl true, .bl false, .non, .str "0", .ref t1, .ref t2, .ref t3, .int (-1), .int many, .int (many + 10 ^ (20 : Int).toNat), v1])) := s1.trans (same_new nO)
  have hO : (upd H2 O (.lst [.bl true, .bl false, .non, .str "0", .ref t1, .ref t2, .ref t3, .int (-1), .int many, .int (many + 10 ^ (20 : Int).toNat), v1])) O = some (.lst [.bl true, .bl false, .non, .str "0", .ref t1, .ref t2, .ref t3, .int (-1), .int many, .int (many + 10 ^ (20 : Int).toNat), v1]) := upd_same
  have hodd : ∀ v ∈ ([.bl true, .bl false, .non, .str "0", .ref t1, .ref t2, .ref t3, .int (-1), .int many, .int (many + 10 ^ (20 : Int).toNat), v1] : List V), ∃ k, HasK (upd H2 O (.lst [.bl true, .bl false, .non, .str "0", .ref t1, .ref t2, .ref t3, .int (-1), .int many, .int (many + 10 ^ (20 : Int).toNat), v1])) v k := by
    have e2 : Ext H2 (upd H2 O (.lst [.bl true, .bl false, .non, .str "0", .ref t1, .ref t2, .ref t3, .int (-1), .int many, .int (many + 10 ^ (20 : Int).toNat), v1])) := Ext.same (same_new nO)
    intro v hv
    simp only [List.mem_cons, List.not_mem_nil, or_false] at hv
    rcases hv with rfl | rfl | rfl | rfl | rfl | rfl | rfl | rfl | rfl | rfl | rfl
    · exact ⟨_, .bl _⟩
    · exact ⟨_, .bl _⟩
    · exact ⟨_, .non⟩
    · exact ⟨_, .str _⟩
    · exact ⟨_, g1.ext e2⟩
    · exact ⟨_, g2.ext e2⟩
    · exact ⟨_, g3.ext e2⟩
    · exact ⟨_, .int _⟩
    · exact ⟨_, .int _⟩
    · exact ⟨_, .int _⟩
    · exact ⟨_, hkv1.ext (Ext.same s2)⟩
  generalize hos : ([.bl true, .bl false, .non, .str "0", .ref t1, .ref t2, .ref t3, .int (-1), .int many, .int (many + 10 ^ (20 : Int).toNat), v1] : List V) = os at *
  have hosl : os.length = 11 := by rw [← hos]; rfl
  generalize upd H2 O (.lst os) = H3 at *
  -- found
  refine ⟨_, rfl, O, rfl, ⟨_, SqL.of hO⟩, fun D nD => lc_list (K := K) (a := O) (xs := os) (fun i H' => Same H3 H' ∧ Lst H' D i) ⟨same_new nD, [], upd_same, Nat.le_refl _, by simp⟩ (fun i H' _ h => SqL.of (h.1 _ _ hO)) ?_ ?_⟩
  · rintro i one H4 hone ⟨s4, acc, hD, hacc, hgd⟩
    obtain ⟨ko, hko⟩ := hodd one (List.mem_of_getElem? hone)
    have tk4 : TK 4 H4 (.ref st) := tk1.ext (Ext.same (s2.trans s4))
    refine ⟨rfl, _, rfl, _, rfl, _, rfl, sl_TK tk4 fun u1 H5 s5 tk5 => ?_⟩
    refine ⟨_, rfl, (by show 1 ≤ sizeLine; decide), fun p1 np1 => ?_⟩
    have hko5 := hko.ext (Ext.same (s4.trans s5))
    refine cat_TK (tk5.ext (Ext.same (same_new np1))) (one_TK np1 hko5) (by decide) fun u2 H6 s6 tk6 => ?_
    have s46 : Same H4 H6 := (s5.trans (same_new np1)).trans s6
    refine ⟨_, rfl, _, rfl, _, _, rfl, rfl, _, rfl, ?_⟩
    refine sl_TKn (tk4.ext (Ext.same s46)) fun u3 H7 s7 tk7 => ?_
    refine cat_TK (tk6.ext (Ext.same s7)) tk7 (by decide) fun u4 H8 s8 tk8 => ?_
    have s48 : Same H4 H8 := (s46.trans s7).trans s8
    have hD8 := s48 _ _ hD
    have hil : i < 11 := by
      have := (List.getElem?_eq_some_iff.mp hone).1
      omega
    refine ⟨acc, hD8, small1000 (by omega), same_fresh (s4.trans s48) nD, Lst.app hD8 hacc (fun v hv => (hgd v hv).ext (Ext.same s48)) tk8.gd⟩
  rintro H4 ⟨s4, hL4⟩
  rw [hosl] at hL4
  have sA : Same H1 H4 := s2.trans s4
  have nD1 : H1 D = none := s2.free nD
  -- the words
  refine ⟨(by show 1 ≤ sizeLine; decide), fun w1 m1 => ?_⟩
  refine ⟨(by show 1 ≤ sizeLine; decide), fun w2 m2 => ?_⟩
  intro w3 m3
  have sB : Same H4 (upd (upd (upd H4 w1 (.tup [.str "add"])) w2 (.lst [.str "add"])) w3 (.dK [])) := ((same_new m1).trans (same_new m2)).trans (same_new m3)
  have k1 : HasK (upd (upd (upd H4 w1 (.tup [.str "add"])) w2 (.lst [.str "add"])) w3 (.dK [])) (.ref w1) (.tup [.str "add"]) := .tup ((same_new m3) _ _ ((same_new m2) _ _ upd_same))
  have k2 : HasK (upd (upd (upd H4 w1 (.tup [.str "add"])) w2 (.lst [.str "add"])) w3 (.dK [])) (.ref w2) .lst := .lst ((same_new m3) _ _ upd_same)
  have k3 : HasK (upd (upd (upd H4 w1 (.tup [.str "add"])) w2 (.lst [.str "add"])) w3 (.dK [])) (.ref w3) .dct := .dct upd_same
  generalize upd (upd (upd H4 w1 (.tup [.str "add"])) w2 (.lst [.str "add"])) w3 (.dK []) = H5 at *
  refine ⟨(by show 13 ≤ sizeLine; decide), fun W nW => ?_⟩
  have hws : ∀ v ∈ ([.str "Add", .str "adds", .str "", .str "turns", .str "add", .str "swap", .str "turn", .non, .int 0, .bl true, .ref w1, .ref w2, .ref w3] : List V), ∃ k, HasK H5 v k := by
    intro v hv
    simp only [List.mem_cons, List.not_mem_nil, or_false] at hv
    rcases hv with rfl | rfl | rfl | rfl | rfl | rfl | rfl | rfl | rfl | rfl | rfl | rfl | rfl
    · exact ⟨_, .str _⟩
    · exact ⟨_, .str _⟩
    · exact ⟨_, .str _⟩
    · exact ⟨_, .str _⟩
    · exact ⟨_, .str _⟩
    · exact ⟨_, .str _⟩
    · exact ⟨_, .str _⟩
    · exact ⟨_, .non⟩
    · exact ⟨_, .int _⟩
    · exact ⟨_, .bl _⟩
    · exact ⟨_, k1⟩
    · exact ⟨_, k2⟩
    · exact ⟨_, k3⟩
  have sC : Same H5 (upd H5 W (.tup [.str "Add", .str "adds", .str "", .str "turns", .str "add", .str "swap", .str "turn", .non, .int 0, .bl true, .ref w1, .ref w2, .ref w3])) := same_new nW
  have hW : (upd H5 W (.tup [.str "Add", .str "adds", .str "", .str "turns", .str "add", .str "swap", .str "turn", .non, .int 0, .bl true, .ref w1, .ref w2, .ref w3])) W = some (.tup [.str "Add", .str "adds", .str "", .str "turns", .str "add", .str "swap", .str "turn", .non, .int 0, .bl true, .ref w1, .ref w2, .ref w3]) := upd_same
  generalize hwl : ([.str "Add", .str "adds", .str "", .str "turns", .str "add", .str "swap", .str "turn", .non, .int 0, .bl true, .ref w1, .ref w2, .ref w3] : List V) = ws at *
  have hwsl : ws.length = 13 := by rw [← hwl]; rfl
  generalize upd H5 W (.tup ws) = H6 at *
  have s16 : Same H1 H6 := (sA.trans sB).trans sC
  refine ⟨W, rfl, ⟨_, SqT.of hW⟩, for_tup (K := K) (a := W) (xs := ws) (fun i σ H' => (∃ o6, σ = [some (.ref p), some (.int many), some (.ref st), some (.int (1 + r)), some (.ref O), some (.ref D), o6, none]) ∧ Same H1 H' ∧ Ext H6 H' ∧ Lst H' D (11 + i))
    ⟨⟨none, rfl⟩, s16, Ext.refl _, (hL4.same sB).same sC⟩ (fun i σ H' _ h => SqT.of (h.2.2.1.t _ _ hW)) ?_ ?_⟩
  · rintro i wd σ H7 hwd ⟨⟨o6, rfl⟩, s7, x7, acc, hD, hacc, hgd⟩
    obtain ⟨kw, hkw⟩ := hws wd (List.mem_of_getElem? hwd)
    have hkw7 := (hkw.ext (Ext.same sC)).ext x7
    have hil : i < 13 := by
      have := (List.getElem?_eq_some_iff.mp hwd).1
      omega
    refine ⟨_, rfl, .inl ⟨rfl, _, SqL.of hD⟩, _, rfl, (by show 1 ≤ sizeLine; decide), fun p1 np1 => ?_⟩
    have s78 : Same H7 (upd H7 p1 (.tup [wd])) := same_new np1
    refine ⟨_, rfl, 1, rfl, ?_⟩
    refine sl_TKn ((tk1.ext (Ext.same s7)).ext (Ext.same s78)) fun u1 H8 s8 tk8 => ?_
    refine cat_TK ((one_TK np1 hkw7).ext (Ext.same s8)) tk8 (by decide) fun u2 H9 s9 tk9 => ?_
    have s79 : Same H7 H9 := (s78.trans s8).trans s9
    have hD9 := s79 _ _ hD
    refine ⟨D, _, _, rfl, rfl, hD9, small1000 (by omega), ⟨_, rfl⟩, same_fresh (s7.trans s79) nD1, x7.trans ((Ext.same s79).trans (Ext.lst hD9)), ?_⟩
    exact Lst.app hD9 hacc (fun v hv => (hgd v hv).ext (Ext.same s79)) tk9.gd
  rintro σ H7 ⟨⟨o6, rfl⟩, s7, x7, hL7⟩
  rw [hwsl] at hL7
  -- the last eight
  have hst7 := s7 _ _ hst1
  have tk7 : TK 4 H7 (.ref st) := tk1.ext (Ext.same s7)
  refine ⟨_, rfl, _, rfl, st, _, rfl, .inr (SqT.of hst7), fun a1 na1 => ?_⟩
  have c1 : Same H7 (upd H7 a1 (.lst xs)) := same_new na1
  have d1 : Gd (upd H7 a1 (.lst xs)) (.ref a1) := (HasK.lst upd_same).gd rfl
  refine ⟨_, rfl, 1, rfl, ?_⟩
  refine sl_TKn (tk7.ext (Ext.same c1)) fun a2 G2 c2 d2 => ?_
  refine ⟨_, rfl, 1, rfl, _, rfl, sl_TK (tk7.ext (Ext.same (c1.trans c2))) fun a3 G3 c3 d3 => ?_⟩
  have c13 := (c1.trans c2).trans c3
  refine ⟨_, rfl, (by show 1 ≤ sizeLine; decide), fun q1 nq1 => ?_⟩
  have e1 : Same G3 (upd G3 q1 (.tup [.int 0])) := same_new nq1
  refine cat_TK (tk7.ext (Ext.same (c13.trans e1))) (one_TK nq1 (.int 0)) (by decide) fun a4 G4 c4 d4 => ?_
  have c14 := (c13.trans e1).trans c4
  refine ⟨_, rfl, (by show 1 ≤ sizeLine; decide), fun q2 nq2 => ?_⟩
  have e2 : Same G4 (upd G4 q2 (.tup [.int 1])) := same_new nq2
  refine cat_TK (tk7.ext (Ext.same (c14.trans e2))) (one_TK nq2 (.int 1)) (by decide) fun a5 G5 c5 d5 => ?_
  have c15 := (c14.trans e2).trans c5
  refine ⟨_, rfl, (by show 1 ≤ sizeLine; decide), fun a6 na6 => ?_⟩
  have e6 : Same G5 (upd G5 a6 (.tup [.ref st])) := same_new na6
  have d6 : TK 1 (upd G5 a6 (.tup [.ref st])) (.ref a6) := one_TK na6 (HasK.tup (c15 _ _ hst7))
  have c16 := c15.trans e6
  generalize upd G5 a6 (.tup [.ref st]) = G6 at *
  refine ⟨_, rfl, 1, rfl, ?_⟩
  refine sl_TK (tk7.ext (Ext.same c16)) fun a7 G7 c7 d7 => ?_
  have c17 := c16.trans c7
  refine ⟨_, rfl, st, _, rfl, SqT.of (c17 _ _ hst7), fun a8 na8 => ?_⟩
  have e8 : Same G7 (upd G7 a8 (.tup xs.reverse)) := same_new na8
  have d8 : TK 4 (upd G7 a8 (.tup xs.reverse)) (.ref a8) := ⟨a8, _, rfl, upd_same, by rw [List.length_reverse]; exact l4, fun v hv => let ⟨k, hk⟩ := hks v (List.mem_reverse.mp hv); ⟨k, ((hk.ext x1).ext (Ext.same (s7.trans c17))).ext (Ext.same e8)⟩⟩
  have c18 := c17.trans e8
  generalize upd G7 a8 (.tup xs.reverse) = G8 at *
  refine ⟨(by show 8 ≤ sizeLine; decide), fun L nL => ?_⟩
  have e9 : Same G8 (upd G8 L (.lst [.ref a1, a2, a3, a4, a5, .ref a6, a7, .ref a8])) := same_new nL
  obtain ⟨acc, hD, hacc, hgd⟩ := hL7.same (c18.trans e9)
  refine ⟨D, L, acc, _, rfl, rfl, hD, upd_same, ?_, fun F nF => ?_⟩
  · show acc.length + 8 ≤ sizeLine
    exact Nat.le_of_lt (small1000 (by omega))
  have e10 : Same (upd G8 L (.lst [.ref a1, a2, a3, a4, a5, .ref a6, a7, .ref a8])) (upd (upd G8 L (.lst [.ref a1, a2, a3, a4, a5, .ref a6, a7, .ref a8])) F (.lst (acc ++ [.ref a1, a2, a3, a4, a5, .ref a6, a7, .ref a8]))) := same_new nF
  have e8F : Same G8 (upd (upd G8 L (.lst [.ref a1, a2, a3, a4, a5, .ref a6, a7, .ref a8])) F (.lst (acc ++ [.ref a1, a2, a3, a4, a5, .ref a6, a7, .ref a8]))) := e9.trans e10
  refine ⟨_, rfl, ?_⟩
  have s1F := (s7.trans c18).trans e8F
  refine q F _ ⟨_, upd_same, ?_, fun v hv => ?_⟩ (lp1.same s1F) (b1.trans (But.same s1F)) (x1.trans (Ext.same s1F)) ?_
  · rw [List.length_append]
    show acc.length + 8 ≤ 60
    omega
  · rcases List.mem_append.mp hv with z | z
    · exact (hgd v z).ext (Ext.same e10)
    · simp only [List.mem_cons, List.not_mem_nil, or_false] at z
      have x8 := Ext.same e8F
      rcases z with rfl | rfl | rfl | rfl | rfl | rfl | rfl | rfl
      · exact (d1.ext (Ext.same (((((((c2.trans c3).trans e1).trans c4).trans e2).trans c5).trans e6).trans c7))).ext ((Ext.same e8).trans x8)
      · exact ((d2.gd).ext (Ext.same ((((((c3.trans e1).trans c4).trans e2).trans c5).trans e6).trans c7))).ext ((Ext.same e8).trans x8)
      · exact ((d3.gd).ext (Ext.same (((((e1.trans c4).trans e2).trans c5).trans e6).trans c7))).ext ((Ext.same e8).trans x8)
      · exact ((d4.gd).ext (Ext.same (((e2.trans c5).trans e6).trans c7))).ext ((Ext.same e8).trans x8)
      · exact ((d5.gd).ext (Ext.same (e6.trans c7))).ext ((Ext.same e8).trans x8)
      · exact ((d6.gd).ext (Ext.same c7)).ext ((Ext.same e8).trans x8)
      · exact (d7.gd).ext ((Ext.same e8).trans x8)
      · exact (d8.gd).ext x8
  · obtain ⟨x, y, z, hpp⟩ := id lp1
    have nF1 : H1 F = none := ((s7.trans c18).trans e9).free nF
    cases hF : H F with
    | none => rfl
    | some o =>
      by_cases hFp : F = p
      · rw [hFp, hpp] at nF1
        cases nF1
      · rw [b1 F o hFp hF] at nF1
        cases nF1

/-! ### the law -/
theorem sql_same {H H' : Hp} {a : Addr} {xs : List V} (s : Same H H') (h : SqL K H a xs) : SqL K H' a xs := by
  rcases h with (z | ⟨o, z⟩) | z
  · exact .inl (.inl (s _ _ z))
  · exact .inl (.inr ⟨o, s _ _ z⟩)
  · exact .inr z
theorem same_pen {H H1 H2 : Hp} {p : Addr} (n : H p = none) (s : Same H H1) (b : But p H1 H2) : Same H H2 := fun c o e => b c o (ne_of_none e n) (s c o e)
def Stp (H : Hp) (xs : List V) : Prop := 2 ≤ xs.length ∧ xs.length ≤ 4 ∧ ∀ v ∈ xs, ∃ k, HasK H v k
theorem Stp.ext {H H' : Hp} {xs : List V} (h : Stp H xs) (e : Ext H H') : Stp H' xs := ⟨h.1, h.2.1, fun v hv => let ⟨k, hk⟩ := h.2.2 v hv; ⟨k, hk.ext e⟩⟩
def StpAt (H : Hp) (v : V) : Prop := ∃ st xs, v = .ref st ∧ H st = some (.tup xs) ∧ Stp H xs
theorem StpAt.ext {H H' : Hp} {v : V} (h : StpAt H v) (e : Ext H H') : StpAt H' v := by
  obtain ⟨st, xs, h1, h2, h3⟩ := h
  exact ⟨st, xs, h1, e.t _ _ h2, h3.ext e⟩
def spLaw (K : PySem.W.Frag) : Sp := fun vs H Q _ => ∃ (a : Addr) (ns : List Int), vs = [.ref a] ∧ SqL K H a (ns.map V.int) ∧ ns.length ≤ 63 ∧ ∀ H', Q (.bl true) H'
theorem ok_law {f : Addr} {fd : FuncData} (T : Txt K mg) (F : Fun K "law" "law" s_law f fd) : FnG P w K mg base CX0 5 f fd ["_law_script"] (spLaw K) := by
  have G_law_pen := ok_law_pen (P := P) (w := w) (base := base) T
  have G_law_draw := ok_law_draw (P := P) (w := w) (base := base) T
  have G_law_number := ok_law_number (P := P) (w := w) (base := base) T
  have G_law_bent := ok_law_bent (P := P) (w := w) (base := base) T
  have G_law_is_step := ok_law_is_step (P := P) (w := w) (base := base) T
  have G_is_step := ok_is_step (P := P) (w := w) (base := base) T
  refine fng_mk F sc_law (fun vs H Q E h => ?_) (fun cdv A outer s H vs Q E hr hg h => ?_)
  · obtain ⟨a, ns, rfl, _⟩ := h
    rfl
  obtain ⟨a, ns, rfl, hS, hl, q⟩ := h
  refine ⟨_, PSs.nox (pss_cons (ps_for PassesOwn.never rfl (pi_range1 (by rfl) T.n_range (pa_cons (pe_callB (call_max2 rfl) (by rfl) T.n_max (by decide +kernel) (pa_cons pe_int (pa_cons (pe_callB (call_min2 rfl) (by rfl) T.n_min (by decide +kernel) (pa_cons pe_int (pa_cons (pe_callB (len_K (K := K) rfl) (by rfl) T.n_len (by decide +kernel) (pa_cons (pv 0) pa_nil)) pa_nil))) pa_nil))) pa_nil)) (pg_name (i := 1) sc_law.nd rfl (by first | exact Or.inl rfl | exact Or.inr rfl))
(pss_cons (ps_set (i := 2) sc_law.nd rfl (by first | exact Or.inl rfl | exact Or.inr rfl) (pe_fn G_law_pen (hr.mono (by decide)) hg (by rfl) (pa_cons (pv 0) (pa_cons (pv 1) pa_nil))))
(pss_cons (ps_set (i := 3) sc_law.nd rfl (by first | exact Or.inl rfl | exact Or.inr rfl) (pe_fn G_law_draw (hr.mono (by decide)) hg (by rfl) (pa_cons (pv 2) (pa_cons pe_int pa_nil))))
(pss_cons (ps_set (i := 4) sc_law.nd rfl (by first | exact Or.inl rfl | exact Or.inr rfl) (pe_fn G_law_draw (hr.mono (by decide)) hg (by rfl) (pa_cons (pv 2) (pa_cons (pe_callB (call_max2 rfl) (by rfl) T.n_max (by decide +kernel) (pa_cons pe_int (pa_cons (pv 3) pa_nil))) pa_nil))))
(pss_cons (ps_set (i := 5) sc_law.nd rfl (by first | exact Or.inl rfl | exact Or.inr rfl) (pe_fn G_law_draw (hr.mono (by decide)) hg (by rfl) (pa_cons (pv 2) (pa_cons (pe_callB (call_max2 rfl) (by rfl) T.n_max (by decide +kernel) (pa_cons pe_int (pa_cons (pv 3) pa_nil))) pa_nil))))
(pss_cons (ps_for PassesOwn.never rfl (pi_tup (pe_tup (pa_cons (pe_tup (pa_cons pe_str (pa_cons (pv 4) (pa_cons (pv 5) (pa_cons (pe_fn G_law_number (hr.mono (by decide)) hg (by rfl) (pa_cons (pv 2) pa_nil)) pa_nil))))) (pa_cons (pe_tup (pa_cons pe_str (pa_cons (pv 4) (pa_cons (pv 5) pa_nil)))) (pa_cons (pe_tup (pa_cons pe_str (pa_cons (pv 4) pa_nil))) pa_nil))))) (pg_name (i := 6) sc_law.nd rfl (by first | exact Or.inl rfl | exact Or.inr rfl))
(pss_cons (ps_set (i := 7) sc_law.nd rfl (by first | exact Or.inl rfl | exact Or.inr rfl) (pe_op op_cat (pe_lst (pa_cons (pv 6) pa_nil)) (pe_fn G_law_bent (hr.mono (by decide)) hg (by rfl) (pa_cons (pv 2) (pa_cons (pv 3) (pa_cons (pv 6) pa_nil))))))
(pss_one (ps_for PassesOwn.never rfl (pi_list (pv 7)) (pg_name (i := 8) sc_law.nd rfl (by first | exact Or.inl rfl | exact Or.inr rfl))
(pss_cons (ps_set (i := 9) sc_law.nd rfl (by first | exact Or.inl rfl | exact Or.inr rfl) (pe_fn G_is_step (hr.mono (by decide)) hg (by rfl) (pa_cons (pv 3) (pa_cons (pv 8) pa_nil))))
(pss_one (ps_if (PW.pt (pw_or (pt_not (pt_val (pe_callB (isi_K (K := K) rfl) (by rfl) T.n_isinstance (by decide +kernel) (pa_cons (pv 9) (pa_cons (pe_bltn (v := .ty "bool") (by rfl) T.n_bool (by decide +kernel) rfl) pa_nil))))) (pw_or1 (pt_cmpR op_ne (pv 9) (pe_fn G_law_is_step (hr.mono (by decide)) hg (by rfl) (pa_cons (pv 3) (pa_cons (pv 8) pa_nil))) (nomark _)))))
(pss_one (ps_ret pe_bl))
pss_nil)))))))
(pss_one (ps_for PassesOwn.never rfl (pi_tup (pe_tup (pa_cons pe_non (pa_cons pe_bl (pa_cons pe_int (pa_cons pe_str (pa_cons pe_str (pa_cons pe_str (pa_cons (pe_tup pa_nil) (pa_cons (pe_lst pa_nil) (pa_cons pe_dnewK (pa_cons (pe_tup (pa_cons pe_str pa_nil)) (pa_cons (pe_tup (pa_cons pe_int pa_nil)) (pa_cons (pe_tup (pa_cons (pe_tup pa_nil) pa_nil)) (pa_cons (pe_tup (pa_cons (pe_tup (pa_cons pe_str (pa_cons pe_int pa_nil))) pa_nil)) pa_nil))))))))))))))) (pg_name (i := 8) sc_law.nd rfl (by first | exact Or.inl rfl | exact Or.inr rfl))
(pss_one (ps_if (pt_cmpR op_isnot_bl (pe_fn G_is_step (hr.mono (by decide)) hg (by rfl) (pa_cons (pv 3) (pa_cons (pv 8) pa_nil))) pe_bl (nomark _))
(pss_one (ps_ret pe_bl))
pss_nil))))))))))
(pss_one (ps_ret (pe_and (pe_cmpR op_is_bl (pe_fn G_is_step (hr.mono (by decide)) hg (by rfl) (pa_cons pe_int (pa_cons (pe_tup (pa_cons pe_str (pa_cons pe_int (pa_cons pe_int pa_nil)))) pa_nil))) pe_bl (nomark _)) (pe_and (pe_cmpR op_is_bl (pe_fn G_is_step (hr.mono (by decide)) hg (by rfl) (pa_cons pe_int (pa_cons (pe_tup (pa_cons pe_str (pa_cons pe_int pa_nil))) pa_nil))) pe_bl (nomark _)) (pe_one (pe_cmpR op_is_bl (pe_fn G_is_step (hr.mono (by decide)) hg (by rfl) (pa_cons pe_int (pa_cons (pe_tup (pa_cons pe_str (pa_cons pe_int pa_nil))) pa_nil))) pe_bl (nomark _)))))))), ?_⟩
  have hsl : ((ns.map V.int).length : Int) ≤ 63 := by
    rw [List.length_map]
    omega
  refine ⟨_, rfl, a, _, rfl, .inl hS, _, _, rfl, _, _, rfl, _, rfl, ?_, ?_, for_range (lo := 0) (fun _ σ H' => (∃ o1 o2 o3 o4 o5 o6 o7 o8 o9, σ = [some (.ref a), o1, o2, o3, o4, o5, o6, o7, o8, o9]) ∧ SqL K H' a (ns.map V.int))
    ⟨⟨_, _, _, _, _, _, _, _, _, rfl⟩, hS⟩ ?_ ?_⟩
  · repeat' split
    all_goals omega
  · repeat' split
    all_goals omega
  · rintro k σ H2 hk ⟨⟨o1, o2, o3, o4, o5, o6, o7, o8, o9, rfl⟩, hS2⟩
    refine ⟨_, rfl, _, rfl, _, _, rfl, a, ns, _, rfl, rfl, hS2, by omega, fun p H3 np s3 lp3 => ?_⟩
    refine ⟨_, rfl, _, _, rfl, p, _, rfl, rfl, lp3, by decide, by decide, fun m H4 m0 m1 lp4 b4 x4 => ?_⟩
    refine ⟨_, rfl, _, rfl, _, _, rfl, _, _, rfl, p, _, rfl, rfl, lp4, ?_, ?_, fun i H5 i0 i1 lp5 b5 x5 => ?_⟩
    · split <;> omega
    · split <;> omega
    refine ⟨_, rfl, _, rfl, _, _, rfl, _, _, rfl, p, _, rfl, rfl, lp5, ?_, ?_, fun j H6 j0 j1 lp6 b6 x6 => ?_⟩
    · split <;> omega
    · split <;> omega
    -- the three steps
    refine ⟨_, rfl, _, rfl, _, rfl, _, rfl, p, rfl, lp6, fun z H7 lp7 b7 x7 => ?_⟩
    have b37 : But p H3 H7 := ((b4.trans b5).trans b6).trans b7
    have s27 : Same H2 H7 := same_pen np s3 b37
    refine ⟨(by show 4 ≤ sizeLine; decide), fun t1 n1 => ?_⟩
    refine ⟨_, rfl, _, rfl, (by show 3 ≤ sizeLine; decide), fun t2 n2 => ?_⟩
    refine ⟨_, rfl, (by show 2 ≤ sizeLine; decide), fun t3 n3 => ?_⟩
    have s8 : Same H7 (upd (upd (upd H7 t1 (.tup [.str "add", .int i, .int j, .int z])) t2 (.tup [.str "swap", .int i, .int j])) t3 (.tup [.str "turn", .int i])) := ((same_new n1).trans (same_new n2)).trans (same_new n3)
    have st1 : Stp H7 [.str "add", .int i, .int j, .int z] := ⟨by show 2 ≤ 4; decide, by show 4 ≤ 4; decide, fun u hu => by
      simp only [List.mem_cons, List.not_mem_nil, or_false] at hu
      rcases hu with rfl | rfl | rfl | rfl
      · exact ⟨_, .str _⟩
      · exact ⟨_, .int _⟩
      · exact ⟨_, .int _⟩
      · exact ⟨_, .int _⟩⟩
    have st2 : Stp H7 [.str "swap", .int i, .int j] := ⟨by show 2 ≤ 3; decide, by show 3 ≤ 4; decide, fun u hu => by
      simp only [List.mem_cons, List.not_mem_nil, or_false] at hu
      rcases hu with rfl | rfl | rfl
      · exact ⟨_, .str _⟩
      · exact ⟨_, .int _⟩
      · exact ⟨_, .int _⟩⟩
    have st3 : Stp H7 [.str "turn", .int i] := ⟨by show 2 ≤ 2; decide, by show 2 ≤ 4; decide, fun u hu => by
      simp only [List.mem_cons, List.not_mem_nil, or_false] at hu
      rcases hu with rfl | rfl
      · exact ⟨_, .str _⟩
      · exact ⟨_, .int _⟩⟩
    have hst : ∀ v ∈ ([.ref t1, .ref t2, .ref t3] : List V), StpAt (upd (upd (upd H7 t1 (.tup [.str "add", .int i, .int j, .int z])) t2 (.tup [.str "swap", .int i, .int j])) t3 (.tup [.str "turn", .int i])) v := by
      intro v hv
      simp only [List.mem_cons, List.not_mem_nil, or_false] at hv
      rcases hv with rfl | rfl | rfl
      · exact ⟨t1, _, rfl, (same_new n3) _ _ ((same_new n2) _ _ upd_same), st1.ext (Ext.same s8)⟩
      · exact ⟨t2, _, rfl, (same_new n3) _ _ upd_same, st2.ext (Ext.same s8)⟩
      · exact ⟨t3, _, rfl, upd_same, st3.ext (Ext.same s8)⟩
    have b38 : But p H3 (upd (upd (upd H7 t1 (.tup [.str "add", .int i, .int j, .int z])) t2 (.tup [.str "swap", .int i, .int j])) t3 (.tup [.str "turn", .int i])) := b37.trans (But.same s8)
    have lp8 := lp7.same s8
    generalize upd (upd (upd H7 t1 (.tup [.str "add", .int i, .int j, .int z])) t2 (.tup [.str "swap", .int i, .int j])) t3 (.tup [.str "turn", .int i]) = H8 at *
    refine ⟨(by show 3 ≤ sizeLine; decide), fun t4 n4 => ?_⟩
    have s9 : Same H8 (upd H8 t4 (.tup [.ref t1, .ref t2, .ref t3])) := same_new n4
    refine ⟨t4, rfl, ⟨_, SqT.of upd_same⟩, for_tup (K := K) (a := t4) (xs := [.ref t1, .ref t2, .ref t3]) (fun _ σ H' => (∃ o6 o7 o8 o9, σ = [some (.ref a), some (.int (0 + k)), some (.ref p), some (.int m), some (.int i), some (.int j), o6, o7, o8, o9]) ∧ But p H3 H' ∧ Ext (upd H8 t4 (.tup [.ref t1, .ref t2, .ref t3])) H' ∧ LP H' p)
      ⟨⟨_, _, _, _, rfl⟩, b38.trans (But.same s9), Ext.refl _, lp8.same s9⟩ (fun _ σ H' _ h => SqT.of (h.2.2.1.t _ _ upd_same)) ?_ ?_⟩
    · rintro n x σ H10 hx ⟨⟨o6, o7, o8, o9, rfl⟩, b10, x10, lp10⟩
      obtain ⟨st, xs, rfl, hst0, l2, l4, hks⟩ := (hst x (List.mem_of_getElem? hx)).ext ((Ext.same s9).trans x10)
      refine ⟨_, rfl, (by show 1 ≤ sizeLine; decide), fun L nL => ?_⟩
      have sL : Same H10 (upd H10 L (.lst [.ref st])) := same_new nL
      have nLp : L ≠ p := by
        obtain ⟨_, _, _, z⟩ := id lp10
        exact (ne_of_none z nL).symm
      refine ⟨_, rfl, _, rfl, _, rfl, _, _, _, rfl, p, _, st, xs, rfl, rfl, rfl, lp10.same sL, sL _ _ hst0, l2, l4, fun v hv => let ⟨k, hk⟩ := hks v hv; ⟨k, hk.ext (Ext.same sL)⟩, fun D H11 hL11 lp11 b11 x11 nD => ?_⟩
      obtain ⟨acc, hD, hacc, hgd⟩ := hL11
      have hL : H11 L = some (.lst [.ref st]) := b11 _ _ nLp upd_same
      refine ⟨L, D, _, acc, rfl, rfl, hL, hD, ?_, fun F nF => ?_⟩
      · show 1 + acc.length ≤ sizeLine
        exact Nat.le_of_lt (small1000 (by omega))
      have sF : Same H11 (upd H11 F (.lst ([.ref st] ++ acc))) := same_new nF
      have xF : Ext H10 (upd H11 F (.lst ([.ref st] ++ acc))) := ((Ext.same sL).trans x11).trans (Ext.same sF)
      have bF : But p H3 (upd H11 F (.lst ([.ref st] ++ acc))) := ((b10.trans (But.same sL)).trans b11).trans (But.same sF)
      have lpF := lp11.same sF
      have hF : (upd H11 F (.lst ([.ref st] ++ acc))) F = some (.lst ([.ref st] ++ acc)) := upd_same
      have hgF : ∀ v ∈ ([.ref st] ++ acc : List V), Gd (upd H11 F (.lst ([.ref st] ++ acc))) v := by
        intro v hv
        rcases List.mem_append.mp hv with w | w
        · rw [List.mem_singleton.mp w]
          exact TK.gd (n := 4) ⟨st, xs, rfl, xF.t _ _ hst0, l4, fun v hv => let ⟨k, hk⟩ := hks v hv; ⟨k, hk.ext xF⟩⟩
        · exact (hgd v w).ext (Ext.same sF)
      generalize ([.ref st] ++ acc : List V) = all at *
      generalize upd H11 F (.lst all) = H12 at *
      refine ⟨_, rfl, F, rfl, ⟨_, SqL.of hF⟩, for_list (K := K) (a := F) (xs := all) (fun _ σ H' => (∃ o8 o9, σ = [some (.ref a), some (.int (0 + k)), some (.ref p), some (.int m), some (.int i), some (.int j), some (.ref st), some (.ref F), o8, o9]) ∧ Same H12 H')
        ⟨⟨_, _, rfl⟩, Same.refl _⟩ (fun _ σ H' _ h => SqL.of (h.2 _ _ hF)) ?_ ?_⟩
      · rintro n2 v σ H13 hv ⟨⟨o8, o9, rfl⟩, s13⟩
        obtain ⟨o, ho⟩ := (hgF v (List.mem_of_getElem? hv)).ext (Ext.same s13)
        refine ⟨_, rfl, _, rfl, _, _, rfl, m, o, rfl, ho, ?_⟩
        try dsimp only [gName]
        refine if_no1 (fun H14 => Same H13 H14) (fun Q2 q2 => ?_) (fun H14 s14 => ?_)
        · refine or_no (fun H14 => H14 = H13) (fun Q3 q3 => ?_) (fun H14 e14 => ?_)
          · refine ⟨_, rfl, _, _, _, _, true, rfl, .ty "bool", (HasK.bl _).ty, kit_ty (kit_bool (.bl _)), true, rfl, ?_⟩
            exact q3 _ rfl
          · subst e14
            refine ⟨_, rfl, _, rfl, _, rfl, _, _, rfl, m, o, rfl, ho, fun H15 s15 => ?_⟩
            refine ⟨rfl, _, rfl, ?_⟩
            rw [decide_eq_true rfl]
            exact q2 _ s15
        · exact ⟨⟨_, _, rfl⟩, s13.trans s14⟩
      · rintro σ H13 ⟨⟨o8, o9, rfl⟩, s13⟩
        exact ⟨⟨_, _, _, _, rfl⟩, bF.trans (But.same s13), (x10.trans xF).trans (Ext.same s13), lpF.same s13⟩
    · rintro σ H10 ⟨⟨o6, o7, o8, o9, rfl⟩, b10, x10, lp10⟩
      refine ⟨Nat.zero_le _, fun e1 c1 => ?_⟩
      refine ⟨Nat.zero_le _, fun e2 c2 => ?_⟩
      intro e3 c3
      refine ⟨(by show 1 ≤ sizeLine; decide), fun e4 c4 => ?_⟩
      refine ⟨(by show 1 ≤ sizeLine; decide), fun e5 c5 => ?_⟩
      refine ⟨Nat.zero_le _, fun e6 c6 => ?_⟩
      refine ⟨(by show 1 ≤ sizeLine; decide), fun e7 c7 => ?_⟩
      refine ⟨(by show 2 ≤ sizeLine; decide), fun e8 c8 => ?_⟩
      refine ⟨(by show 1 ≤ sizeLine; decide), fun e9 c9 => ?_⟩
      have r9 := same_new (o := .tup [.ref e8]) c9
      have r8 := (same_new (o := .tup [.str "turn", .int 0]) c8).trans r9
      have r7 := (same_new (o := .tup [.ref e6]) c7).trans r8
      have r6 := (same_new (o := .tup []) c6).trans r7
      have r5 := (same_new (o := .tup [.int 0]) c5).trans r6
      have r4 := (same_new (o := .tup [.str "turn"]) c4).trans r5
      have r3 := (same_new (o := .dK []) c3).trans r4
      have r2 := (same_new (o := .lst []) c2).trans r3
      have r1 := (same_new (o := .tup []) c1).trans r2
      have d1 := r2 _ _ (upd_same (a := e1) (o := .tup []))
      have d2 := r3 _ _ (upd_same (a := e2) (o := .lst []))
      have d3 := r4 _ _ (upd_same (a := e3) (o := .dK []))
      have d4 := r5 _ _ (upd_same (a := e4) (o := .tup [.str "turn"]))
      have d5 := r6 _ _ (upd_same (a := e5) (o := .tup [.int 0]))
      have d6 := r7 _ _ (upd_same (a := e6) (o := .tup []))
      have d7 := r8 _ _ (upd_same (a := e7) (o := .tup [.ref e6]))
      have d8 := r9 _ _ (upd_same (a := e8) (o := .tup [.str "turn", .int 0]))
      have d9 : (upd (upd (upd (upd (upd (upd (upd (upd (upd H10 e1 (.tup [])) e2 (.lst [])) e3 (.dK [])) e4 (.tup [.str "turn"])) e5 (.tup [.int 0])) e6 (.tup [])) e7 (.tup [.ref e6])) e8 (.tup [.str "turn", .int 0])) e9 (.tup [.ref e8])) e9 = some (.tup [.ref e8]) := upd_same
      generalize upd (upd (upd (upd (upd (upd (upd (upd (upd H10 e1 (.tup [])) e2 (.lst [])) e3 (.dK [])) e4 (.tup [.str "turn"])) e5 (.tup [.int 0])) e6 (.tup [])) e7 (.tup [.ref e6])) e8 (.tup [.str "turn", .int 0])) e9 (.tup [.ref e8]) = H11 at *
      refine ⟨(by show 13 ≤ sizeLine; decide), fun O nO => ?_⟩
      have sO : Same H11 (upd H11 O (.tup [.non, .bl true, .int 0, .str "", .str "turn", .str "turn 0", .ref e1, .ref e2, .ref e3, .ref e4, .ref e5, .ref e7, .ref e9])) := same_new nO
      have hO : (upd H11 O (.tup [.non, .bl true, .int 0, .str "", .str "turn", .str "turn 0", .ref e1, .ref e2, .ref e3, .ref e4, .ref e5, .ref e7, .ref e9])) O = some (.tup [.non, .bl true, .int 0, .str "", .str "turn", .str "turn 0", .ref e1, .ref e2, .ref e3, .ref e4, .ref e5, .ref e7, .ref e9]) := upd_same
      have hodd : ∀ v ∈ ([.non, .bl true, .int 0, .str "", .str "turn", .str "turn 0", .ref e1, .ref e2, .ref e3, .ref e4, .ref e5, .ref e7, .ref e9] : List V), ∃ o, KsOf H11 v o ∧ stepO m o = false := by
        intro v hv
        simp only [List.mem_cons, List.not_mem_nil, or_false] at hv
        rcases hv with rfl | rfl | rfl | rfl | rfl | rfl | rfl | rfl | rfl | rfl | rfl | rfl | rfl
        · exact ⟨none, ⟨_, .non, rfl⟩, rfl⟩
        · exact ⟨none, ⟨_, .bl _, rfl⟩, rfl⟩
        · exact ⟨none, ⟨_, .int _, rfl⟩, rfl⟩
        · exact ⟨none, ⟨_, .str _, rfl⟩, rfl⟩
        · exact ⟨none, ⟨_, .str _, rfl⟩, rfl⟩
        · exact ⟨none, ⟨_, .str _, rfl⟩, rfl⟩
        · exact ⟨some [], ⟨_, _, rfl, d1, .nil⟩, rfl⟩
        · exact ⟨none, ⟨_, .lst d2, rfl⟩, rfl⟩
        · exact ⟨none, ⟨_, .dct d3, rfl⟩, rfl⟩
        · exact ⟨some [.str "turn"], ⟨_, _, rfl, d4, .cons (.str _) .nil⟩, rfl⟩
        · exact ⟨some [.int 0], ⟨_, _, rfl, d5, .cons (.int _) .nil⟩, step_not_str (many := m) (k0 := .int 0) (r := []) rfl⟩
        · exact ⟨some [.tup []], ⟨_, _, rfl, d7, .cons (.tup d6) .nil⟩, step_not_str (many := m) (k0 := .tup []) (r := []) rfl⟩
        · exact ⟨some [.tup [.str "turn", .int 0]], ⟨_, _, rfl, d9, .cons (.tup d8) .nil⟩, step_not_str (many := m) (k0 := .tup [.str "turn", .int 0]) (r := []) rfl⟩
      have s3O : Same H2 (upd H11 O (.tup [.non, .bl true, .int 0, .str "", .str "turn", .str "turn 0", .ref e1, .ref e2, .ref e3, .ref e4, .ref e5, .ref e7, .ref e9])) := (same_pen np s3 b10).trans (r1.trans sO)
      generalize ([.non, .bl true, .int 0, .str "", .str "turn", .str "turn 0", .ref e1, .ref e2, .ref e3, .ref e4, .ref e5, .ref e7, .ref e9] : List V) = os at *
      generalize upd H11 O (.tup os) = H12 at *
      refine ⟨O, rfl, ⟨_, SqT.of hO⟩, for_tup (K := K) (a := O) (xs := os) (fun _ σ H' => (∃ o6 o7 o8 o9, σ = [some (.ref a), some (.int (0 + k)), some (.ref p), some (.int m), some (.int i), some (.int j), o6, o7, o8, o9]) ∧ H' = H12)
        ⟨⟨_, _, _, _, rfl⟩, rfl⟩ (fun _ σ H' _ h => by rw [h.2]; exact SqT.of hO) ?_ ?_⟩
      · rintro n v σ H13 hv ⟨⟨o6, o7, o8, o9, rfl⟩, rfl⟩
        obtain ⟨o, ho, hno⟩ := hodd v (List.mem_of_getElem? hv)
        refine ⟨_, rfl, _, rfl, _, _, rfl, m, o, rfl, ho.ext (Ext.same sO), ?_⟩
        rw [hno]
        refine ⟨_, _, rfl, rfl, ?_⟩
        exact ⟨_, rfl, iteF ⟨⟨_, _, _, _, rfl⟩, rfl⟩⟩
      · rintro σ H13 ⟨⟨o6, o7, o8, o9, rfl⟩, rfl⟩
        exact ⟨⟨_, _, _, _, _, _, _, _, _, rfl⟩, sql_same s3O hS2⟩
  · rintro σ H10 ⟨⟨o1, o2, o3, o4, o5, o6, o7, o8, o9, rfl⟩, hS10⟩
    refine ⟨(by show 3 ≤ sizeLine; decide), fun z1 y1 => ?_⟩
    refine ⟨_, _, rfl, 2, some [.str "swap", .int 1, .int 0], rfl, ⟨z1, _, rfl, upd_same, .cons (.str _) (.cons (.int _) (.cons (.int _) .nil))⟩, ?_⟩
    refine ⟨true, true, rfl, rfl, true, rfl, iteT ?_⟩
    refine ⟨(by show 2 ≤ sizeLine; decide), fun z2 y2 => ?_⟩
    refine ⟨_, _, rfl, 1, some [.str "turn", .int 0], rfl, ⟨z2, _, rfl, upd_same, .cons (.str _) (.cons (.int _) .nil)⟩, ?_⟩
    refine ⟨true, true, rfl, rfl, true, rfl, iteT ?_⟩
    refine ⟨(by show 2 ≤ sizeLine; decide), fun z3 y3 => ?_⟩
    refine ⟨_, _, rfl, 0, some [.str "turn", .int 0], rfl, ⟨z3, _, rfl, upd_same, .cons (.str _) (.cons (.int _) .nil)⟩, ?_⟩
    refine ⟨false, false, rfl, rfl, ?_⟩
    exact q _

end
theorem all_mk {l : PySem.W.OpenLaw} {w : World} {K : PySem.W.Frag} {h : Heap} {mg : Str → Option Value} {fa : Addr} (X : K.In h) (G : h.Ns mainGlobals mg) (hfa : mg "law" = some (.ref fa))
    {f1 : Addr} {od1 an1 : Option Addr} {sl1 : Array (Option Value)} {oc1 kV1 dc1 pm1 cd1 ct1 : Value}
    {f2 : Addr} {od2 an2 : Option Addr} {sl2 : Array (Option Value)} {oc2 kV2 dc2 pm2 cd2 ct2 : Value}
    {f3 : Addr} {od3 an3 : Option Addr} {sl3 : Array (Option Value)} {oc3 kV3 dc3 pm3 cd3 ct3 : Value}
    {f4 : Addr} {od4 an4 : Option Addr} {sl4 : Array (Option Value)} {oc4 kV4 dc4 pm4 cd4 ct4 : Value}
    {f5 : Addr} {od5 an5 : Option Addr} {sl5 : Array (Option Value)} {oc5 kV5 dc5 pm5 cd5 ct5 : Value}
    {f6 : Addr} {od6 an6 : Option Addr} {sl6 : Array (Option Value)} {oc6 kV6 dc6 pm6 cd6 ct6 : Value}
    {f7 : Addr} {od7 an7 : Option Addr} {sl7 : Array (Option Value)} {oc7 kV7 dc7 pm7 cd7 ct7 : Value}
    {f8 : Addr} {od8 an8 : Option Addr} {sl8 : Array (Option Value)} {oc8 kV8 dc8 pm8 cd8 ct8 : Value}
    {f9 : Addr} {od9 an9 : Option Addr} {sl9 : Array (Option Value)} {oc9 kV9 dc9 pm9 cd9 ct9 : Value}
    {f10 : Addr} {od10 an10 : Option Addr} {sl10 : Array (Option Value)} {oc10 kV10 dc10 pm10 cd10 ct10 : Value}
    (a1 : PySem.W.nsIn K mainGlobals "is_whole" = some (some (.ref f1))) (l1 : K.lookup f1 = some ⟨oc1, od1, .func (PySem.W.fnOf "is_whole" "is_whole" (defArgs s_is_whole) (defBody s_is_whole) (defScope s_is_whole) .none kV1 dc1 pm1 an1 cd1 ct1), sl1⟩) (c1 : PySem.W.codeIn K cd1 "is_whole" = true) (k1 : PySem.W.keepIn K (.ref f1) = true)
    (a2 : PySem.W.nsIn K mainGlobals "is_number_of_row" = some (some (.ref f2))) (l2 : K.lookup f2 = some ⟨oc2, od2, .func (PySem.W.fnOf "is_number_of_row" "is_number_of_row" (defArgs s_is_number_of_row) (defBody s_is_number_of_row) (defScope s_is_number_of_row) .none kV2 dc2 pm2 an2 cd2 ct2), sl2⟩) (c2 : PySem.W.codeIn K cd2 "is_number_of_row" = true) (k2 : PySem.W.keepIn K (.ref f2) = true)
    (a3 : PySem.W.nsIn K mainGlobals "are_unlike_rows" = some (some (.ref f3))) (l3 : K.lookup f3 = some ⟨oc3, od3, .func (PySem.W.fnOf "are_unlike_rows" "are_unlike_rows" (defArgs s_are_unlike_rows) (defBody s_are_unlike_rows) (defScope s_are_unlike_rows) .none kV3 dc3 pm3 an3 cd3 ct3), sl3⟩) (c3 : PySem.W.codeIn K cd3 "are_unlike_rows" = true) (k3 : PySem.W.keepIn K (.ref f3) = true)
    (a4 : PySem.W.nsIn K mainGlobals "is_step" = some (some (.ref f4))) (l4 : K.lookup f4 = some ⟨oc4, od4, .func (PySem.W.fnOf "is_step" "is_step" (defArgs s_is_step) (defBody s_is_step) (defScope s_is_step) .none kV4 dc4 pm4 an4 cd4 ct4), sl4⟩) (c4 : PySem.W.codeIn K cd4 "is_step" = true) (k4 : PySem.W.keepIn K (.ref f4) = true)
    (a5 : PySem.W.nsIn K mainGlobals "_law_pen" = some (some (.ref f5))) (l5 : K.lookup f5 = some ⟨oc5, od5, .func (PySem.W.fnOf "_law_pen" "_law_pen" (defArgs s_law_pen) (defBody s_law_pen) (defScope s_law_pen) .none kV5 dc5 pm5 an5 cd5 ct5), sl5⟩) (c5 : PySem.W.codeIn K cd5 "_law_pen" = true) (k5 : PySem.W.keepIn K (.ref f5) = true)
    (a6 : PySem.W.nsIn K mainGlobals "_law_draw" = some (some (.ref f6))) (l6 : K.lookup f6 = some ⟨oc6, od6, .func (PySem.W.fnOf "_law_draw" "_law_draw" (defArgs s_law_draw) (defBody s_law_draw) (defScope s_law_draw) .none kV6 dc6 pm6 an6 cd6 ct6), sl6⟩) (c6 : PySem.W.codeIn K cd6 "_law_draw" = true) (k6 : PySem.W.keepIn K (.ref f6) = true)
    (a7 : PySem.W.nsIn K mainGlobals "_law_number" = some (some (.ref f7))) (l7 : K.lookup f7 = some ⟨oc7, od7, .func (PySem.W.fnOf "_law_number" "_law_number" (defArgs s_law_number) (defBody s_law_number) (defScope s_law_number) .none kV7 dc7 pm7 an7 cd7 ct7), sl7⟩) (c7 : PySem.W.codeIn K cd7 "_law_number" = true) (k7 : PySem.W.keepIn K (.ref f7) = true)
    (a8 : PySem.W.nsIn K mainGlobals "_law_is_step" = some (some (.ref f8))) (l8 : K.lookup f8 = some ⟨oc8, od8, .func (PySem.W.fnOf "_law_is_step" "_law_is_step" (defArgs s_law_is_step) (defBody s_law_is_step) (defScope s_law_is_step) .none kV8 dc8 pm8 an8 cd8 ct8), sl8⟩) (c8 : PySem.W.codeIn K cd8 "_law_is_step" = true) (k8 : PySem.W.keepIn K (.ref f8) = true)
    (a9 : PySem.W.nsIn K mainGlobals "_law_bent" = some (some (.ref f9))) (l9 : K.lookup f9 = some ⟨oc9, od9, .func (PySem.W.fnOf "_law_bent" "_law_bent" (defArgs s_law_bent) (defBody s_law_bent) (defScope s_law_bent) .none kV9 dc9 pm9 an9 cd9 ct9), sl9⟩) (c9 : PySem.W.codeIn K cd9 "_law_bent" = true) (k9 : PySem.W.keepIn K (.ref f9) = true)
    (a10 : PySem.W.nsIn K mainGlobals "law" = some (some (.ref f10))) (l10 : K.lookup f10 = some ⟨oc10, od10, .func (PySem.W.fnOf "law" "law" (defArgs s_law) (defBody s_law) (defScope s_law) .none kV10 dc10 pm10 an10 cd10 ct10), sl10⟩) (c10 : PySem.W.codeIn K cd10 "law" = true) (k10 : PySem.W.keepIn K (.ref f10) = true)
    (z1 : PySem.W.nsIn K mainGlobals "abs" = some none)
    (z2 : PySem.W.nsIn K mainGlobals "bool" = some none)
    (z3 : PySem.W.nsIn K mainGlobals "int" = some none)
    (z4 : PySem.W.nsIn K mainGlobals "isinstance" = some none)
    (z5 : PySem.W.nsIn K mainGlobals "len" = some none)
    (z6 : PySem.W.nsIn K mainGlobals "list" = some none)
    (z7 : PySem.W.nsIn K mainGlobals "max" = some none)
    (z8 : PySem.W.nsIn K mainGlobals "min" = some none)
    (z9 : PySem.W.nsIn K mainGlobals "range" = some none)
    (z10 : PySem.W.nsIn K mainGlobals "str" = some none)
    (z11 : PySem.W.nsIn K mainGlobals "tuple" = some none) :
    ∃ fd : FuncData, (∀ (s : Shared) (v : Value), BindsTo s fd ⟨[v], []⟩ [("_law_script", v)]) ∧ ∀ base : Heap, K.In base → base.Ns mainGlobals mg → FnG l.prog w K mg base CX0 5 fa fd ["_law_script"] (spLaw K) := by
  have e := hfa.symm.trans (PySem.W.mg_of X G a10)
  cases e
  have T : Txt K mg := ⟨df_mk (PySem.W.mg_of X G a1) l1 c1 k1 (fun _ _ _ _ _ _ us hl => match us, hl with | [_], _ => rfl),
    df_mk (PySem.W.mg_of X G a2) l2 c2 k2 (fun _ _ _ _ _ _ us hl => match us, hl with | [_, _], _ => rfl),
    df_mk (PySem.W.mg_of X G a3) l3 c3 k3 (fun _ _ _ _ _ _ us hl => match us, hl with | [_, _, _], _ => rfl),
    df_mk (PySem.W.mg_of X G a4) l4 c4 k4 (fun _ _ _ _ _ _ us hl => match us, hl with | [_, _], _ => rfl),
    df_mk (PySem.W.mg_of X G a5) l5 c5 k5 (fun _ _ _ _ _ _ us hl => match us, hl with | [_, _], _ => rfl),
    df_mk (PySem.W.mg_of X G a6) l6 c6 k6 (fun _ _ _ _ _ _ us hl => match us, hl with | [_, _], _ => rfl),
    df_mk (PySem.W.mg_of X G a7) l7 c7 k7 (fun _ _ _ _ _ _ us hl => match us, hl with | [_], _ => rfl),
    df_mk (PySem.W.mg_of X G a8) l8 c8 k8 (fun _ _ _ _ _ _ us hl => match us, hl with | [_, _], _ => rfl),
    df_mk (PySem.W.mg_of X G a9) l9 c9 k9 (fun _ _ _ _ _ _ us hl => match us, hl with | [_, _, _], _ => rfl),
    df_mk (PySem.W.mg_of X G a10) l10 c10 k10 (fun _ _ _ _ _ _ us hl => match us, hl with | [_], _ => rfl),
    PySem.W.mg_none_of X G z1,
    PySem.W.mg_none_of X G z2,
    PySem.W.mg_none_of X G z3,
    PySem.W.mg_none_of X G z4,
    PySem.W.mg_none_of X G z5,
    PySem.W.mg_none_of X G z6,
    PySem.W.mg_none_of X G z7,
    PySem.W.mg_none_of X G z8,
    PySem.W.mg_none_of X G z9,
    PySem.W.mg_none_of X G z10,
    PySem.W.mg_none_of X G z11⟩
  exact ⟨PySem.W.fnOf "law" "law" (defArgs s_law) (defBody s_law) (defScope s_law) .none kV10 dc10 pm10 an10 cd10 ct10, fun s v => .of_eq rfl, fun base _ _ => ok_law T (fun_mk (st := s_law) l10 c10 k10)⟩
end K10
open PySem PySem.W PyProof.Rows
set_option maxRecDepth 100000 in
set_option maxHeartbeats 0 in
theorem PySem.Challenge.cw_commonhouse_k10_steps_known_holds : PySem.Challenge.rw_commonhouse_k10_steps_known.Holds := by
  w_on; o_law; k_head; (case hw => w_witness2)
  k_fill
  refine Cm.walk_g (l := PySem.Challenge.rw_commonhouse_k10_steps_known) (n := 63) (k := 5) (x := "_law_script") (sp := K10.spLaw) rfl (by decide) rfl ⟨rfl, by decide, by decide⟩ (fun w h Y => PySem.W.kIn_of Y) ?F (fun _ _ a ns hl hS => ⟨a, ns, rfl, hS, hl, fun _ => rfl⟩)
  case F =>
    intro w mg fa h KX G hmg
    refine' K10.all_mk KX G hmg ?a1 ?l1 ?c1 ?k1 ?a2 ?l2 ?c2 ?k2 ?a3 ?l3 ?c3 ?k3 ?a4 ?l4 ?c4 ?k4 ?a5 ?l5 ?c5 ?k5 ?a6 ?l6 ?c6 ?k6 ?a7 ?l7 ?c7 ?k7 ?a8 ?l8 ?c8 ?k8 ?a9 ?l9 ?c9 ?k9 ?a10 ?l10 ?c10 ?k10 ?z1 ?z2 ?z3 ?z4 ?z5 ?z6 ?z7 ?z8 ?z9 ?z10 ?z11
    (case a1 => k_is); (case l1 => k_is); (case c1 => k_is); (case k1 => k_is); (case a2 => k_is); (case l2 => k_is)
    (case c2 => k_is); (case k2 => k_is); (case a3 => k_is); (case l3 => k_is); (case c3 => k_is); (case k3 => k_is)
    (case a4 => k_is); (case l4 => k_is); (case c4 => k_is); (case k4 => k_is); (case a5 => k_is); (case l5 => k_is)
    (case c5 => k_is); (case k5 => k_is); (case a6 => k_is); (case l6 => k_is); (case c6 => k_is); (case k6 => k_is)
    (case a7 => k_is); (case l7 => k_is); (case c7 => k_is); (case k7 => k_is); (case a8 => k_is); (case l8 => k_is)
    (case c8 => k_is); (case k8 => k_is); (case a9 => k_is); (case l9 => k_is); (case c9 => k_is); (case k9 => k_is)
    (case a10 => k_is); (case l10 => k_is); (case c10 => k_is); (case k10 => k_is); (case z1 => k_is); (case z2 => k_is)
    (case z3 => k_is); (case z4 => k_is); (case z5 => k_is); (case z6 => k_is); (case z7 => k_is); (case z8 => k_is)
    (case z9 => k_is); (case z10 => k_is); (case z11 => k_is)
