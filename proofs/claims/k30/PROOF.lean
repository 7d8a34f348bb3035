import PyProof.Rows.All
import Wide.All
import OpenK.AllK
import Wide.FinOn
import HandS.Base
import HandS.Call
import HandS.List
import HandS.Comp
import HandS.Ends
import HandS.Dict
import HandS.Iter
import HandS.Words
import HandS.IsInst
import HandS.TupAny
import HandS.TupLe
import HandS.WordsList
import HandS.Wide
import HandS.WordsDict
import PySem.Challenge.RW_commonhouse_k30_how_many_ways
set_option Elab.async false
set_option linter.all false
set_option maxRecDepth 100000
set_option maxHeartbeats 4000000
namespace Cm
open PySem PySem.Spec PyProof.Rows L2
/-! ### defs by their names -/
/-- the def x of the text stands behind the top by its name -/
def Df (K : PySem.W.Frag) (mg : Str → Option Value) (x : Str) (st : Stmt) (ps : List Str) : Prop :=
  ∃ f fd, Fun K x x st f fd ∧ mg x = some (.ref f) ∧ Binds K fd ps []
theorem df_mk {K : PySem.W.Frag} {mg : Str → Option Value} {x : Str} {st : Stmt} {ps : List Str} {f : Addr} {oc : Value} {od an : Option Addr} {osl : Array (Option Value)} {kV doc pm cdv ct : Value} (hm : mg x = some (.ref f))
    (l : K.lookup f = some ⟨oc, od, .func (PySem.W.fnOf x x (defArgs st) (defBody st) (defScope st) .none kV doc pm an cdv ct), osl⟩) (c : PySem.W.codeIn K cdv x = true) (k : PySem.W.keepIn K (.ref f) = true)
    (h : ∀ (kV doc pm : Value) (an : Option Addr) (cdv ct : Value) (us : List Value), us.length = ps.length → bindArgs (PySem.W.fnOf x x (defArgs st) (defBody st) (defScope st) .none kV doc pm an cdv ct) ⟨us, []⟩ = pure (ps.zip us)) : Df K mg x st ps :=
  ⟨f, _, fun_mk l c k, hm, (fun_mk l c k).binds h⟩
/-! ### a promise that is kept where no repr runs around (the recursion guards are empty) -/
structure FnG (P : Program) (w : World) (K : PySem.W.Frag) (mg : Str → Option Value) (base : Heap) (CX : CXT) (k : Nat) (f : Addr) (fd : FuncData) (ps : List Str) (sp : Sp) : Prop where
  len : ∀ vs H Q E, sp vs H Q E → vs.length = ps.length
  go : ∀ (A : Around) (outer : List Env) (s : Shared) (H : Hp) (args : Args) (us : List Value) (vs : List V) (Q : VK) (E : XK), Room k A → A.guards = some [] → Env0 P w K mg base A outer s H → BindsTo s fd args (ps.zip us) → Vals vs us → sp vs H Q E →
    codeAny (model P w) A (.call (.ref f) args) (CR CX outer P w H s Q E) s
section
variable {P : Program} {w : World} {K : PySem.W.Frag} {mg : Str → Option Value} {base : Heap} {CX : CXT}
/-- a def's body keeps its promise there -/
theorem fng_mk {k : Nat} {f : Addr} {x qual : Str} {st : Stmt} {fd : FuncData} {N ps : List Str} {sp : Sp} (F : Fun K x qual st f fd) (S : FnScope N ps (defScope st))
    (len : ∀ vs H Q E, sp vs H Q E → vs.length = ps.length)
    (body : ∀ (cdv : Value) (A : Around) (outer : List Env) (s : Shared) (H : Hp) (vs : List V) (Q : VK) (E : XK), Room k (A.deeper (envOfC qual (defScope st) s.heap.objs.size f cdv)) → A.guards = some [] → sp vs H Q E →
      ∃ t, PSs (cxOf CX P w K mg base N qual (defScope st) f cdv A outer s H E) (defBody st) t ∧ t { nx := fun _ H' => Q .non H', rt := Q } (start N vs) H) : FnG P w K mg base CX (k + 1) f fd ps sp := by
  obtain ⟨oc, od, kV, doc, pm, an, cdv, ct, osl, hfd, lk, hcd⟩ := F.ex
  subst hfd
  refine ⟨len, fun A outer s H args us vs Q E room gd env bind rel prom => ?_⟩
  have llen := len _ _ _ _ prom
  have inK : K.In s.heap := env.mod.kin.keeps fun b o e => (env.bs b o e).1
  have nolim : s.heap.NoLimit := env.mod.nolimit.keeps fun b o e => (env.bs b o e).1
  have kinds : ∀ y ∈ ps.zip us, (defScope st).names.lookup y.1 = some .local ∨ ((defScope st).names.lookup y.1 = some .cell ∧ ((cellsFrom (s.heap.objs.size + 1) (defScope st).names []).lookup y.1).isSome = true) := by
    rintro ⟨n, v⟩ hy
    rcases S.par n (List.of_mem_zip hy).1 with z | z
    · exact .inl z
    · exact .inr ⟨z, PySem.W.cellsFrom_some _ _ _ (.inl z)⟩
  refine codeAny_call_function room.depth (inK _ _ lk) rfl S.co S.gen rfl (PySem.W.codeRec_of inK hcd) (bind _ _ _ _ ?_)
  refine wpAny_newFunctionEnv_cells S.kind kinds fun fenv hfe s1 ent => ?_
  subst hfe
  refine ⟨nolim.keeps ent.toInCall.keep, codeAny_func ?_⟩
  obtain ⟨t, ht, hq⟩ := body cdv A outer s H vs Q E (room.deeper _) gd prom
  have I0 : Inv (cxOf CX P w K mg base N qual (defScope st) f cdv A outer s H E) [] (start N vs) H s1 := inv_start S room.hd env llen rel ent
  refine wpAny_mono (ht.run [] s1 (start N vs) H _ I0 hq) (fun fl s' out => ?_) fun e s' out => out
  cases fl with
  | ret u =>
    obtain ⟨v, σ', H', J, rv, q⟩ := out
    exact ⟨v, H', J.os, J.bare, J.base, J.hok, rv, q⟩
  | next =>
    obtain ⟨σ', H', J, q⟩ := out
    exact ⟨V.non, H', J.os, J.bare, J.base, J.hok, rfl, q⟩
  | brk =>
    obtain ⟨_, _, _, q⟩ := out
    exact q.elim
  | cont =>
    obtain ⟨_, _, _, q⟩ := out
    exact q.elim
end
/-- the def x keeps the promise sp; no exception leaves it -/
def Fn (P : Program) (w : World) (K : PySem.W.Frag) (mg : Str → Option Value) (base : Heap) (k : Nat) (x : Str) (ps : List Str) (sp : Sp) : Prop :=
  ∃ f fd, FnG P w K mg base CX0 k f fd ps sp ∧ mg x = some (.ref f) ∧ PySem.W.keepIn K (.ref f) = true ∧ Binds K fd ps []
section
variable {P : Program} {w : World} {K : PySem.W.Frag} {mg : Str → Option Value} {base : Heap}
theorem Df.ok {x : Str} {st : Stmt} {ps N : List Str} {k : Nat} {sp : Sp} (D : Df K mg x st ps) (S : FnScope N ps (defScope st)) (len : ∀ vs H Q E, sp vs H Q E → vs.length = ps.length)
    (hbody : ∀ (f : Addr) (cdv : Value) (A : Around) (outer : List Env) (s : Shared) (H : Hp) (vs : List V) (Q : VK) (E : XK), Room k (A.deeper (envOfC x (defScope st) s.heap.objs.size f cdv)) → A.guards = some [] → sp vs H Q E →
      ∃ t, PSs (cxOf CX0 P w K mg base N x (defScope st) f cdv A outer s H E).nox (defBody st) t ∧ t { nx := fun _ H' => Q .non H', rt := Q } (start N vs) H) : Fn P w K mg base (k + 1) x ps sp := by
  obtain ⟨f, fd, F, hm, hb⟩ := D
  refine ⟨f, fd, fng_mk F S len fun cdv A outer s H vs Q E hr hg h => ?_, hm, F.kp, hb⟩
  obtain ⟨t, ht, q⟩ := hbody f cdv A outer s H vs Q E hr hg h
  exact ⟨t, ht.nox, q⟩
end
section
variable {X : Cx} {k : Nat} {x : Str} {ps : List Str} {sp : Sp} {e : Expr} {es : List Expr} {t : TA} {p pos : Pos}
theorem run_g {CX : CXT} {f : Addr} {fd : FuncData} {E : XK} {pins : List (Addr × Obj)} {σ : L2.St} {H : Hp} {s : Shared} {Q : VK} {us : List Value} {vs : List V} (F : FnG X.prog X.w X.K X.mg X.base CX k f fd ps sp) (hr : Room k X.A) (hg : X.A.guards = some [])
    (hb : Binds X.K fd ps []) (hx : Passes CX X E) (I : Inv X pins σ H s) (r : Vals vs us) (h : sp (vs ++ []) H Q E) : wpAny (model X.prog X.w) X.A (call (.ref f) us) (EP X pins σ Q) X.xe s := by
  rw [List.append_nil] at h
  have hl : (us ++ []).length = ps.length := by
    rw [List.append_nil, ← r.length]
    exact F.len _ _ _ _ h
  have hb2 := hb s us I.kIn hl
  rw [List.append_nil] at hb2
  refine wpAny_call (codeAny_mono (F.go X.A X.stack s H ⟨us, []⟩ us vs Q E hr hg I.env0 hb2 r h) fun r s' hq => ?_)
  cases r with
  | error e => exact hx pins σ H s e s' I hq
  | ok fl =>
    cases fl with
    | ret u => exact I.after hq
    | next => exact hq.elim
    | brk => exact hq.elim
    | cont => exact hq.elim
theorem pe_fn (F : Fn X.prog X.w X.K X.mg X.base k x ps sp) (hr : Room k X.A) (hgd : X.A.guards = some []) (hg : Gl X x) (ha : PA X (e :: es) t) (hdb : (x == ("__debug__" : Str)) = false := by decide)
    (he : starEach (e :: es) X.env = (false, eval e X.env) :: starEach es X.env := by rfl) (hpl : (backTo pos (starEach es X.env)).any (·.1) = false := by rfl) : PE X (.Call (.Name x p) (e :: es) [] pos) (tCall sp [] E0 t) := by
  obtain ⟨f, fd, F, hm, hk, hb⟩ := F
  refine ⟨fun pins s σ H Q I h => ?_⟩
  refine wpAny_Call_Name_kw (ld_glob I hg hm ?_ hdb)
  refine PySem.W.callWith_K (h₀ := X.base) I.ok.mod.kin hk (thn (ha.run pos pins s σ H _ I h) fun us s1 out => ?_) he hpl
  obtain ⟨vs, H1, I1, r, q⟩ := out
  exact ⟨I1.kIn, run_g F hr hgd hb pass0 I1 r q⟩
end
/-! ### promises by the number of arguments -/
def sp1 (R : V → Hp → VK → Prop) : Sp := fun vs H Q _ => ∃ a, vs = [a] ∧ R a H Q
def sp2 (R : V → V → Hp → VK → Prop) : Sp := fun vs H Q _ => ∃ a b, vs = [a, b] ∧ R a b H Q
def sp3 (R : V → V → V → Hp → VK → Prop) : Sp := fun vs H Q _ => ∃ a b c, vs = [a, b, c] ∧ R a b c H Q
def sp4 (R : V → V → V → V → Hp → VK → Prop) : Sp := fun vs H Q _ => ∃ a b c d, vs = [a, b, c, d] ∧ R a b c d H Q
theorem len1 {R : V → Hp → VK → Prop} {x : Str} : ∀ vs H Q E, sp1 R vs H Q E → vs.length = [x].length := by
  rintro vs H Q E ⟨a, rfl, _⟩
  rfl
theorem len2 {R : V → V → Hp → VK → Prop} {x y : Str} : ∀ vs H Q E, sp2 R vs H Q E → vs.length = [x, y].length := by
  rintro vs H Q E ⟨a, b, rfl, _⟩
  rfl
theorem len3 {R : V → V → V → Hp → VK → Prop} {x y z : Str} : ∀ vs H Q E, sp3 R vs H Q E → vs.length = [x, y, z].length := by
  rintro vs H Q E ⟨a, b, c, rfl, _⟩
  rfl
theorem len4 {R : V → V → V → V → Hp → VK → Prop} {x y z u : Str} : ∀ vs H Q E, sp4 R vs H Q E → vs.length = [x, y, z, u].length := by
  rintro vs H Q E ⟨a, b, c, d, rfl, _⟩
  rfl
/-! ### heaps -/
/-- all but the object at d is kept -/
def But (d : Addr) (H H' : Hp) : Prop := ∀ b o, b ≠ d → H b = some o → H' b = some o
theorem But.refl (d : Addr) (H : Hp) : But d H H := fun _ _ _ h => h
theorem But.trans {d : Addr} {H H1 H2 : Hp} (a : But d H H1) (b : But d H1 H2) : But d H H2 := fun c o n h => b c o n (a c o n h)
theorem But.upd {d : Addr} {H : Hp} {o : HO} : But d H (L2.upd H d o) := fun b u n h => by
  rw [upd_ne n]
  exact h
theorem But.new {d p : Addr} {H : Hp} {o : HO} (n : H p = none) : But d H (L2.upd H p o) := fun b u _ h => by
  rw [upd_ne (ne_of_none h n)]
  exact h
theorem But.same {d : Addr} {H H1 : Hp} (a : Same H H1) : But d H H1 := fun b o _ h => a b o h
theorem same_new {H : Hp} {p : Addr} {o : HO} (h : H p = none) : Same H (L2.upd H p o) := fun b x e => by
  rw [upd_ne (ne_of_none e h)]
  exact e
theorem sqt_of_same {K : PySem.W.Frag} {H H' : Hp} {a : Addr} {xs : List V} (e : Same H H') (h : SqT K H a xs) : SqT K H' a xs := by
  rcases h with (h | ⟨o, h⟩) | h
  · exact .inl (.inl (e _ _ h))
  · exact .inl (.inr ⟨o, e _ _ h⟩)
  · exact .inr h
/-- abs -/
theorem abs_eq (i : Int) : (if i < 0 then -i else i) = (i.natAbs : Int) := by
  split <;> omega
theorem qNS {c : Prop} [Decidable c] (hc : c) {Q : Bool → Hp → Prop} {H : Hp} (q : Q false H) : Q (!decide c) H := by
  rw [decide_eq_true hc]
  exact q
theorem qN {c : Prop} [Decidable c] (hc : ¬ c) {Q : Bool → Hp → Prop} {H : Hp} (q : Q false H) : Q (decide c) H := by
  rw [decide_eq_false hc]
  exact q
theorem qS {c : Prop} [Decidable c] (hc : c) {Q : VK} {H : Hp} (q : Q (.bl true) H) : Q (.bl (decide c)) H := by
  rw [decide_eq_true hc]
  exact q
theorem iteN {c A B : Prop} [Decidable c] (hc : ¬ c) (h : B) : if decide c = true then A else B := by
  rw [decide_eq_false hc]
  exact iteF h
theorem iteS {c A B : Prop} [Decidable c] (hc : c) (h : A) : if decide c = true then A else B := by
  rw [decide_eq_true hc]
  exact iteT h
/-! ### an if that is not taken -/
theorem if_no {c : TT} {t r : TS} {D : Ends} {σ : L2.St} {H : Hp} (R : Hp → Prop) (h : ∀ Q : Bool → Hp → Prop, (∀ H', R H' → Q false H') → c σ H Q) (k : ∀ H', R H' → r D σ H') : tSeq (tIfS c t tNext) r D σ H := by
  show c σ H _
  exact h _ fun H' q => iteF (k H' q)
/-- the last if of a block that is not taken -/
theorem if_no1 {c : TT} {t : TS} {D : Ends} {σ : L2.St} {H : Hp} (R : Hp → Prop) (h : ∀ Q : Bool → Hp → Prop, (∀ H', R H' → Q false H') → c σ H Q) (k : ∀ H', R H' → D.nx σ H') : tIfS c t tNext D σ H := by
  show c σ H _
  exact h _ fun H' q => iteF (k H' q)
theorem or_no {t u : TT} {σ : L2.St} {H : Hp} {Q : Bool → Hp → Prop} (R : Hp → Prop) (h : ∀ Q : Bool → Hp → Prop, (∀ H', R H' → Q false H') → t σ H Q) (k : ∀ H', R H' → u σ H' Q) : tOr t u σ H Q := by
  show t σ H _
  exact h _ fun H' q => iteF (k H' q)
end Cm

set_option Elab.async false
set_option linter.all false
set_option maxRecDepth 100000
set_option maxHeartbeats 4000000
namespace Cm
open PySem PySem.Spec PyProof.Rows L2
/-! ### the end of a law whose promise is kept where no repr runs around -/
/-- the heap that is tracked at the law's entry: the script alone, where it is none of the module's own objects -/
def scriptH (K : PySem.W.Frag) (a : Addr) (vs : List Value) (ns : List Int) : Hp := fun b =>
  if b = a ∧ K.lookup a = none then some (.frz { cls := .type "list", data := .seq vs.toArray } (.lst (ns.map V.int))) else none
theorem scriptH_some {K : PySem.W.Frag} {a b : Addr} {vs : List Value} {ns : List Int} {u : HO} (h : scriptH K a vs ns b = some u) :
    b = a ∧ K.lookup a = none ∧ u = .frz { cls := .type "list", data := .seq vs.toArray } (.lst (ns.map V.int)) := by
  unfold scriptH at h
  split at h
  · rename_i z
    exact ⟨z.1, z.2, (Option.some.inj h).symm⟩
  · cases h
theorem scriptH_free {K : PySem.W.Frag} {a b : Addr} {vs : List Value} {ns : List Int} (h : b ≠ a ∨ K.lookup a ≠ none) : scriptH K a vs ns b = none := by
  unfold scriptH
  split
  · rename_i z
    rcases h with h | h
    · exact absurd z.1 h
    · exact absurd z.2 h
  · rfl
theorem call_law_g {P : Program} {w : World} {K : PySem.W.Frag} {mg mb : Str → Option Value} {k : Nat} {fa a : Addr} {fd : FuncData} {x : Str} {sp : Sp} {s1 : Shared} {vs : List Value} {ns : List Int}
    (inK : K.In s1.heap) (glob : s1.heap.Ns mainGlobals mg) (blt : s1.heap.Ns builtinsNs mb) (bltEq : ∀ x : Str, x ≠ "__name__" → mb x = bootBuiltins x) (nolim : s1.heap.NoLimit) (nogen : s1.gens = #[])
    (scr : s1.heap.get? a = some { cls := .type "list", data := .seq vs.toArray }) (hns : IntsAre vs ns) (short : ns.length ≤ sizeLine) (room : Room k callerA)
    (F : ∀ base : Heap, K.In base → base.Ns mainGlobals mg → FnG P w K mg base CX0 k fa fd [x] sp) (bind : ∀ (s : Shared) (u : Value), BindsTo s fd ⟨[u], []⟩ [(x, u)])
    (prom : ∀ H : Hp, SqL K H a (ns.map V.int) → sp [.ref a] H (fun v _ => v = .bl true) fun _ _ _ => False) :
    codeAny (model P w) callerA (.call (.ref fa) ⟨[.ref a], []⟩) (fun r s' => r = .ok (.ret (.bool true)) ∧ OldK s1.heap s'.heap ∧ s'.os = s1.os ∧ AllBare s'.gens) s1 := by
  have rel := vals_ints hns
  have vlen := hns.length
  -- what the script's address holds, in the abstract heap
  have hS : SqL K (scriptH K a vs ns) a (ns.map V.int) := by
    cases hk : K.lookup a with
    | none =>
      refine .inl (.inr ⟨{ cls := .type "list", data := .seq vs.toArray }, ?_⟩)
      unfold scriptH
      exact if_pos ⟨rfl, hk⟩
    | some o =>
      have e := inK a o hk
      rw [scr] at e
      cases e
      exact .inr ⟨_, vs.toArray, _, hk, rfl, rfl, rfl, by rw [List.size_toArray, vlen]; exact short, by simpa using rel⟩
  have hok : HOk P w (scriptH K a vs ns) s1.heap := by
    intro b u e
    obtain ⟨rfl, _, rfl⟩ := scriptH_some e
    exact ⟨scr, by rw [List.length_map]; exact short, vs, _, rel, scr⟩
  -- a namespace is no list, so it is not tracked
  have free : ∀ {b : Addr} {o : Obj} {es : Array DictEntry} {ep : Nat}, s1.heap.get? b = some o → o.data = .dict es ep → scriptH K a vs ns b = none := by
    intro b o es ep e d
    by_cases hb : b = a
    · rw [hb, scr] at e
      cases e
      cases (show Data.seq vs.toArray _ = Data.dict es ep from d)
    · exact scriptH_free (.inl hb)
  have nsOf : ∀ {b : Addr} {m : Str → Option Value}, s1.heap.Ns b m → (hidT s1.heap (scriptH K a vs ns)).Ns b m := by
    rintro b m ⟨o, es, ep, e, d, r⟩
    exact ⟨o, es, ep, hidT_get e (free e d), d, r⟩
  have inKb : K.In (hidT s1.heap (scriptH K a vs ns)) := by
    intro b o e
    refine hidT_get (inK b o e) ?_
    by_cases hb : b = a
    · refine scriptH_free (.inr fun z => ?_)
      rw [hb, z] at e
      cases e
    · exact scriptH_free (.inl hb)
  obtain ⟨mc, lim1, lim2⟩ := nolim
  have env : Env0 P w K mg (hidT s1.heap (scriptH K a vs ns)) callerA [] s1 (scriptH K a vs ns) :=
    ⟨rfl, ⟨inKb, nsOf glob, ⟨mb, nsOf blt, bltEq⟩, ⟨mc, nsOf lim1, lim2⟩⟩, fun b o e => of_hidT e, Nat.le_of_eq (hidT_size _ _), trivial, fun b hb => (nomatch (show b ∈ ([] : List Addr) from hb)), hok, .of_eq nogen⟩
  refine codeAny_mono ((F _ inKb (nsOf glob)).go callerA [] s1 _ ⟨[.ref a], []⟩ [.ref a] [.ref a] _ _ room rfl env (bind s1 (.ref a)) (.cons rfl .nil) (prom _ hS)) fun r s' out => ?_
  cases r with
  | error e => exact out.elim
  | ok fl =>
    cases fl with
    | next => exact out.elim
    | brk => exact out.elim
    | cont => exact out.elim
    | ret u =>
      obtain ⟨v, H', os, bare, un, hok', rv, q⟩ := out
      have q' : v = .bl true := q
      subst q'
      obtain rfl : u = Value.bool true := rv
      refine ⟨rfl, OldK.of_keep fun b o e => ?_, os, bare⟩
      cases hb : scriptH K a vs ns b with
      | none => exact un.keep b o e hb (fun z => (nomatch (show b ∈ ([] : List Addr) from z))) (fun z => (nomatch z))
      | some u =>
        obtain ⟨rfl, _, rfl⟩ := scriptH_some hb
        obtain ⟨e2, _⟩ := hok' _ _ (un.frzs _ _ _ hb)
        rw [scr] at e
        cases e
        exact e2
theorem walk_g {l : PySem.W.OpenLaw} {n k : Nat} {q : Program} {loose : List Str} {XP : (Str → Option Value) → Heap → Prop} {YP : World → Heap → Prop} {d : DefRec} {K : Params → PySem.W.Frag} {sp : PySem.W.Frag → Sp} {x : Str}
    (most : l.most = some n) (line : n ≤ sizeLine) (nodef : d.params.defaults = []) (room : Room k callerA) (hY : ∀ (w : World) (h : Heap), YP w h → (K w.params).In h)
    (F : ∀ (w : World) (mg : Str → Option Value) (fa : Addr) (h : Heap), (K w.params).In h → h.Ns mainGlobals mg → mg d.name = some (.ref fa) →
      ∃ fd : FuncData, (∀ (s : Shared) (u : Value), BindsTo s fd ⟨[u], []⟩ [(x, u)]) ∧ ∀ base : Heap, (K w.params).In base → base.Ns mainGlobals mg → FnG l.prog w (K w.params) mg base CX0 k fa fd [x] (sp (K w.params)))
    (prom : ∀ (K : PySem.W.Frag) (H : Hp) (a : Addr) (ns : List Int), ns.length ≤ n → SqL K H a (ns.map V.int) → sp K [.ref a] H (fun v _ => v = .bl true) fun _ _ _ => False) :
    PySem.W.WalkO q loose XP YP l.row.toRowW d [] (fun f vs => PySem.call f vs) := by
  refine Att.attach_call most nodef fun w s0 s1 mg mb fa o pm cd doc a vs ns G Y ho hd hcd hmg hobj hints hlen hg => ?_
  obtain ⟨fd, hb, hF⟩ := F w mg fa _ (hY w _ Y) G.T.g hmg
  exact call_law_g (hY w _ Y) G.T.g G.T.b G.T.builtins G.T.nolimit hg hobj hints (Nat.le_trans hlen line) room hF hb fun H hS => prom _ H a ns hlen hS
/-! ### repr -/
/-- repr of data: None, truths, numbers, texts, lists and tuples of them -/
def rRepr (K : PySem.W.Frag) : List V → Hp → VK → Prop := fun xs H Q => ∃ (a : Addr) (d : PyData), xs = [.ref a] ∧ Dp K H (.ref a) d ∧ d.showable = true ∧ d.hasDict = false ∧ d.depth ≤ 60 ∧ d.shown.length ≤ sizeLine ∧ Q (.str d.shown) H
theorem call_repr {X : Cx} {K : PySem.W.Frag} {k : Nat} (hr : Room k X.A) (hg : X.A.guards = some []) (hK : X.K = K) : CallR X (.builtin "repr") (rRepr K) := by
  subst hK
  intro pins s σ H xs us Q I r h
  obtain ⟨a, d, rfl, hd, sh, nd, dp, sz, q⟩ := h
  obtain ⟨u, rfl, ru⟩ := vals1 r
  obtain ⟨as, rd⟩ := Dp.reads I d _ _ hd ru
  cases ru
  refine repr_of_reads' rd sh (fun z => absurd (nd.symm.trans z) Bool.false_ne_true) hg (by have := hr.units; omega) (fun _ _ e => e) (fun h' u tk keep => ?_) sz
  exact ⟨.str d.shown, H, I.kept keep, ⟨_, rfl⟩, q⟩
end Cm

set_option Elab.async false
set_option linter.all false
set_option maxRecDepth 100000
set_option maxHeartbeats 4000000
namespace Cm
open PySem PySem.Spec PyProof.Rows L2
/-! ### kinds of things -/
inductive Kd where
  | non | bl (b : Bool) | int (i : Int) | str (s : Str) | lst | tup (xs : List V) | dct
inductive HasK (H : Hp) : V → Kd → Prop where
  | non : HasK H .non .non
  | bl (b : Bool) : HasK H (.bl b) (.bl b)
  | int (i : Int) : HasK H (.int i) (.int i)
  | str (s : Str) : HasK H (.str s) (.str s)
  | lst {a : Addr} {xs : List V} (h : H a = some (.lst xs)) : HasK H (.ref a) .lst
  | tup {a : Addr} {xs : List V} (h : H a = some (.tup xs)) : HasK H (.ref a) (.tup xs)
  | dct {a : Addr} {kvs : List (Key × V)} (h : H a = some (.dK kvs)) : HasK H (.ref a) .dct
/-- tuples stay, lists stay lists, dicts dicts -/
structure Ext (H H' : Hp) : Prop where
  t : ∀ b xs, H b = some (.tup xs) → H' b = some (.tup xs)
  l : ∀ b xs, H b = some (.lst xs) → ∃ ys, H' b = some (.lst ys)
  d : ∀ b kvs, H b = some (.dK kvs) → ∃ kvs', H' b = some (.dK kvs')
theorem Ext.refl (H : Hp) : Ext H H := ⟨fun _ _ h => h, fun _ _ h => ⟨_, h⟩, fun _ _ h => ⟨_, h⟩⟩
theorem Ext.trans {H H1 H2 : Hp} (a : Ext H H1) (b : Ext H1 H2) : Ext H H2 :=
  ⟨fun x xs h => b.t x xs (a.t x xs h), fun x xs h => let ⟨ys, e⟩ := a.l x xs h; b.l x ys e, fun x xs h => let ⟨ys, e⟩ := a.d x xs h; b.d x ys e⟩
theorem Ext.same {H H' : Hp} (h : Same H H') : Ext H H' := ⟨fun b _ e => h b _ e, fun b _ e => ⟨_, h b _ e⟩, fun b _ e => ⟨_, h b _ e⟩⟩
theorem Ext.lst {H : Hp} {a : Addr} {xs ys : List V} (h : H a = some (.lst xs)) : Ext H (upd H a (.lst ys)) := by
  refine ⟨fun b zs e => ?_, fun b zs e => ?_, fun b zs e => ?_⟩
  · rw [upd_ne (ne_of e h (by intro z; cases z))]
    exact e
  · by_cases hb : b = a
    · exact ⟨ys, by rw [hb, upd_same]⟩
    · exact ⟨zs, by rw [upd_ne hb]; exact e⟩
  · exact ⟨zs, by rw [upd_ne (ne_of e h (by intro z; cases z))]; exact e⟩
theorem HasK.ext {H H' : Hp} {v : V} {k : Kd} (h : HasK H v k) (e : Ext H H') : HasK H' v k := by
  cases h with
  | non => exact .non
  | bl b => exact .bl b
  | int i => exact .int i
  | str s => exact .str s
  | lst h => obtain ⟨ys, q⟩ := e.l _ _ h; exact .lst q
  | tup h => exact .tup (e.t _ _ h)
  | dct h => obtain ⟨ys, q⟩ := e.d _ _ h; exact .dct q
def tyK : Kd → String
  | .non => "NoneType" | .bl _ => "bool" | .int _ => "int" | .str _ => "str" | .lst => "list" | .tup _ => "tuple" | .dct => "dict"
theorem HasK.ty {K : PySem.W.Frag} {H : Hp} {v : V} {k : Kd} (h : HasK H v k) : TyX K H v (.type (tyK k)) := by
  cases h with
  | non => exact .base .non
  | bl b => exact .base (.bl b)
  | int i => exact .base (.int i)
  | str s => exact .base (.str s)
  | lst h => exact .base (.lst h)
  | tup h => exact .base (.tup h)
  | dct h => exact .base (.dK h)
def isTupK : Kd → Bool
  | .tup _ => true | _ => false
def isIntK : Kd → Bool
  | .int _ => true | .bl _ => true | _ => false
def isBoolK : Kd → Bool
  | .bl _ => true | _ => false
def isStrK : Kd → Bool
  | .str _ => true | _ => false
def wholeK : Kd → Bool
  | .int _ => true | _ => false
theorem kit_tup : ∀ k : Kd, kitB (tyK k) "tuple" = some (isTupK k)
  | .non => (by decide +kernel : kitB "NoneType" "tuple" = some false)
  | .bl _ => (by decide +kernel : kitB "bool" "tuple" = some false)
  | .int _ => (by decide +kernel : kitB "int" "tuple" = some false)
  | .str _ => (by decide +kernel : kitB "str" "tuple" = some false)
  | .lst => (by decide +kernel : kitB "list" "tuple" = some false)
  | .tup _ => (by decide +kernel : kitB "tuple" "tuple" = some true)
  | .dct => (by decide +kernel : kitB "dict" "tuple" = some false)
theorem kit_int : ∀ k : Kd, kitB (tyK k) "int" = some (isIntK k)
  | .non => (by decide +kernel : kitB "NoneType" "int" = some false)
  | .bl _ => (by decide +kernel : kitB "bool" "int" = some true)
  | .int _ => (by decide +kernel : kitB "int" "int" = some true)
  | .str _ => (by decide +kernel : kitB "str" "int" = some false)
  | .lst => (by decide +kernel : kitB "list" "int" = some false)
  | .tup _ => (by decide +kernel : kitB "tuple" "int" = some false)
  | .dct => (by decide +kernel : kitB "dict" "int" = some false)
theorem kit_bool : ∀ k : Kd, kitB (tyK k) "bool" = some (isBoolK k)
  | .non => (by decide +kernel : kitB "NoneType" "bool" = some false)
  | .bl _ => (by decide +kernel : kitB "bool" "bool" = some true)
  | .int _ => (by decide +kernel : kitB "int" "bool" = some false)
  | .str _ => (by decide +kernel : kitB "str" "bool" = some false)
  | .lst => (by decide +kernel : kitB "list" "bool" = some false)
  | .tup _ => (by decide +kernel : kitB "tuple" "bool" = some false)
  | .dct => (by decide +kernel : kitB "dict" "bool" = some false)
theorem kit_str : ∀ k : Kd, kitB (tyK k) "str" = some (isStrK k)
  | .non => (by decide +kernel : kitB "NoneType" "str" = some false)
  | .bl _ => (by decide +kernel : kitB "bool" "str" = some false)
  | .int _ => (by decide +kernel : kitB "int" "str" = some false)
  | .str _ => (by decide +kernel : kitB "str" "str" = some true)
  | .lst => (by decide +kernel : kitB "list" "str" = some false)
  | .tup _ => (by decide +kernel : kitB "tuple" "str" = some false)
  | .dct => (by decide +kernel : kitB "dict" "str" = some false)
section
variable {X : Cx} {K : PySem.W.Frag}
/-! ### the rules of the layer over a named K (so that they serve within a comprehension too) -/
theorem isi_K (hK : X.K = K) : CallR X (.builtin "isinstance") (rIsi K) := by
  subst hK
  exact call_isi
def rLenK (K : PySem.W.Frag) : List V → Hp → VK → Prop := fun xs H Q => ∃ p ys, xs = [.ref p] ∧ (SqL K H p ys ∨ SqT K H p ys) ∧ Q (.int ys.length) H
theorem len_K (hK : X.K = K) : CallR X (.builtin "len") (rLenK K) := by
  subst hK
  exact call_len_seq
theorem sl_K (hK : X.K = K) : SlR X (rSlA K) := by
  subst hK
  exact sl_tupA
theorem cat_K (hK : X.K = K) : OpR X (binaryOp .Add) (rCatA K) := by
  subst hK
  exact op_catA
theorem ixT_K (hK : X.K = K) : IxR X (rIxT K) := by
  subst hK
  exact ix_tup
theorem ixL_K (hK : X.K = K) : IxR X (rIxL K) := by
  subst hK
  exact ix_list
def rTupOf (K : PySem.W.Frag) : List V → Hp → VK → Prop := fun xs H Q => ∃ p ys, xs = [.ref p] ∧ ((SqL K H p ys ∧ ∀ l, H l = none → Q (.ref l) (upd H l (.tup ys))) ∨ (SqT K H p ys ∧ Q (.ref p) H))
/-! ### x == 'text', whatever x is -/
def eqK : Kd → Str → Bool
  | .str w, s => decide (w = s)
  | _, _ => false
theorem dict_eq_declines_text (l : Addr) (es : Array DictEntry) (n : Nat) (dd : Option Addr) (sl : Array (Option Value)) (b : Str) (u : Tok) :
    Meets (Builtin.«dict.__eq__» ⟨[.ref l, .str b u], []⟩) (fun _ R s => s.heap.get? l = some { cls := .type "dict", dict := dd, data := .dict es n, slots := sl } ∧ R (.ok (.ret .notImplemented)) s) :=
  .of_wp fun prog w A R s h => by obtain ⟨hp, g, d, tk, os⟩ := s; obtain ⟨hl, h⟩ := h; have f1 := F.sub_str_dict; wp_walk using AutoSeq1.wpAny_loadPart' hl; exact ⟨_, rfl, h⟩
theorem str_eq_declines_dict (b : Str) (u : Tok) (l : Addr) (c : Value) (es : Array DictEntry) (n : Nat) (dd : Option Addr) (sl : Array (Option Value)) :
    Meets (Builtin.«str.__eq__» ⟨[.str b u, .ref l], []⟩) (fun _ R s => s.heap.get? l = some { cls := c, dict := dd, data := .dict es n, slots := sl } ∧ R (.ok (.ret .notImplemented)) s) :=
  .of_wp fun prog w A R s h => by obtain ⟨hp, g, d, tk, os⟩ := s; obtain ⟨hl, h⟩ := h; wp_walk using AutoSeq1.wpAny_loadPart' hl, wpAny_load hl; exact ⟨_, rfl, h⟩
theorem rc_dict_str {A : Around} {s : Shared} {l : Addr} {o : Obj} {es : Array DictEntry} {n : Nat} (b : Str) (u : Tok) (ho : s.heap.get? l = some o) (hc : o.cls = .type "dict") (hd : o.data = .dict es n) (hu : A.units < cLine) : SeqAt.RcAt A s (.ref l) (.str b u) false := fun prog w E Q h => by
  obtain ⟨cls, dd, data, sl⟩ := o
  simp only at hc hd
  subst hc hd
  exact SeqAt.rc_eq_decline_or (k := false) ⟨_, ho, rfl⟩ (typeIs_str s b u) (by decide) F.sub_str_dict F.slot_dict_eq F.slot_str_eq_refl
    (fun _ hq => call_meets F.slot_dict_eq ⟨_, ho, rfl⟩ F.entry_dict_eq (F.args_dict_eq_2 _ _) (dict_eq_declines_text l es n dd sl b u) ⟨ho, hq⟩)
    (fun _ hq => call_meets F.slot_str_eq_refl (typeIs_str s b u) F.entry_str_eq (F.args_str_eq_2 _ _) (str_eq_declines_dict b u l (.type "dict") es n dd sl) ⟨ho, hq⟩)
    (fun _ hq => wpAny_pure hq) (.inr hu) h
def rEqK : R2 := fun x y H Q => ∃ k s, HasK H x k ∧ y = .str s ∧ Q (.bl (eqK k s)) H
theorem op_eqK {k : Nat} (hr : Room k X.A) : OpR X (compareOp .Eq) rEqK := by
  intro pins s σ H x y v u Q I rx ry h
  obtain ⟨kd, w, hk, rfl, q⟩ := h
  have hu := hr.units0
  cases hk with
  | non => exact op_eq pins s σ H _ _ v u Q I rx ry ⟨rfl, by simpa [eqK] using q⟩
  | bl b => exact op_eq pins s σ H _ _ v u Q I rx ry ⟨rfl, by simpa [eqK] using q⟩
  | int i => exact op_eq pins s σ H _ _ v u Q I rx ry ⟨rfl, by simpa [eqK] using q⟩
  | str z => exact op_eq pins s σ H _ _ v u Q I rx ry ⟨rfl, by simpa [eqK] using q⟩
  | lst h =>
    cases rx
    obtain ⟨t, rfl⟩ := ry
    obtain ⟨its, r, p, _⟩ := I.list (SqL.of h)
    exact SeqAt.RcAt.list_str w t p.isList hu _ _ _ _ ⟨.bl false, H, I, rfl, q⟩
  | tup h =>
    cases rx
    obtain ⟨t, rfl⟩ := ry
    obtain ⟨its, r, p, _⟩ := I.tuple (SqT.of h)
    exact SeqAt.RcAt.tuple_str w t p hu _ _ _ _ ⟨.bl false, H, I, rfl, q⟩
  | @dct a kvs h =>
    cases rx
    obtain ⟨t, rfl⟩ := ry
    obtain ⟨_, _, vs, _, o, es, ep, h1, h2, h3, _⟩ := (show ObjOk X.prog X.w H s.heap a (.dK kvs) from I.hok a _ h)
    exact rc_dict_str w t h1 h2.1 h3 hu _ _ _ _ ⟨.bl false, H, I, rfl, q⟩
/-! ### t == () -/
def rEqE : R2 := fun x y H Q => ∃ a b xs, x = .ref a ∧ y = .ref b ∧ H a = some (.tup xs) ∧ H b = some (.tup []) ∧ Q (.bl xs.isEmpty) H
theorem op_eqE {k : Nat} (hr : Room k X.A) : OpR X (compareOp .Eq) rEqE := by
  intro pins s σ H x y v u Q I rx ry h
  obtain ⟨a, b, xs, rfl, rfl, ha, hb, q⟩ := h
  cases rx
  cases ry
  obtain ⟨its, r1, p1, _⟩ := I.tuple (SqT.of ha)
  obtain ⟨its2, r2, p2, _⟩ := I.tuple (SqT.of hb)
  cases r2
  refine SeqAt.eq_tupleAt (e := fun _ => true) p1 p2 hr.units0 (fun j h1 h2 => absurd h2 (by simp)) ?_
  have hl := r1.length
  have e : ((List.range (min its.toArray.size ([] : List Value).toArray.size)).all (fun _ => true) && its.toArray.size == ([] : List Value).toArray.size) = xs.isEmpty := by
    cases xs with
    | nil =>
      cases r1
      rfl
    | cons x t =>
      cases r1
      simp
  rw [e]
  exact ⟨.bl _, H, I, rfl, q⟩
end
/-! ### t[::-1] -/
section
variable {prog : Program} {w : World} {A : Around} {E : Value → Shared → Prop} {s : Shared}
theorem back_applied {sl : Addr} {vk : Value} {n : Nat} {Q : Int × Int × Nat → Shared → Prop} (hs : s.heap.IsSliceOf sl .none .none vk) (pk : IsPart vk (some (-1))) (h : Q ((n : Int) - 1, -1, n) s) :
    wpAny (model prog w) A (Builtin.Slice.sliceApplied (.ref sl) (pure (n : Int))) Q E s := by
  obtain ⟨os, hos, hcs, hds⟩ := _root_.id hs
  unfold Builtin.Slice.sliceApplied Builtin.Slice.sliceFields
  refine wpAny_bind (wpAny_bind (wpAny_field hos hds (x := .none) rfl (wpAny_bind (wpAny_field hos hds (x := .none) rfl (wpAny_bind (wpAny_field hos hds (x := vk) rfl (wpAny_pure ?_)))))))
  refine wpAny_bind (HT.slicePart_ pk ?_)
  show wpAny _ _ (if ((-1 : Int) == 0) = true then _ else _) _ _ s
  rw [if_neg (by decide)]
  refine wpAny_bind (slicePart_none (wpAny_bind (slicePart_none (wpAny_bind (wpAny_pure ?_)))))
  have e1 : Builtin.Slice.sliceAdjust none none (-1) (n : Int) = ((n : Int) - 1, -1) := rfl
  have e2 : Builtin.Slice.slicePlaces ((n : Int) - 1) (-1) (-1) = n := by
    unfold Builtin.Slice.slicePlaces
    have h1 : ¬ ((-1 : Int) > 0) := by omega
    simp only [h1, if_false]
    split
    · rw [show (- (-1 : Int)) = 1 from rfl, Int.ediv_one]
      omega
    · omega
  show wpAny _ _ (pure ((Builtin.Slice.sliceAdjust none none (-1) (n : Int)).1, (-1 : Int), Builtin.Slice.slicePlaces (Builtin.Slice.sliceAdjust none none (-1) (n : Int)).1 (Builtin.Slice.sliceAdjust none none (-1) (n : Int)).2 (-1))) _ _ s
  rw [e1]
  show wpAny _ _ (pure ((n : Int) - 1, (-1 : Int), Builtin.Slice.slicePlaces ((n : Int) - 1) (-1) (-1))) _ _ s
  rw [e2]
  exact wpAny_pure h
theorem fm_some {α β : Type} {f : α → Option β} {g : α → β} : ∀ {l : List α}, (∀ a ∈ l, f a = some (g a)) → l.filterMap f = l.map g
  | [], _ => rfl
  | a :: r, h => by
    rw [List.filterMap_cons, h a (List.mem_cons.mpr (.inl rfl))]
    show g a :: r.filterMap f = g a :: r.map g
    rw [fm_some fun x hx => h x (List.mem_cons.mpr (.inr hx))]
theorem back_pick (xs : Array Value) : ((List.range xs.size).filterMap fun (m : Nat) => xs[(((xs.size : Int) - 1) + (m : Int) * (-1)).toNat]?).toArray = xs.toList.reverse.toArray := by
  congr 1
  have e : ((List.range xs.size).filterMap fun (m : Nat) => xs[(((xs.size : Int) - 1) + (m : Int) * (-1)).toNat]?) = (List.range xs.size).map (fun m => (xs.toList[xs.size - 1 - m]?).getD .none) := by
    refine fm_some fun m hm => ?_
    have hlt := List.mem_range.mp hm
    have e1 : (((xs.size : Int) - 1) + (m : Int) * (-1)).toNat = xs.size - 1 - m := by omega
    rw [e1, ← Array.getElem?_toList, List.getElem?_eq_getElem (by rw [Array.length_toList]; omega)]
    rfl
  rw [e]
  refine List.ext_getElem (by simp) fun i h1 h2 => ?_
  have h3 : i < xs.size := by simpa using h1
  rw [List.getElem_map, List.getElem_range, List.getElem_reverse, List.getElem?_eq_getElem (by rw [Array.length_toList]; omega)]
  simp
theorem tup_back {t sl : Addr} {items : Array Value} {vk : Value} {Q : Value → Shared → Prop} (ht : IsTup s.heap t items) (hs : s.heap.IsSliceOf sl .none .none vk) (pk : IsPart vk (some (-1)))
    (h : Q (.ref s.heap.objs.size) { s with heap := s.heap.push { cls := .type "tuple", data := .seq items.toList.reverse.toArray } }) (hsz : items.size ≤ sizeLine) : wpAny (model prog w) A (getItem (.ref t) (.ref sl)) Q E s := by
  have fits : sizeOk (.seq items.toList.reverse.toArray) := by
    show items.toList.reverse.toArray.size ≤ sizeLine
    rw [List.size_toArray, List.length_reverse, Array.length_toList]
    exact hsz
  obtain ⟨os, hos, hcs, hds⟩ := _root_.id hs
  have hTs : s.TypeIs (.ref sl) "slice" := ⟨os, hos, hcs⟩
  unfold getItem
  try with_reducible refine wpAny_holding ?_
  first | refine wpAny_bind (wpAny_pure ?_) | skip
  refine wpAny_bind (wpAny_sequenceKey ht.typeIs (by decide) ?_)
  refine wpAny_bind (wpAny_callSpecial?_slot (name := Str.ofString "__getitem__") ht.typeIs PyProof.Rows.slot_tuple_getitem (wpAny_call_entry PyProof.Rows.slot_tuple_getitem ht.typeIs entry_tuple_getitem ?_ (args_tuple_getitem _ _)))
  show wpAny _ _ (Builtin.Tuple.tupleItemsOf (.ref t) >>= _) _ _ s
  refine wpAny_bind (tupleItemsOf_ ht (wpAny_bind (wpAny_typeOf hTs ?_)))
  rw [if_pos (by decide)]
  refine wpAny_bind (back_applied (n := items.size) hs pk ?_)
  have hno : ¬ ((((items.size : Int) - 1) == 0 && (-1 : Int) == 1 && items.size == items.size) = true) := by simp
  show wpAny _ _ (if (((items.size : Int) - 1) == 0 && (-1 : Int) == 1 && items.size == items.size) = true then _ else _) _ _ s
  rw [if_neg hno, back_pick]
  first
    | exact wpAny_bind (m := Builtin.Tuple.tupleExact _) (wpAny_newObj_type (wpAny_pure ⟨_, rfl, wpAny_pure h⟩) fits)
    | exact wpAny_bind (m := Builtin.Tuple.tupleExact _) (wpAny_newObj_type (wpAny_bind (wpAny_pure (wpAny_pure ⟨_, rfl, wpAny_pure h⟩))) fits)
    | exact wpAny_bind (wpAny_bind (m := Builtin.Tuple.tupleExact _) (wpAny_newObj_type (wpAny_pure (wpAny_pure ⟨_, rfl, wpAny_pure h⟩)) fits))
    | exact wpAny_bind (wpAny_bind (m := Builtin.Tuple.tupleExact _) (wpAny_newObj_type (wpAny_pure ⟨_, rfl, wpAny_pure h⟩) fits))
end
section
variable {X : Cx}
def tRevT (K : PySem.W.Frag) (te : TE) : TE := fun σ H Q => te σ H fun x H1 => ∃ a xs, x = .ref a ∧ SqT K H1 a xs ∧ ∀ p, H1 p = none → Q (.ref p) (upd H1 p (.tup xs.reverse))
theorem pe_revT {e : Expr} {te : TE} {k : Nat} {p1 p2 p3 pos : Pos} (he : PE X e te) : PE X (.Subscript e (.Slice none none (some (.UnaryOp .USub (.Constant (.int 1) k p1) p2)) p3) pos) (tRevT X.K te) := by
  refine ⟨fun pins s σ H Q I h => Subscript_ (thn (he.run pins s σ H _ I h) fun v s1 out => ?_)⟩
  obtain ⟨x, H1, I1, r1, a, xs, rfl, hx, q⟩ := out
  cases r1
  have part : PO X (some (.UnaryOp .USub (.Constant (.int 1) k p1) p2)) (tPart (tUn (rU fun i => .int (-i)) (tC (.int 1)))) := po_some (pe_un un_neg pe_int)
  refine wpAny_Slice ?_
  rw [evalPart_none]
  refine wpAny_pure (wpAny_pure ?_)
  refine thn (part.run pins s1 σ H1 (fun o H4 => o = some (-1) ∧ H4 = H1) I1 ⟨1, rfl, -1, rfl, rfl, rfl⟩) fun vk s4 out => ?_
  obtain ⟨o, H4, I4, pk, rfl, rfl⟩ := out
  have I5 : Inv X pins σ H4 { s4 with heap := s4.heap.push { cls := .type "slice", data := .fields #[.none, .none, vk] } } := I4.kept (t' := s4.toks) fun b ob z => Heap.get?_push_of_some _ z
  obtain ⟨its, r, ht, hz⟩ := I5.tuple hx
  have hlen := r.length
  show wpAny (model X.prog X.w) X.A (subscriptTail e (.Slice none none (some (.UnaryOp .USub (.Constant (.int 1) k p1) p2)) p3) (.ref a) (.ref s4.heap.objs.size)) (EP X pins σ Q) X.xe { s4 with heap := s4.heap.push { cls := .type "slice", data := .fields #[.none, .none, vk] } }
  refine tail_any (ops := [.ref a, .ref s4.heap.objs.size]) ht.typeIs PyProof.Rows.slot_tuple_getitem.lookup ?_ (by with_unfolding_all rfl)
  refine tup_back ht (Heap.IsSliceOf.new _ .none .none vk) pk ?_ (by rw [List.size_toArray]; omega)
  refine ⟨.ref _, _, I5.laid (t' := s4.toks) (o := .tup xs.reverse) (fun b ob z => Heap.get?_push_of_some _ z) (Nat.le_refl _) ?_, rfl, q _ (I5.hok.fresh (Nat.le_refl _))⟩
  exact ⟨by rw [List.length_reverse]; exact hz, _, r.reverse, _, Heap.get?_push_size _ rfl, rfl, 0, rfl⟩
end
section
end
end Cm

set_option Elab.async false
set_option linter.all false
set_option maxRecDepth 100000
set_option maxHeartbeats 4000000
namespace Cm
open PySem PySem.Spec PyProof.Rows L2
/-! ### the drawing dict: cells, at, left -/
def penD (a : Addr) (n m : Int) : List (Key × V) := [(Sum.inr "cells", .ref a), (Sum.inr "at", .int n), (Sum.inr "left", .int m)]
theorem kca : ¬ ((Sum.inr ("cells" : Str) : Key) = Sum.inr ("at" : Str)) := by decide +kernel
theorem kcl : ¬ ((Sum.inr ("cells" : Str) : Key) = Sum.inr ("left" : Str)) := by decide +kernel
theorem kal : ¬ ((Sum.inr ("at" : Str) : Key) = Sum.inr ("left" : Str)) := by decide +kernel
theorem kla : ¬ ((Sum.inr ("left" : Str) : Key) = Sum.inr ("at" : Str)) := by decide +kernel
theorem val_cells (a : Addr) (n m : Int) : valV (penD a n m) (Sum.inr "cells" : Key) = some (.ref a) := valV_pos rfl
theorem val_at (a : Addr) (n m : Int) : valV (penD a n m) (Sum.inr "at" : Key) = some (.int n) := (valV_neg kca).trans (valV_pos rfl)
theorem val_left (a : Addr) (n m : Int) : valV (penD a n m) (Sum.inr "left" : Key) = some (.int m) := (valV_neg kcl).trans ((valV_neg kal).trans (valV_pos rfl))
theorem put_at (a : Addr) (n m z : Int) : putK (penD a n m) (Sum.inr "at" : Key) (.int z) = penD a z m := by
  unfold putK
  rw [valV_any, val_at, if_pos (show (some (V.int n)).isSome = true from rfl)]
  unfold penD
  simp only [List.map_cons, List.map_nil, if_neg kca, if_neg kla, if_true]
theorem put_left (a : Addr) (n m z : Int) : putK (penD a n m) (Sum.inr "left" : Key) (.int z) = penD a n z := by
  unfold putK
  rw [valV_any, val_left, if_pos (show (some (V.int m)).isSome = true from rfl)]
  unfold penD
  simp only [List.map_cons, List.map_nil, if_neg kcl, if_neg kal, if_true]
section
variable {K : PySem.W.Frag} {H H' : Hp} {d a : Addr} {n m : Int}
theorem dg_cells (h : H d = some (.dK (penD a n m))) : DGet H d (.str "cells") (some (.ref a)) := by
  have q := DGet.k (k := (Sum.inr "cells" : Key)) h
  rw [val_cells] at q
  exact q
theorem dg_at (h : H d = some (.dK (penD a n m))) : DGet H d (.str "at") (some (.int n)) := by
  have q := DGet.k (k := (Sum.inr "at" : Key)) h
  rw [val_at] at q
  exact q
theorem dg_left (h : H d = some (.dK (penD a n m))) : DGet H d (.str "left") (some (.int m)) := by
  have q := DGet.k (k := (Sum.inr "left" : Key)) h
  rw [val_left] at q
  exact q
theorem dp_at {z : Int} (h : H d = some (.dK (penD a n m))) : DPut H d (.str "at") (.int z) (upd H d (.dK (penD a z m))) := by
  have q := DPut.k (k := (Sum.inr "at" : Key)) (v := .int z) h (small1000 (by unfold penD; simp))
  rw [put_at] at q
  exact q
theorem dp_left {z : Int} (h : H d = some (.dK (penD a n m))) : DPut H d (.str "left") (.int z) (upd H d (.dK (penD a n z))) := by
  have q := DPut.k (k := (Sum.inr "left" : Key)) (v := .int z) h (small1000 (by unfold penD; simp))
  rw [put_left] at q
  exact q
/-- a list that is read stays where a dict alone may change -/
theorem sq_but {xs : List V} {kvs : List (Key × V)} (b : But d H H') (hd : H d = some (.dK kvs)) (h : SqL K H a xs) : SqL K H' a xs := by
  rcases h with (h | ⟨o, h⟩) | h
  · exact .inl (.inl (b _ _ (ne_of h hd (by intro z; cases z)) h))
  · exact .inl (.inr ⟨o, b _ _ (ne_of h hd (by intro z; cases z)) h⟩)
  · exact .inr h
end
/-- a pen at d over the cells ns at a, drawn from at most c times -/
structure Pen (K : PySem.W.Frag) (H : Hp) (d a : Addr) (ns : List Int) (c : Int) : Prop where
  sq : SqL K H a (ns.map V.int)
  dc : ∃ n m : Int, H d = some (.dK (penD a n m)) ∧ 0 ≤ n ∧ n ≤ c ∧ 0 ≤ m
theorem Pen.mono {K : PySem.W.Frag} {H : Hp} {d a : Addr} {ns : List Int} {c c' : Int} (p : Pen K H d a ns c) (h : c ≤ c') : Pen K H d a ns c' := by
  obtain ⟨s, n, m, e, h0, h1, h2⟩ := p
  exact ⟨s, n, m, e, h0, by omega, h2⟩
theorem Pen.same {K : PySem.W.Frag} {H H' : Hp} {d a : Addr} {ns : List Int} {c : Int} (p : Pen K H d a ns c) (h : Same H H') : Pen K H' d a ns c := by
  obtain ⟨s, n, m, e, h0, h1, h2⟩ := p
  exact ⟨h.seq s, n, m, h _ _ e, h0, h1, h2⟩
/-- draw's promise -/
def rDraw (K : PySem.W.Frag) : V → V → Hp → VK → Prop := fun p q H Q => ∃ (d a : Addr) (ns : List Int) (c many : Int), p = .ref d ∧ q = .int many ∧ Pen K H d a ns c ∧ 0 < many ∧ many < 1073741824 ∧ c ≤ 1000000 ∧
  ∀ r H', 0 ≤ r → r < many → Pen K H' d a ns (c + 1) → But d H H' → Q (.int r) H'
theorem cell_at {ns : List Int} {i : Int} (h0 : 0 ≤ i) (h1 : i < ((ns.map V.int).length : Int)) : ∃ z, atI (ns.map V.int) i = some (.int z) := by
  rw [List.length_map] at h1
  have hj : i.toNat < ns.length := by omega
  refine ⟨ns[i.toNat], ?_⟩
  have e : ((i.toNat : Nat) : Int) = i := by omega
  have q : atI (ns.map V.int) ((i.toNat : Nat) : Int) = some (.int ns[i.toNat]) := atI_nat (by rw [List.getElem?_map, List.getElem?_eq_getElem hj]; rfl)
  rw [e] at q
  exact q
theorem pos_of {b : Int} {p : Int} (h : decide (p < b) = true) : p < b := of_decide_eq_true h
theorem npos_of {b : Int} {p : Int} (h : ¬ decide (p < b) = true) : b ≤ p := by
  have := of_decide_eq_false (Bool.eq_false_iff.mpr h)
  omega
theorem eq_yes {i j : Int} (e : decide (V.int i = V.int j) = true) : i = j := V.int.inj (of_decide_eq_true e)
theorem eq_no {i j : Int} (e : ¬ decide (V.int i = V.int j) = true) : i ≠ j := fun z => e (by rw [z]; exact decide_eq_true rfl)
theorem ne_yes {i j : Int} (e : (!decide (V.int i = V.int j)) = true) : i ≠ j := fun z => by
  rw [z, decide_eq_true rfl] at e
  exact Bool.noConfusion e
theorem ne_no {i j : Int} (e : ¬ (!decide (V.int i = V.int j)) = true) : i = j := by
  by_cases h : i = j
  · exact h
  · exact absurd (by rw [decide_eq_false fun z => h (V.int.inj z)]; rfl) e
end Cm

set_option linter.all false
namespace K01
theorem fmod_abs_lt (a b : Int) (h : b ≠ 0) : (a.fmod b).natAbs < b.natAbs := by
  have h1 := Int.emod_nonneg a h
  have h2 : a % b < (b.natAbs : Int) := Int.emod_lt a h
  have h3 : ¬ b ∣ a → a % b ≠ 0 := fun n z => n (Int.dvd_of_emod_eq_zero z)
  rw [Int.fmod_eq_emod]
  split
  · omega
  · rename_i c
    have c1 : ¬ 0 ≤ b := fun z => c (.inl z)
    have c2 := h3 fun z => c (.inr z)
    omega
theorem gcd_fmod (a b : Int) : Int.gcd b (a.fmod b) = Int.gcd a b := by
  have e := Int.fmod_add_mul_fdiv a b
  have h : Int.gcd b (a.fmod b + b * a.fdiv b) = Int.gcd b (a.fmod b) := by
    rw [Int.gcd_add_mul_left_right]
  rw [← h, e, Int.gcd_comm]
/-- what holds between two turns of both's loop, A and B the numbers without their signs -/
structure Bo (A B m r x l : Int) : Prop where
  a0 : 0 ≤ A
  m0 : 0 ≤ m
  r0 : 0 ≤ r
  em : ∃ y, m = x * A + y * B
  er : ∃ z, r = l * A + z * B
  g : Int.gcd m r = Int.gcd A B
  bd : (l.natAbs : Int) * m + (x.natAbs : Int) * r ≤ B
  bx : (x.natAbs : Int) ≤ B + 1
  bl : (l.natAbs : Int) ≤ B + 1
  mA : m ≤ A + B
  rB : r ≤ B
theorem bo_start {A B : Int} (hA : 0 ≤ A) (hB : 0 ≤ B) : Bo A B A B 1 0 :=
  ⟨hA, hA, hB, ⟨0, by grind⟩, ⟨1, by grind⟩, rfl, by simp, by simp; omega, by simp; omega, by omega, by omega⟩
theorem abs_step (x q l : Int) (hq : 0 ≤ q) : ((x - q * l).natAbs : Int) ≤ x.natAbs + q * l.natAbs := by
  have h1 : ((q * l).natAbs : Int) = q * l.natAbs := by
    rw [Int.natAbs_mul, Int.natCast_mul, Int.natAbs_of_nonneg hq]
  rw [← h1]
  generalize q * l = p
  omega
theorem bo_step {A B m r x l : Int} (h : Bo A B m r x l) (hr : r ≠ 0) : Bo A B r (m % r) l (x - m / r * l) := by
  obtain ⟨a0, m0, r0, ⟨y, em⟩, ⟨z, er⟩, g, bd, bx, bl, mA, rB⟩ := h
  have rp : 0 < r := by omega
  have e1 := Int.mul_ediv_add_emod m r
  have q0 : 0 ≤ m / r := Int.ediv_nonneg m0 r0
  have n0 := Int.emod_nonneg m hr
  have n1 := Int.emod_lt_of_pos m rp
  have ab := abs_step x (m / r) l q0
  generalize m / r = q at *
  have eg : Int.gcd r (m % r) = Int.gcd m r := by
    rw [Int.gcd_comm m r, ← e1, Int.gcd_mul_left_add_right]
    rw [e1]
  generalize m % r = n at *
  obtain ⟨L, hL⟩ : ∃ L, (x - q * l).natAbs = L := ⟨_, rfl⟩
  rw [hL] at ab
  have key : (L : Int) * r + (l.natAbs : Int) * n ≤ B := by
    have t : (L : Int) * r ≤ ((x.natAbs : Int) + q * l.natAbs) * r := Int.mul_le_mul_of_nonneg_right ab r0
    have t2 : ((x.natAbs : Int) + q * l.natAbs) * r + (l.natAbs : Int) * n = (l.natAbs : Int) * m + (x.natAbs : Int) * r := by
      rw [← e1]
      generalize (x.natAbs : Int) = X
      generalize (l.natAbs : Int) = M
      grind
    omega
  have L0 : (0 : Int) ≤ (L : Int) := Int.natCast_nonneg _
  have key2 : (L : Int) ≤ B := by
    have t : (L : Int) * 1 ≤ (L : Int) * r := Int.mul_le_mul_of_nonneg_left (by omega) L0
    have t2 : (0 : Int) ≤ (l.natAbs : Int) * n := Int.mul_nonneg (Int.natCast_nonneg _) n0
    omega
  exact ⟨a0, r0, n0, ⟨z, er⟩, ⟨y - q * z, by grind⟩, eg.trans g, by rw [hL]; exact key, bl, by rw [hL]; omega, by omega, by omega⟩
theorem bo_end {a b m x l : Int} (h : Bo (a.natAbs : Int) (b.natAbs : Int) m 0 x l) : m = (Int.gcd a b : Int) ∧
    (if a < 0 then -x else x) * a + (if b = 0 then 0 else (m - (if a < 0 then -x else x) * a).fdiv b) * b = m := by
  obtain ⟨a0, m0, r0, ⟨y, em⟩, ⟨z, er⟩, g, bd, bx, bl, mA, rB⟩ := h
  have e1 : m = (Int.gcd a b : Int) := by
    have g2 : Int.gcd (a.natAbs : Int) (b.natAbs : Int) = Int.gcd a b := by simp [Int.gcd]
    rw [Int.gcd_zero_right, g2] at g
    omega
  refine ⟨e1, ?_⟩
  have e2 : (if a < 0 then -x else x) * a = x * (a.natAbs : Int) := by
    split
    · have : (a.natAbs : Int) = -a := by omega
      rw [this]
      grind
    · have : (a.natAbs : Int) = a := by omega
      rw [this]
  rw [e2]
  split
  · rename_i hb
    subst hb
    simp at em
    omega
  · rename_i hb
    have e3 : m - x * (a.natAbs : Int) = y * (b.natAbs : Int) := by omega
    rw [e3]
    have e4 : ∃ k, y * (b.natAbs : Int) = b * k := by
      by_cases hs : b < 0
      · exact ⟨-y, by have : (b.natAbs : Int) = -b := by omega
                      rw [this]; grind⟩
      · exact ⟨y, by have : (b.natAbs : Int) = b := by omega
                     rw [this]; grind⟩
    obtain ⟨k, hk⟩ := e4
    rw [hk, Int.mul_fdiv_cancel_left _ hb]
    grind
theorem bo_bounds {a b m x l : Int} (h : Bo (a.natAbs : Int) (b.natAbs : Int) m 0 x l) (ha : a.natAbs < 2 ^ 200) (hb : b.natAbs < 2 ^ 200) (x2 y2 : Int) (hx : x2 = if a < 0 then -x else x) (he : b ≠ 0 → y2 * b = m - x2 * a) (h0 : b = 0 → y2 = 0) :
    x2.natAbs < 2 ^ 202 ∧ y2.natAbs < 2 ^ 410 := by
  obtain ⟨a0, m0, r0, _, _, g, bd, bx, bl, mA, rB⟩ := h
  have hx2 : x2.natAbs = x.natAbs := by
    rw [hx]
    split <;> omega
  have e202 : (2 : Nat) ^ 202 = 4 * 2 ^ 200 := by decide
  have q1 : x2.natAbs < 2 ^ 202 := by
    rw [e202]
    omega
  refine ⟨q1, ?_⟩
  by_cases hz : b = 0
  · rw [h0 hz]
    decide
  · have e1 := he hz
    have e2 : (y2 * b).natAbs = (m - x2 * a).natAbs := by rw [e1]
    rw [Int.natAbs_mul] at e2
    have e3 : (m - x2 * a).natAbs ≤ m.natAbs + (x2 * a).natAbs := by
      generalize x2 * a = t
      omega
    rw [Int.natAbs_mul] at e3
    have e4 : y2.natAbs * 1 ≤ y2.natAbs * b.natAbs := Nat.mul_le_mul_left _ (by omega)
    have e5 : x2.natAbs * a.natAbs ≤ 2 ^ 202 * 2 ^ 200 := Nat.mul_le_mul (Nat.le_of_lt q1) (Nat.le_of_lt ha)
    have e6 : (2 : Nat) ^ 202 * 2 ^ 200 + 2 ^ 202 < 2 ^ 410 := by decide
    have e7 : m.natAbs ≤ 2 ^ 202 := by
      rw [e202]
      omega
    generalize x2.natAbs * a.natAbs = u at *
    generalize y2.natAbs * b.natAbs = v at *
    omega
theorem lcm_law {i j : Int} : ((if i = 0 ∨ j = 0 then 0 else (i.natAbs : Int) / ((Int.gcd i j : Nat) : Int) * (j.natAbs : Int)) * ((Int.gcd i j : Nat) : Int)) = ((i * j).natAbs : Int) := by
  split
  · rename_i h
    rcases h with h | h
    · subst h
      simp
    · subst h
      simp
  · have h : ((Int.gcd i j : Nat) : Int) ∣ (i.natAbs : Int) := Int.natCast_dvd_natCast.mpr (Nat.gcd_dvd_left _ _)
    have e := Int.ediv_mul_cancel h
    rw [Int.natAbs_mul, Int.natCast_mul]
    generalize (i.natAbs : Int) / ((Int.gcd i j : Nat) : Int) = q at *
    rw [← e]
    grind
end K01

set_option linter.all false
namespace K30
/-! ### products -/
theorem ipow_pos {B : Int} (hB : 1 ≤ B) : ∀ n : Nat, 1 ≤ B ^ n
  | 0 => by simp
  | n + 1 => by
    rw [Int.pow_succ]
    have := ipow_pos hB n
    have q : 1 * 1 ≤ B ^ n * B := Int.mul_le_mul this hB (by decide) (by omega)
    omega
theorem ipow_le {B : Int} (hB : 1 ≤ B) {m n : Nat} (h : m ≤ n) : B ^ m ≤ B ^ n := by
  obtain ⟨k, rfl⟩ : ∃ k, n = m + k := ⟨n - m, by omega⟩
  rw [Int.pow_add]
  have h1 := ipow_pos hB k
  have h2 := ipow_pos hB m
  have q : B ^ m * 1 ≤ B ^ m * B ^ k := Int.mul_le_mul_of_nonneg_left h1 (by omega)
  omega
def pl : List Int → Int
  | [] => 1
  | x :: r => x * pl r
theorem pl_app : ∀ l m : List Int, pl (l ++ m) = pl l * pl m
  | [], m => by simp [pl]
  | x :: r, m => by simp only [List.cons_append, pl]; rw [pl_app r m, Int.mul_assoc]
theorem pl_rev : ∀ l : List Int, pl l.reverse = pl l
  | [] => rfl
  | x :: r => by rw [List.reverse_cons, pl_app, pl_rev r]; simp only [pl]; rw [Int.mul_one, Int.mul_comm]
theorem pl_mul {α : Type} (f g : α → Int) : ∀ l : List α, pl (l.map fun a => f a * g a) = pl (l.map f) * pl (l.map g)
  | [] => by simp [pl]
  | x :: r => by
    simp only [List.map_cons, pl]
    rw [pl_mul f g r, Int.mul_assoc, Int.mul_assoc, Int.mul_left_comm (g x)]
theorem pl_one {α : Type} : ∀ l : List α, pl (l.map fun _ => (1 : Int)) = 1
  | [] => rfl
  | x :: r => by simp only [List.map_cons, pl]; rw [pl_one r]; rfl
theorem pl_le {B : Int} (hB : 1 ≤ B) : ∀ {l : List Int}, (∀ x ∈ l, 0 ≤ x ∧ x ≤ B) → 0 ≤ pl l ∧ pl l ≤ B ^ l.length
  | [], _ => by simp [pl]
  | x :: r, h => by
    have hx := h x (by simp)
    have hr := pl_le hB (l := r) fun y hy => h y (List.mem_cons_of_mem _ hy)
    simp only [pl, List.length_cons]
    refine ⟨Int.mul_nonneg hx.1 hr.1, ?_⟩
    rw [Int.pow_succ, Int.mul_comm (B ^ r.length)]
    exact Int.mul_le_mul hx.2 hr.2 hr.1 (by omega)
def g (h t : Int) : Int := ((Int.gcd h t : Nat) : Int)
theorem g_comm (h t : Int) : g h t = g t h := by unfold g; rw [Int.gcd_comm]
/-- all common measures multiplied -/
def W2 (hs ts : List Int) : Int := pl (hs.map fun h => pl (ts.map (g h)))
theorem W2_swap : ∀ hs ts : List Int, W2 hs ts = pl (ts.map fun t => pl (hs.map fun h => g h t))
  | [], ts => by
    show (1 : Int) = pl (ts.map fun _ => (1 : Int))
    rw [pl_one]
  | h :: r, ts => by
    have e : W2 (h :: r) ts = pl (ts.map (g h)) * W2 r ts := rfl
    rw [e, W2_swap r ts, ← pl_mul]
    rfl
theorem W2_comm (hs ts : List Int) : W2 ts hs = W2 hs ts := by
  rw [W2_swap]
  unfold W2
  congr 1
  refine List.map_congr_left fun h _ => ?_
  congr 1
  exact List.map_congr_left fun t _ => g_comm _ _
theorem W2_rev (hs ts : List Int) : W2 hs.reverse ts = W2 hs ts := by
  unfold W2
  rw [List.map_reverse, pl_rev]
theorem W2_one (hs : List Int) (t : Int) : W2 hs [t] = pl (hs.map fun h => g h t) := by
  unfold W2
  congr 1
  refine List.map_congr_left fun h _ => ?_
  show g h t * 1 = g h t
  rw [Int.mul_one]
theorem W2_each (hs ts : List Int) : pl (ts.map fun t => W2 hs [t]) = W2 hs ts := by
  rw [W2_swap]
  congr 1
  exact List.map_congr_left fun t _ => W2_one hs t
theorem W2_nil (hs : List Int) : W2 hs [] = 1 := pl_one hs
theorem W2_lin (ts : List Int) : W2 [] ts = 1 := rfl
theorem W2_snoc (hs ts : List Int) (h : Int) : W2 (hs ++ [h]) ts = W2 hs ts * pl (ts.map (g h)) := by
  unfold W2
  rw [List.map_append, pl_app]
  show _ * (pl (ts.map (g h)) * 1) = _
  rw [Int.mul_one]
/-- the list of all common measures -/
def MM (hs ts : List Int) : List Int := hs.flatMap fun h => ts.map (g h)
theorem MM_snoc (hs ts : List Int) (h : Int) : MM (hs ++ [h]) ts = MM hs ts ++ ts.map (g h) := by
  unfold MM
  rw [List.flatMap_append]
  simp
theorem pl_MM : ∀ hs ts : List Int, pl (MM hs ts) = W2 hs ts
  | [], ts => rfl
  | h :: r, ts => by
    have e : MM (h :: r) ts = ts.map (g h) ++ MM r ts := by unfold MM; rw [List.flatMap_cons]
    have e2 : W2 (h :: r) ts = pl (ts.map (g h)) * W2 r ts := rfl
    rw [e, pl_app, pl_MM r ts, e2]
theorem MM_len {ts : List Int} (ht : ts.length ≤ 6) : ∀ hs : List Int, (MM hs ts).length ≤ 6 * hs.length
  | [] => by simp [MM]
  | h :: r => by
    have e : MM (h :: r) ts = ts.map (g h) ++ MM r ts := by unfold MM; rw [List.flatMap_cons]
    have := MM_len ht r
    rw [e, List.length_append, List.length_map, List.length_cons]
    omega
/-- rounds -/
def Rd (hs : List Int) : Prop := hs.length ≤ 6 ∧ ∀ x ∈ hs, 1 ≤ x ∧ x ≤ 1000000
theorem Rd.sub {hs ls : List Int} (h : Rd hs) (l : ls.length ≤ 6) (s : ∀ x ∈ ls, x ∈ hs) : Rd ls := ⟨l, fun x hx => h.2 x (s x hx)⟩
theorem Rd.take {hs : List Int} (h : Rd hs) (n : Nat) : Rd (hs.take n) := h.sub (by rw [List.length_take]; have := h.1; omega) fun x hx => List.mem_of_mem_take hx
theorem Rd.rev {hs : List Int} (h : Rd hs) : Rd hs.reverse := h.sub (by rw [List.length_reverse]; exact h.1) fun x hx => List.mem_reverse.mp hx
theorem g_le {h t : Int} (h1 : 1 ≤ h) (h2 : h ≤ 1000000) : 0 ≤ g h t ∧ g h t ≤ 1000000 := by
  unfold g
  have : Int.gcd h t ∣ h.natAbs := Nat.gcd_dvd_left _ _
  have := Nat.le_of_dvd (by omega) this
  omega
theorem in_le {h : Int} {ts : List Int} (h1 : 1 ≤ h) (h2 : h ≤ 1000000) (ht : ts.length ≤ 6) : 0 ≤ pl (ts.map (g h)) ∧ pl (ts.map (g h)) ≤ 1000000000000000000000000000000000000 := by
  have q := pl_le (B := 1000000) (by decide) (l := ts.map (g h)) (by
    intro x hx
    obtain ⟨t, _, rfl⟩ := List.mem_map.mp hx
    exact g_le h1 h2)
  refine ⟨q.1, Int.le_trans q.2 ?_⟩
  rw [List.length_map]
  have e : (1000000000000000000000000000000000000 : Int) = 1000000 ^ 6 := by decide
  rw [e]
  exact ipow_le (by decide) ht
theorem e721 : (1000000000000000000000000000000000000 : Int) ^ 6 < 2 ^ 721 := by decide +kernel
theorem W2_lt {hs ts : List Int} (h : Rd hs) (ht : ts.length ≤ 6) : (W2 hs ts).natAbs < 2 ^ 721 := by
  have q := pl_le (B := 1000000000000000000000000000000000000) (by decide) (l := hs.map fun h => pl (ts.map (g h))) (by
    intro x hx
    obtain ⟨y, hy, rfl⟩ := List.mem_map.mp hx
    exact in_le (h.2 y hy).1 (h.2 y hy).2 ht)
  have q2 : W2 hs ts < 2 ^ 721 := by
    refine Int.lt_of_le_of_lt (Int.le_trans q.2 ?_) e721
    rw [List.length_map]
    exact ipow_le (by decide) h.1
  have q0 : 0 ≤ W2 hs ts := q.1
  have e : (((2 : Nat) ^ 721 : Nat) : Int) = (2 : Int) ^ 721 := by rw [Int.natCast_pow]; rfl
  omega
theorem e121 : (1000000000000000000000000000000000000 : Int) < 2 ^ 121 := by decide +kernel
theorem in_lt {h : Int} {ts : List Int} (h1 : 1 ≤ h) (h2 : h ≤ 1000000) (ht : ts.length ≤ 6) : (pl (ts.map (g h))).natAbs < 2 ^ 121 := by
  have q := in_le h1 h2 ht
  have e := e121
  have e' : (((2 : Nat) ^ 121 : Nat) : Int) = (2 : Int) ^ 121 := by rw [Int.natCast_pow]; rfl
  omega
theorem g_lt {h t : Int} (h1 : 1 ≤ h) (h2 : h ≤ 1000000) : (g h t).natAbs < 2 ^ 20 := by
  have := g_le (t := t) h1 h2
  have e : (2 : Nat) ^ 20 = 1048576 := by decide
  omega
theorem take_snoc {α : Type} {l : List α} {i : Nat} {x : α} (h : l[i]? = some x) : l.take (i + 1) = l.take i ++ [x] := by
  rw [List.take_succ, h]
  rfl
theorem pl_snoc (l : List Int) (x : Int) : pl (l ++ [x]) = pl l * x := by
  rw [pl_app]
  show _ * (x * 1) = _
  rw [Int.mul_one]
end K30

set_option Elab.async false
set_option linter.all false
set_option maxRecDepth 100000
set_option maxHeartbeats 4000000
namespace K30
open PySem PySem.Spec PyProof.Rows L2 Cm K01
def topS (i : Nat) : Stmt := PySem.Challenge.pw_commonhouse_k30_how_many_ways.main.body.getD i (.Pass ⟨0, 0, 0, 0⟩)
abbrev s_common_measure : Stmt := topS 1
abbrev N_common_measure : List Str := ["a", "b"]
theorem sc_common_measure : FnScope N_common_measure ["a", "b"] (defScope s_common_measure) := ⟨rfl, rfl, rfl, by decide +kernel, rfl, by decide +kernel, by decide +kernel⟩
abbrev s_size : Stmt := topS 3
abbrev N_size : List Str := ["house", "many", "limit"]
theorem sc_size : FnScope N_size ["house"] (defScope s_size) := ⟨rfl, rfl, rfl, by decide +kernel, rfl, by decide +kernel, by decide +kernel⟩
abbrev s_measures : Stmt := topS 5
abbrev N_measures : List Str := ["one", "other", "limit", "place"]
theorem sc_measures : FnScope N_measures ["one", "other"] (defScope s_measures) := ⟨rfl, rfl, rfl, by decide +kernel, rfl, by decide +kernel, by decide +kernel⟩
abbrev s_many_ways : Stmt := topS 6
abbrev N_many_ways : List Str := ["one", "other"]
theorem sc_many_ways : FnScope N_many_ways ["one", "other"] (defScope s_many_ways) := ⟨rfl, rfl, rfl, by decide +kernel, rfl, by decide +kernel, by decide +kernel⟩
abbrev s_law_pen : Stmt := topS 8
abbrev N_law_pen : List Str := ["_law_script"]
theorem sc_law_pen : FnScope N_law_pen ["_law_script"] (defScope s_law_pen) := ⟨rfl, rfl, rfl, by decide +kernel, rfl, by decide +kernel, by decide +kernel⟩
abbrev s_law_draw : Stmt := topS 9
abbrev N_law_draw : List Str := ["_law_pen_here", "_law_many", "_law_found", "_law_at", "_law_cell", "_law_number"]
theorem sc_law_draw : FnScope N_law_draw ["_law_pen_here", "_law_many"] (defScope s_law_draw) := ⟨rfl, rfl, rfl, by decide +kernel, rfl, by decide +kernel, by decide +kernel⟩
abbrev s_law_measure : Stmt := topS 10
abbrev N_law_measure : List Str := ["_law_a", "_law_b"]
theorem sc_law_measure : FnScope N_law_measure ["_law_a", "_law_b"] (defScope s_law_measure) := ⟨rfl, rfl, rfl, by decide +kernel, rfl, by decide +kernel, by decide +kernel⟩
abbrev s_law_round : Stmt := topS 11
abbrev N_law_round : List Str := ["_law_pen_here", "_law_way", "_law_some"]
theorem sc_law_round : FnScope N_law_round ["_law_pen_here"] (defScope s_law_round) := ⟨rfl, rfl, rfl, by decide +kernel, rfl, by decide +kernel, by decide +kernel⟩
abbrev s_law_house : Stmt := topS 12
abbrev N_law_house : List Str := ["_law_pen_here", "_law_many", "_law_found", "_law_k"]
theorem sc_law_house : FnScope N_law_house ["_law_pen_here"] (defScope s_law_house) := ⟨rfl, rfl, rfl, by decide +kernel, rfl, by decide +kernel, by decide +kernel⟩
abbrev s_law_is_number : Stmt := topS 13
abbrev N_law_is_number : List Str := ["_law_thing"]
theorem sc_law_is_number : FnScope N_law_is_number ["_law_thing"] (defScope s_law_is_number) := ⟨rfl, rfl, rfl, by decide +kernel, rfl, by decide +kernel, by decide +kernel⟩
abbrev s_law_due : Stmt := topS 14
abbrev N_law_due : List Str := ["_law_one", "_law_other", "_law_found", "_law_here", "_law_there"]
theorem sc_law_due : FnScope N_law_due ["_law_one", "_law_other"] (defScope s_law_due) := ⟨rfl, rfl, rfl, by decide +kernel, rfl, by decide +kernel, by decide +kernel⟩
abbrev s_law : Stmt := topS 15
abbrev N_law : List Str := ["_law_script", "_law_pen_here", "_law_k", "_law_one", "_law_other", "_law_due_here", "_law_told", "_law_got", "_law_there"]
theorem sc_law : FnScope N_law ["_law_script"] (defScope s_law) := ⟨rfl, rfl, rfl, by decide +kernel, rfl, by decide +kernel, by decide +kernel⟩
structure Txt (K : PySem.W.Frag) (mg : Str → Option Value) : Prop where
  d_common_measure : Df K mg "common_measure" s_common_measure ["a", "b"]
  d_size : Df K mg "size" s_size ["house"]
  d_measures : Df K mg "measures" s_measures ["one", "other"]
  d_many_ways : Df K mg "many_ways" s_many_ways ["one", "other"]
  d_law_pen : Df K mg "_law_pen" s_law_pen ["_law_script"]
  d_law_draw : Df K mg "_law_draw" s_law_draw ["_law_pen_here", "_law_many"]
  d_law_measure : Df K mg "_law_measure" s_law_measure ["_law_a", "_law_b"]
  d_law_round : Df K mg "_law_round" s_law_round ["_law_pen_here"]
  d_law_house : Df K mg "_law_house" s_law_house ["_law_pen_here"]
  d_law_is_number : Df K mg "_law_is_number" s_law_is_number ["_law_thing"]
  d_law_due : Df K mg "_law_due" s_law_due ["_law_one", "_law_other"]
  d_law : Df K mg "law" s_law ["_law_script"]
  n_abs : mg "abs" = none
  n_bool : mg "bool" = none
  n_int : mg "int" = none
  n_isinstance : mg "isinstance" = none
  n_len : mg "len" = none
  n_range : mg "range" = none
  n_tuple : mg "tuple" = none
section
variable {X : Cx} {K : PySem.W.Frag} {tg l : Expr} {tl : TE}
theorem piT_K (hK : X.K = K) (hl : PE X l tl) : PI X tg l (iTup K tl) := by
  subst hK
  exact pi_tup hl
theorem tupOf_K (hK : X.K = K) : CallR X (.type "tuple") (rTupOf K) := by
  subst hK
  exact call_tuple_of
theorem iop_mulW : OpR X (inplaceOp .Mult) (rI CMulW fun i j => .int (i * j)) := opI fun _ _ _ _ _ _ _ hc q => imul_int q hc.ok
end
section
variable {P : Program} {w : World} {K : PySem.W.Frag} {mg : Str → Option Value} {base : Heap}
/-! ### common_measure, size, measures, many_ways -/
def rCm : V → V → Hp → VK → Prop := fun x y H Q => ∃ i j : Int, x = .int i ∧ y = .int j ∧ Q (.int (g i j)) H
theorem ok_common_measure (T : Txt K mg) : Fn P w K mg base 1 "common_measure" ["a", "b"] (sp2 rCm) := by
  refine T.d_common_measure.ok sc_common_measure len2 fun f cdv A outer s H vs Q E hr hg h => ?_
  obtain ⟨_, _, rfl, i, j, rfl, rfl, q⟩ := h
  refine ⟨_, (pss_cons (ps_while PassesOwn.never (pt_cmpR op_ne (pv 1) pe_int (nomark _))
(pss_one (ps_par (i := 0) (j := 1) (by rfl) sc_common_measure.nd rfl rfl (by decide) rfl rfl (pa_cons (pv 1) (pa_cons (pe_op op_modN (pv 0) (pv 1)) pa_nil)) (by rfl))))
(pss_one (ps_ret (pe_callB call_abs (by rfl) T.n_abs (by decide +kernel) (pa_cons (pv 0) pa_nil))))), ?_⟩
  refine ⟨fun m σ H' => ∃ i' j' : Int, σ = [some (.int i'), some (.int j')] ∧ H' = H ∧ Int.gcd i' j' = Int.gcd i j ∧ m = j'.natAbs, ⟨_, i, j, rfl, rfl, rfl, rfl⟩, ?_⟩
  rintro m σ H' ⟨i', j', rfl, rfl, hg, rfl⟩
  refine ⟨_, rfl, rfl, _, rfl, ite2 (fun e => ?_) (fun e => ?_)⟩
  · have hj := ne_yes e
    refine ⟨fun σ' H'' => ∃ i2 j2 : Int, σ' = [some (.int i2), some (.int j2)] ∧ H'' = H' ∧ Int.gcd i2 j2 = Int.gcd i j ∧ j2.natAbs < j'.natAbs, ?_, ?_⟩
    · rintro σ' H'' ⟨i2, j2, rfl, rfl, h1, h2⟩
      exact ⟨_, h2, i2, j2, rfl, rfl, h1, rfl⟩
    · refine ⟨_, rfl, _, rfl, _, rfl, _, _, rfl, rfl, hj, _, _, rfl, j', i'.fmod j', rfl, rfl, ?_, fmod_abs_lt _ _ hj⟩
      rw [gcd_fmod, hg]
  · have hj := ne_no e
    subst hj
    refine ⟨_, rfl, i', rfl, ?_⟩
    have e1 : (if i' < 0 then -i' else i') = g i j := by
      unfold g
      rw [abs_eq, ← hg, Int.gcd_zero_right]
    rw [e1]
    exact q
def rSize : V → Hp → VK → Prop := fun x H Q => ∃ (a : Addr) (ms : List Int), x = .ref a ∧ H a = some (.tup (ms.map V.int)) ∧ ms.length ≤ 36 ∧ (∀ x ∈ ms, 0 ≤ x ∧ x ≤ 1000000) ∧ Q (.int (pl ms)) H
theorem lt721 {ms : List Int} (h : ms.length ≤ 36) (hx : ∀ x ∈ ms, 0 ≤ x ∧ x ≤ 1000000) : (pl ms).natAbs < 2 ^ 721 := by
  have q := pl_le (B := 1000000) (by decide) hx
  have q2 : pl ms < 2 ^ 721 := by
    refine Int.lt_of_le_of_lt (Int.le_trans q.2 (ipow_le (by decide) h)) ?_
    decide +kernel
  have e : (((2 : Nat) ^ 721 : Nat) : Int) = (2 : Int) ^ 721 := by rw [Int.natCast_pow]; rfl
  have q0 := q.1
  omega
theorem ok_size (T : Txt K mg) : Fn P w K mg base 1 "size" ["house"] (sp1 rSize) := by
  refine T.d_size.ok sc_size len1 fun f cdv A outer s H vs Q E hr hg h => ?_
  obtain ⟨_, rfl, a, ms, rfl, ha, hl, hx, q⟩ := h
  refine ⟨_, (pss_cons (ps_set (i := 1) sc_size.nd rfl (by first | exact Or.inl rfl | exact Or.inr rfl) pe_int)
(pss_cons (ps_for PassesOwn.never rfl (piT_K (K := K) rfl (pv 0)) (pg_name (i := 2) sc_size.nd rfl (by first | exact Or.inl rfl | exact Or.inr rfl))
(pss_one (ps_aug (i := 1) sc_size.nd rfl (.inl rfl) (pv 2) iop_mulW)))
(pss_one (ps_ret (pv 1))))), ?_⟩
  refine ⟨_, rfl, a, rfl, ⟨_, SqT.of ha⟩, for_tup (K := K) (a := a) (xs := ms.map V.int) (fun i σ H' => ∃ (v : Int) (o : Option V), σ = [some (.ref a), some (.int v), o] ∧ H' = H ∧ v = pl (ms.take i))
    ⟨1, none, rfl, rfl, rfl⟩ (fun i σ H' _ ⟨_, _, _, e, _⟩ => by rw [e]; exact SqT.of ha) ?_ ?_⟩
  · rintro i x σ H' hi ⟨v, o, rfl, rfl, rfl⟩
    rw [List.getElem?_map] at hi
    obtain ⟨y, hy, rfl⟩ := Option.map_eq_some_iff.mp hi
    have ym := hx y (List.mem_of_getElem? hy)
    refine ⟨_, rfl, _, rfl, _, _, rfl, rfl, wide_mul (a := 721) (b := 20) (lt721 (by rw [List.length_take]; omega) fun x h => hx x (List.mem_of_mem_take h)) ?_ (by decide) (by decide) (by decide), ?_⟩
    · have e : (2 : Nat) ^ 20 = 1048576 := by decide
      omega
    · refine ⟨_, _, rfl, rfl, ?_⟩
      rw [take_snoc hy, pl_snoc]
  · rintro σ H' ⟨v, o, rfl, rfl, rfl⟩
    refine ⟨_, rfl, ?_⟩
    rw [List.length_map, List.take_length]
    exact q
theorem same_at {H H' : Hp} {D : Addr} {o : HO} (s : Same H H') (n : H D = none) : Same H (upd H' D o) := fun b x e => by
  rw [upd_ne (ne_of_none e n)]
  exact s b x e
def rMeasures : V → V → Hp → VK → Prop := fun x y H Q => ∃ (a b : Addr) (hs ts : List Int), x = .ref a ∧ y = .ref b ∧ H a = some (.tup (hs.map V.int)) ∧ H b = some (.tup (ts.map V.int)) ∧ Rd hs ∧ Rd ts ∧
  ∀ p H', Same H H' → H' p = some (.tup ((MM hs ts).map V.int)) → Q (.ref p) H'
theorem ok_measures (T : Txt K mg) : Fn P w K mg base 2 "measures" ["one", "other"] (sp2 rMeasures) := by
  have G_common_measure := ok_common_measure (P := P) (w := w) (base := base) T
  refine T.d_measures.ok sc_measures len2 fun f cdv A outer s H vs Q E hr hg h => ?_
  obtain ⟨_, _, rfl, a, b, hs, ts, rfl, rfl, ha, hb, R1, R2, q⟩ := h
  refine ⟨_, (pss_one (ps_ret (pe_callTy (tupOf_K (K := K) rfl) (by rfl) T.n_tuple (by decide +kernel) (pa_cons (pe_lc2 (own := [("limit", 2), ("place", 3)]) (vs1 := [3]) rfl sc_measures.nd (piT_K (K := K) rfl (pv 0)) (blkOk_by (own := [("limit", 2), ("place", 3)]) (N := N_measures) (sc := defScope s_measures) (by decide +kernel)) (by decide) (fun _ _ _ _ _ => (pg_name (i := 2) sc_measures.nd rfl (by first | exact Or.inl rfl | exact Or.inr rfl))) (fun _ _ _ _ _ => pts_nil) (fun _ _ _ _ _ => (piT_K (K := K) rfl (pv 1))) (fun _ _ _ _ _ => (pg_name (i := 3) sc_measures.nd rfl (by first | exact Or.inl rfl | exact Or.inr rfl))) (fun _ _ _ _ _ => pts_nil) (fun _ _ _ _ _ => (pe_fn G_common_measure (hr.mono (by decide)) hg (by rfl) (pa_cons (pv 2) (pa_cons (pv 3) pa_nil))))) pa_nil)))), ?_⟩
  refine ⟨_, rfl, a, rfl, ⟨_, SqT.of ha⟩, fun D nD => ?_⟩
  refine ⟨fun i m H' => m = hs.length - i ∧ i ≤ hs.length ∧ Same H H' ∧ H' D = some (.lst ((MM (hs.take i) ts).map V.int)), ⟨_, rfl, Nat.zero_le _, same_new nD, upd_same⟩, ?_⟩
  rintro i m H1 ⟨rfl, hi, s1, hD1⟩
  have qa : SqT K H1 a (hs.map V.int) := SqT.of (s1 _ _ ha)
  by_cases hlt : i < hs.length
  · have hi2 : hs[i]? = some hs[i] := List.getElem?_eq_getElem hlt
    generalize hs[i] = h0 at hi2
    have h0m := R1.2 h0 (List.mem_of_getElem? hi2)
    refine .inr ⟨⟨hs.map V.int, .int h0, qa, by rw [List.getElem?_map, hi2]; rfl⟩, fun H' => Same H H' ∧ H' D = some (.lst ((MM (hs.take (i + 1)) ts).map V.int)), fun H' p' => ⟨hs.length - (i + 1), by omega, rfl, hlt, p'⟩, fun x H' y => ?_⟩
    obtain ⟨e, y⟩ := y
    subst e
    have ex : x = .int h0 := by
      have z := y _ qa
      rw [List.getElem?_map, hi2] at z
      exact (Option.some.inj z).symm
    subst ex
    refine ⟨rfl, _, rfl, b, rfl, ⟨_, SqT.of (s1 _ _ hb)⟩, ?_⟩
    refine ⟨fun j k H2 => k = ts.length - j ∧ j ≤ ts.length ∧ Same H H2 ∧ H2 D = some (.lst ((MM (hs.take i) ts ++ (ts.take j).map (g h0)).map V.int)), ⟨_, rfl, Nat.zero_le _, s1, by simpa using hD1⟩, ?_⟩
    rintro j k H2 ⟨rfl, hj, s2, hD2⟩
    have qb : SqT K H2 b (ts.map V.int) := SqT.of (s2 _ _ hb)
    by_cases hlj : j < ts.length
    · have hj2 : ts[j]? = some ts[j] := List.getElem?_eq_getElem hlj
      generalize ts[j] = t0 at hj2
      refine .inr ⟨⟨ts.map V.int, .int t0, qb, by rw [List.getElem?_map, hj2]; rfl⟩, fun H' => Same H H' ∧ H' D = some (.lst ((MM (hs.take i) ts ++ (ts.take (j + 1)).map (g h0)).map V.int)), fun H' p' => ⟨ts.length - (j + 1), by omega, rfl, hlj, p'⟩, fun x H' y => ?_⟩
      obtain ⟨e, y⟩ := y
      subst e
      have ex : x = .int t0 := by
        have z := y _ qb
        rw [List.getElem?_map, hj2] at z
        exact (Option.some.inj z).symm
      subst ex
      refine ⟨rfl, _, rfl, _, rfl, _, _, rfl, h0, t0, rfl, rfl, _, hD2, ?_, same_at s2 nD, ?_⟩
      · rw [List.length_map, List.length_append, List.length_map, List.length_take]
        have h1 := MM_len R2.1 (hs.take i)
        rw [List.length_take] at h1
        have h2 := R1.1
        have h3 := R2.1
        exact small1000 (by omega)
      · rw [upd_same, take_snoc hj2]
        simp only [List.map_append, List.map_cons, List.map_nil, List.append_assoc]
    · have e : j = ts.length := by omega
      subst e
      refine .inl ⟨⟨_, qb, by rw [List.length_map]; exact Nat.le_refl _⟩, s2, ?_⟩
      rw [take_snoc hi2, MM_snoc, hD2, List.take_length]
  · have e : i = hs.length := by omega
    subst e
    refine .inl ⟨⟨_, qa, by rw [List.length_map]; exact Nat.le_refl _⟩, D, _, rfl, .inl ⟨SqL.of hD1, fun R nR => ?_⟩⟩
    rw [List.take_length]
    exact q R _ (s1.trans (same_new nR)) upd_same
def rMany : V → V → Hp → VK → Prop := fun x y H Q => ∃ (a b : Addr) (hs ts : List Int), x = .ref a ∧ y = .ref b ∧ H a = some (.tup (hs.map V.int)) ∧ H b = some (.tup (ts.map V.int)) ∧ Rd hs ∧ Rd ts ∧
  ∀ H', Same H H' → Q (.int (W2 hs ts)) H'
theorem MM_in {hs ts : List Int} (h : Rd hs) : ∀ x ∈ MM hs ts, 0 ≤ x ∧ x ≤ 1000000 := by
  intro x hx
  unfold MM at hx
  obtain ⟨y, hy, hx⟩ := List.mem_flatMap.mp hx
  obtain ⟨t, _, rfl⟩ := List.mem_map.mp hx
  exact g_le (h.2 y hy).1 (h.2 y hy).2
theorem ok_many_ways (T : Txt K mg) : Fn P w K mg base 3 "many_ways" ["one", "other"] (sp2 rMany) := by
  have G_size := ok_size (P := P) (w := w) (base := base) T
  have G_measures := ok_measures (P := P) (w := w) (base := base) T
  refine T.d_many_ways.ok sc_many_ways len2 fun f cdv A outer s H vs Q E hr hg h => ?_
  obtain ⟨_, _, rfl, a, b, hs, ts, rfl, rfl, ha, hb, R1, R2, q⟩ := h
  refine ⟨_, (pss_one (ps_ret (pe_fn G_size (hr.mono (by decide)) hg (by rfl) (pa_cons (pe_fn G_measures (hr.mono (by decide)) hg (by rfl) (pa_cons (pv 0) (pa_cons (pv 1) pa_nil))) pa_nil)))), ?_⟩
  refine ⟨_, rfl, _, rfl, _, _, rfl, a, b, hs, ts, rfl, rfl, ha, hb, R1, R2, fun p H1 s1 hp => ?_⟩
  refine ⟨_, rfl, p, _, rfl, hp, ?_, MM_in R1, ?_⟩
  · have h1 := MM_len R2.1 hs
    have h2 := R1.1
    omega
  · rw [pl_MM]
    exact q _ s1
/-! ### the pen -/
theorem merge_pen (a : Addr) : mergeK [] (penD a 0 0) = penD a 0 0 := by
  show putK (putK (putK [] (Sum.inr ("cells" : Str) : Key) (.ref a)) (Sum.inr ("at" : Str)) (.int 0)) (Sum.inr ("left" : Str)) (.int 0) = _
  have e1 : putK ([] : List (Key × V)) (Sum.inr ("cells" : Str) : Key) (.ref a) = [(Sum.inr ("cells" : Str), .ref a)] := putK_new _ rfl
  have e2 : putK [((Sum.inr ("cells" : Str) : Key), V.ref a)] (Sum.inr ("at" : Str) : Key) (.int 0) = [(Sum.inr ("cells" : Str), .ref a), (Sum.inr ("at" : Str), .int 0)] := putK_new _ ((valV_neg kca).trans rfl)
  have e3 : putK [((Sum.inr ("cells" : Str) : Key), V.ref a), (Sum.inr ("at" : Str), .int 0)] (Sum.inr ("left" : Str) : Key) (.int 0) = penD a 0 0 := putK_new _ ((valV_neg kcl).trans ((valV_neg kal).trans rfl))
  rw [e1, e2, e3]
def cutI (ns : List Int) (lo hi : Option Int) : List Int := (ns.drop (HT.sIx ns.length 0 lo)).take (HT.sIx ns.length ns.length hi - HT.sIx ns.length 0 lo)
theorem cut_map (ns : List Int) (lo hi : Option Int) : cutV (ns.map V.int) lo hi = (cutI ns lo hi).map V.int := by
  unfold cutV cutI
  rw [List.length_map, List.map_take, List.map_drop]
def rPen (K : PySem.W.Frag) : V → Hp → VK → Prop := fun x H Q => ∃ (a : Addr) (ns : List Int), x = .ref a ∧ SqL K H a (ns.map V.int) ∧ ∀ d b ms H', H d = none → Same H H' → Pen K H' d b ms 0 → Q (.ref d) H'
theorem ok_law_pen (T : Txt K mg) : Fn P w K mg base 1 "_law_pen" ["_law_script"] (sp1 (rPen K)) := by
  refine T.d_law_pen.ok sc_law_pen len1 fun f cdv A outer s H vs Q E hr hg h => ?_
  obtain ⟨_, rfl, a, ns, rfl, hS, q⟩ := h
  refine ⟨_, (pss_one (ps_ret (pe_disp (pps_cons pe_str (pe_slice sl_list (pv 0) po_none (po_some pe_int)) (pps_cons pe_str pe_int (pps_cons pe_str pe_int pps_nil))) (by rfl) (by rfl) (fun z => by cases z) (by decide)))), ?_⟩
  intro d hd
  refine ⟨_, rfl, _, rfl, a, _, rfl, (same_new hd).seq hS, fun p hp => ?_⟩
  have nd : d ≠ p := ne_of_none upd_same hp
  have hp0 : H p = none := by
    rw [upd_ne nd.symm] at hp
    exact hp
  refine ⟨by rw [upd_ne nd]; exact upd_same, penD p 0 0, rfl, (by show 3 ≤ 15; decide), ?_⟩
  rw [merge_pen, cut_map]
  refine q d p _ _ hd ?_ ⟨SqL.of (by rw [upd_ne nd.symm, upd_same]), 0, 0, upd_same, by decide, by decide, by decide⟩
  intro b o e
  rw [upd_ne (ne_of_none e hd), upd_ne (ne_of_none e hp0), upd_ne (ne_of_none e hd)]
  exact e
theorem p629 : (0 : Int) < 2147483629 := by decide
theorem p647 : (0 : Int) < 2147483647 := by decide
theorem p587 : (0 : Int) < 2147483587 := by decide
theorem p563 : (0 : Int) < 2147483563 := by decide
theorem ok_law_draw (T : Txt K mg) : Fn P w K mg base 1 "_law_draw" ["_law_pen_here", "_law_many"] (sp2 (rDraw K)) := by
  refine T.d_law_draw.ok sc_law_draw len2 fun f cdv A outer s H vs Q E hr hg h => ?_
  obtain ⟨_, _, rfl, d, a, ns, c, many, rfl, rfl, ⟨hS, n, m, hd, n0, n1, m0⟩, p0, p1, hc, q⟩ := h
  have hu := hu_of hr
  refine ⟨_, (pss_cons (ps_if (pt_cmpR op_gt (pe_dget hu (pv 0) pe_str (fun _ _ => rfl)) pe_int (nomark _))
(pss_cons (ps_set (i := 2) sc_law_draw.nd rfl (by first | exact Or.inl rfl | exact Or.inr rfl) (pe_op op_mod (pe_dget hu (pv 0) pe_str (fun _ _ => rfl)) (pv 1)))
(pss_cons (ps_dput hu (pv 0) pe_str (pe_op op_fdiv (pe_dget hu (pv 0) pe_str (fun _ _ => rfl)) (pv 1)) rfl)
(pss_one (ps_ret (pv 2)))))
pss_nil)
(pss_cons (ps_set (i := 3) sc_law_draw.nd rfl (by first | exact Or.inl rfl | exact Or.inr rfl) (pe_dget hu (pv 0) pe_str (fun _ _ => rfl)))
(pss_cons (ps_dput hu (pv 0) pe_str (pe_op op_add (pv 3) pe_int) rfl)
(pss_cons (ps_set (i := 4) sc_law_draw.nd rfl (by first | exact Or.inl rfl | exact Or.inr rfl) (pe_op op_add (pe_op op_mul pe_int (pv 3)) pe_int))
(pss_cons (ps_if (pt_cmpR op_gt (pe_callB (len_K (K := K) rfl) (by rfl) T.n_len (by decide +kernel) (pa_cons (pe_dget hu (pv 0) pe_str (fun _ _ => rfl)) pa_nil)) pe_int (nomark _))
(pss_one (ps_set (i := 4) sc_law_draw.nd rfl (by first | exact Or.inl rfl | exact Or.inr rfl) (pe_ix (ixL_K (K := K) rfl) (pe_dget hu (pv 0) pe_str (fun _ _ => rfl)) (pe_op op_mod (pv 3) (pe_callB (len_K (K := K) rfl) (by rfl) T.n_len (by decide +kernel) (pa_cons (pe_dget hu (pv 0) pe_str (fun _ _ => rfl)) pa_nil))) (fun _ _ => rfl))))
pss_nil)
(pss_cons (ps_if (PW.pt (pw_and (pt_cmpR op_lt (pv 3) (pe_callB (len_K (K := K) rfl) (by rfl) T.n_len (by decide +kernel) (pa_cons (pe_dget hu (pv 0) pe_str (fun _ _ => rfl)) pa_nil)) (nomark _)) (pw_and1 (pt_cmpR op_ge (pe_callB call_abs (by rfl) T.n_abs (by decide +kernel) (pa_cons (pv 4) pa_nil)) (pe_op op_pow pe_int pe_int) (nomark _)))))
(pss_cons (ps_dput hu (pv 0) pe_str (pe_op op_fdiv (pe_callB call_abs (by rfl) T.n_abs (by decide +kernel) (pa_cons (pv 4) pa_nil)) (pv 1)) rfl)
(pss_one (ps_ret (pe_op op_mod (pe_callB call_abs (by rfl) T.n_abs (by decide +kernel) (pa_cons (pv 4) pa_nil)) (pv 1)))))
pss_nil)
(pss_cons (ps_set (i := 5) sc_law_draw.nd rfl (by first | exact Or.inl rfl | exact Or.inr rfl) (pe_op op_mod (pe_op op_mul (pe_op op_add (pe_op op_add (pe_op op_mod (pv 4) pe_int) (pe_op op_mul pe_int (pv 3))) pe_int) pe_int) pe_int))
(pss_cons (ps_set (i := 5) sc_law_draw.nd rfl (by first | exact Or.inl rfl | exact Or.inr rfl) (pe_op op_mod (pe_op op_add (pe_op op_add (pe_op op_mul (pv 5) (pv 5)) (pe_op op_mul pe_int (pv 5))) (pe_op op_mul pe_int (pv 3))) pe_int))
(pss_one (ps_ret (pe_op op_mod (pe_op op_fdiv (pe_op op_mod (pe_op op_mul (pv 5) pe_int) pe_int) pe_int) (pv 1)))))))))))), ?_⟩
  refine ⟨_, rfl, d, _, rfl, dg_left hd, _, _, rfl, rfl, _, rfl, ite2 (fun e => ?_) (fun e => ?_)⟩
  · have hm : 0 < m := of_decide_eq_true e
    refine ⟨_, rfl, d, _, rfl, dg_left hd, _, rfl, _, _, rfl, rfl, p0, ?_⟩
    refine ⟨_, rfl, d, _, rfl, dg_left hd, _, rfl, _, _, rfl, rfl, ⟨p0, p1⟩, _, rfl, d, _, rfl, dp_left hd, ?_⟩
    refine ⟨_, rfl, ?_⟩
    exact q _ _ (Int.emod_nonneg _ (by omega)) (Int.emod_lt_of_pos _ p0) ⟨sq_but But.upd hd hS, n, m / many, upd_same, n0, by omega, Int.ediv_nonneg m0 (by omega)⟩ But.upd
  · refine ⟨_, rfl, d, _, rfl, dg_at hd, ?_⟩
    refine ⟨_, rfl, _, _, rfl, rfl, _, rfl, d, _, rfl, dp_at hd, ?_⟩
    have hd1 : (upd H d (.dK (penD a (n + 1) m))) d = some (.dK (penD a (n + 1) m)) := upd_same
    have hS1 : SqL K (upd H d (.dK (penD a (n + 1) m))) a (ns.map V.int) := sq_but But.upd hd hS
    have hP1 : Pen K (upd H d (.dK (penD a (n + 1) m))) d a ns (c + 1) := ⟨hS1, n + 1, m, hd1, by omega, by omega, m0⟩
    refine ⟨_, rfl, _, _, rfl, rfl, .inl ⟨by decide, by decide⟩, _, _, rfl, rfl, ?_⟩
    -- the end, whatever the cell
    have fin : ∀ (z : Int), 0 ≤ z % many ∧ z % many < many := fun z => ⟨Int.emod_nonneg _ (by omega), Int.emod_lt_of_pos _ p0⟩
    -- the second if, whatever the cell
    refine ⟨_, rfl, d, _, rfl, dg_cells hd1, a, _, rfl, .inl hS1, _, _, rfl, rfl, _, rfl, ite2 (fun e1 => ?_) (fun e1 => ?_)⟩
    · have hl : (0 : Int) < ((ns.map V.int).length : Int) := of_decide_eq_true e1
      obtain ⟨z, hz⟩ := cell_at (ns := ns) (i := n % ((ns.map V.int).length : Int)) (Int.emod_nonneg _ (by omega)) (Int.emod_lt_of_pos _ hl)
      refine ⟨_, rfl, d, _, rfl, dg_cells hd1, _, rfl, _, rfl, d, _, rfl, dg_cells hd1, a, _, rfl, .inl hS1, _, _, rfl, rfl, hl, a, _, _, _, rfl, rfl, hS1, hz, ?_⟩
      refine ⟨_, rfl, _, rfl, d, _, rfl, dg_cells hd1, a, _, rfl, .inl hS1, _, _, rfl, rfl, _, rfl, ite2 (fun e2 => ?_) (fun e2 => ?_)⟩
      · refine ⟨_, rfl, _, rfl, 10, 18, rfl, rfl, ⟨by decide, by decide, by decide⟩, _, _, rfl, rfl, _, rfl, ite2 (fun e3 => ?_) (fun e3 => ?_)⟩
        · refine ⟨_, rfl, _, rfl, _, rfl, _, _, rfl, rfl, ⟨p0, p1⟩, _, rfl, d, _, rfl, dp_left hd1, ?_⟩
          refine ⟨_, rfl, _, rfl, _, rfl, _, _, rfl, rfl, p0, ?_⟩
          rw [abs_eq]
          refine q _ _ (Int.emod_nonneg _ (by omega)) (Int.emod_lt_of_pos _ p0) ⟨sq_but But.upd hd1 hS1, n + 1, _, upd_same, by omega, by omega, Int.ediv_nonneg (Int.natCast_nonneg _) (by omega)⟩ (But.trans But.upd But.upd)
        · refine ⟨_, rfl, _, _, rfl, rfl, p629, _, rfl, _, _, rfl, rfl, .inl ⟨by decide, by decide⟩, _, _, rfl, rfl, _, _, rfl, rfl, _, _, rfl, rfl, .inr ⟨by decide, by decide⟩, _, _, rfl, rfl, p647, ?_⟩
          have b1 := Int.emod_nonneg ((z % 2147483629 + 50021 * n + 307) * 48271) (show (2147483647 : Int) ≠ 0 by decide)
          have b2 := Int.emod_lt_of_pos ((z % 2147483629 + 50021 * n + 307) * 48271) p647
          generalize (z % 2147483629 + 50021 * n + 307) * 48271 % 2147483647 = y at b1 b2 ⊢
          try dsimp only [gName]
          refine ⟨_, rfl, _, rfl, _, _, rfl, rfl, .inl (by omega), _, rfl, _, _, rfl, rfl, .inl ⟨by decide, by decide⟩, _, _, rfl, rfl, _, rfl, _, _, rfl, rfl, .inl ⟨by decide, by decide⟩, _, _, rfl, rfl, _, _, rfl, rfl, p587, ?_⟩
          refine ⟨_, rfl, _, _, rfl, rfl, .inr ⟨by decide, by decide⟩, _, _, rfl, rfl, p563, _, _, rfl, rfl, ⟨by decide, by decide⟩, _, rfl, _, _, rfl, rfl, p0, ?_⟩
          exact q _ _ (fin _).1 (fin _).2 hP1 But.upd
      · refine ⟨_, rfl, _, _, rfl, rfl, p629, _, rfl, _, _, rfl, rfl, .inl ⟨by decide, by decide⟩, _, _, rfl, rfl, _, _, rfl, rfl, _, _, rfl, rfl, .inr ⟨by decide, by decide⟩, _, _, rfl, rfl, p647, ?_⟩
        have b1 := Int.emod_nonneg ((z % 2147483629 + 50021 * n + 307) * 48271) (show (2147483647 : Int) ≠ 0 by decide)
        have b2 := Int.emod_lt_of_pos ((z % 2147483629 + 50021 * n + 307) * 48271) p647
        generalize (z % 2147483629 + 50021 * n + 307) * 48271 % 2147483647 = y at b1 b2 ⊢
        try dsimp only [gName]
        refine ⟨_, rfl, _, rfl, _, _, rfl, rfl, .inl (by omega), _, rfl, _, _, rfl, rfl, .inl ⟨by decide, by decide⟩, _, _, rfl, rfl, _, rfl, _, _, rfl, rfl, .inl ⟨by decide, by decide⟩, _, _, rfl, rfl, _, _, rfl, rfl, p587, ?_⟩
        refine ⟨_, rfl, _, _, rfl, rfl, .inr ⟨by decide, by decide⟩, _, _, rfl, rfl, p563, _, _, rfl, rfl, ⟨by decide, by decide⟩, _, rfl, _, _, rfl, rfl, p0, ?_⟩
        exact q _ _ (fin _).1 (fin _).2 hP1 But.upd
    · refine ⟨_, rfl, _, rfl, d, _, rfl, dg_cells hd1, a, _, rfl, .inl hS1, _, _, rfl, rfl, _, rfl, ite2 (fun e2 => ?_) (fun e2 => ?_)⟩
      · have h1 : ¬ (0 : Int) < ((ns.map V.int).length : Int) := of_decide_eq_false (Bool.eq_false_iff.mpr e1)
        have h2 : n < ((ns.map V.int).length : Int) := of_decide_eq_true e2
        omega
      · refine ⟨_, rfl, _, _, rfl, rfl, p629, _, rfl, _, _, rfl, rfl, .inl ⟨by decide, by decide⟩, _, _, rfl, rfl, _, _, rfl, rfl, _, _, rfl, rfl, .inr ⟨by decide, by decide⟩, _, _, rfl, rfl, p647, ?_⟩
        have b1 := Int.emod_nonneg (((11 * n + 5) % 2147483629 + 50021 * n + 307) * 48271) (show (2147483647 : Int) ≠ 0 by decide)
        have b2 := Int.emod_lt_of_pos (((11 * n + 5) % 2147483629 + 50021 * n + 307) * 48271) p647
        generalize ((11 * n + 5) % 2147483629 + 50021 * n + 307) * 48271 % 2147483647 = y at b1 b2 ⊢
        try dsimp only [gName]
        refine ⟨_, rfl, _, rfl, _, _, rfl, rfl, .inl (by omega), _, rfl, _, _, rfl, rfl, .inl ⟨by decide, by decide⟩, _, _, rfl, rfl, _, rfl, _, _, rfl, rfl, .inl ⟨by decide, by decide⟩, _, _, rfl, rfl, _, _, rfl, rfl, p587, ?_⟩
        refine ⟨_, rfl, _, _, rfl, rfl, .inr ⟨by decide, by decide⟩, _, _, rfl, rfl, p563, _, _, rfl, rfl, ⟨by decide, by decide⟩, _, rfl, _, _, rfl, rfl, p0, ?_⟩
        exact q _ _ (fin _).1 (fin _).2 hP1 But.upd

/-! ### the law's own defs -/
def rMs : V → V → Hp → VK → Prop := fun x y H Q => ∃ i j : Int, x = .int i ∧ y = .int j ∧ 0 ≤ i ∧ 0 ≤ j ∧ Q (.int (g i j)) H
theorem ok_law_measure (T : Txt K mg) : Fn P w K mg base 1 "_law_measure" ["_law_a", "_law_b"] (sp2 rMs) := by
  refine T.d_law_measure.ok sc_law_measure len2 fun f cdv A outer s H vs Q E hr hg h => ?_
  obtain ⟨_, _, rfl, i, j, rfl, rfl, i0, j0, q⟩ := h
  refine ⟨_, (pss_cons (ps_while PassesOwn.never (pt_cmpR op_gt (pv 1) pe_int (nomark _))
(pss_one (ps_par (i := 0) (j := 1) (by rfl) sc_law_measure.nd rfl rfl (by decide) rfl rfl (pa_cons (pv 1) (pa_cons (pe_op op_mod (pv 0) (pv 1)) pa_nil)) (by rfl))))
(pss_one (ps_ret (pv 0)))), ?_⟩
  refine ⟨fun m σ H' => ∃ i' j' : Int, σ = [some (.int i'), some (.int j')] ∧ H' = H ∧ Int.gcd i' j' = Int.gcd i j ∧ 0 ≤ i' ∧ 0 ≤ j' ∧ m = j'.natAbs, ⟨_, i, j, rfl, rfl, rfl, i0, j0, rfl⟩, ?_⟩
  rintro m σ H' ⟨i', j', rfl, rfl, hg, i1, j1, rfl⟩
  refine ⟨_, rfl, _, _, rfl, rfl, _, rfl, ite2 (fun e => ?_) (fun e => ?_)⟩
  · have hj : 0 < j' := of_decide_eq_true e
    refine ⟨fun σ' H'' => ∃ i2 j2 : Int, σ' = [some (.int i2), some (.int j2)] ∧ H'' = H' ∧ Int.gcd i2 j2 = Int.gcd i j ∧ 0 ≤ i2 ∧ 0 ≤ j2 ∧ j2.natAbs < j'.natAbs, ?_, ?_⟩
    · rintro σ' H'' ⟨i2, j2, rfl, rfl, h1, h2, h3, h4⟩
      exact ⟨_, h4, i2, j2, rfl, rfl, h1, h2, h3, rfl⟩
    · have m0 := Int.emod_nonneg i' (show j' ≠ 0 by omega)
      have m1 := Int.emod_lt_of_pos i' hj
      refine ⟨_, rfl, _, rfl, _, rfl, _, _, rfl, rfl, hj, _, _, rfl, j', i' % j', rfl, rfl, ?_, j1, m0, by omega⟩
      rw [← Int.fmod_eq_emod_of_nonneg i' j1, gcd_fmod, hg]
  · have hj : ¬ 0 < j' := of_decide_eq_false (Bool.eq_false_iff.mpr e)
    have hj0 : j' = 0 := by omega
    subst hj0
    refine ⟨_, rfl, ?_⟩
    have e1 : i' = g i j := by
      unfold g
      rw [← hg, Int.gcd_zero_right]
      omega
    rw [e1]
    exact q
theorem pen_at3 {H : Hp} {d a : Addr} {ns : List Int} {c : Int} (p : Pen K H d a ns c) : ∃ kvs, H d = some (.dK kvs) := by
  obtain ⟨_, n, m, h, _⟩ := p
  exact ⟨_, h⟩
theorem cell_in {ns : List Int} {i : Int} (h0 : 0 ≤ i) (h1 : i < (ns.length : Int)) : ∃ z, z ∈ ns ∧ atI (ns.map V.int) i = some (.int z) := by
  obtain ⟨n, rfl⟩ : ∃ n : Nat, i = n := ⟨i.toNat, by omega⟩
  have hn : n < ns.length := by omega
  refine ⟨ns[n], List.getElem_mem hn, atI_nat (j := n) ?_⟩
  rw [List.getElem?_map, List.getElem?_eq_getElem hn]
  rfl
def rRound (K : PySem.W.Frag) : V → Hp → VK → Prop := fun p H Q => ∃ (d a : Addr) (ns : List Int) (c : Int), p = .ref d ∧ Pen K H d a ns c ∧ c + 4 ≤ 1000000 ∧ ∀ r H', 1 ≤ r → r ≤ 1000000 → Pen K H' d a ns (c + 4) → But d H H' → Q (.int r) H'
theorem ok_law_round (T : Txt K mg) : Fn P w K mg base 2 "_law_round" ["_law_pen_here"] (sp1 (rRound K)) := by
  have G_law_draw := ok_law_draw (P := P) (w := w) (base := base) T
  refine T.d_law_round.ok sc_law_round len1 fun f cdv A outer s H vs Q E hr hg h => ?_
  obtain ⟨_, rfl, d, a, ns, c, rfl, hp, hc, q⟩ := h
  refine ⟨_, (pss_cons (ps_set (i := 1) sc_law_round.nd rfl (by first | exact Or.inl rfl | exact Or.inr rfl) (pe_fn G_law_draw (hr.mono (by decide)) hg (by rfl) (pa_cons (pv 0) (pa_cons pe_int pa_nil))))
(pss_cons (ps_if (pt_cmpR op_lt (pv 1) pe_int (nomark _))
(pss_one (ps_ret (pe_ix (ixL_K (K := K) rfl) (pe_lst (pa_cons (pe_op op_add pe_int (pe_fn G_law_draw (hr.mono (by decide)) hg (by rfl) (pa_cons (pv 0) (pa_cons pe_int pa_nil)))) (pa_cons (pe_op op_add pe_int (pe_fn G_law_draw (hr.mono (by decide)) hg (by rfl) (pa_cons (pv 0) (pa_cons pe_int pa_nil)))) (pa_cons (pe_op op_mul pe_int (pe_op op_add pe_int (pe_fn G_law_draw (hr.mono (by decide)) hg (by rfl) (pa_cons (pv 0) (pa_cons pe_int pa_nil))))) (pa_cons pe_int pa_nil))))) (pv 1) (fun _ _ => rfl))))
pss_nil)
(pss_cons (ps_set (i := 2) sc_law_round.nd rfl (by first | exact Or.inl rfl | exact Or.inr rfl) (pe_lst (pa_cons pe_int (pa_cons pe_int (pa_cons pe_int (pa_cons pe_int (pa_cons pe_int (pa_cons pe_int (pa_cons pe_int (pa_cons pe_int (pa_cons pe_int pa_nil)))))))))))
(pss_one (ps_ret (pe_ix (ixL_K (K := K) rfl) (pe_lst (pa_cons (pe_ix (ixL_K (K := K) rfl) (pv 2) (pe_fn G_law_draw (hr.mono (by decide)) hg (by rfl) (pa_cons (pv 0) (pa_cons pe_int pa_nil))) (fun _ _ => rfl)) (pa_cons (pe_op op_add pe_int (pe_fn G_law_draw (hr.mono (by decide)) hg (by rfl) (pa_cons (pv 0) (pa_cons (pe_op op_pow pe_int pe_int) pa_nil)))) (pa_cons pe_int (pa_cons pe_int pa_nil))))) (pe_op op_sub (pv 1) pe_int) (fun _ _ => rfl))))))), ?_⟩
  have e6 : (10 : Int) ^ (6 : Int).toNat = 1000000 := by decide
  refine ⟨_, rfl, _, _, rfl, d, a, ns, c, _, rfl, rfl, hp, by decide, by decide, by omega, fun way H1 w0 w1 hp1 b1 => ?_⟩
  refine ⟨_, rfl, _, _, rfl, rfl, _, rfl, ite2 (fun e1 => ?_) (fun e1 => ?_)⟩
  · have w4 : way < 4 := of_decide_eq_true e1
    refine ⟨_, rfl, _, _, rfl, d, a, ns, _, _, rfl, rfl, hp1, by decide, by decide, by omega, fun x H2 x0 x1 hp2 b2 => ?_⟩
    refine ⟨_, _, rfl, rfl, ?_⟩
    refine ⟨_, rfl, _, _, rfl, d, a, ns, _, _, rfl, rfl, hp2, by decide, by decide, by omega, fun y H3 y0 y1 hp3 b3 => ?_⟩
    refine ⟨_, _, rfl, rfl, ?_⟩
    refine ⟨_, rfl, _, _, rfl, d, a, ns, _, _, rfl, rfl, hp3, by decide, by decide, by omega, fun z H4 z0 z1 hp4 b4 => ?_⟩
    refine ⟨_, _, rfl, rfl, _, _, rfl, rfl, .inl ⟨by decide, by decide⟩, (by show 4 ≤ sizeLine; decide), fun l hl => ?_⟩
    obtain ⟨r, hr1, hr2⟩ := cell_in (ns := [1 + x, 2 + y, 6 * (1 + z), 1]) w0 w4
    refine ⟨_, rfl, l, _, _, _, rfl, rfl, SqL.of upd_same, hr2, ?_⟩
    have hz2 : 1 ≤ r ∧ r ≤ 1000000 := by
      simp only [List.mem_cons, List.not_mem_nil, or_false] at hr1
      omega
    exact q _ _ hz2.1 hz2.2 ((hp4.same (same_new hl)).mono (by omega)) ((((b1.trans b2).trans b3).trans b4).trans (But.new hl))
  · have w4 : ¬ way < 4 := of_decide_eq_false (Bool.eq_false_iff.mpr e1)
    refine ⟨(by show 9 ≤ sizeLine; decide), fun t ht => ?_⟩
    have hp2 := hp1.same (same_new (o := .lst [.int 60, .int 720720, .int 524288, .int 531441, .int 5040, .int 999983, .int 1000000, .int 30030, .int 7776]) ht)
    obtain ⟨kvs, hdd⟩ := pen_at3 hp1
    refine ⟨_, rfl, _, rfl, _, _, rfl, d, a, ns, _, _, rfl, rfl, hp2, by decide, by decide, by omega, fun x H2 x0 x1 hp3 b2 => ?_⟩
    have ht2 := b2 t _ (ne_of_none hdd ht).symm upd_same
    obtain ⟨z, hz, hat⟩ := cell_in (ns := [60, 720720, 524288, 531441, 5040, 999983, 1000000, 30030, 7776]) x0 x1
    refine ⟨t, _, _, _, rfl, rfl, SqL.of ht2, hat, ?_⟩
    refine ⟨_, rfl, 10, 6, rfl, rfl, ⟨by decide, by decide, by decide⟩, _, _, rfl, d, a, ns, _, _, rfl, rfl, hp3, by decide, by decide, by omega, fun y H3 y0 y1 hp4 b3 => ?_⟩
    rw [e6] at y1
    refine ⟨_, _, rfl, rfl, (by show 4 ≤ sizeLine; decide), fun l hl => ?_⟩
    obtain ⟨r, hr1, hr2⟩ := cell_in (ns := [z, 1 + y, 12, 8]) (i := way - 4) (by omega) (by simp only [List.length_cons, List.length_nil]; omega)
    refine ⟨_, rfl, _, _, rfl, rfl, l, _, _, _, rfl, rfl, SqL.of upd_same, hr2, ?_⟩
    have hz2 : 1 ≤ r ∧ r ≤ 1000000 := by
      simp only [List.mem_cons, List.not_mem_nil, or_false] at hr1 hz
      omega
    exact q _ _ hz2.1 hz2.2 ((hp4.same (same_new hl)).mono (by omega)) (((((b1.trans (But.new ht)).trans b2).trans b3)).trans (But.new hl))
theorem but_up {p D : Addr} {H H' : Hp} {o : HO} (b : But p H H') (n : H D = none) : But p H (upd H' D o) := fun c u hc e => by
  rw [upd_ne (ne_of_none e n)]
  exact b c u hc e
theorem pen_up {H1 H2 : Hp} {d a D : Addr} {ns : List Int} {c c1 : Int} {o : HO} (p1 : Pen K H1 d a ns c1) (b : But d H1 H2) (p : Pen K H2 d a ns c) (n : H1 D = none) : Pen K (upd H2 D o) d a ns c := by
  obtain ⟨s1, n1, m1, h1, _⟩ := p1
  obtain ⟨_, n2, m2, h2, r⟩ := p
  exact ⟨sq_but (but_up b n) h1 s1, n2, m2, by rw [upd_ne (ne_of_none h1 n)]; exact h2, r⟩
def rHouse (K : PySem.W.Frag) : V → Hp → VK → Prop := fun p H Q => ∃ (d a : Addr) (ns : List Int) (c : Int), p = .ref d ∧ Pen K H d a ns c ∧ c + 31 ≤ 1000000 ∧
  ∀ b H' (hs : List Int), H' b = some (.tup (hs.map V.int)) → Rd hs → Pen K H' d a ns (c + 31) → But d H H' → Q (.ref b) H'
theorem ok_law_house (T : Txt K mg) : Fn P w K mg base 3 "_law_house" ["_law_pen_here"] (sp1 (rHouse K)) := by
  have G_law_draw := ok_law_draw (P := P) (w := w) (base := base) T
  have G_law_round := ok_law_round (P := P) (w := w) (base := base) T
  refine T.d_law_house.ok sc_law_house len1 fun f cdv A outer s H vs Q E hr hg h => ?_
  obtain ⟨_, rfl, d, a, ns, c, rfl, hp, hc, q⟩ := h
  refine ⟨_, (pss_cons (ps_set (i := 1) sc_law_house.nd rfl (by first | exact Or.inl rfl | exact Or.inr rfl) (pe_ix (ixL_K (K := K) rfl) (pe_lst (pa_cons pe_int (pa_cons pe_int (pa_cons pe_int (pa_cons pe_int (pa_cons pe_int (pa_cons pe_int (pa_cons pe_int (pa_cons pe_int pa_nil))))))))) (pe_fn G_law_draw (hr.mono (by decide)) hg (by rfl) (pa_cons (pv 0) (pa_cons pe_int pa_nil))) (fun _ _ => rfl)))
(pss_cons (ps_set (i := 2) sc_law_house.nd rfl (by first | exact Or.inl rfl | exact Or.inr rfl) (pe_lst pa_nil))
(pss_cons (ps_for PassesOwn.never rfl (pi_range1 (by rfl) T.n_range (pa_cons (pv 1) pa_nil)) (pg_name (i := 3) sc_law_house.nd rfl (by first | exact Or.inl rfl | exact Or.inr rfl))
(pss_one (ps_if (PW.pt (pw_and (pt_cmpR op_gt (pv 3) pe_int (nomark _)) (pw_and1 (pt_cmpR op_eq (pe_fn G_law_draw (hr.mono (by decide)) hg (by rfl) (pa_cons (pv 0) (pa_cons pe_int pa_nil))) pe_int (nomark _)))))
(pss_one (ps_expr (pe_bm PySem.F.plainAttrs_list PySem.F.slot_list_append PySem.F.type_list_append mt_append (pv 2) (pa_cons (pe_ix (ixL_K (K := K) rfl) (pv 2) (pe_fn G_law_draw (hr.mono (by decide)) hg (by rfl) (pa_cons (pv 0) (pa_cons (pv 3) pa_nil))) (fun _ _ => rfl)) pa_nil))))
(pss_one (ps_expr (pe_bm PySem.F.plainAttrs_list PySem.F.slot_list_append PySem.F.type_list_append mt_append (pv 2) (pa_cons (pe_fn G_law_round (hr.mono (by decide)) hg (by rfl) (pa_cons (pv 0) pa_nil)) pa_nil)))))))
(pss_one (ps_ret (pe_callTy (tupOf_K (K := K) rfl) (by rfl) T.n_tuple (by decide +kernel) (pa_cons (pv 2) pa_nil))))))), ?_⟩
  refine ⟨(by show 8 ≤ sizeLine; decide), fun t ht => ?_⟩
  have hp0 := hp.same (same_new (o := .lst [.int 1, .int 2, .int 0, .int 3, .int 2, .int 6, .int 4, .int 5]) ht)
  obtain ⟨kvs, hdd⟩ := pen_at3 hp
  refine ⟨_, rfl, _, _, rfl, d, a, ns, c, _, rfl, rfl, hp0, by decide, by decide, by omega, fun n H1 n0 n1 hp1 b1 => ?_⟩
  have ht2 := b1 t _ (ne_of_none hdd ht).symm upd_same
  obtain ⟨z, hz, hat⟩ := cell_in (ns := [1, 2, 0, 3, 2, 6, 4, 5]) n0 n1
  refine ⟨t, _, _, _, rfl, rfl, SqL.of ht2, hat, ?_⟩
  have hz6 : 0 ≤ z ∧ z ≤ 6 := by
    simp only [List.mem_cons, List.not_mem_nil, or_false] at hz
    omega
  obtain ⟨n, rfl⟩ : ∃ m : Nat, z = m := ⟨z.toNat, by omega⟩
  have b01 : But d H H1 := (But.new ht).trans b1
  refine ⟨Nat.zero_le _, fun D nD => ?_⟩
  obtain ⟨kv1, hd1⟩ := pen_at3 hp1
  have nDd : D ≠ d := (ne_of_none hd1 nD).symm
  refine ⟨_, rfl, _, rfl, by omega, by omega, for_range (lo := 0) (n := n) (fun i σ H' => ∃ o : Option V, σ = [some (.ref d), some (.int (n : Int)), some (.ref D), o] ∧ Pen K H' d a ns (c + 1 + 5 * i) ∧ But d H1 H' ∧ ∃ hs : List Int, H' D = some (.lst (hs.map V.int)) ∧ hs.length = i ∧ ∀ x ∈ hs, 1 ≤ x ∧ x ≤ 1000000)
    ⟨none, rfl, by simpa using pen_up hp1 (But.refl d H1) hp1 nD, But.new nD, [], upd_same, rfl, by simp⟩ ?_ ?_⟩
  · rintro i σ H2 hi ⟨o, rfl, hp2, b2, hs, hD, hl, hx⟩
    have app : ∀ (v : Int) (H3 : Hp) (c3 : Int), 1 ≤ v → v ≤ 1000000 → H3 D = some (.lst (hs.map V.int)) → Pen K H3 d a ns c3 → c3 ≤ c + 1 + 5 * i + 5 → But d H1 H3 →
        (hs.map V.int).length < sizeLine ∧ (∃ o : Option V, [some (V.ref d), some (V.int (n : Int)), some (V.ref D), some (V.int (0 + (i : Int)))] = [some (.ref d), some (.int (n : Int)), some (.ref D), o] ∧ Pen K (upd H3 D (.lst (hs.map V.int ++ [.int v]))) d a ns (c + 1 + 5 * ((i + 1 : Nat) : Int)) ∧ But d H1 (upd H3 D (.lst (hs.map V.int ++ [.int v]))) ∧ ∃ hs' : List Int, (upd H3 D (.lst (hs.map V.int ++ [.int v]))) D = some (.lst (hs'.map V.int)) ∧ hs'.length = i + 1 ∧ ∀ x ∈ hs', 1 ≤ x ∧ x ≤ 1000000) := by
      intro v H3 c3 v1 v2 hD3 hp3 hc3 b3
      refine ⟨by rw [List.length_map]; exact small1000 (by omega), _, rfl, ?_, but_up b3 nD, hs ++ [v], ?_, ?_, ?_⟩
      · exact (pen_up hp1 b3 hp3 nD).mono (by omega)
      · rw [upd_same, List.map_append]
        rfl
      · rw [List.length_append, hl]
        rfl
      · intro x hx2
        rcases List.mem_append.mp hx2 with e | e
        · exact hx x e
        · rw [List.mem_singleton.mp e]
          exact ⟨v1, v2⟩
    refine ⟨_, rfl, _, _, rfl, rfl, _, rfl, ite2 (fun e1 => ?_) (fun e1 => ?_)⟩
    · have i0 : (0 : Int) < 0 + (i : Int) := of_decide_eq_true e1
      refine ⟨_, rfl, _, _, rfl, d, a, ns, _, _, rfl, rfl, hp2, by decide, by decide, by omega, fun r H3 r0 r1 hp3 b3 => ?_⟩
      have hD3 := b3 _ _ nDd hD
      refine ⟨rfl, _, rfl, ite2 (fun e2 => ?_) (fun e2 => ?_)⟩
      · refine ⟨_, rfl, .inl ⟨rfl, _, SqL.of hD3⟩, _, rfl, _, rfl, _, rfl, _, _, rfl, d, a, ns, _, _, rfl, rfl, hp3, by omega, by omega, by omega, fun k H4 k0 k1 hp4 b4 => ?_⟩
        have hD4 := b4 _ _ nDd hD3
        obtain ⟨v, hv, hat⟩ := cell_in (ns := hs) k0 (by omega)
        refine ⟨D, _, _, _, rfl, rfl, SqL.of hD4, hat, ?_⟩
        have A := app v H4 _ (hx v hv).1 (hx v hv).2 hD4 hp4 (by omega) ((b2.trans b3).trans b4)
        exact ⟨D, _, _, rfl, rfl, hD4, A.1, A.2⟩
      · refine ⟨_, rfl, .inl ⟨rfl, _, SqL.of hD3⟩, _, rfl, _, rfl, d, a, ns, _, rfl, hp3, by omega, fun v H4 v1 v2 hp4 b4 => ?_⟩
        have hD4 := b4 _ _ nDd hD3
        have A := app v H4 _ v1 v2 hD4 hp4 (by omega) ((b2.trans b3).trans b4)
        exact ⟨D, _, _, rfl, rfl, hD4, A.1, A.2⟩
    · refine ⟨_, rfl, .inl ⟨rfl, _, SqL.of hD⟩, _, rfl, _, rfl, d, a, ns, _, rfl, hp2, by omega, fun v H4 v1 v2 hp4 b4 => ?_⟩
      have hD4 := b4 _ _ nDd hD
      have A := app v H4 _ v1 v2 hD4 hp4 (by omega) (b2.trans b4)
      exact ⟨D, _, _, rfl, rfl, hD4, A.1, A.2⟩
  · rintro σ H2 ⟨o, rfl, hp2, b2, hs, hD, hl, hx⟩
    refine ⟨_, rfl, D, _, rfl, .inl ⟨SqL.of hD, fun R nR => ?_⟩⟩
    exact q R _ hs upd_same ⟨by omega, hx⟩ ((hp2.same (same_new nR)).mono (by omega)) ((b01.trans b2).trans (But.new nR))
def rWh : V → Hp → VK → Prop := fun x H Q => ∃ i, x = .int i ∧ Q (.bl true) H
theorem ok_law_is_number (T : Txt K mg) : Fn P w K mg base 1 "_law_is_number" ["_law_thing"] (sp1 rWh) := by
  refine T.d_law_is_number.ok sc_law_is_number len1 fun f cdv A outer s H vs Q E hr hg h => ?_
  obtain ⟨_, rfl, i, rfl, q⟩ := h
  refine ⟨_, (pss_one (ps_ret (pe_and (pe_callB (isi_K (K := K) rfl) (by rfl) T.n_isinstance (by decide +kernel) (pa_cons (pv 0) (pa_cons (pe_bltn (v := .ty "int") (by rfl) T.n_int (by decide +kernel) rfl) pa_nil))) (pe_one (pe_not (pe_callB (isi_K (K := K) rfl) (by rfl) T.n_isinstance (by decide +kernel) (pa_cons (pv 0) (pa_cons (pe_bltn (v := .ty "bool") (by rfl) T.n_bool (by decide +kernel) rfl) pa_nil)))))))), ?_⟩
  refine ⟨_, rfl, _, _, _, _, true, rfl, .ty "int", .base (.int _), kit_ty (by decide +kernel), true, rfl, iteT ?_⟩
  refine ⟨_, rfl, _, _, _, _, false, rfl, .ty "bool", .base (.int _), kit_ty (by decide +kernel), false, rfl, ?_⟩
  exact q
def rDue : V → V → Hp → VK → Prop := fun x y H Q => ∃ (a b : Addr) (hs ts : List Int), x = .ref a ∧ y = .ref b ∧ H a = some (.tup (hs.map V.int)) ∧ H b = some (.tup (ts.map V.int)) ∧ Rd hs ∧ Rd ts ∧ Q (.int (W2 hs ts)) H
theorem ok_law_due (T : Txt K mg) : Fn P w K mg base 2 "_law_due" ["_law_one", "_law_other"] (sp2 rDue) := by
  have G_law_measure := ok_law_measure (P := P) (w := w) (base := base) T
  refine T.d_law_due.ok sc_law_due len2 fun f cdv A outer s H vs Q E hr hg h => ?_
  obtain ⟨_, _, rfl, a, b, hs, ts, rfl, rfl, ha, hb, R1, R2, q⟩ := h
  refine ⟨_, (pss_cons (ps_set (i := 2) sc_law_due.nd rfl (by first | exact Or.inl rfl | exact Or.inr rfl) pe_int)
(pss_cons (ps_for PassesOwn.never rfl (piT_K (K := K) rfl (pv 0)) (pg_name (i := 3) sc_law_due.nd rfl (by first | exact Or.inl rfl | exact Or.inr rfl))
(pss_one (ps_for PassesOwn.never rfl (piT_K (K := K) rfl (pv 1)) (pg_name (i := 4) sc_law_due.nd rfl (by first | exact Or.inl rfl | exact Or.inr rfl))
(pss_one (ps_set (i := 2) sc_law_due.nd rfl (by first | exact Or.inl rfl | exact Or.inr rfl) (pe_op op_mulW (pv 2) (pe_fn G_law_measure (hr.mono (by decide)) hg (by rfl) (pa_cons (pv 3) (pa_cons (pv 4) pa_nil)))))))))
(pss_one (ps_ret (pv 2))))), ?_⟩
  refine ⟨_, rfl, a, rfl, ⟨_, SqT.of ha⟩, for_tup (K := K) (a := a) (xs := hs.map V.int) (fun i σ H' => ∃ o o' : Option V, σ = [some (.ref a), some (.ref b), some (.int (W2 (hs.take i) ts)), o, o'] ∧ H' = H)
    ⟨none, none, rfl, rfl⟩ (fun i σ H' _ ⟨_, _, _, e⟩ => by rw [e]; exact SqT.of ha) ?_ ?_⟩
  · rintro i x σ H' hi ⟨o, o', rfl, rfl⟩
    rw [List.getElem?_map] at hi
    obtain ⟨h0, hy, rfl⟩ := Option.map_eq_some_iff.mp hi
    have hm := R1.2 h0 (List.mem_of_getElem? hy)
    refine ⟨_, rfl, b, rfl, ⟨_, SqT.of hb⟩, for_tup (K := K) (a := b) (xs := ts.map V.int) (fun j σ H'' => ∃ o' : Option V, σ = [some (.ref a), some (.ref b), some (.int (W2 (hs.take i) ts * pl ((ts.take j).map (g h0)))), some (.int h0), o'] ∧ H'' = H')
      ⟨o', by simp [pl, gName], rfl⟩ (fun i σ H' _ ⟨_, _, e⟩ => by rw [e]; exact SqT.of hb) ?_ ?_⟩
    · rintro j x σ H'' hj ⟨o', rfl, rfl⟩
      rw [List.getElem?_map] at hj
      obtain ⟨t0, hz, rfl⟩ := Option.map_eq_some_iff.mp hj
      have tm := R2.2 t0 (List.mem_of_getElem? hz)
      refine ⟨_, rfl, _, rfl, _, rfl, _, _, rfl, h0, t0, rfl, rfl, by omega, by omega, _, _, rfl, rfl, ?_, ?_⟩
      · have w1 := W2_lt (R1.take i) R2.1
        have w2 := in_lt (h := h0) (ts := ts.take j) hm.1 hm.2 (R2.take j).1
        exact wide_mul (a := 842) (b := 20) (wide_lt (a := 721) (b := 121) w1 w2) (g_lt hm.1 hm.2) (by decide) (by decide) (by decide)
      · refine ⟨some (.int t0), ?_, rfl⟩
        rw [take_snoc hz, List.map_append, List.map_cons, List.map_nil, pl_snoc, ← Int.mul_assoc]
        rfl
    · rintro σ H'' ⟨o', rfl, rfl⟩
      refine ⟨some (.int h0), o', ?_, rfl⟩
      rw [take_snoc hy, W2_snoc, List.length_map, List.take_length]
  · rintro σ H' ⟨o, o', rfl, rfl⟩
    refine ⟨_, rfl, ?_⟩
    rw [List.length_map, List.take_length]
    exact q

/-! ### the law -/
def HsV (H : Hp) (v : V) (hs : List Int) : Prop := ∃ a, v = .ref a ∧ H a = some (.tup (hs.map V.int))
theorem HsV.same {H H' : Hp} {v : V} {hs : List Int} (h : HsV H v hs) (s : Same H H') : HsV H' v hs := let ⟨a, e, x⟩ := h; ⟨a, e, s _ _ x⟩
theorem HsV.but {H H' : Hp} {v : V} {hs : List Int} {d : Addr} {kvs : List (Key × V)} (h : HsV H v hs) (hd : H d = some (.dK kvs)) (s : But d H H') : HsV H' v hs := let ⟨a, e, x⟩ := h; ⟨a, e, s _ _ (ne_of x hd (by intro z; cases z)) x⟩
theorem cut3 (hs : List Int) : (cutI hs none (some 3)).length ≤ 3 ∧ ∀ x ∈ cutI hs none (some 3), x ∈ hs := by
  refine ⟨?_, fun x hx => List.mem_of_mem_drop (List.mem_of_mem_take hx)⟩
  unfold cutI
  rw [List.length_take, List.length_drop]
  have e : HT.sIx hs.length hs.length (some 3) = min 3 hs.length := HT.sIx_nat hs.length hs.length 3
  rw [e]
  omega
theorem sl_H {H : Hp} {v : V} {hs : List Int} {Q : VK} (h : HsV H v hs) (R : Rd hs) (q : ∀ v' H' ls, Same H H' → HsV H' v' ls → ls.length ≤ 3 → Rd ls → Q v' H') : rSlA K v none (some 3) H Q := by
  obtain ⟨a, rfl, h2⟩ := h
  refine ⟨a, _, rfl, SqT.of h2, fun z => q _ _ hs (Same.refl H) ⟨a, rfl, h2⟩ ?_ R, fun _ p hp => q _ _ (cutI hs none (some 3)) (same_new hp) ⟨p, rfl, by rw [upd_same, cut_map]⟩ (cut3 hs).1 (R.sub (Nat.le_trans (cut3 hs).1 (by decide)) (cut3 hs).2)⟩
  have e := z.2
  rw [List.length_map] at e
  have e2 : HT.sIx hs.length hs.length (some 3) = min 3 hs.length := HT.sIx_nat hs.length hs.length 3
  rw [e2] at e
  omega
theorem cat_H {H : Hp} {v u : V} {hs ls : List Int} {Q : VK} (h : HsV H v hs) (h' : HsV H u ls) (l1 : hs.length ≤ 3) (l2 : ls.length ≤ 3) (R1 : Rd hs) (R2 : Rd ls) (q : ∀ v' H' ms, Same H H' → HsV H' v' ms → Rd ms → Q v' H') : rCatA K v u H Q := by
  obtain ⟨a, rfl, h2⟩ := h
  obtain ⟨b, rfl, g2⟩ := h'
  refine ⟨a, b, _, _, rfl, rfl, SqT.of h2, SqT.of g2, ?_, fun _ => q _ _ ls (Same.refl H) ⟨b, rfl, g2⟩ R2, fun _ _ => q _ _ hs (Same.refl H) ⟨a, rfl, h2⟩ R1, fun _ _ p hp => q _ _ (hs ++ ls) (same_new hp) ⟨p, rfl, by rw [upd_same, List.map_append]⟩ ⟨by rw [List.length_append]; omega, fun x hx => ?_⟩⟩
  · rw [List.length_map, List.length_map]
    have : 6 ≤ sizeLine := by decide
    omega
  · rcases List.mem_append.mp hx with z | z
    · exact R1.2 x z
    · exact R2.2 x z
theorem pick4 {p : V → Prop} {v0 v1 v2 v3 : V} {r : Int} (r0 : 0 ≤ r) (r1 : r < 4) (h0 : p v0) (h1 : p v1) (h2 : p v2) (h3 : p v3) : ∃ v, atI [v0, v1, v2, v3] r = some v ∧ p v := by
  rcases (show r = 0 ∨ r = 1 ∨ r = 2 ∨ r = 3 by omega) with rfl | rfl | rfl | rfl
  · exact ⟨v0, atI_nat (j := 0) rfl, h0⟩
  · exact ⟨v1, atI_nat (j := 1) rfl, h1⟩
  · exact ⟨v2, atI_nat (j := 2) rfl, h2⟩
  · exact ⟨v3, atI_nat (j := 3) rfl, h3⟩
def spLaw (K : PySem.W.Frag) : Sp := fun vs H Q _ => ∃ (a : Addr) (ns : List Int), vs = [.ref a] ∧ SqL K H a (ns.map V.int) ∧ ns.length ≤ 63 ∧ ∀ H', Q (.bl true) H'
theorem got_lt {hs ts : List Int} (R1 : Rd hs) (R2 : Rd ts) (i : Nat) : (pl ((ts.take i).map fun t => W2 hs [t])).natAbs < 2 ^ 721 := by
  rw [W2_each]
  exact W2_lt R1 (R2.take i).1
theorem ok_law {f : Addr} {fd : FuncData} (T : Txt K mg) (F : Fun K "law" "law" s_law f fd) : FnG P w K mg base CX0 4 f fd ["_law_script"] (spLaw K) := by
  have G_many_ways := ok_many_ways (P := P) (w := w) (base := base) T
  have G_law_pen := ok_law_pen (P := P) (w := w) (base := base) T
  have G_law_draw := ok_law_draw (P := P) (w := w) (base := base) T
  have G_law_house := ok_law_house (P := P) (w := w) (base := base) T
  have G_law_is_number := ok_law_is_number (P := P) (w := w) (base := base) T
  have G_law_due := ok_law_due (P := P) (w := w) (base := base) T
  refine fng_mk F sc_law (fun vs H Q E h => ?_) (fun cdv A outer s H vs Q E hr hg h => ?_)
  · obtain ⟨a, ns, rfl, _⟩ := h
    rfl
  obtain ⟨a0, ns0, rfl, hS, hl, q⟩ := h
  refine ⟨_, (PSs.nox ((pss_cons (ps_set (i := 1) sc_law.nd rfl (by first | exact Or.inl rfl | exact Or.inr rfl) (pe_fn G_law_pen (hr.mono (by decide)) hg (by rfl) (pa_cons (pv 0) pa_nil)))
(pss_cons (ps_for PassesOwn.never rfl (pi_range1 (by rfl) T.n_range (pa_cons pe_int pa_nil)) (pg_name (i := 2) sc_law.nd rfl (by first | exact Or.inl rfl | exact Or.inr rfl))
(pss_cons (ps_set (i := 3) sc_law.nd rfl (by first | exact Or.inl rfl | exact Or.inr rfl) (pe_fn G_law_house (hr.mono (by decide)) hg (by rfl) (pa_cons (pv 1) pa_nil)))
(pss_cons (ps_set (i := 4) sc_law.nd rfl (by first | exact Or.inl rfl | exact Or.inr rfl) (pe_ix (ixL_K (K := K) rfl) (pe_lst (pa_cons (pe_fn G_law_house (hr.mono (by decide)) hg (by rfl) (pa_cons (pv 1) pa_nil)) (pa_cons (pv 3) (pa_cons (pe_revT (pv 3)) (pa_cons (pe_op (cat_K (K := K) rfl) (pe_slice (sl_K (K := K) rfl) (pv 3) po_none (po_some pe_int)) (pe_slice (sl_K (K := K) rfl) (pe_fn G_law_house (hr.mono (by decide)) hg (by rfl) (pa_cons (pv 1) pa_nil)) po_none (po_some pe_int))) pa_nil))))) (pe_fn G_law_draw (hr.mono (by decide)) hg (by rfl) (pa_cons (pv 1) (pa_cons pe_int pa_nil))) (fun _ _ => rfl)))
(pss_cons (ps_set (i := 5) sc_law.nd rfl (by first | exact Or.inl rfl | exact Or.inr rfl) (pe_fn G_law_due (hr.mono (by decide)) hg (by rfl) (pa_cons (pv 3) (pa_cons (pv 4) pa_nil))))
(pss_cons (ps_for PassesOwn.never rfl (pi_tup (pe_tup (pa_cons (pe_fn G_many_ways (hr.mono (by decide)) hg (by rfl) (pa_cons (pv 3) (pa_cons (pv 4) pa_nil))) (pa_cons (pe_fn G_many_ways (hr.mono (by decide)) hg (by rfl) (pa_cons (pv 4) (pa_cons (pv 3) pa_nil))) (pa_cons (pe_fn G_many_ways (hr.mono (by decide)) hg (by rfl) (pa_cons (pe_revT (pv 3)) (pa_cons (pv 4) pa_nil))) pa_nil))))) (pg_name (i := 6) sc_law.nd rfl (by first | exact Or.inl rfl | exact Or.inr rfl))
(pss_one (ps_if (PW.pt (pw_or (pt_not (pt_val (pe_fn G_law_is_number (hr.mono (by decide)) hg (by rfl) (pa_cons (pv 6) pa_nil)))) (pw_or1 (pt_cmpR op_ne (pv 6) (pv 5) (nomark _)))))
(pss_one (ps_ret pe_bl))
pss_nil)))
(pss_cons (ps_set (i := 7) sc_law.nd rfl (by first | exact Or.inl rfl | exact Or.inr rfl) pe_int)
(pss_cons (ps_for PassesOwn.never rfl (piT_K (K := K) rfl (pv 4)) (pg_name (i := 8) sc_law.nd rfl (by first | exact Or.inl rfl | exact Or.inr rfl))
(pss_one (ps_set (i := 7) sc_law.nd rfl (by first | exact Or.inl rfl | exact Or.inr rfl) (pe_op op_mulW (pv 7) (pe_fn G_many_ways (hr.mono (by decide)) hg (by rfl) (pa_cons (pv 3) (pa_cons (pe_tup (pa_cons (pv 8) pa_nil)) pa_nil)))))))
(pss_one (ps_if (PW.pt (pw_or (pt_cmpR op_ne (pv 7) (pv 5) (nomark _)) (pw_or (pt_cmpR op_ne (pe_fn G_many_ways (hr.mono (by decide)) hg (by rfl) (pa_cons (pv 3) (pa_cons (pe_tup pa_nil) pa_nil))) pe_int (nomark _)) (pw_or1 (pt_cmpR op_ne (pe_fn G_many_ways (hr.mono (by decide)) hg (by rfl) (pa_cons (pe_tup pa_nil) (pa_cons (pv 4) pa_nil))) pe_int (nomark _))))))
(pss_one (ps_ret pe_bl))
pss_nil)))))))))
(pss_one (ps_ret pe_bl)))))), ?_⟩
  refine ⟨_, rfl, _, rfl, a0, ns0, rfl, hS, fun d a ns H1 nd sm hp => ?_⟩
  refine ⟨6, rfl, by decide, by decide, for_range (lo := 0) (n := 6) (fun k σ H' => ∃ o2 o3 o4 o5 o6 o7 o8 : Option V, σ = [some (.ref a0), some (.ref d), o2, o3, o4, o5, o6, o7, o8] ∧ Pen K H' d a ns (94 * k))
    ⟨none, none, none, none, none, none, none, rfl, by simpa using hp⟩ ?_ ?_⟩
  · rintro k σ H' hk ⟨o2, o3, o4, o5, o6, o7, o8, rfl, hp1⟩
    refine ⟨_, rfl, _, rfl, d, a, ns, _, rfl, hp1, by omega, fun one H2 hs ho R1 hp2 b2 => ?_⟩
    -- the other one
    obtain ⟨kv2, hd2⟩ := pen_at3 hp2
    refine ⟨_, rfl, _, rfl, d, a, ns, _, rfl, hp2, by omega, fun b1 H3 ts1 hb1 R2 hp3 b3 => ?_⟩
    have ho3 : HsV H3 (.ref one) hs := HsV.but ⟨one, rfl, ho⟩ hd2 b3
    refine ⟨_, rfl, _, rfl, one, _, rfl, SqT.of (by obtain ⟨_, e, x⟩ := ho3; cases e; exact x), fun p hp' => ?_⟩
    have s34 := same_new (H := H3) (o := .tup (hs.map V.int).reverse) hp'
    have hrev : HsV (upd H3 p (.tup (hs.map V.int).reverse)) (.ref p) hs.reverse := ⟨p, rfl, by rw [upd_same, List.map_reverse]⟩
    refine ⟨_, rfl, _, rfl, sl_H (ho3.same s34) R1 fun v5 H5 ls s45 hv5 l5 R5 => ?_⟩
    have hp5 := (hp3.same s34).same s45
    obtain ⟨kv5, hd5⟩ := pen_at3 hp5
    refine ⟨_, rfl, _, rfl, d, a, ns, _, rfl, hp5, by omega, fun b6 H6 ts6 hb6 R6 hp6 bb6 => ?_⟩
    refine ⟨_, rfl, sl_H ⟨b6, rfl, hb6⟩ R6 fun v7 H7 ls7 s67 hv7 l7 R7 => ?_⟩
    refine cat_H ((hv5.but hd5 bb6).same s67) hv7 l5 l7 R5 R7 fun v8 H8 ms s78 hv8 R8 => ?_
    refine ⟨(by show 4 ≤ sizeLine; decide), fun l hl8 => ?_⟩
    have s68 : Same H6 H8 := s67.trans s78
    have s89 := same_new (H := H8) (o := .lst [.ref b1, .ref one, .ref p, v8]) hl8
    have hp9 := (hp6.same s68).same s89
    obtain ⟨kv8, hd8⟩ := pen_at3 (hp6.same s68)
    have nl : l ≠ d := (ne_of_none hd8 hl8).symm
    have hd9 := s89 _ _ hd8
    have F1 : ∀ {v : V} {xs : List Int}, HsV H3 v xs → HsV (upd H8 l (.lst [.ref b1, .ref one, .ref p, v8])) v xs := fun h => ((((h.same s34).same s45).but hd5 bb6).same s68).same s89
    have F2 : HsV (upd H8 l (.lst [.ref b1, .ref one, .ref p, v8])) (.ref p) hs.reverse := (((hrev.same s45).but hd5 bb6).same s68).same s89
    refine ⟨_, rfl, _, _, rfl, d, a, ns, _, _, rfl, rfl, hp9, by decide, by decide, by omega, fun r H10 r0 r1 hp10 b10 => ?_⟩
    obtain ⟨v, hat, ts, hv, R9⟩ := pick4 (p := fun v => ∃ ts, HsV H10 v ts ∧ Rd ts) (v0 := .ref b1) (v1 := .ref one) (v2 := .ref p) (v3 := v8) r0 r1
      ⟨ts1, (F1 ⟨b1, rfl, hb1⟩).but hd9 b10, R2⟩ ⟨hs, (F1 ho3).but hd9 b10, R1⟩ ⟨hs.reverse, F2.but hd9 b10, R1.rev⟩ ⟨ms, (hv8.same s89).but hd9 b10, R8⟩
    refine ⟨l, _, _, _, rfl, rfl, SqL.of (b10 _ _ nl upd_same), hat, ?_⟩
    obtain ⟨_, e1, ho10⟩ := (F1 ho3).but hd9 b10
    cases e1
    obtain ⟨b, rfl, hb10⟩ := hv
    refine ⟨_, rfl, _, rfl, _, _, rfl, one, b, hs, ts, rfl, rfl, ho10, hb10, R1, R9, ?_⟩
    -- three times told
    refine ⟨_, rfl, _, rfl, _, _, rfl, one, b, hs, ts, rfl, rfl, ho10, hb10, R1, R9, fun H11 s11 => ?_⟩
    refine ⟨_, rfl, _, rfl, _, _, rfl, b, one, ts, hs, rfl, rfl, s11 _ _ hb10, s11 _ _ ho10, R9, R1, fun H12 s12 => ?_⟩
    have s10 := s11.trans s12
    refine ⟨_, rfl, one, _, rfl, SqT.of (s10 _ _ ho10), fun p2 hp2' => ?_⟩
    have s13 := s10.trans (same_new (H := H12) (o := .tup (hs.map V.int).reverse) hp2')
    refine ⟨_, rfl, _, _, rfl, p2, b, hs.reverse, ts, rfl, rfl, by rw [upd_same, List.map_reverse], s13 _ _ hb10, R1.rev, R9, fun H14 s14 => ?_⟩
    have s14' := s13.trans s14
    refine ⟨(by show 3 ≤ sizeLine; decide), fun t ht => ?_⟩
    have s15 := s14'.trans (same_new (o := .tup [.int (W2 hs ts), .int (W2 ts hs), .int (W2 hs.reverse ts)]) ht)
    have hp15 := hp10.same s15
    have ho15 := s15 _ _ ho10
    have hb15 := s15 _ _ hb10
    have ht15 : (upd H14 t (.tup [.int (W2 hs ts), .int (W2 ts hs), .int (W2 hs.reverse ts)])) t = some (.tup [.int (W2 hs ts), .int (W2 ts hs), .int (W2 hs.reverse ts)]) := upd_same
    generalize upd H14 t (.tup [.int (W2 hs ts), .int (W2 ts hs), .int (W2 hs.reverse ts)]) = H15 at s15 hp15 ho15 hb15 ht15 ⊢
    refine ⟨t, rfl, ⟨_, SqT.of ht15⟩, for_tup (K := K) (a := t) (xs := [.int (W2 hs ts), .int (W2 ts hs), .int (W2 hs.reverse ts)]) (fun i σ H' => ∃ o6 : Option V, σ = [some (.ref a0), some (.ref d), some (.int (0 + (k : Int))), some (.ref one), some (.ref b), some (.int (W2 hs ts)), o6, o7, o8] ∧ H' = H15)
      ⟨o6, rfl, rfl⟩ (fun i σ H' _ ⟨_, _, e⟩ => by rw [e]; exact SqT.of ht15) ?_ ?_⟩
    · rintro i x σ H' hi ⟨o6, rfl, rfl⟩
      have ex : x = .int (W2 hs ts) := by
        rcases i with _ | _ | _ | i
        · exact (Option.some.inj hi).symm
        · rw [W2_comm hs ts] at hi
          exact (Option.some.inj hi).symm
        · rw [W2_rev hs ts] at hi
          exact (Option.some.inj hi).symm
        · simp at hi
      subst ex
      try dsimp only [gName]
      refine if_no1 (fun H3 => H3 = H') (fun Q2 q2 => ?_) (fun H3 e => ?_)
      · refine ⟨_, rfl, _, rfl, _, rfl, true, rfl, iteF ?_⟩
        refine ⟨_, rfl, _, rfl, rfl, _, rfl, ?_⟩
        exact qNS (Q := Q2) rfl (q2 _ rfl)
      · subst e
        exact ⟨_, rfl, rfl⟩
    · rintro σ H' ⟨o6, rfl, rfl⟩
      dsimp only
      refine ⟨_, rfl, b, rfl, ⟨_, SqT.of hb15⟩, for_tup (K := K) (a := b) (xs := ts.map V.int) (fun i σ H2 => ∃ o8 : Option V, σ = [some (.ref a0), some (.ref d), some (.int (0 + (k : Int))), some (.ref one), some (.ref b), some (.int (W2 hs ts)), o6, some (.int (pl ((ts.take i).map fun t => W2 hs [t]))), o8] ∧ Same H' H2)
        ⟨o8, rfl, Same.refl _⟩ (fun i σ H' _ ⟨_, _, e⟩ => SqT.of (e _ _ hb15)) ?_ ?_⟩
      · rintro i x σ H2 hi ⟨o8, rfl, s2⟩
        rw [List.getElem?_map] at hi
        obtain ⟨t0, hy, rfl⟩ := Option.map_eq_some_iff.mp hi
        have tm := R9.2 t0 (List.mem_of_getElem? hy)
        have R0 : Rd [t0] := ⟨(by show 1 ≤ 6; decide), fun x hx => by rw [List.mem_singleton.mp hx]; exact tm⟩
        refine ⟨_, rfl, _, rfl, _, rfl, (by show 1 ≤ sizeLine; decide), fun p hp => ?_⟩
        have s3 := s2.trans (same_new (o := .tup [.int t0]) hp)
        refine ⟨_, _, rfl, one, p, hs, [t0], rfl, rfl, s3 _ _ ho15, upd_same, R1, R0, fun H4 s4 => ?_⟩
        refine ⟨_, _, rfl, rfl, wide_mul (a := 721) (b := 721) (got_lt R1 R9 i) (W2_lt R1 R0.1) (by decide) (by decide) (by decide), ?_⟩
        refine ⟨some (.int t0), ?_, s3.trans s4⟩
        rw [take_snoc hy, List.map_append, List.map_cons, List.map_nil, pl_snoc]
        rfl
      · rintro σ H2 ⟨o8, rfl, s2⟩
        rw [List.length_map, List.take_length, W2_each]
        dsimp only
        have ho2 := s2 _ _ ho15
        have hb2 := s2 _ _ hb15
        refine if_no1 (fun H3 => Same H2 H3) (fun Q2 q2 => ?_) (fun H3 s3 => ?_)
        · refine ⟨_, rfl, _, rfl, rfl, _, rfl, ?_⟩
          refine iteNS rfl ?_
          refine ⟨_, rfl, (by show 0 ≤ sizeLine; decide), fun p hp => ?_⟩
          have s3 := same_new (H := H2) (o := .tup []) hp
          have R0 : Rd [] := ⟨by decide, fun x hx => by simp at hx⟩
          refine ⟨_, _, rfl, one, p, hs, [], rfl, rfl, s3 _ _ ho2, upd_same, R1, R0, fun H4 s4 => ?_⟩
          refine ⟨rfl, _, rfl, ?_⟩
          refine iteNS (congrArg V.int (W2_nil hs)) ?_
          refine ⟨(by show 0 ≤ sizeLine; decide), fun p2 hp2 => ?_⟩
          have s5 := (s3.trans s4).trans (same_new (o := .tup []) hp2)
          refine ⟨_, rfl, _, _, rfl, p2, b, [], ts, rfl, rfl, upd_same, s5 _ _ hb2, R0, R9, fun H6 s6 => ?_⟩
          refine ⟨rfl, _, rfl, ?_⟩
          exact qNS (Q := Q2) (congrArg V.int (W2_lin ts)) (q2 _ (s5.trans s6))
        · refine ⟨_, _, _, _, _, _, _, rfl, ((hp15.same s2).same s3).mono (by omega)⟩
  · rintro σ H' ⟨o2, o3, o4, o5, o6, o7, o8, rfl, hp1⟩
    exact q _

end
theorem all_mk {l : PySem.W.OpenLaw} {w : World} {K : PySem.W.Frag} {h : Heap} {mg : Str → Option Value} {fa : Addr} (X : K.In h) (G : h.Ns mainGlobals mg) (hfa : mg "law" = some (.ref fa))
    {f1 : Addr} {od1 an1 : Option Addr} {sl1 : Array (Option Value)} {oc1 kV1 dc1 pm1 cd1 ct1 : Value}
    {f2 : Addr} {od2 an2 : Option Addr} {sl2 : Array (Option Value)} {oc2 kV2 dc2 pm2 cd2 ct2 : Value}
    {f3 : Addr} {od3 an3 : Option Addr} {sl3 : Array (Option Value)} {oc3 kV3 dc3 pm3 cd3 ct3 : Value}
    {f4 : Addr} {od4 an4 : Option Addr} {sl4 : Array (Option Value)} {oc4 kV4 dc4 pm4 cd4 ct4 : Value}
    {f5 : Addr} {od5 an5 : Option Addr} {sl5 : Array (Option Value)} {oc5 kV5 dc5 pm5 cd5 ct5 : Value}
    {f6 : Addr} {od6 an6 : Option Addr} {sl6 : Array (Option Value)} {oc6 kV6 dc6 pm6 cd6 ct6 : Value}
    {f7 : Addr} {od7 an7 : Option Addr} {sl7 : Array (Option Value)} {oc7 kV7 dc7 pm7 cd7 ct7 : Value}
    {f8 : Addr} {od8 an8 : Option Addr} {sl8 : Array (Option Value)} {oc8 kV8 dc8 pm8 cd8 ct8 : Value}
    {f9 : Addr} {od9 an9 : Option Addr} {sl9 : Array (Option Value)} {oc9 kV9 dc9 pm9 cd9 ct9 : Value}
    {f10 : Addr} {od10 an10 : Option Addr} {sl10 : Array (Option Value)} {oc10 kV10 dc10 pm10 cd10 ct10 : Value}
    {f11 : Addr} {od11 an11 : Option Addr} {sl11 : Array (Option Value)} {oc11 kV11 dc11 pm11 cd11 ct11 : Value}
    {f12 : Addr} {od12 an12 : Option Addr} {sl12 : Array (Option Value)} {oc12 kV12 dc12 pm12 cd12 ct12 : Value}
    (a1 : PySem.W.nsIn K mainGlobals "common_measure" = some (some (.ref f1))) (l1 : K.lookup f1 = some ⟨oc1, od1, .func (PySem.W.fnOf "common_measure" "common_measure" (defArgs s_common_measure) (defBody s_common_measure) (defScope s_common_measure) .none kV1 dc1 pm1 an1 cd1 ct1), sl1⟩) (c1 : PySem.W.codeIn K cd1 "common_measure" = true) (k1 : PySem.W.keepIn K (.ref f1) = true)
    (a2 : PySem.W.nsIn K mainGlobals "size" = some (some (.ref f2))) (l2 : K.lookup f2 = some ⟨oc2, od2, .func (PySem.W.fnOf "size" "size" (defArgs s_size) (defBody s_size) (defScope s_size) .none kV2 dc2 pm2 an2 cd2 ct2), sl2⟩) (c2 : PySem.W.codeIn K cd2 "size" = true) (k2 : PySem.W.keepIn K (.ref f2) = true)
    (a3 : PySem.W.nsIn K mainGlobals "measures" = some (some (.ref f3))) (l3 : K.lookup f3 = some ⟨oc3, od3, .func (PySem.W.fnOf "measures" "measures" (defArgs s_measures) (defBody s_measures) (defScope s_measures) .none kV3 dc3 pm3 an3 cd3 ct3), sl3⟩) (c3 : PySem.W.codeIn K cd3 "measures" = true) (k3 : PySem.W.keepIn K (.ref f3) = true)
    (a4 : PySem.W.nsIn K mainGlobals "many_ways" = some (some (.ref f4))) (l4 : K.lookup f4 = some ⟨oc4, od4, .func (PySem.W.fnOf "many_ways" "many_ways" (defArgs s_many_ways) (defBody s_many_ways) (defScope s_many_ways) .none kV4 dc4 pm4 an4 cd4 ct4), sl4⟩) (c4 : PySem.W.codeIn K cd4 "many_ways" = true) (k4 : PySem.W.keepIn K (.ref f4) = true)
    (a5 : PySem.W.nsIn K mainGlobals "_law_pen" = some (some (.ref f5))) (l5 : K.lookup f5 = some ⟨oc5, od5, .func (PySem.W.fnOf "_law_pen" "_law_pen" (defArgs s_law_pen) (defBody s_law_pen) (defScope s_law_pen) .none kV5 dc5 pm5 an5 cd5 ct5), sl5⟩) (c5 : PySem.W.codeIn K cd5 "_law_pen" = true) (k5 : PySem.W.keepIn K (.ref f5) = true)
    (a6 : PySem.W.nsIn K mainGlobals "_law_draw" = some (some (.ref f6))) (l6 : K.lookup f6 = some ⟨oc6, od6, .func (PySem.W.fnOf "_law_draw" "_law_draw" (defArgs s_law_draw) (defBody s_law_draw) (defScope s_law_draw) .none kV6 dc6 pm6 an6 cd6 ct6), sl6⟩) (c6 : PySem.W.codeIn K cd6 "_law_draw" = true) (k6 : PySem.W.keepIn K (.ref f6) = true)
    (a7 : PySem.W.nsIn K mainGlobals "_law_measure" = some (some (.ref f7))) (l7 : K.lookup f7 = some ⟨oc7, od7, .func (PySem.W.fnOf "_law_measure" "_law_measure" (defArgs s_law_measure) (defBody s_law_measure) (defScope s_law_measure) .none kV7 dc7 pm7 an7 cd7 ct7), sl7⟩) (c7 : PySem.W.codeIn K cd7 "_law_measure" = true) (k7 : PySem.W.keepIn K (.ref f7) = true)
    (a8 : PySem.W.nsIn K mainGlobals "_law_round" = some (some (.ref f8))) (l8 : K.lookup f8 = some ⟨oc8, od8, .func (PySem.W.fnOf "_law_round" "_law_round" (defArgs s_law_round) (defBody s_law_round) (defScope s_law_round) .none kV8 dc8 pm8 an8 cd8 ct8), sl8⟩) (c8 : PySem.W.codeIn K cd8 "_law_round" = true) (k8 : PySem.W.keepIn K (.ref f8) = true)
    (a9 : PySem.W.nsIn K mainGlobals "_law_house" = some (some (.ref f9))) (l9 : K.lookup f9 = some ⟨oc9, od9, .func (PySem.W.fnOf "_law_house" "_law_house" (defArgs s_law_house) (defBody s_law_house) (defScope s_law_house) .none kV9 dc9 pm9 an9 cd9 ct9), sl9⟩) (c9 : PySem.W.codeIn K cd9 "_law_house" = true) (k9 : PySem.W.keepIn K (.ref f9) = true)
    (a10 : PySem.W.nsIn K mainGlobals "_law_is_number" = some (some (.ref f10))) (l10 : K.lookup f10 = some ⟨oc10, od10, .func (PySem.W.fnOf "_law_is_number" "_law_is_number" (defArgs s_law_is_number) (defBody s_law_is_number) (defScope s_law_is_number) .none kV10 dc10 pm10 an10 cd10 ct10), sl10⟩) (c10 : PySem.W.codeIn K cd10 "_law_is_number" = true) (k10 : PySem.W.keepIn K (.ref f10) = true)
    (a11 : PySem.W.nsIn K mainGlobals "_law_due" = some (some (.ref f11))) (l11 : K.lookup f11 = some ⟨oc11, od11, .func (PySem.W.fnOf "_law_due" "_law_due" (defArgs s_law_due) (defBody s_law_due) (defScope s_law_due) .none kV11 dc11 pm11 an11 cd11 ct11), sl11⟩) (c11 : PySem.W.codeIn K cd11 "_law_due" = true) (k11 : PySem.W.keepIn K (.ref f11) = true)
    (a12 : PySem.W.nsIn K mainGlobals "law" = some (some (.ref f12))) (l12 : K.lookup f12 = some ⟨oc12, od12, .func (PySem.W.fnOf "law" "law" (defArgs s_law) (defBody s_law) (defScope s_law) .none kV12 dc12 pm12 an12 cd12 ct12), sl12⟩) (c12 : PySem.W.codeIn K cd12 "law" = true) (k12 : PySem.W.keepIn K (.ref f12) = true)
    (z1 : PySem.W.nsIn K mainGlobals "abs" = some none)
    (z2 : PySem.W.nsIn K mainGlobals "bool" = some none)
    (z3 : PySem.W.nsIn K mainGlobals "int" = some none)
    (z4 : PySem.W.nsIn K mainGlobals "isinstance" = some none)
    (z5 : PySem.W.nsIn K mainGlobals "len" = some none)
    (z6 : PySem.W.nsIn K mainGlobals "range" = some none)
    (z7 : PySem.W.nsIn K mainGlobals "tuple" = some none) :
    ∃ fd : FuncData, (∀ (s : Shared) (v : Value), BindsTo s fd ⟨[v], []⟩ [("_law_script", v)]) ∧ ∀ base : Heap, K.In base → base.Ns mainGlobals mg → FnG l.prog w K mg base CX0 4 fa fd ["_law_script"] (spLaw K) := by
  have e := hfa.symm.trans (PySem.W.mg_of X G a12)
  cases e
  have T : Txt K mg := ⟨df_mk (PySem.W.mg_of X G a1) l1 c1 k1 (fun _ _ _ _ _ _ us hl => match us, hl with | [_, _], _ => rfl),
    df_mk (PySem.W.mg_of X G a2) l2 c2 k2 (fun _ _ _ _ _ _ us hl => match us, hl with | [_], _ => rfl),
    df_mk (PySem.W.mg_of X G a3) l3 c3 k3 (fun _ _ _ _ _ _ us hl => match us, hl with | [_, _], _ => rfl),
    df_mk (PySem.W.mg_of X G a4) l4 c4 k4 (fun _ _ _ _ _ _ us hl => match us, hl with | [_, _], _ => rfl),
    df_mk (PySem.W.mg_of X G a5) l5 c5 k5 (fun _ _ _ _ _ _ us hl => match us, hl with | [_], _ => rfl),
    df_mk (PySem.W.mg_of X G a6) l6 c6 k6 (fun _ _ _ _ _ _ us hl => match us, hl with | [_, _], _ => rfl),
    df_mk (PySem.W.mg_of X G a7) l7 c7 k7 (fun _ _ _ _ _ _ us hl => match us, hl with | [_, _], _ => rfl),
    df_mk (PySem.W.mg_of X G a8) l8 c8 k8 (fun _ _ _ _ _ _ us hl => match us, hl with | [_], _ => rfl),
    df_mk (PySem.W.mg_of X G a9) l9 c9 k9 (fun _ _ _ _ _ _ us hl => match us, hl with | [_], _ => rfl),
    df_mk (PySem.W.mg_of X G a10) l10 c10 k10 (fun _ _ _ _ _ _ us hl => match us, hl with | [_], _ => rfl),
    df_mk (PySem.W.mg_of X G a11) l11 c11 k11 (fun _ _ _ _ _ _ us hl => match us, hl with | [_, _], _ => rfl),
    df_mk (PySem.W.mg_of X G a12) l12 c12 k12 (fun _ _ _ _ _ _ us hl => match us, hl with | [_], _ => rfl),
    PySem.W.mg_none_of X G z1,
    PySem.W.mg_none_of X G z2,
    PySem.W.mg_none_of X G z3,
    PySem.W.mg_none_of X G z4,
    PySem.W.mg_none_of X G z5,
    PySem.W.mg_none_of X G z6,
    PySem.W.mg_none_of X G z7⟩
  exact ⟨PySem.W.fnOf "law" "law" (defArgs s_law) (defBody s_law) (defScope s_law) .none kV12 dc12 pm12 an12 cd12 ct12, fun s v => .of_eq rfl, fun base _ _ => ok_law T (fun_mk (st := s_law) l12 c12 k12)⟩
end K30
open PySem PySem.W PyProof.Rows
set_option maxRecDepth 100000 in
set_option maxHeartbeats 0 in
theorem PySem.Challenge.cw_commonhouse_k30_how_many_ways_holds : PySem.Challenge.rw_commonhouse_k30_how_many_ways.Holds := by
  w_on; o_law; k_head; (case hw => w_witness2)
  k_fill
  refine Cm.walk_g (l := PySem.Challenge.rw_commonhouse_k30_how_many_ways) (n := 63) (k := 4) (x := "_law_script") (sp := K30.spLaw) rfl (by decide) rfl ⟨rfl, by decide, by decide⟩ (fun w h Y => PySem.W.kIn_of Y) ?F (fun _ _ a ns hl hS => ⟨a, ns, rfl, hS, hl, fun _ => rfl⟩)
  case F =>
    intro w mg fa h KX G hmg
    refine' K30.all_mk KX G hmg ?a1 ?l1 ?c1 ?k1 ?a2 ?l2 ?c2 ?k2 ?a3 ?l3 ?c3 ?k3 ?a4 ?l4 ?c4 ?k4 ?a5 ?l5 ?c5 ?k5 ?a6 ?l6 ?c6 ?k6 ?a7 ?l7 ?c7 ?k7 ?a8 ?l8 ?c8 ?k8 ?a9 ?l9 ?c9 ?k9 ?a10 ?l10 ?c10 ?k10 ?a11 ?l11 ?c11 ?k11 ?a12 ?l12 ?c12 ?k12 ?z1 ?z2 ?z3 ?z4 ?z5 ?z6 ?z7
    (case a1 => k_is); (case l1 => k_is); (case c1 => k_is); (case k1 => k_is); (case a2 => k_is); (case l2 => k_is)
    (case c2 => k_is); (case k2 => k_is); (case a3 => k_is); (case l3 => k_is); (case c3 => k_is); (case k3 => k_is)
    (case a4 => k_is); (case l4 => k_is); (case c4 => k_is); (case k4 => k_is); (case a5 => k_is); (case l5 => k_is)
    (case c5 => k_is); (case k5 => k_is); (case a6 => k_is); (case l6 => k_is); (case c6 => k_is); (case k6 => k_is)
    (case a7 => k_is); (case l7 => k_is); (case c7 => k_is); (case k7 => k_is); (case a8 => k_is); (case l8 => k_is)
    (case c8 => k_is); (case k8 => k_is); (case a9 => k_is); (case l9 => k_is); (case c9 => k_is); (case k9 => k_is)
    (case a10 => k_is); (case l10 => k_is); (case c10 => k_is); (case k10 => k_is); (case a11 => k_is); (case l11 => k_is)
    (case c11 => k_is); (case k11 => k_is); (case a12 => k_is); (case l12 => k_is); (case c12 => k_is); (case k12 => k_is)
    (case z1 => k_is); (case z2 => k_is); (case z3 => k_is); (case z4 => k_is); (case z5 => k_is); (case z6 => k_is)
    (case z7 => k_is)
