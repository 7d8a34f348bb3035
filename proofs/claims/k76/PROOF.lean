import PyProof.Rows.All
import Wide.All
import OpenK.AllK
import Wide.FinOn
import HandS.Base
import HandS.Call
import HandS.List
import HandS.Comp
import HandS.Ends
import HandS.Dict
import HandS.Iter
import HandS.Words
import HandS.IsInst
import HandS.TupAny
import HandS.TupLe
import HandS.WordsList
import HandS.AnyAll
import PyProof.GenCompD
import PyProof.WalksMore
import HandS.Zip
import HandS.EndTab
import HandS.EndOwn
import HandS.Walk
import HandS.Wide
import HandS.TupMul
import HandS.Style
import KE.GoesEnum
import HandS.TryOnly
import HandS.SetFor
import HandS.Strs
import HandS.SortInts
import HandS.WideMore
import HandS.More
import HandS.Star
import HandS.GenOver
import HandS.Deep
import HandS.Conv
import HandS.RaiseMore
import HandS.Exc
import HandS.ExcOwn
import HandS.ExcIs
import HandS.Lambda
import PyProof.ReprRoads
import KE.KExcIs
import HandS.ExcInit
import HandS.ExcField
import HandS.ClsMeth
import HandS.DictComp
import HandS.Rev
import HandS.WideBits
import PyProof.Rows.TupDisplay
import HandS.TupSets
import PyProof.SumWalkG
import KE.SortData
import HandS.Text
import HandS.StrMore
import PySem.Challenge.RW_commonhouse_k76_rows_as_texts
set_option Elab.async false
set_option linter.all false
set_option maxRecDepth 100000
set_option maxHeartbeats 4000000
namespace Cm
open PySem PySem.Spec PyProof.Rows L2
def Df (K : PySem.W.Frag) (mg : Str → Option Value) (x : Str) (st : Stmt) (ps : List Str) : Prop :=
  ∃ f fd, Fun K x x st f fd ∧ mg x = some (.ref f) ∧ Binds K fd ps []
theorem df_mk {K : PySem.W.Frag} {mg : Str → Option Value} {x : Str} {st : Stmt} {ps : List Str} {f : Addr} {oc : Value} {od an : Option Addr} {osl : Array (Option Value)} {kV doc pm cdv ct : Value} (hm : mg x = some (.ref f))
    (l : K.lookup f = some ⟨oc, od, .func (PySem.W.fnOf x x (defArgs st) (defBody st) (defScope st) .none kV doc pm an cdv ct), osl⟩) (c : PySem.W.codeIn K cdv x = true) (k : PySem.W.keepIn K (.ref f) = true)
    (h : ∀ (kV doc pm : Value) (an : Option Addr) (cdv ct : Value) (us : List Value), us.length = ps.length → bindArgs (PySem.W.fnOf x x (defArgs st) (defBody st) (defScope st) .none kV doc pm an cdv ct) ⟨us, []⟩ = pure (ps.zip us)) : Df K mg x st ps :=
  ⟨f, _, fun_mk l c k, hm, (fun_mk l c k).binds h⟩
structure FnG (P : Program) (w : World) (K : PySem.W.Frag) (mg : Str → Option Value) (base : Heap) (CX : CXT) (k : Nat) (f : Addr) (fd : FuncData) (ps : List Str) (sp : Sp) : Prop where
  len : ∀ vs H Q E, sp vs H Q E → vs.length = ps.length
  go : ∀ (A : Around) (outer : List Env) (s : Shared) (H : Hp) (args : Args) (us : List Value) (vs : List V) (Q : VK) (E : XK), Room k A → A.guards = some [] → Env0 P w K mg base A outer s H → BindsTo s fd args (ps.zip us) → Vals vs us → sp vs H Q E →
    codeAny (model P w) A (.call (.ref f) args) (CR CX outer P w H s Q E) s
section
variable {P : Program} {w : World} {K : PySem.W.Frag} {mg : Str → Option Value} {base : Heap} {CX : CXT}
theorem fng_mk {k : Nat} {f : Addr} {x qual : Str} {st : Stmt} {fd : FuncData} {N ps : List Str} {sp : Sp} (F : Fun K x qual st f fd) (S : FnScope N ps (defScope st))
    (len : ∀ vs H Q E, sp vs H Q E → vs.length = ps.length)
    (body : ∀ (cdv : Value) (A : Around) (outer : List Env) (s : Shared) (H : Hp) (vs : List V) (Q : VK) (E : XK), Room k (A.deeper (envOfC qual (defScope st) s.heap.objs.size f cdv)) → A.guards = some [] → sp vs H Q E →
      ∃ t, PSs (cxOf CX P w K mg base N qual (defScope st) f cdv A outer s H E) (defBody st) t ∧ t { nx := fun _ H' => Q .non H', rt := Q } (start N vs) H) : FnG P w K mg base CX (k + 1) f fd ps sp := by
  obtain ⟨oc, od, kV, doc, pm, an, cdv, ct, osl, hfd, lk, hcd⟩ := F.ex
  subst hfd
  refine ⟨len, fun A outer s H args us vs Q E room gd env bind rel prom => ?_⟩
  have llen := len _ _ _ _ prom
  have inK : K.In s.heap := env.mod.kin.keeps fun b o e => (env.bs b o e).1
  have nolim : s.heap.NoLimit := env.mod.nolimit.keeps fun b o e => (env.bs b o e).1
  have kinds : ∀ y ∈ ps.zip us, (defScope st).names.lookup y.1 = some .local ∨ ((defScope st).names.lookup y.1 = some .cell ∧ ((cellsFrom (s.heap.objs.size + 1) (defScope st).names []).lookup y.1).isSome = true) := by
    rintro ⟨n, v⟩ hy
    rcases S.par n (List.of_mem_zip hy).1 with z | z
    · exact .inl z
    · exact .inr ⟨z, PySem.W.cellsFrom_some _ _ _ (.inl z)⟩
  refine codeAny_call_function room.depth (inK _ _ lk) rfl S.co S.gen rfl (PySem.W.codeRec_of inK hcd) (bind _ _ _ _ ?_)
  refine wpAny_newFunctionEnv_cells S.kind kinds fun fenv hfe s1 ent => ?_
  subst hfe
  refine ⟨nolim.keeps ent.toInCall.keep, codeAny_func ?_⟩
  obtain ⟨t, ht, hq⟩ := body cdv A outer s H vs Q E (room.deeper _) gd prom
  have I0 : Inv (cxOf CX P w K mg base N qual (defScope st) f cdv A outer s H E) [] (start N vs) H s1 := inv_start S room.hd env llen rel ent
  refine wpAny_mono (ht.run [] s1 (start N vs) H _ I0 hq) (fun fl s' out => ?_) fun e s' out => out
  cases fl with
  | ret u =>
    obtain ⟨v, σ', H', J, rv, q⟩ := out
    exact ⟨v, H', J.os, J.bare, J.base, J.hok, rv, q⟩
  | next =>
    obtain ⟨σ', H', J, q⟩ := out
    exact ⟨V.non, H', J.os, J.bare, J.base, J.hok, rfl, q⟩
  | brk =>
    obtain ⟨_, _, _, q⟩ := out
    exact q.elim
  | cont =>
    obtain ⟨_, _, _, q⟩ := out
    exact q.elim
end
def Fn (P : Program) (w : World) (K : PySem.W.Frag) (mg : Str → Option Value) (base : Heap) (k : Nat) (x : Str) (ps : List Str) (sp : Sp) : Prop :=
  ∃ f fd, FnG P w K mg base CX0 k f fd ps sp ∧ mg x = some (.ref f) ∧ PySem.W.keepIn K (.ref f) = true ∧ Binds K fd ps []
section
variable {P : Program} {w : World} {K : PySem.W.Frag} {mg : Str → Option Value} {base : Heap}
theorem Df.ok {x : Str} {st : Stmt} {ps N : List Str} {k : Nat} {sp : Sp} (D : Df K mg x st ps) (S : FnScope N ps (defScope st)) (len : ∀ vs H Q E, sp vs H Q E → vs.length = ps.length)
    (hbody : ∀ (f : Addr) (cdv : Value) (A : Around) (outer : List Env) (s : Shared) (H : Hp) (vs : List V) (Q : VK) (E : XK), Room k (A.deeper (envOfC x (defScope st) s.heap.objs.size f cdv)) → A.guards = some [] → sp vs H Q E →
      ∃ t, PSs (cxOf CX0 P w K mg base N x (defScope st) f cdv A outer s H E).nox (defBody st) t ∧ t { nx := fun _ H' => Q .non H', rt := Q } (start N vs) H) : Fn P w K mg base (k + 1) x ps sp := by
  obtain ⟨f, fd, F, hm, hb⟩ := D
  refine ⟨f, fd, fng_mk F S len fun cdv A outer s H vs Q E hr hg h => ?_, hm, F.kp, hb⟩
  obtain ⟨t, ht, q⟩ := hbody f cdv A outer s H vs Q E hr hg h
  exact ⟨t, ht.nox, q⟩
end
section
variable {X : Cx} {k : Nat} {x : Str} {ps : List Str} {sp : Sp} {e : Expr} {es : List Expr} {t : TA} {p pos : Pos}
theorem run_g {CX : CXT} {f : Addr} {fd : FuncData} {E : XK} {pins : List (Addr × Obj)} {σ : L2.St} {H : Hp} {s : Shared} {Q : VK} {us : List Value} {vs : List V} (F : FnG X.prog X.w X.K X.mg X.base CX k f fd ps sp) (hr : Room k X.A) (hg : X.A.guards = some [])
    (hb : Binds X.K fd ps []) (hx : Passes CX X E) (I : Inv X pins σ H s) (r : Vals vs us) (h : sp (vs ++ []) H Q E) : wpAny (model X.prog X.w) X.A (call (.ref f) us) (EP X pins σ Q) X.xe s := by
  rw [List.append_nil] at h
  have hl : (us ++ []).length = ps.length := by
    rw [List.append_nil, ← r.length]
    exact F.len _ _ _ _ h
  have hb2 := hb s us I.kIn hl
  rw [List.append_nil] at hb2
  refine wpAny_call (codeAny_mono (F.go X.A X.stack s H ⟨us, []⟩ us vs Q E hr hg I.env0 hb2 r h) fun r s' hq => ?_)
  cases r with
  | error e => exact hx pins σ H s e s' I hq
  | ok fl =>
    cases fl with
    | ret u => exact I.after hq
    | next => exact hq.elim
    | brk => exact hq.elim
    | cont => exact hq.elim
theorem pe_fn (F : Fn X.prog X.w X.K X.mg X.base k x ps sp) (hr : Room k X.A) (hgd : X.A.guards = some []) (hg : Gl X x) (ha : PA X (e :: es) t) (hdb : (x == ("__debug__" : Str)) = false := by decide)
    (he : starEach (e :: es) X.env = (false, eval e X.env) :: starEach es X.env := by rfl) (hpl : (backTo pos (starEach es X.env)).any (·.1) = false := by rfl) : PE X (.Call (.Name x p) (e :: es) [] pos) (tCall sp [] E0 t) := by
  obtain ⟨f, fd, F, hm, hk, hb⟩ := F
  refine ⟨fun pins s σ H Q I h => ?_⟩
  refine wpAny_Call_Name_kw (ld_glob I hg hm ?_ hdb)
  refine PySem.W.callWith_K (h₀ := X.base) I.ok.mod.kin hk (thn (ha.run pos pins s σ H _ I h) fun us s1 out => ?_) he hpl
  obtain ⟨vs, H1, I1, r, q⟩ := out
  exact ⟨I1.kIn, run_g F hr hgd hb pass0 I1 r q⟩
end
def sp1 (R : V → Hp → VK → Prop) : Sp := fun vs H Q _ => ∃ a, vs = [a] ∧ R a H Q
theorem len1 {R : V → Hp → VK → Prop} {x : Str} : ∀ vs H Q E, sp1 R vs H Q E → vs.length = [x].length := by
  rintro vs H Q E ⟨a, rfl, _⟩
  rfl
def But (d : Addr) (H H' : Hp) : Prop := ∀ b o, b ≠ d → H b = some o → H' b = some o
theorem But.refl (d : Addr) (H : Hp) : But d H H := fun _ _ _ h => h
theorem But.trans {d : Addr} {H H1 H2 : Hp} (a : But d H H1) (b : But d H1 H2) : But d H H2 := fun c o n h => b c o n (a c o n h)
theorem But.upd {d : Addr} {H : Hp} {o : HO} : But d H (L2.upd H d o) := fun b u n h => by
  rw [upd_ne n]
  exact h
theorem But.new {d p : Addr} {H : Hp} {o : HO} (n : H p = none) : But d H (L2.upd H p o) := fun b u _ h => by
  rw [upd_ne (ne_of_none h n)]
  exact h
theorem But.same {d : Addr} {H H1 : Hp} (a : Same H H1) : But d H H1 := fun b o _ h => a b o h
theorem same_new {H : Hp} {p : Addr} {o : HO} (h : H p = none) : Same H (L2.upd H p o) := fun b x e => by
  rw [upd_ne (ne_of_none e h)]
  exact e
theorem abs_eq (i : Int) : (if i < 0 then -i else i) = (i.natAbs : Int) := by
  split <;> omega
end Cm
set_option Elab.async false
set_option linter.all false
set_option maxRecDepth 100000
set_option maxHeartbeats 4000000
namespace Cm
open PySem PySem.Spec PyProof.Rows L2
def scriptH (K : PySem.W.Frag) (a : Addr) (vs : List Value) (ns : List Int) : Hp := fun b =>
  if b = a ∧ K.lookup a = none then some (.frz { cls := .type "list", data := .seq vs.toArray } (.lst (ns.map V.int))) else none
theorem scriptH_some {K : PySem.W.Frag} {a b : Addr} {vs : List Value} {ns : List Int} {u : HO} (h : scriptH K a vs ns b = some u) :
    b = a ∧ K.lookup a = none ∧ u = .frz { cls := .type "list", data := .seq vs.toArray } (.lst (ns.map V.int)) := by
  unfold scriptH at h
  split at h
  · rename_i z
    exact ⟨z.1, z.2, (Option.some.inj h).symm⟩
  · cases h
theorem scriptH_free {K : PySem.W.Frag} {a b : Addr} {vs : List Value} {ns : List Int} (h : b ≠ a ∨ K.lookup a ≠ none) : scriptH K a vs ns b = none := by
  unfold scriptH
  split
  · rename_i z
    rcases h with h | h
    · exact absurd z.1 h
    · exact absurd z.2 h
  · rfl
theorem call_law_g {P : Program} {w : World} {K : PySem.W.Frag} {mg mb : Str → Option Value} {k : Nat} {fa a : Addr} {fd : FuncData} {x : Str} {sp : Sp} {s1 : Shared} {vs : List Value} {ns : List Int}
    (inK : K.In s1.heap) (glob : s1.heap.Ns mainGlobals mg) (blt : s1.heap.Ns builtinsNs mb) (bltEq : ∀ x : Str, x ≠ "__name__" → mb x = bootBuiltins x) (nolim : s1.heap.NoLimit) (nogen : s1.gens = #[])
    (scr : s1.heap.get? a = some { cls := .type "list", data := .seq vs.toArray }) (hns : IntsAre vs ns) (short : ns.length ≤ sizeLine) (room : Room k callerA)
    (F : ∀ base : Heap, K.In base → base.Ns mainGlobals mg → FnG P w K mg base CX0 k fa fd [x] sp) (bind : ∀ (s : Shared) (u : Value), BindsTo s fd ⟨[u], []⟩ [(x, u)])
    (prom : ∀ H : Hp, SqL K H a (ns.map V.int) → sp [.ref a] H (fun v _ => v = .bl true) fun _ _ _ => False) :
    codeAny (model P w) callerA (.call (.ref fa) ⟨[.ref a], []⟩) (fun r s' => r = .ok (.ret (.bool true)) ∧ OldK s1.heap s'.heap ∧ s'.os = s1.os ∧ AllBare s'.gens) s1 := by
  have rel := vals_ints hns
  have vlen := hns.length
  -- what the script's address holds, in the abstract heap
  have hS : SqL K (scriptH K a vs ns) a (ns.map V.int) := by
    cases hk : K.lookup a with
    | none =>
      refine .inl (.inr ⟨{ cls := .type "list", data := .seq vs.toArray }, ?_⟩)
      unfold scriptH
      exact if_pos ⟨rfl, hk⟩
    | some o =>
      have e := inK a o hk
      rw [scr] at e
      cases e
      exact .inr ⟨_, vs.toArray, _, hk, rfl, rfl, rfl, by rw [List.size_toArray, vlen]; exact short, by simpa using rel⟩
  have hok : HOk P w (scriptH K a vs ns) s1.heap := by
    intro b u e
    obtain ⟨rfl, _, rfl⟩ := scriptH_some e
    exact ⟨scr, by rw [List.length_map]; exact short, vs, _, rel, scr⟩
  -- a namespace is no list, so it is not tracked
  have free : ∀ {b : Addr} {o : Obj} {es : Array DictEntry} {ep : Nat}, s1.heap.get? b = some o → o.data = .dict es ep → scriptH K a vs ns b = none := by
    intro b o es ep e d
    by_cases hb : b = a
    · rw [hb, scr] at e
      cases e
      cases (show Data.seq vs.toArray _ = Data.dict es ep from d)
    · exact scriptH_free (.inl hb)
  have nsOf : ∀ {b : Addr} {m : Str → Option Value}, s1.heap.Ns b m → (hidT s1.heap (scriptH K a vs ns)).Ns b m := by
    rintro b m ⟨o, es, ep, e, d, r⟩
    exact ⟨o, es, ep, hidT_get e (free e d), d, r⟩
  have inKb : K.In (hidT s1.heap (scriptH K a vs ns)) := by
    intro b o e
    refine hidT_get (inK b o e) ?_
    by_cases hb : b = a
    · refine scriptH_free (.inr fun z => ?_)
      rw [hb, z] at e
      cases e
    · exact scriptH_free (.inl hb)
  obtain ⟨mc, lim1, lim2⟩ := nolim
  have env : Env0 P w K mg (hidT s1.heap (scriptH K a vs ns)) callerA [] s1 (scriptH K a vs ns) :=
    ⟨rfl, ⟨inKb, nsOf glob, ⟨mb, nsOf blt, bltEq⟩, ⟨mc, nsOf lim1, lim2⟩⟩, fun b o e => of_hidT e, Nat.le_of_eq (hidT_size _ _), trivial, fun b hb => (nomatch (show b ∈ ([] : List Addr) from hb)), hok, .of_eq nogen⟩
  refine codeAny_mono ((F _ inKb (nsOf glob)).go callerA [] s1 _ ⟨[.ref a], []⟩ [.ref a] [.ref a] _ _ room rfl env (bind s1 (.ref a)) (.cons rfl .nil) (prom _ hS)) fun r s' out => ?_
  cases r with
  | error e => exact out.elim
  | ok fl =>
    cases fl with
    | next => exact out.elim
    | brk => exact out.elim
    | cont => exact out.elim
    | ret u =>
      obtain ⟨v, H', os, bare, un, hok', rv, q⟩ := out
      have q' : v = .bl true := q
      subst q'
      obtain rfl : u = Value.bool true := rv
      refine ⟨rfl, OldK.of_keep fun b o e => ?_, os, bare⟩
      cases hb : scriptH K a vs ns b with
      | none => exact un.keep b o e hb (fun z => (nomatch (show b ∈ ([] : List Addr) from z))) (fun z => (nomatch z))
      | some u =>
        obtain ⟨rfl, _, rfl⟩ := scriptH_some hb
        obtain ⟨e2, _⟩ := hok' _ _ (un.frzs _ _ _ hb)
        rw [scr] at e
        cases e
        exact e2
theorem walk_g {l : PySem.W.OpenLaw} {n k : Nat} {q : Program} {loose : List Str} {XP : (Str → Option Value) → Heap → Prop} {YP : World → Heap → Prop} {d : DefRec} {K : Params → PySem.W.Frag} {sp : PySem.W.Frag → Sp} {x : Str}
    (most : l.most = some n) (line : n ≤ sizeLine) (nodef : d.params.defaults = []) (room : Room k callerA) (hY : ∀ (w : World) (h : Heap), YP w h → (K w.params).In h)
    (F : ∀ (w : World) (mg : Str → Option Value) (fa : Addr) (h : Heap), (K w.params).In h → h.Ns mainGlobals mg → mg d.name = some (.ref fa) →
      ∃ fd : FuncData, (∀ (s : Shared) (u : Value), BindsTo s fd ⟨[u], []⟩ [(x, u)]) ∧ ∀ base : Heap, (K w.params).In base → base.Ns mainGlobals mg → FnG l.prog w (K w.params) mg base CX0 k fa fd [x] (sp (K w.params)))
    (prom : ∀ (K : PySem.W.Frag) (H : Hp) (a : Addr) (ns : List Int), ns.length ≤ n → SqL K H a (ns.map V.int) → sp K [.ref a] H (fun v _ => v = .bl true) fun _ _ _ => False) :
    PySem.W.WalkO q loose XP YP l.row.toRowW d [] (fun f vs => PySem.call f vs) := by
  refine Att.attach_call most nodef fun w s0 s1 mg mb fa o pm cd doc a vs ns G Y ho hd hcd hmg hobj hints hlen hg => ?_
  obtain ⟨fd, hb, hF⟩ := F w mg fa _ (hY w _ Y) G.T.g hmg
  exact call_law_g (hY w _ Y) G.T.g G.T.b G.T.builtins G.T.nolimit hg hobj hints (Nat.le_trans hlen line) room hF hb fun H hS => prom _ H a ns hlen hS
def rRepr (K : PySem.W.Frag) : List V → Hp → VK → Prop := fun xs H Q => ∃ (a : Addr) (d : PyData), xs = [.ref a] ∧ Dp K H (.ref a) d ∧ d.showable = true ∧ d.hasDict = false ∧ d.depth ≤ 60 ∧ d.shown.length ≤ sizeLine ∧ Q (.str d.shown) H
theorem call_repr {X : Cx} {K : PySem.W.Frag} {k : Nat} (hr : Room k X.A) (hg : X.A.guards = some []) (hK : X.K = K) : CallR X (.builtin "repr") (rRepr K) := by
  subst hK
  intro pins s σ H xs us Q I r h
  obtain ⟨a, d, rfl, hd, sh, nd, dp, sz, q⟩ := h
  obtain ⟨u, rfl, ru⟩ := vals1 r
  obtain ⟨as, rd⟩ := Dp.reads I d _ _ hd ru
  cases ru
  refine repr_of_reads' rd sh (fun z => absurd (nd.symm.trans z) Bool.false_ne_true) hg (by have := hr.units; omega) (fun _ _ e => e) (fun h' u tk keep => ?_) sz
  exact ⟨.str d.shown, H, I.kept keep, ⟨_, rfl⟩, q⟩
end Cm
set_option Elab.async false
set_option linter.all false
set_option maxRecDepth 100000
set_option maxHeartbeats 4000000
namespace Cm
open PySem PySem.Spec PyProof.Rows L2
inductive Kd where
  | non | bl (b : Bool) | int (i : Int) | str (s : Str) | lst | tup (xs : List V) | dct
inductive HasK (H : Hp) : V → Kd → Prop where
  | non : HasK H .non .non
  | bl (b : Bool) : HasK H (.bl b) (.bl b)
  | int (i : Int) : HasK H (.int i) (.int i)
  | str (s : Str) : HasK H (.str s) (.str s)
  | lst {a : Addr} {xs : List V} (h : H a = some (.lst xs)) : HasK H (.ref a) .lst
  | tup {a : Addr} {xs : List V} (h : H a = some (.tup xs)) : HasK H (.ref a) (.tup xs)
  | dct {a : Addr} {kvs : List (Key × V)} (h : H a = some (.dK kvs)) : HasK H (.ref a) .dct
structure Ext (H H' : Hp) : Prop where
  t : ∀ b xs, H b = some (.tup xs) → H' b = some (.tup xs)
  l : ∀ b xs, H b = some (.lst xs) → ∃ ys, H' b = some (.lst ys)
  d : ∀ b kvs, H b = some (.dK kvs) → ∃ kvs', H' b = some (.dK kvs')
theorem Ext.refl (H : Hp) : Ext H H := ⟨fun _ _ h => h, fun _ _ h => ⟨_, h⟩, fun _ _ h => ⟨_, h⟩⟩
theorem Ext.trans {H H1 H2 : Hp} (a : Ext H H1) (b : Ext H1 H2) : Ext H H2 :=
  ⟨fun x xs h => b.t x xs (a.t x xs h), fun x xs h => let ⟨ys, e⟩ := a.l x xs h; b.l x ys e, fun x xs h => let ⟨ys, e⟩ := a.d x xs h; b.d x ys e⟩
theorem Ext.same {H H' : Hp} (h : Same H H') : Ext H H' := ⟨fun b _ e => h b _ e, fun b _ e => ⟨_, h b _ e⟩, fun b _ e => ⟨_, h b _ e⟩⟩
theorem Ext.lst {H : Hp} {a : Addr} {xs ys : List V} (h : H a = some (.lst xs)) : Ext H (upd H a (.lst ys)) := by
  refine ⟨fun b zs e => ?_, fun b zs e => ?_, fun b zs e => ?_⟩
  · rw [upd_ne (ne_of e h (by intro z; cases z))]
    exact e
  · by_cases hb : b = a
    · exact ⟨ys, by rw [hb, upd_same]⟩
    · exact ⟨zs, by rw [upd_ne hb]; exact e⟩
  · exact ⟨zs, by rw [upd_ne (ne_of e h (by intro z; cases z))]; exact e⟩
theorem HasK.ext {H H' : Hp} {v : V} {k : Kd} (h : HasK H v k) (e : Ext H H') : HasK H' v k := by
  cases h with
  | non => exact .non
  | bl b => exact .bl b
  | int i => exact .int i
  | str s => exact .str s
  | lst h => obtain ⟨ys, q⟩ := e.l _ _ h; exact .lst q
  | tup h => exact .tup (e.t _ _ h)
  | dct h => obtain ⟨ys, q⟩ := e.d _ _ h; exact .dct q
def tyK : Kd → String
  | .non => "NoneType" | .bl _ => "bool" | .int _ => "int" | .str _ => "str" | .lst => "list" | .tup _ => "tuple" | .dct => "dict"
theorem HasK.ty {K : PySem.W.Frag} {H : Hp} {v : V} {k : Kd} (h : HasK H v k) : TyX K H v (.type (tyK k)) := by
  cases h with
  | non => exact .base .non
  | bl b => exact .base (.bl b)
  | int i => exact .base (.int i)
  | str s => exact .base (.str s)
  | lst h => exact .base (.lst h)
  | tup h => exact .base (.tup h)
  | dct h => exact .base (.dK h)
def isTupK : Kd → Bool
  | .tup _ => true | _ => false
section
variable {X : Cx} {K : PySem.W.Frag}
theorem isi_K (hK : X.K = K) : CallR X (.builtin "isinstance") (rIsi K) := by
  subst hK
  exact call_isi
end
section
variable {prog : Program} {w : World} {A : Around} {E : Value → Shared → Prop} {s : Shared}
end
section
variable {X : Cx}
end
section
end
end Cm
set_option Elab.async false
set_option linter.all false
set_option maxRecDepth 100000
set_option maxHeartbeats 4000000
namespace Cm
open PySem PySem.Spec PyProof.Rows L2
def KnV (K : PySem.W.Frag) (h : Heap) (u : Value) (k : Kd) : Prop :=
  ∃ Ph : Heap → Prop, PySem.W.KitX K u (.type (tyK k)) Ph ∧ (∀ h' : Heap, (∀ b o, h.get? b = some o → h'.get? b = some o) → Ph h') ∧ u ≠ .builtin "__main__.__loader__#opaque"
theorem KnV.keeps {K : PySem.W.Frag} {h h' : Heap} {u : Value} {k : Kd} (a : KnV K h u k) (kp : ∀ b o, h.get? b = some o → h'.get? b = some o) : KnV K h' u k := by
  obtain ⟨Ph, Z, hp, ne⟩ := a
  exact ⟨Ph, Z, fun h2 k2 => hp h2 fun b o e => k2 b o (kp b o e), ne⟩
section
variable {prog : Program} {w : World} {K : PySem.W.Frag} {mg : Str → Option Value} {base : Heap}
end
end Cm
set_option Elab.async false
set_option linter.all false
set_option maxRecDepth 100000
set_option maxHeartbeats 4000000
namespace Cm
open PySem PySem.Spec PyProof.Rows L2 GxR
section
variable {X : Cx} {pins : List (Addr × Obj)} {σ : L2.St} {H : Hp} {s : Shared}
end
end Cm
set_option Elab.async false
set_option linter.all false
set_option maxRecDepth 100000
set_option maxHeartbeats 4000000
namespace Cm
open PySem PySem.Spec PyProof.Rows L2
def KsOf (H : Hp) (v : V) : Option (List Kd) → Prop
  | none => ∃ k, HasK H v k ∧ isTupK k = false
  | some ks => ∃ a xs, v = .ref a ∧ H a = some (.tup xs) ∧ Paired (HasK H) xs ks
theorem KsOf.ext {H H' : Hp} {v : V} : ∀ {o : Option (List Kd)}, KsOf H v o → Ext H H' → KsOf H' v o
  | none, ⟨k, h1, h2⟩, e => ⟨k, h1.ext e, h2⟩
  | some ks, ⟨a, xs, h1, h2, h3⟩, e => ⟨a, xs, h1, e.t _ _ h2, Paired.mapP h3 fun _ _ z => z.ext e⟩
def TK (n : Nat) (H : Hp) (v : V) : Prop := ∃ a xs, v = .ref a ∧ H a = some (.tup xs) ∧ xs.length ≤ n ∧ ∀ x ∈ xs, ∃ k, HasK H x k
theorem TK.ext {n : Nat} {H H' : Hp} {v : V} (h : TK n H v) (e : Ext H H') : TK n H' v := by
  obtain ⟨a, xs, h1, h2, h3, h4⟩ := h
  exact ⟨a, xs, h1, e.t _ _ h2, h3, fun x hx => let ⟨k, q⟩ := h4 x hx; ⟨k, q.ext e⟩⟩
def Gd (H : Hp) (v : V) : Prop := ∃ o, KsOf H v o
theorem Gd.ext {H H' : Hp} {v : V} (h : Gd H v) (e : Ext H H') : Gd H' v := let ⟨o, q⟩ := h; ⟨o, q.ext e⟩
theorem kinds_of {H : Hp} : ∀ {xs : List V}, (∀ x ∈ xs, ∃ k, HasK H x k) → ∃ ks, Paired (HasK H) xs ks
  | [], _ => ⟨[], .nil⟩
  | x :: r, h => by
    obtain ⟨k, hk⟩ := h x (List.mem_cons.mpr (.inl rfl))
    obtain ⟨ks, hks⟩ := kinds_of fun y hy => h y (List.mem_cons.mpr (.inr hy))
    exact ⟨k :: ks, .cons hk hks⟩
theorem TK.gd {n : Nat} {H : Hp} {v : V} (h : TK n H v) : Gd H v := by
  obtain ⟨a, xs, h1, h2, _, h4⟩ := h
  obtain ⟨ks, hks⟩ := kinds_of h4
  exact ⟨some ks, a, xs, h1, h2, hks⟩
theorem HasK.gd {H : Hp} {v : V} {k : Kd} (h : HasK H v k) (hk : isTupK k = false) : Gd H v := ⟨none, k, h, hk⟩
end Cm
set_option Elab.async false
set_option linter.all false
set_option maxRecDepth 100000
set_option maxHeartbeats 4000000
namespace Cm
open PySem PySem.Spec PyProof.Rows L2 GxR
structure WholeT (K : PySem.W.Frag) (mg : Str → Option Value) (f : Addr) (fd : FuncData) (st : Stmt) (a1 a2 a3 a4 b1 b2 b3 b4 c1 c2 c3 : Pos) : Prop where
  fn : Fun K "is_whole" "is_whole" st f fd
  sc : FnScope ["thing"] ["thing"] (defScope st)
  at_ : mg "is_whole" = some (.ref f)
  bd : Binds K fd ["thing"] []
  body : defBody st = [.Return (some (.BoolOp .And [.Call (.Name "isinstance" a1) [.Name "thing" a2, .Name "int" a3] [] a4, .UnaryOp .Not (.Call (.Name "isinstance" b1) [.Name "thing" b2, .Name "bool" b3] [] b4) c1] c2)) c3]
  i1 : (defScope st).names.lookup ("isinstance" : Str) = some .globalImplicit
  i2 : (defScope st).names.lookup ("int" : Str) = some .globalImplicit
  i3 : (defScope st).names.lookup ("bool" : Str) = some .globalImplicit
  i4 : (defScope st).names.lookup ("thing" : Str) = some .local
  m1 : mg "isinstance" = none
  m2 : mg "int" = none
  m3 : mg "bool" = none
section
variable {prog : Program} {w : World} {K : PySem.W.Frag} {mg : Str → Option Value} {base : Heap} {f : Addr} {fd : FuncData} {st : Stmt} {a1 a2 a3 a4 b1 b2 b3 b4 c1 c2 c3 : Pos}
end
end Cm
set_option Elab.async false
set_option linter.all false
set_option maxRecDepth 100000
set_option maxHeartbeats 4000000
namespace Cm
open PySem PySem.Spec PyProof.Rows L2 GxR
structure GenS2 (env : Env) (scope : Scope) (xa xb : Str) : Prop where
  kind : scope.kind = .function
  co : scope.isCoroutine = false
  cell : ∀ y ∈ scope.names, y.2 ≠ .cell
  dot : scope.names.lookup (".0" : Str) = some NameKind.local
  la : scope.names.lookup xa = some .local
  lb : scope.names.lookup xb = some .local
  ab : xa ≠ xb
  free : ∀ y ∈ scope.names, y.2 = .free → ∃ c, env.cells.lookup y.1 = some c
section
variable {X : Cx} {pins : List (Addr × Obj)} {σ : L2.St} {H : Hp} {s : Shared}
end
section
variable {prog : Program} {w : World} {K : PySem.W.Frag} {mg : Str → Option Value} {base : Heap} {f : Addr} {fd : FuncData} {st : Stmt} {a1 a2 a3 a4 b1 b2 b3 b4 c1 c2 c3 : Pos}
end
end Cm
set_option Elab.async false
set_option linter.all false
set_option maxRecDepth 100000
set_option maxHeartbeats 4000000
namespace Cm
open PySem PySem.Spec PyProof.Rows L2 GxR
def DfC (K : PySem.W.Frag) (mg : Str → Option Value) (x : Str) (st : Stmt) (ps : List Str) (c : Addr) : Prop :=
  ∃ f fd, Fun K x x st f fd ∧ mg x = some (.ref f) ∧ Binds K fd ps [] ∧ fd.code = .ref c
section
variable {P : Program} {w : World} {K : PySem.W.Frag} {mg : Str → Option Value} {base : Heap} {CX : CXT}
theorem fngc_mk {k : Nat} {f c : Addr} {x qual : Str} {st : Stmt} {fd : FuncData} {N ps : List Str} {sp : Sp} (F : Fun K x qual st f fd) (hc : fd.code = .ref c) (S : FnScope N ps (defScope st))
    (len : ∀ vs H Q E, sp vs H Q E → vs.length = ps.length)
    (body : ∀ (A : Around) (outer : List Env) (s : Shared) (H : Hp) (vs : List V) (Q : VK) (E : XK), Room k (A.deeper (envOfC qual (defScope st) s.heap.objs.size f (.ref c))) → A.guards = some [] → sp vs H Q E →
      ∃ t, PSs (cxOf CX P w K mg base N qual (defScope st) f (.ref c) A outer s H E) (defBody st) t ∧ t { nx := fun _ H' => Q .non H', rt := Q } (start N vs) H) : FnG P w K mg base CX (k + 1) f fd ps sp := by
  have F2 := F
  obtain ⟨oc, od, kV, doc, pm, an, cdv, ct, osl, hfd, lk, hcd⟩ := F.ex
  have ec : cdv = .ref c := by
    rw [hfd] at hc
    exact hc
  subst ec
  subst hfd
  refine ⟨len, fun A outer s H args us vs Q E room gd env bind rel prom => ?_⟩
  have llen := len _ _ _ _ prom
  have inK : K.In s.heap := env.mod.kin.keeps fun b o e => (env.bs b o e).1
  have nolim : s.heap.NoLimit := env.mod.nolimit.keeps fun b o e => (env.bs b o e).1
  have kinds : ∀ y ∈ ps.zip us, (defScope st).names.lookup y.1 = some .local ∨ ((defScope st).names.lookup y.1 = some .cell ∧ ((cellsFrom (s.heap.objs.size + 1) (defScope st).names []).lookup y.1).isSome = true) := by
    rintro ⟨n, v⟩ hy
    rcases S.par n (List.of_mem_zip hy).1 with z | z
    · exact .inl z
    · exact .inr ⟨z, PySem.W.cellsFrom_some _ _ _ (.inl z)⟩
  refine codeAny_call_function room.depth (inK _ _ lk) rfl S.co S.gen rfl (PySem.W.codeRec_of inK hcd) (bind _ _ _ _ ?_)
  refine wpAny_newFunctionEnv_cells S.kind kinds fun fenv hfe s1 ent => ?_
  subst hfe
  refine ⟨nolim.keeps ent.toInCall.keep, codeAny_func ?_⟩
  obtain ⟨t, ht, hq⟩ := body A outer s H vs Q E (room.deeper _) gd prom
  have I0 : Inv (cxOf CX P w K mg base N qual (defScope st) f (.ref c) A outer s H E) [] (start N vs) H s1 := inv_start S room.hd env llen rel ent
  refine wpAny_mono (ht.run [] s1 (start N vs) H _ I0 hq) (fun fl s' out => ?_) fun e s' out => out
  cases fl with
  | ret u =>
    obtain ⟨v, σ', H', J, rv, q⟩ := out
    exact ⟨v, H', J.os, J.bare, J.base, J.hok, rv, q⟩
  | next =>
    obtain ⟨σ', H', J, q⟩ := out
    exact ⟨V.non, H', J.os, J.bare, J.base, J.hok, rfl, q⟩
  | brk =>
    obtain ⟨_, _, _, q⟩ := out
    exact q.elim
  | cont =>
    obtain ⟨_, _, _, q⟩ := out
    exact q.elim
theorem DfC.ok {x : Str} {st : Stmt} {ps N : List Str} {k : Nat} {sp : Sp} {c : Addr} (D : DfC K mg x st ps c) (S : FnScope N ps (defScope st)) (len : ∀ vs H Q E, sp vs H Q E → vs.length = ps.length)
    (hbody : ∀ (f : Addr) (A : Around) (outer : List Env) (s : Shared) (H : Hp) (vs : List V) (Q : VK) (E : XK), Room k (A.deeper (envOfC x (defScope st) s.heap.objs.size f (.ref c))) → A.guards = some [] → sp vs H Q E →
      ∃ t, PSs (cxOf CX0 P w K mg base N x (defScope st) f (.ref c) A outer s H E).nox (defBody st) t ∧ t { nx := fun _ H' => Q .non H', rt := Q } (start N vs) H) : Fn P w K mg base (k + 1) x ps sp := by
  obtain ⟨f, fd, F, hm, hb, hc⟩ := D
  refine ⟨f, fd, fngc_mk F hc S len fun A outer s H vs Q E hr hg h => ?_, hm, F.kp, hb⟩
  obtain ⟨t, ht, q⟩ := hbody f A outer s H vs Q E hr hg h
  exact ⟨t, ht.nox, q⟩
end
end Cm
set_option Elab.async false
set_option linter.all false
set_option maxRecDepth 100000
set_option maxHeartbeats 4000000
namespace Cm
open PySem PySem.Spec PyProof.Rows L2 GxR
end Cm
set_option Elab.async false
set_option linter.all false
set_option maxRecDepth 100000
set_option maxHeartbeats 4000000
namespace Cm
open PySem PySem.Spec PyProof.Rows L2
def LP (H : Hp) (p : Addr) : Prop := ∃ x y z : Int, H p = some (.lst [.int x, .int y, .int z])
theorem LP.same {H H' : Hp} {p : Addr} (h : LP H p) (s : Same H H') : LP H' p := by
  obtain ⟨x, y, z, e⟩ := h
  exact ⟨x, y, z, s _ _ e⟩
end Cm
set_option Elab.async false
set_option linter.all false
set_option maxRecDepth 100000
set_option maxHeartbeats 4000000
namespace Cm
open PySem PySem.Spec PyProof.Rows L2
def penD (a : Addr) (n m : Int) : List (Key × V) := [(Sum.inr "cells", .ref a), (Sum.inr "at", .int n), (Sum.inr "left", .int m)]
section
variable {K : PySem.W.Frag} {H H' : Hp} {d a : Addr} {n m : Int}
end
structure Pen (K : PySem.W.Frag) (H : Hp) (d a : Addr) (ns : List Int) (c : Int) : Prop where
  sq : SqL K H a (ns.map V.int)
  dc : ∃ n m : Int, H d = some (.dK (penD a n m)) ∧ 0 ≤ n ∧ n ≤ c ∧ 0 ≤ m
theorem Pen.mono {K : PySem.W.Frag} {H : Hp} {d a : Addr} {ns : List Int} {c c' : Int} (p : Pen K H d a ns c) (h : c ≤ c') : Pen K H d a ns c' := by
  obtain ⟨s, n, m, e, h0, h1, h2⟩ := p
  exact ⟨s, n, m, e, h0, by omega, h2⟩
theorem Pen.same {K : PySem.W.Frag} {H H' : Hp} {d a : Addr} {ns : List Int} {c : Int} (p : Pen K H d a ns c) (h : Same H H') : Pen K H' d a ns c := by
  obtain ⟨s, n, m, e, h0, h1, h2⟩ := p
  exact ⟨h.seq s, n, m, h _ _ e, h0, h1, h2⟩
end Cm
set_option Elab.async false
set_option linter.all false
set_option maxRecDepth 100000
set_option maxHeartbeats 4000000
namespace Pv
open PySem PySem.Spec PyProof.Rows L2 Cm
abbrev ptrD (a : Addr) : PyData := .dict [(.int ((a : Nat) : Int), .none)]
def nT (o : HO) : Prop := ∀ xs, o ≠ .tup xs
mutual
/-- the value v, in the heap H, is the data d; none of its addresses is in Z -/
inductive Rp (Z : Addr → Prop) (H : Hp) : V → PyData → Prop
  | non : Rp Z H .non .none
  | bl (b : Bool) : Rp Z H (.bl b) (.bool b)
  | int (i : Int) : Rp Z H (.int i) (.int i)
  | str (x : Str) : Rp Z H (.str x) (.str x)
  | lst {a : Addr} {xs : List V} {ds : List PyData} : ¬ Z a → H a = some (.lst xs) → RpAll Z H xs ds → Rp Z H (.ref a) (.list ds)
  | tup {a : Addr} {xs : List V} {ds : List PyData} : ¬ Z a → H a = some (.tup xs) → RpAll Z H xs ds → Rp Z H (.ref a) (.tuple ds)
  | dct {a : Addr} : ¬ Z a → H a = some (.dK []) → Rp Z H (.ref a) (.dict [])
  | ptr (a : Addr) : Rp Z H (.ref a) (.dict [(.int ((a : Nat) : Int), .none)])
inductive RpAll (Z : Addr → Prop) (H : Hp) : List V → List PyData → Prop
  | nil : RpAll Z H [] []
  | cons {v : V} {vs : List V} {d : PyData} {ds : List PyData} : Rp Z H v d → RpAll Z H vs ds → RpAll Z H (v :: vs) (d :: ds)
end
def Ld (Z : Addr → Prop) (H : Hp) (Z' : Addr → Prop) (H' : Hp) : Prop := ∀ b o, ¬ Z b → H b = some o → ¬ Z' b ∧ H' b = some o
theorem Ld.refl (Z : Addr → Prop) (H : Hp) : Ld Z H Z H := fun _ _ n e => ⟨n, e⟩
theorem Ld.trans {Z Z1 Z2 : Addr → Prop} {H H1 H2 : Hp} (a : Ld Z H Z1 H1) (b : Ld Z1 H1 Z2 H2) : Ld Z H Z2 H2 := fun c o n e => let ⟨n1, e1⟩ := a c o n e; b c o n1 e1
theorem Ld.same {Z : Addr → Prop} {H H' : Hp} (s : Same H H') : Ld Z H Z H' := fun b o n e => ⟨n, s b o e⟩
section
variable {Z Z' : Addr → Prop} {H H' : Hp}
mutual
theorem Rp.mono (l : Ld Z H Z' H') : ∀ {v : V} {d : PyData}, Rp Z H v d → Rp Z' H' v d
  | _, _, .non => .non
  | _, _, .bl b => .bl b
  | _, _, .int i => .int i
  | _, _, .str x => .str x
  | _, _, .lst n e r => .lst (l _ _ n e).1 (l _ _ n e).2 (RpAll.mono l r)
  | _, _, .tup n e r => .tup (l _ _ n e).1 (l _ _ n e).2 (RpAll.mono l r)
  | _, _, .dct n e => .dct (l _ _ n e).1 (l _ _ n e).2
  | _, _, .ptr a => .ptr a
theorem RpAll.mono (l : Ld Z H Z' H') : ∀ {vs : List V} {ds : List PyData}, RpAll Z H vs ds → RpAll Z' H' vs ds
  | _, _, .nil => .nil
  | _, _, .cons h t => .cons (Rp.mono l h) (RpAll.mono l t)
end
theorem RpAll.length : ∀ {vs : List V} {ds : List PyData}, RpAll Z H vs ds → vs.length = ds.length
  | _, _, .nil => rfl
  | _, _, .cons _ t => by rw [List.length_cons, List.length_cons, t.length]
theorem RpAll.append : ∀ {vs us : List V} {ds es : List PyData}, RpAll Z H vs ds → RpAll Z H us es → RpAll Z H (vs ++ us) (ds ++ es)
  | _, _, _, _, .nil, h => h
  | _, _, _, _, .cons h t, g => .cons h (t.append g)
theorem RpAll.get : ∀ {vs : List V} {ds : List PyData} {i : Nat} {v : V}, RpAll Z H vs ds → vs[i]? = some v → ∃ d, ds[i]? = some d ∧ Rp Z H v d
  | _, _, _, _, .nil, e => by simp at e
  | _, _, 0, _, .cons h _, e => by
    have e1 := Option.some.inj e
    subst e1
    exact ⟨_, rfl, h⟩
  | _, _, i + 1, v, .cons _ t, e => RpAll.get (i := i) (v := v) t e
theorem RpAll.get' : ∀ {vs : List V} {ds : List PyData} {i : Nat} {d : PyData}, RpAll Z H vs ds → ds[i]? = some d → ∃ v, vs[i]? = some v ∧ Rp Z H v d
  | _, _, _, _, .nil, e => by simp at e
  | _, _, 0, _, .cons h _, e => by
    have e1 := Option.some.inj e
    subst e1
    exact ⟨_, rfl, h⟩
  | _, _, i + 1, d, .cons _ t, e => RpAll.get' (i := i) (d := d) t e
theorem RpAll.take : ∀ {vs : List V} {ds : List PyData} (n : Nat), RpAll Z H vs ds → RpAll Z H (vs.take n) (ds.take n)
  | _, _, 0, _ => .nil
  | _, _, _ + 1, .nil => .nil
  | _, _, n + 1, .cons h t => .cons h (t.take n)
theorem RpAll.drop : ∀ {vs : List V} {ds : List PyData} (n : Nat), RpAll Z H vs ds → RpAll Z H (vs.drop n) (ds.drop n)
  | _, _, 0, h => h
  | _, _, _ + 1, .nil => .nil
  | _, _, n + 1, .cons _ t => t.drop n
theorem RpAll.set {v : V} {d : PyData} (h : Rp Z H v d) : ∀ {vs : List V} {ds : List PyData} (i : Nat), RpAll Z H vs ds → RpAll Z H (vs.set i v) (ds.set i d)
  | _, _, _, .nil => .nil
  | _, _, 0, .cons _ t => .cons h t
  | _, _, i + 1, .cons g t => .cons g (RpAll.set h i t)
mutual
theorem Rp.dp {K : PySem.W.Frag} : ∀ {v : V} {d : PyData}, Rp Z H v d → d.canLay0 = true → Dp K H v d
  | _, _, .non, _ => .non
  | _, _, .bl b, _ => .bl b
  | _, _, .int i, _ => .int i
  | _, _, .str x, _ => .str x
  | _, .list ds, .lst n e r, s => .lst (SqL.of e) (RpAll.dp r (by simpa [PyData.canLay0] using s))
  | _, .tuple ds, .tup n e r, s => .tup (SqT.of e) (RpAll.dp r (by simpa [PyData.canLay0] using s))
  | _, _, .dct n e, s => by simp [PyData.canLay0] at s
  | _, _, .ptr a, s => by simp [PyData.canLay0] at s
theorem RpAll.dp {K : PySem.W.Frag} : ∀ {vs : List V} {ds : List PyData}, RpAll Z H vs ds → PyData.canLayAll0 ds = true → DpAll K H vs ds
  | _, _, .nil, _ => .nil
  | _, d :: ds, .cons h t, s => by
    have s' : d.canLay0 = true ∧ PyData.canLayAll0 ds = true := by simpa [PyData.canLayAll0] using s
    exact .cons (Rp.dp h s'.1) (RpAll.dp t s'.2)
end
end
structure Frm (Γ : Type) where
  S : Addr → Prop
  Ok : Γ → Hp → Prop
  keep : ∀ {g : Γ} {H H' : Hp}, Ok g H → (∀ b z, S b → H b = some z → H' b = some z) → (∀ b z, (∀ vs, z ≠ .lst vs) → H b = some z → H' b = some z) → Ok g H'
  has : ∀ {g : Γ} {H : Hp} {b : Addr}, Ok g H → S b → ∃ z, H b = some z ∧ nT z
def Mv (S : Addr → Prop) (H H' : Hp) : Prop := ∀ b z, ¬ S b → H b = some z → H' b = some z
theorem Mv.refl (S : Addr → Prop) (H : Hp) : Mv S H H := fun _ _ _ h => h
theorem Mv.trans {S : Addr → Prop} {H H1 H2 : Hp} (a : Mv S H H1) (b : Mv S H1 H2) : Mv S H H2 := fun c o n h => b c o n (a c o n h)
theorem Mv.same {S : Addr → Prop} {H H' : Hp} (s : Same H H') : Mv S H H' := fun b o _ h => s b o h
inductive Sl where
  | no
  | val (d : PyData)
  | own (xs : List PyData)
inductive Eok (Z : Addr → Prop) (H : Hp) : L2.St → List Sl → List Addr → Prop
  | nil : Eok Z H [] [] []
  | no {o : Option V} {σ : L2.St} {ρ : List Sl} {os : List Addr} : Eok Z H σ ρ os → Eok Z H (o :: σ) (.no :: ρ) os
  | val {v : V} {d : PyData} {σ : L2.St} {ρ : List Sl} {os : List Addr} : Rp Z H v d → Eok Z H σ ρ os → Eok Z H (some v :: σ) (.val d :: ρ) os
  | own {D : Addr} {vs : List V} {xs : List PyData} {σ : L2.St} {ρ : List Sl} {os : List Addr} : H D = some (.lst vs) → RpAll Z H vs xs → D ∉ os → Eok Z H σ ρ os → Eok Z H (some (.ref D) :: σ) (.own xs :: ρ) (D :: os)
def Zs (W : Addr → Prop) (os : List Addr) : Addr → Prop := fun b => W b ∨ b ∈ os
section
variable {Z Z' : Addr → Prop} {H H' : Hp}
theorem Eok.mono (l : Ld Z H Z' H') : ∀ {σ : L2.St} {ρ : List Sl} {os : List Addr}, (∀ D vs, D ∈ os → H D = some (.lst vs) → H' D = some (.lst vs)) → Eok Z H σ ρ os → Eok Z' H' σ ρ os
  | _, _, _, _, .nil => .nil
  | _, _, _, h, .no e => .no (e.mono l h)
  | _, _, _, h, .val r e => .val (r.mono l) (e.mono l h)
  | _, _, _, h, .own e1 r n e => .own (h _ _ (List.mem_cons.mpr (.inl rfl)) e1) (r.mono l) n (e.mono l fun D vs hD => h D vs (List.mem_cons.mpr (.inr hD)))
theorem Eok.get : ∀ {σ : L2.St} {ρ : List Sl} {os : List Addr} {i : Nat} {d : PyData}, Eok Z H σ ρ os → ρ[i]? = some (.val d) → ∃ v, σ[i]? = some (some v) ∧ Rp Z H v d
  | _, _, _, _, _, .nil, e => by simp at e
  | _, _, _, 0, _, .no _, e => by cases e
  | _, _, _, 0, _, .val r _, e => by cases e; exact ⟨_, rfl, r⟩
  | _, _, _, 0, _, .own _ _ _ _, e => by cases e
  | _, _, _, i + 1, _, .no t, e => t.get (i := i) e
  | _, _, _, i + 1, _, .val _ t, e => t.get (i := i) e
  | _, _, _, i + 1, _, .own _ _ _ t, e => t.get (i := i) e
theorem Eok.set {v : V} {d : PyData} (r : Rp Z H v d) : ∀ {σ : L2.St} {ρ : List Sl} {os : List Addr} (i : Nat), Eok Z H σ ρ os → ∃ os', (∀ D ∈ os', D ∈ os) ∧ Eok Z H (σ.set i (some v)) (ρ.set i (.val d)) os'
  | _, _, _, _, .nil => ⟨_, fun _ h => h, .nil⟩
  | _, _, _, 0, .no t => ⟨_, fun _ h => h, .val r t⟩
  | _, _, _, 0, .val _ t => ⟨_, fun _ h => h, .val r t⟩
  | _, _, _, 0, .own _ _ _ t => ⟨_, fun _ h => List.mem_cons.mpr (.inr h), .val r t⟩
  | _, _, _, i + 1, .no t => let ⟨os', h, e⟩ := Eok.set r i t; ⟨os', h, .no e⟩
  | _, _, _, i + 1, .val q t => let ⟨os', h, e⟩ := Eok.set r i t; ⟨os', h, .val q e⟩
  | _, _, _, i + 1, .own h1 q n t => let ⟨os', h, e⟩ := Eok.set r i t
    ⟨_ :: os', fun D hD => (List.mem_cons.mp hD).elim (fun z => List.mem_cons.mpr (.inl z)) fun z => List.mem_cons.mpr (.inr (h D z)), .own h1 q (fun z => n (h _ z)) e⟩
theorem Eok.length : ∀ {σ : L2.St} {ρ : List Sl} {os : List Addr}, Eok Z H σ ρ os → σ.length = ρ.length
  | _, _, _, .nil => rfl
  | _, _, _, .no t => by rw [List.length_cons, List.length_cons, t.length]
  | _, _, _, .val _ t => by rw [List.length_cons, List.length_cons, t.length]
  | _, _, _, .own _ _ _ t => by rw [List.length_cons, List.length_cons, t.length]
end
structure Okk {Γ : Type} (F : Frm Γ) (W : Addr → Prop) (H0 : Hp) (os : List Addr) (σ : L2.St) (H : Hp) (ρ : List Sl) (g : Γ) : Prop where
  env : Eok (Zs W os) H σ ρ os
  st : F.Ok g H
  sub : ∀ b, F.S b → W b
  dom : ∀ b, W b → ∃ z, H b = some z ∧ nT z
  new : ∀ D ∈ os, ¬ W D ∧ H0 D = none
  mv : Mv F.S H0 H
theorem Mv.ld {Γ : Type} {F : Frm Γ} {Z : Addr → Prop} {H H' : Hp} (sub : ∀ b, F.S b → Z b) (m : Mv F.S H H') : Ld Z H Z H' := fun b o n e => ⟨n, m b o (fun z => n (sub b z)) e⟩
section
variable {Γ : Type} {F : Frm Γ} {W : Addr → Prop} {H0 H H' : Hp} {os : List Addr} {σ : L2.St} {ρ : List Sl} {g g' : Γ}
theorem Okk.move (k : Okk F W H0 os σ H ρ g) (m : Mv F.S H H') (s : F.Ok g' H') : Okk F W H0 os σ H' ρ g' := by
  refine ⟨k.env.mono (m.ld fun b h => .inl (k.sub b h)) fun D vs hD e => m D _ (fun z => (k.new D hD).1 (k.sub D z)) e, s, k.sub, fun b hb => ?_, k.new, k.mv.trans m⟩
  by_cases hs : F.S b
  · exact F.has s hs
  · obtain ⟨z, hz, hn⟩ := k.dom b hb
    exact ⟨z, m b z hs hz, hn⟩
theorem Okk.same (k : Okk F W H0 os σ H ρ g) (s : Same H H') : Okk F W H0 os σ H' ρ g := k.move (Mv.same s) (F.keep k.st (fun b z _ e => s b z e) fun b z _ e => s b z e)
theorem Okk.zdomT (k : Okk F W H0 os σ H ρ g) : ∀ b, Zs W os b → ∃ z, H b = some z ∧ nT z := by
  rintro b (h | h)
  · exact k.dom b h
  · have go : ∀ {σ : L2.St} {ρ : List Sl} {ot : List Addr} {Z : Addr → Prop}, Eok Z H σ ρ ot → b ∈ ot → ∃ z, H b = some z ∧ nT z := by
      intro σ ρ ot Z e
      induction e with
      | nil => intro h; cases h
      | no _ ih => exact ih
      | val _ _ ih => exact ih
      | own h1 _ _ _ ih =>
        intro h
        rcases List.mem_cons.mp h with z | z
        · subst z
          exact ⟨_, h1, fun xs z => by cases z⟩
        · exact ih z
    exact go k.env h
theorem Okk.zdom (k : Okk F W H0 os σ H ρ g) : ∀ b, Zs W os b → ∃ z, H b = some z := fun b h => let ⟨z, hz, _⟩ := k.zdomT b h; ⟨z, hz⟩
theorem Okk.zsub (k : Okk F W H0 os σ H ρ g) : ∀ b, F.S b → Zs W os b := fun b h => .inl (k.sub b h)
theorem Okk.ld (k : Okk F W H0 os σ H ρ g) (m : Mv F.S H H') : Ld (Zs W os) H (Zs W os) H' := m.ld k.zsub
end
theorem fresh_out {Z : Addr → Prop} {H : Hp} {p : Addr} (dom : ∀ b, Z b → ∃ z, H b = some z) (n : H p = none) : ¬ Z p := fun h => by
  obtain ⟨z, e⟩ := dom p h
  rw [n] at e
  cases e
theorem Rp.newTup {Z : Addr → Prop} {H : Hp} {p : Addr} {vs : List V} {ds : List PyData} (dom : ∀ b, Z b → ∃ z, H b = some z) (n : H p = none) (r : RpAll Z H vs ds) : Rp Z (upd H p (.tup vs)) (.ref p) (.tuple ds) :=
  .tup (fresh_out dom n) upd_same (r.mono (Ld.same (same_new n)))
theorem Rp.newLst {Z : Addr → Prop} {H : Hp} {p : Addr} {vs : List V} {ds : List PyData} (dom : ∀ b, Z b → ∃ z, H b = some z) (n : H p = none) (r : RpAll Z H vs ds) : Rp Z (upd H p (.lst vs)) (.ref p) (.list ds) :=
  .lst (fresh_out dom n) upd_same (r.mono (Ld.same (same_new n)))
end Pv
set_option Elab.async false
set_option linter.all false
set_option maxRecDepth 100000
set_option maxHeartbeats 4000000
namespace Pv
open PySem PySem.Spec PyProof.Rows L2 Cm
variable {Γ : Type}
abbrev PTE (Γ : Type) := List Sl → Γ → (PyData → Γ → Prop) → Prop
abbrev PTT (Γ : Type) := List Sl → Γ → (Bool → Γ → Prop) → Prop
abbrev PTA (Γ : Type) := List Sl → Γ → (List PyData → Γ → Prop) → Prop
structure PEnds (Γ : Type) where
  nx : List Sl → Γ → Prop
  rt : PyData → Γ → Prop
  bk : List Sl → Γ → Prop := fun _ _ => False
  ct : List Sl → Γ → Prop := fun _ _ => False
abbrev PTS (Γ : Type) := PEnds Γ → List Sl → Γ → Prop
def RE (F : Frm Γ) (t : TE) (T : PTE Γ) : Prop := ∀ {W : Addr → Prop} {H0 : Hp} {os : List Addr} {σ : L2.St} {H : Hp} {ρ : List Sl} {g : Γ} {Q : VK} {Q' : PyData → Γ → Prop}, Okk F W H0 os σ H ρ g → T ρ g Q' →
  (∀ v H' d g', Mv F.S H H' → F.Ok g' H' → Rp (Zs W os) H' v d → Q' d g' → Q v H') → t σ H Q
def RT (F : Frm Γ) (t : TT) (T : PTT Γ) : Prop := ∀ {W : Addr → Prop} {H0 : Hp} {os : List Addr} {σ : L2.St} {H : Hp} {ρ : List Sl} {g : Γ} {Q : Bool → Hp → Prop} {Q' : Bool → Γ → Prop}, Okk F W H0 os σ H ρ g → T ρ g Q' →
  (∀ b H' g', Mv F.S H H' → F.Ok g' H' → Q' b g' → Q b H') → t σ H Q
def RA (F : Frm Γ) (t : TA) (T : PTA Γ) : Prop := ∀ {W : Addr → Prop} {H0 : Hp} {os : List Addr} {σ : L2.St} {H : Hp} {ρ : List Sl} {g : Γ} {Q : List V → Hp → Prop} {Q' : List PyData → Γ → Prop}, Okk F W H0 os σ H ρ g → T ρ g Q' →
  (∀ vs H' ds g', Mv F.S H H' → F.Ok g' H' → RpAll (Zs W os) H' vs ds → Q' ds g' → Q vs H') → t σ H Q
structure Dok (F : Frm Γ) (W : Addr → Prop) (H0 : Hp) (D : Ends) (D' : PEnds Γ) : Prop where
  nx : ∀ os σ H ρ g, Okk F W H0 os σ H ρ g → D'.nx ρ g → D.nx σ H
  rt : ∀ v H d g, Mv F.S H0 H → F.Ok g H → Rp W H v d → D'.rt d g → D.rt v H
  bk : ∀ os σ H ρ g, Okk F W H0 os σ H ρ g → D'.bk ρ g → D.bk σ H
  ct : ∀ os σ H ρ g, Okk F W H0 os σ H ρ g → D'.ct ρ g → D.ct σ H
def RS (F : Frm Γ) (t : TS) (T : PTS Γ) : Prop := ∀ {W : Addr → Prop} {H0 : Hp} {os : List Addr} {σ : L2.St} {H : Hp} {ρ : List Sl} {g : Γ} {D : Ends} {D' : PEnds Γ}, Okk F W H0 os σ H ρ g → Dok F W H0 D D' → T D' ρ g → t D σ H
def VE (X : Cx) (F : Frm Γ) (e : Expr) (T : PTE Γ) : Prop := ∃ t, PE X e t ∧ RE F t T
def VT (X : Cx) (F : Frm Γ) (e : Expr) (T : PTT Γ) : Prop := ∃ t, PT X e t ∧ RT F t T
def VW (X : Cx) (F : Frm Γ) (e : Expr) (T : PTT Γ) : Prop := ∃ t, PW X e t ∧ RT F t T
def VA (X : Cx) (F : Frm Γ) (es : List Expr) (T : PTA Γ) : Prop := ∃ t, PA X es t ∧ RA F t T
def VS (X : Cx) (F : Frm Γ) (st : Stmt) (T : PTS Γ) : Prop := ∃ t, PS X st t ∧ RS F t T
def VSs (X : Cx) (F : Frm Γ) (st : List Stmt) (T : PTS Γ) : Prop := ∃ t, PSs X st t ∧ RS F t T
variable {X : Cx} {F : Frm Γ} {pos : Pos}
def pVar (i : Nat) (ρ : List Sl) (g : Γ) (Q : PyData → Γ → Prop) : Prop := ∃ d, ρ[i]? = some (.val d) ∧ Q d g
theorem re_var {i : Nat} : RE F (tVar i) (pVar i) := by
  intro W H0 os σ H ρ g Q Q' k h q
  obtain ⟨d, hd, hq⟩ := h
  obtain ⟨v, hv, r⟩ := k.env.get hd
  exact ⟨v, hv, q v H d g (Mv.refl _ _) k.st r hq⟩
theorem vv {x : Str} (i : Nat) (hN : X.N[i]? = some x := by rfl) (hv : Vis X.env.scope x := by first | exact .inl rfl | exact .inr (.inl rfl) | exact .inr (.inr rfl)) (hd : (x == ("__debug__" : Str)) = false := by decide) (hcd : (x == ("__classdict__" : Str)) = false := by decide) : VE X F (.Name x pos) (pVar i) :=
  ⟨_, pe_var hN hv hd hcd, re_var⟩
def pC (d : PyData) (_z1 : List Sl) (g : Γ) (Q : PyData → Γ → Prop) : Prop := Q d g
theorem re_c {v : V} {d : PyData} (h : ∀ Z H, Rp Z H v d) : RE F (tC v) (pC d) := by
  intro W H0 os σ H ρ g Q Q' k hq q
  exact q v H d g (Mv.refl _ _) k.st (h _ _) hq
theorem ve_int {i : Int} {j} : VE X F (.Constant (.int i) j pos) (pC (.int i)) := ⟨_, pe_int, re_c fun _ _ => .int i⟩
theorem ve_bl {b : Bool} {j} : VE X F (.Constant (.bool b) j pos) (pC (.bool b)) := ⟨_, pe_bl, re_c fun _ _ => .bl b⟩
theorem ve_str {x : Str} {j} : VE X F (.Constant (.str x) j pos) (pC (.str x)) := ⟨_, pe_str, re_c fun _ _ => .str x⟩
theorem ve_gint {x : Str} {i : Int} (hm : ∃ t, X.mg x = some (.int i t)) (hg : Gl X x) (hd : (x == ("__debug__" : Str)) = false := by decide) : VE X F (.Name x pos) (pC (.int i)) := by
  obtain ⟨t, hm⟩ := hm
  exact ⟨_, pe_glob (v := .int i) hg hm ⟨t, rfl⟩ hd, re_c fun _ _ => .int i⟩
abbrev P2 := PyData → PyData → (PyData → Prop) → Prop
abbrev P1 := PyData → (PyData → Prop) → Prop
def OL (r : R2) (p : P2) : Prop := ∀ {Z : Addr → Prop} {H : Hp} {x y : V} {d e : PyData} {Q : VK} {Q' : PyData → Prop}, (∀ b, Z b → ∃ z, H b = some z) → Rp Z H x d → Rp Z H y e → p d e Q' →
  (∀ v H' z, Same H H' → Rp Z H' v z → Q' z → Q v H') → r x y H Q
def UL (r : V → Hp → VK → Prop) (p : P1) : Prop := ∀ {Z : Addr → Prop} {H : Hp} {x : V} {d : PyData} {Q : VK} {Q' : PyData → Prop}, (∀ b, Z b → ∃ z, H b = some z) → Rp Z H x d → p d Q' →
  (∀ v H' z, Same H H' → Rp Z H' v z → Q' z → Q v H') → r x H Q
def CL (r : List V → Hp → VK → Prop) (p : List PyData → (PyData → Prop) → Prop) : Prop := ∀ {Z : Addr → Prop} {H : Hp} {xs : List V} {ds : List PyData} {Q : VK} {Q' : PyData → Prop}, (∀ b, Z b → ∃ z, H b = some z) → RpAll Z H xs ds → p ds Q' →
  (∀ v H' z, Same H H' → Rp Z H' v z → Q' z → Q v H') → r xs H Q
def pOp (p : P2) (a b : PTE Γ) (ρ : List Sl) (g : Γ) (Q : PyData → Γ → Prop) : Prop := a ρ g fun x g1 => b ρ g1 fun y g2 => p x y fun z => Q z g2
def pUn (p : P1) (a : PTE Γ) (ρ : List Sl) (g : Γ) (Q : PyData → Γ → Prop) : Prop := a ρ g fun x g1 => p x fun z => Q z g1
theorem keep_same {F : Frm Γ} {g : Γ} {H H' : Hp} (s : F.Ok g H) (e : Same H H') : F.Ok g H' := F.keep s (fun b z _ h => e b z h) fun b f _ h => e b _ h
theorem re_op {r : R2} {p : P2} {ta tb : TE} {Ta Tb : PTE Γ} (ol : OL r p) (ha : RE F ta Ta) (hb : RE F tb Tb) : RE F (tOp r ta tb) (pOp p Ta Tb) := by
  intro W H0 os σ H ρ g Q Q' k h q
  refine ha k h fun x H1 d g1 m1 s1 r1 h1 => hb (k.move m1 s1) h1 fun y H2 e g2 m2 s2 r2 h2 => ?_
  have k2 := (k.move m1 s1).move m2 s2
  exact ol k2.zdom (r1.mono (k.move m1 s1 |>.ld m2)) r2 h2 fun v H' z e3 r3 h3 => q v H' z g2 ((m1.trans m2).trans (Mv.same e3)) (keep_same s2 e3) r3 h3
theorem re_un {r : V → Hp → VK → Prop} {p : P1} {ta : TE} {Ta : PTE Γ} (ol : UL r p) (ha : RE F ta Ta) : RE F (tUn r ta) (pUn p Ta) := by
  intro W H0 os σ H ρ g Q Q' k h q
  refine ha k h fun x H1 d g1 m1 s1 r1 h1 => ?_
  exact ol (k.move m1 s1).zdom r1 h1 fun v H' z e3 r3 h3 => q v H' z g1 (m1.trans (Mv.same e3)) (keep_same s1 e3) r3 h3
def VOp (X : Cx) (f : Value → Value → Sem Value) (p : P2) : Prop := ∃ r, OpR X f r ∧ OL r p
theorem ve_op {op : Operator} {p : P2} {a b : Expr} {Ta Tb : PTE Γ} (o : VOp X (binaryOp op) p) (ha : VE X F a Ta) (hb : VE X F b Tb) : VE X F (.BinOp a op b pos) (pOp p Ta Tb) := by
  obtain ⟨r, o1, o2⟩ := o
  obtain ⟨ta, a1, a2⟩ := ha
  obtain ⟨tb, b1, b2⟩ := hb
  exact ⟨_, pe_op o1 a1 b1, re_op o2 a2 b2⟩
theorem ve_cmp {op : CmpOp} {p : P2} {a b : Expr} {Ta Tb : PTE Γ} (o : VOp X (compareOp op) p) (ha : VE X F a Ta) (hb : VE X F b Tb) (hm : behindInMarks op b = false) : VE X F (.Compare a [op] [b] pos) (pOp p Ta Tb) := by
  obtain ⟨r, o1, o2⟩ := o
  obtain ⟨ta, a1, a2⟩ := ha
  obtain ⟨tb, b1, b2⟩ := hb
  exact ⟨_, pe_cmpR o1 a1 b1 hm, re_op o2 a2 b2⟩
def pTest (T : PTE Γ) (ρ : List Sl) (g : Γ) (Q : Bool → Γ → Prop) : Prop := T ρ g fun d g1 => ∃ k, d = .bool k ∧ Q k g1
theorem rt_test {t : TE} {T : PTE Γ} (h : RE F t T) : RT F (tTest t) (pTest T) := by
  intro W H0 os σ H ρ g Q Q' k h1 q
  refine h k h1 fun v H' d g' m s r hq => ?_
  obtain ⟨b, rfl, hq⟩ := hq
  cases r
  exact ⟨b, rfl, q b H' g' m s hq⟩
theorem vt_cmp {op : CmpOp} {p : P2} {a b : Expr} {Ta Tb : PTE Γ} (o : VOp X (compareOp op) p) (ha : VE X F a Ta) (hb : VE X F b Tb) (hm : behindInMarks op b = false) : VT X F (.Compare a [op] [b] pos) (pTest (pOp p Ta Tb)) := by
  obtain ⟨r, o1, o2⟩ := o
  obtain ⟨ta, a1, a2⟩ := ha
  obtain ⟨tb, b1, b2⟩ := hb
  exact ⟨_, pt_cmpR o1 a1 b1 hm, rt_test (re_op o2 a2 b2)⟩
theorem vt_val {e : Expr} {T : PTE Γ} (h : VE X F e T) (he : ∀ whole, isTrue e X.env whole = (do let v ← whole; standAt e.pos; holding [v] (truthy v)) := by intro _; rfl) : VT X F e (pTest T) := by
  obtain ⟨t, h1, h2⟩ := h
  exact ⟨_, pt_val h1 he, rt_test h2⟩
def pAnd (t u : PTT Γ) (ρ : List Sl) (g : Γ) (Q : Bool → Γ → Prop) : Prop := t ρ g fun c g1 => if c = true then u ρ g1 Q else Q false g1
def pOr (t u : PTT Γ) (ρ : List Sl) (g : Γ) (Q : Bool → Γ → Prop) : Prop := t ρ g fun c g1 => if c = true then Q true g1 else u ρ g1 Q
def pNot (t : PTT Γ) (ρ : List Sl) (g : Γ) (Q : Bool → Γ → Prop) : Prop := t ρ g fun c g1 => Q (!c) g1
theorem rt_and {t u : TT} {T U : PTT Γ} (h1 : RT F t T) (h2 : RT F u U) : RT F (tAnd t u) (pAnd T U) := by
  intro W H0 os σ H ρ g Q Q' k h q
  refine h1 k h fun b H1 g1 m1 s1 hq => ?_
  cases b with
  | true =>
    rw [if_pos rfl] at hq ⊢
    exact h2 (k.move m1 s1) hq fun c H2 g2 m2 s2 hq2 => q c H2 g2 (m1.trans m2) s2 hq2
  | false =>
    rw [if_neg Bool.false_ne_true] at hq ⊢
    exact q false H1 g1 m1 s1 hq
theorem rt_or {t u : TT} {T U : PTT Γ} (h1 : RT F t T) (h2 : RT F u U) : RT F (tOr t u) (pOr T U) := by
  intro W H0 os σ H ρ g Q Q' k h q
  refine h1 k h fun b H1 g1 m1 s1 hq => ?_
  cases b with
  | true =>
    rw [if_pos rfl] at hq ⊢
    exact q true H1 g1 m1 s1 hq
  | false =>
    rw [if_neg Bool.false_ne_true] at hq ⊢
    exact h2 (k.move m1 s1) hq fun c H2 g2 m2 s2 hq2 => q c H2 g2 (m1.trans m2) s2 hq2
theorem rt_not {t : TT} {T : PTT Γ} (h1 : RT F t T) : RT F (tNot t) (pNot T) := by
  intro W H0 os σ H ρ g Q Q' k h q
  exact h1 k h fun b H1 g1 m1 s1 hq => q _ H1 g1 m1 s1 hq
section
variable {a b c : Expr} {rest : List Expr} {tA tB' : PTT Γ} {ta tb tc : PTE Γ}
theorem VW.vt {e : Expr} {T : PTT Γ} (h : VW X F e T) : VT X F e T := let ⟨t, h1, h2⟩ := h; ⟨t, h1.pt, h2⟩
theorem vw_and1 (ha : VT X F a tA) : VW X F (.BoolOp .And [a] pos) tA := let ⟨t, h1, h2⟩ := ha; ⟨t, pw_and1 h1, h2⟩
theorem vw_or1 (ha : VT X F a tA) : VW X F (.BoolOp .Or [a] pos) tA := let ⟨t, h1, h2⟩ := ha; ⟨t, pw_or1 h1, h2⟩
theorem vw_and (ha : VT X F a tA) (hb : VW X F (.BoolOp .And (b :: rest) pos) tB') : VW X F (.BoolOp .And (a :: b :: rest) pos) (pAnd tA tB') := let ⟨t, h1, h2⟩ := ha; let ⟨u, g1, g2⟩ := hb; ⟨_, pw_and h1 g1, rt_and h2 g2⟩
theorem vw_or (ha : VT X F a tA) (hb : VW X F (.BoolOp .Or (b :: rest) pos) tB') : VW X F (.BoolOp .Or (a :: b :: rest) pos) (pOr tA tB') := let ⟨t, h1, h2⟩ := ha; let ⟨u, g1, g2⟩ := hb; ⟨_, pw_or h1 g1, rt_or h2 g2⟩
theorem vt_not (ha : VT X F a tA) : VT X F (.UnaryOp .Not a pos) (pNot tA) := let ⟨t, h1, h2⟩ := ha; ⟨_, pt_not h1, rt_not h2⟩
def pAndV (ta tb : PTE Γ) (ρ : List Sl) (g : Γ) (Q : PyData → Γ → Prop) : Prop := ta ρ g fun x g1 => ∃ c, x = .bool c ∧ if c = true then tb ρ g1 Q else Q (.bool false) g1
def pOrV (ta tb : PTE Γ) (ρ : List Sl) (g : Γ) (Q : PyData → Γ → Prop) : Prop := ta ρ g fun x g1 => ∃ c, x = .bool c ∧ if c = true then Q (.bool true) g1 else tb ρ g1 Q
def pNotV (ta : PTE Γ) (ρ : List Sl) (g : Γ) (Q : PyData → Γ → Prop) : Prop := ta ρ g fun x g1 => ∃ c, x = .bool c ∧ Q (.bool (!c)) g1
theorem ve_one {op} (h : VE X F a ta) : VE X F (.BoolOp op [a] pos) ta := let ⟨t, h1, h2⟩ := h; ⟨t, pe_one h1, h2⟩
theorem ve_and (ha : VE X F a ta) (hb : VE X F (.BoolOp .And (b :: rest) pos) tb) : VE X F (.BoolOp .And (a :: b :: rest) pos) (pAndV ta tb) := by
  obtain ⟨t, a1, a2⟩ := ha
  obtain ⟨u, b1, b2⟩ := hb
  refine ⟨_, pe_and a1 b1, fun {W H0 os σ H ρ g Q Q'} k h q => a2 k h fun v H1 d g1 m1 s1 r1 hq => ?_⟩
  obtain ⟨c, rfl, hq⟩ := hq
  cases r1
  refine ⟨c, rfl, ?_⟩
  cases c with
  | true =>
    rw [if_pos rfl] at hq ⊢
    exact b2 (k.move m1 s1) hq fun v H2 d g2 m2 s2 r2 hq2 => q v H2 d g2 (m1.trans m2) s2 r2 hq2
  | false =>
    rw [if_neg Bool.false_ne_true] at hq ⊢
    exact q _ H1 _ g1 m1 s1 (.bl false) hq
theorem ve_or (ha : VE X F a ta) (hb : VE X F (.BoolOp .Or (b :: rest) pos) tb) : VE X F (.BoolOp .Or (a :: b :: rest) pos) (pOrV ta tb) := by
  obtain ⟨t, a1, a2⟩ := ha
  obtain ⟨u, b1, b2⟩ := hb
  refine ⟨_, pe_or a1 b1, fun {W H0 os σ H ρ g Q Q'} k h q => a2 k h fun v H1 d g1 m1 s1 r1 hq => ?_⟩
  obtain ⟨c, rfl, hq⟩ := hq
  cases r1
  refine ⟨c, rfl, ?_⟩
  cases c with
  | true =>
    rw [if_pos rfl] at hq ⊢
    exact q _ H1 _ g1 m1 s1 (.bl true) hq
  | false =>
    rw [if_neg Bool.false_ne_true] at hq ⊢
    exact b2 (k.move m1 s1) hq fun v H2 d g2 m2 s2 r2 hq2 => q v H2 d g2 (m1.trans m2) s2 r2 hq2
theorem ve_not (ha : VE X F a ta) : VE X F (.UnaryOp .Not a pos) (pNotV ta) := by
  obtain ⟨t, a1, a2⟩ := ha
  refine ⟨_, pe_not a1, fun {W H0 os σ H ρ g Q Q'} k h q => a2 k h fun v H1 d g1 m1 s1 r1 hq => ?_⟩
  obtain ⟨c, rfl, hq⟩ := hq
  cases r1
  exact ⟨c, rfl, q _ H1 _ g1 m1 s1 (.bl _) hq⟩
def pIf (t : PTT Γ) (ta tb : PTE Γ) (ρ : List Sl) (g : Γ) (Q : PyData → Γ → Prop) : Prop := t ρ g fun c g1 => if c = true then ta ρ g1 Q else tb ρ g1 Q
theorem ve_ifExp (hc : VT X F c tA) (ha : VE X F a ta) (hb : VE X F b tb) : VE X F (.IfExp c a b pos) (pIf tA ta tb) := by
  obtain ⟨t0, c1, c2⟩ := hc
  obtain ⟨t, a1, a2⟩ := ha
  obtain ⟨u, b1, b2⟩ := hb
  refine ⟨_, pe_ifExp c1 a1 b1, fun {W H0 os σ H ρ g Q Q'} k h q => c2 k h fun c H1 g1 m1 s1 hq => ?_⟩
  cases c with
  | true =>
    rw [if_pos rfl] at hq ⊢
    exact a2 (k.move m1 s1) hq fun v H2 d g2 m2 s2 r2 hq2 => q v H2 d g2 (m1.trans m2) s2 r2 hq2
  | false =>
    rw [if_neg Bool.false_ne_true] at hq ⊢
    exact b2 (k.move m1 s1) hq fun v H2 d g2 m2 s2 r2 hq2 => q v H2 d g2 (m1.trans m2) s2 r2 hq2
end
def pChain (p p' : P2) (ta tb tc : PTE Γ) (ρ : List Sl) (g : Γ) (Q : PyData → Γ → Prop) : Prop := ta ρ g fun x g1 => tb ρ g1 fun y g2 => p x y fun z => ∃ k, z = .bool k ∧ if k = true then tc ρ g2 fun w g3 => p' y w fun z' => Q z' g3 else Q (.bool false) g2
def pNil (_z1 : List Sl) (g : Γ) (Q : List PyData → Γ → Prop) : Prop := Q [] g
def pCons (a : PTE Γ) (r : PTA Γ) (ρ : List Sl) (g : Γ) (Q : List PyData → Γ → Prop) : Prop := a ρ g fun x g1 => r ρ g1 fun xs g2 => Q (x :: xs) g2
theorem va_nil : VA X F [] pNil := ⟨_, pa_nil, fun {W H0 os σ H ρ g Q Q'} k h q => q [] H [] g (Mv.refl _ _) k.st .nil h⟩
theorem va_cons {e : Expr} {es : List Expr} {T : PTE Γ} {U : PTA Γ} (ha : VE X F e T) (hr : VA X F es U) (hs : starEach (e :: es) X.env = (false, eval e X.env) :: starEach es X.env := by rfl) : VA X F (e :: es) (pCons T U) := by
  obtain ⟨t, a1, a2⟩ := ha
  obtain ⟨u, b1, b2⟩ := hr
  refine ⟨_, pa_cons a1 b1 hs, fun {W H0 os σ H ρ g Q Q'} k h q => a2 k h fun v H1 d g1 m1 s1 r1 h1 => b2 (k.move m1 s1) h1 fun vs H2 ds g2 m2 s2 r2 h2 => ?_⟩
  exact q _ H2 _ g2 (m1.trans m2) s2 (.cons (r1.mono ((k.move m1 s1).ld m2)) r2) h2
def pTup (t : PTA Γ) (ρ : List Sl) (g : Γ) (Q : PyData → Γ → Prop) : Prop := t ρ g fun xs g1 => xs.length ≤ 1000000 ∧ Q (.tuple xs) g1
def pLst (t : PTA Γ) (ρ : List Sl) (g : Γ) (Q : PyData → Γ → Prop) : Prop := t ρ g fun xs g1 => xs.length ≤ 1000000 ∧ Q (.list xs) g1
theorem line_ok {n : Nat} (h : n ≤ 1000000) : n ≤ sizeLine := Nat.le_trans h (by rw [sizeLine_eq]; decide)
theorem line_lt {n : Nat} (h : n < 1000000) : n < sizeLine := Nat.lt_of_lt_of_le h (by rw [sizeLine_eq]; decide)
theorem ve_tup {es : List Expr} {T : PTA Γ} {x1} (h : VA X F es T) : VE X F (.Tuple es x1 pos) (pTup T) := by
  obtain ⟨t, a1, a2⟩ := h
  refine ⟨_, pe_tup a1, fun {W H0 os σ H ρ g Q Q'} k h q => a2 k h fun vs H1 ds g1 m1 s1 r1 h1 => ⟨by rw [r1.length]; exact line_ok h1.1, fun p np => ?_⟩⟩
  have k1 := k.move m1 s1
  exact q _ _ _ g1 (m1.trans (Mv.same (same_new np))) (keep_same s1 (same_new np)) (Rp.newTup k1.zdom np r1) h1.2
theorem ve_lst {es : List Expr} {T : PTA Γ} (h : VA X F es T) : VE X F (.List es pos) (pLst T) := by
  obtain ⟨t, a1, a2⟩ := h
  refine ⟨_, pe_lst a1, fun {W H0 os σ H ρ g Q Q'} k h q => a2 k h fun vs H1 ds g1 m1 s1 r1 h1 => ⟨by rw [r1.length]; exact line_ok h1.1, fun p np => ?_⟩⟩
  have k1 := k.move m1 s1
  exact q _ _ _ g1 (m1.trans (Mv.same (same_new np))) (keep_same s1 (same_new np)) (Rp.newLst k1.zdom np r1) h1.2
abbrev PSp (Γ : Type) := List PyData → Γ → (PyData → Γ → Prop) → Prop
def spP (F : Frm Γ) (T : PSp Γ) : Sp := fun vs H Q _ => ∃ (W : Addr → Prop) (ds : List PyData) (g : Γ) (Q' : PyData → Γ → Prop), (∀ b, F.S b → W b) ∧ (∀ b, W b → ∃ z, H b = some z ∧ nT z) ∧ RpAll W H vs ds ∧ F.Ok g H ∧ T ds g Q' ∧
  ∀ v H' d g', Mv F.S H H' → F.Ok g' H' → Rp W H' v d → Q' d g' → Q v H'
def pCall (T : PSp Γ) (a : PTA Γ) (ρ : List Sl) (g : Γ) (Q : PyData → Γ → Prop) : Prop := a ρ g fun ds g1 => T ds g1 Q
theorem re_call {ta : TA} {Ta : PTA Γ} {T : PSp Γ} {E : XK} (ha : RA F ta Ta) : RE F (tCall (spP F T) [] E ta) (pCall T Ta) := by
  intro W H0 os σ H ρ g Q Q' k h q
  refine ha k h fun vs H1 ds g1 m1 s1 r1 h1 => ?_
  have k1 := k.move m1 s1
  show spP F T (vs ++ []) H1 Q E
  rw [List.append_nil]
  exact ⟨Zs W os, ds, g1, Q', k1.zsub, k1.zdomT, r1, s1, h1, fun v H' d g' m s r hq => q v H' d g' (m1.trans m) s r hq⟩
abbrev FnP (P : Program) (w : World) (K : PySem.W.Frag) (mg : Str → Option Value) (base : Heap) (F : Frm Γ) (k : Nat) (x : Str) (ps : List Str) (T : PSp Γ) : Prop := Fn P w K mg base k x ps (spP F T)
theorem ve_fn {k : Nat} {x : Str} {ps : List Str} {T : PSp Γ} {e : Expr} {es : List Expr} {Ta : PTA Γ} {p : Pos} (G : FnP X.prog X.w X.K X.mg X.base F k x ps T) (hr : Room k X.A) (hgd : X.A.guards = some []) (hg : Gl X x) (ha : VA X F (e :: es) Ta) (hdb : (x == ("__debug__" : Str)) = false := by decide)
    (he : starEach (e :: es) X.env = (false, eval e X.env) :: starEach es X.env := by rfl) (hpl : (backTo pos (starEach es X.env)).any (·.1) = false := by rfl) : VE X F (.Call (.Name x p) (e :: es) [] pos) (pCall T Ta) := by
  obtain ⟨ta, a1, a2⟩ := ha
  exact ⟨_, pe_fn G hr hgd hg a1 hdb he hpl, re_call a2⟩
def pBui (p : List PyData → (PyData → Prop) → Prop) (a : PTA Γ) (ρ : List Sl) (g : Γ) (Q : PyData → Γ → Prop) : Prop := a ρ g fun ds g1 => p ds fun z => Q z g1
theorem re_bui {r : List V → Hp → VK → Prop} {p : List PyData → (PyData → Prop) → Prop} {ta : TA} {Ta : PTA Γ} (ol : CL r p) (ha : RA F ta Ta) : RE F (fun σ H Q => ta σ H fun vs H1 => r vs H1 Q) (pBui p Ta) := by
  intro W H0 os σ H ρ g Q Q' k h q
  refine ha k h fun vs H1 ds g1 m1 s1 r1 h1 => ?_
  exact ol (k.move m1 s1).zdom r1 h1 fun v H' z e3 r3 h3 => q v H' z g1 (m1.trans (Mv.same e3)) (keep_same s1 e3) r3 h3
def VCall (X : Cx) (f : Value) (p : List PyData → (PyData → Prop) → Prop) : Prop := ∃ r, CallR X f r ∧ CL r p
end Pv
set_option Elab.async false
set_option linter.all false
set_option maxRecDepth 100000
set_option maxHeartbeats 4000000
namespace Pv
open PySem PySem.Spec PyProof.Rows L2 Cm
variable {Γ : Type} {X : Cx} {F : Frm Γ} {pos : Pos}
def canE (F : Frm Γ) (T : PTE Γ) : TE := fun σ H Q => ∃ (W : Addr → Prop) (H0 : Hp) (os : List Addr) (ρ : List Sl) (g : Γ) (Q' : PyData → Γ → Prop), Okk F W H0 os σ H ρ g ∧ T ρ g Q' ∧
  ∀ v H' d g', Mv F.S H H' → F.Ok g' H' → Rp (Zs W os) H' v d → Q' d g' → Q v H'
def canT (F : Frm Γ) (T : PTT Γ) : TT := fun σ H Q => ∃ (W : Addr → Prop) (H0 : Hp) (os : List Addr) (ρ : List Sl) (g : Γ) (Q' : Bool → Γ → Prop), Okk F W H0 os σ H ρ g ∧ T ρ g Q' ∧
  ∀ b H' g', Mv F.S H H' → F.Ok g' H' → Q' b g' → Q b H'
theorem VE.can {e : Expr} {T : PTE Γ} (h : VE X F e T) : PE X e (canE F T) := by
  obtain ⟨t, h1, h2⟩ := h
  refine ⟨fun pins s σ H Q I hc => ?_⟩
  obtain ⟨W, H0, os, ρ, g, Q', k, hT, q⟩ := hc
  exact h1.run pins s σ H Q I (h2 k hT q)
theorem VT.can {e : Expr} {T : PTT Γ} (h : VT X F e T) : PT X e (canT F T) := by
  obtain ⟨t, h1, h2⟩ := h
  refine ⟨fun pins s σ H Q I hc => ?_⟩
  obtain ⟨W, H0, os, ρ, g, Q', k, hT, q⟩ := hc
  exact h1.run pins s σ H Q I (h2 k hT q)
theorem re_can {T : PTE Γ} : RE F (canE F T) T := fun {W H0 os σ H ρ g Q Q'} k h q => ⟨W, H0, os, ρ, g, Q', k, h, q⟩
abbrev PTG := PyData → List Sl → (List Sl → Prop) → Prop
def notOwn (ρ : List Sl) (i : Nat) : Bool := match ρ[i]? with
  | some (.own _) => false
  | _ => true
theorem Eok.setV {Z : Addr → Prop} {H : Hp} {v : V} {d : PyData} (r : Rp Z H v d) : ∀ {σ : L2.St} {ρ : List Sl} {os : List Addr} (i : Nat), notOwn ρ i = true → Eok Z H σ ρ os → Eok Z H (σ.set i (some v)) (ρ.set i (.val d)) os
  | _, _, _, _, _, .nil => .nil
  | _, _, _, 0, _, .no t => .val r t
  | _, _, _, 0, _, .val _ t => .val r t
  | _, _, _, 0, n, .own _ _ _ t => by cases n
  | _, _, _, i + 1, n, .no t => .no (Eok.setV r i n t)
  | _, _, _, i + 1, n, .val q t => .val q (Eok.setV r i n t)
  | _, _, _, i + 1, n, .own h1 q n1 t => .own h1 q n1 (Eok.setV r i n t)
theorem Eok.setN {Z : Addr → Prop} {H : Hp} (o : Option V) : ∀ {σ : L2.St} {ρ : List Sl} {os : List Addr} (i : Nat), notOwn ρ i = true → Eok Z H σ ρ os → Eok Z H (σ.set i o) (ρ.set i .no) os
  | _, _, _, _, _, .nil => .nil
  | _, _, _, 0, _, .no t => .no t
  | _, _, _, 0, _, .val _ t => .no t
  | _, _, _, 0, n, .own _ _ _ t => by cases n
  | _, _, _, i + 1, n, .no t => .no (Eok.setN o i n t)
  | _, _, _, i + 1, n, .val q t => .val q (Eok.setN o i n t)
  | _, _, _, i + 1, n, .own h1 q n1 t => .own h1 q n1 (Eok.setN o i n t)
def RG (F : Frm Γ) (t : TG) (G : PTG) (is : List Nat) : Prop := ∀ {W : Addr → Prop} {H0 : Hp} {os : List Addr} {σ : L2.St} {H : Hp} {ρ : List Sl} {g : Γ} {v : V} {d : PyData} {Q : L2.St → Hp → Prop} {Q' : List Sl → Prop}, Okk F W H0 os σ H ρ g → Rp (Zs W os) H v d → G d ρ Q' →
  (∀ σ' ρ', Okk F W H0 os σ' H ρ' g → (∀ vs, (∀ i ∈ is, i ∈ vs) → wipe σ' vs = wipe σ vs) → Q' ρ' → Q σ' H) → t v σ H Q
def RGs (F : Frm Γ) (t : TGs) (G : List PyData → List Sl → (List Sl → Prop) → Prop) (is : List Nat) : Prop := ∀ {W : Addr → Prop} {H0 : Hp} {os : List Addr} {σ : L2.St} {H : Hp} {ρ : List Sl} {g : Γ} {vs : List V} {ds : List PyData} {Q : L2.St → Hp → Prop} {Q' : List Sl → Prop}, Okk F W H0 os σ H ρ g → RpAll (Zs W os) H vs ds → G ds ρ Q' →
  (∀ σ' ρ', Okk F W H0 os σ' H ρ' g → (∀ vs, (∀ i ∈ is, i ∈ vs) → wipe σ' vs = wipe σ vs) → Q' ρ' → Q σ' H) → t vs σ H Q
def VG (X : Cx) (F : Frm Γ) (tg : Expr) (t : TG) (G : PTG) (is : List Nat) : Prop := PG X tg t ∧ RG F t G is
def VGs (X : Cx) (F : Frm Γ) (tg : List Expr) (t : TGs) (G : List PyData → List Sl → (List Sl → Prop) → Prop) (is : List Nat) : Prop := PGs X tg t ∧ RGs F t G is
theorem wipe_set {σ : L2.St} {o : Option V} {i : Nat} : ∀ {vs : List Nat}, i ∈ vs → wipe (σ.set i o) vs = wipe σ vs := by
  intro vs
  induction vs with
  | nil => intro h; cases h
  | cons v vs ih =>
    intro h
    show (wipe (σ.set i o) vs).set v none = (wipe σ vs).set v none
    by_cases hv : i ∈ vs
    · rw [ih hv]
    · have e : i = v := (List.mem_cons.mp h).elim id fun z => absurd z hv
      subst e
      have go : ∀ {ws : List Nat}, i ∉ ws → wipe (σ.set i o) ws = (wipe σ ws).set i o := by
        intro ws
        induction ws with
        | nil => intro _; rfl
        | cons w ws ih2 =>
          intro hn
          have h1 : i ≠ w := fun z => hn (List.mem_cons.mpr (.inl z))
          show (wipe (σ.set i o) ws).set w none = ((wipe σ ws).set w none).set i o
          rw [ih2 (fun z => hn (List.mem_cons.mpr (.inr z))), List.set_comm _ _ h1]
      rw [go hv, List.set_set]
def qName (i : Nat) (d : PyData) (ρ : List Sl) (Q : List Sl → Prop) : Prop := notOwn ρ i = true ∧ Q (ρ.set i (.val d))
theorem rg_name {i : Nat} : RG F (gName i) (qName i) [i] := by
  intro W H0 os σ H ρ g v d Q Q' k r h q
  exact q _ _ ⟨k.env.setV r i h.1, k.st, k.sub, k.dom, k.new, k.mv⟩ (fun vs hv => wipe_set (hv i (List.mem_singleton.mpr rfl))) h.2
theorem vg_name {i : Nat} {x : Str} (hN : X.N.Nodup) (hi : X.N[i]? = some x) (hx : Loc X.env.scope x) (hf : X.fn x = true ∨ X.env.scope.names.lookup x = some .local := by first | exact .inl rfl | exact .inr rfl | assumption) : VG X F (.Name x pos) (gName i) (qName i) [i] := ⟨pg_name hN hi hx hf, rg_name⟩
def qNil (ds : List PyData) (ρ : List Sl) (Q : List Sl → Prop) : Prop := ds = [] ∧ Q ρ
def qCons (G : PTG) (U : List PyData → List Sl → (List Sl → Prop) → Prop) (ds : List PyData) (ρ : List Sl) (Q : List Sl → Prop) : Prop := ∃ d r, ds = d :: r ∧ G d ρ fun ρ' => U r ρ' Q
def qTup (n : Nat) (U : List PyData → List Sl → (List Sl → Prop) → Prop) (d : PyData) (ρ : List Sl) (Q : List Sl → Prop) : Prop := ∃ ds, d = .tuple ds ∧ ds.length = n ∧ U ds ρ Q
theorem vgs_nil : VGs X F [] gNil qNil [] := by
  refine ⟨pgs_nil, fun {W H0 os σ H ρ g vs ds Q Q'} k r h q => ?_⟩
  obtain ⟨rfl, h⟩ := h
  cases r
  exact ⟨rfl, q _ _ k (fun _ _ => rfl) h⟩
theorem vgs_cons {e : Expr} {es : List Expr} {t : TG} {u : TGs} {G : PTG} {U : List PyData → List Sl → (List Sl → Prop) → Prop} {i1 i2 : List Nat} (h1 : VG X F e t G i1) (h2 : VGs X F es u U i2)
    (hs : PGs X (e :: es) (gCons t u)) : VGs X F (e :: es) (gCons t u) (qCons G U) (i1 ++ i2) := by
  refine ⟨hs, fun {W H0 os σ H ρ g vs ds Q Q'} k r h q => ?_⟩
  obtain ⟨d, rs, rfl, h⟩ := h
  cases r with
  | cons r1 r2 =>
    refine ⟨_, _, rfl, h1.2 k r1 h fun σ1 ρ1 k1 w1 hq => h2.2 k1 r2 hq fun σ2 ρ2 k2 w2 hq2 => q σ2 ρ2 k2 (fun vs hv => ?_) hq2⟩
    rw [w2 vs fun i hi => hv i (List.mem_append_right _ hi), w1 vs fun i hi => hv i (List.mem_append_left _ hi)]
theorem rg_tup {K : PySem.W.Frag} {n : Nat} {t : TGs} {U : List PyData → List Sl → (List Sl → Prop) → Prop} {is : List Nat} (h : RGs F t U is) : RG F (gTup K n t) (qTup n U) is := by
  intro W H0 os σ H ρ g v d Q Q' k r hh q
  obtain ⟨ds, rfl, hl, hh⟩ := hh
  cases r with
  | tup nz e ra =>
    refine ⟨_, _, rfl, SqT.of e, by rw [ra.length]; exact hl, h k ra hh q⟩
abbrev PTI (Γ : Type) := List Sl → Γ → (List PyData → Γ → Prop) → Prop
def Wk (Z : Addr → Prop) (H1 : Hp) (J : It) (items : List PyData) : Prop := ∃ (G : Hp → Prop) (Y : Nat → Hp → V → Hp → Prop), Walk J items.length G Y ∧ (∀ Z' H, Ld Z H1 Z' H → G H) ∧
  ∀ Z' H i x H', Ld Z H1 Z' H → (∀ b, Z' b → ∃ z, H b = some z) → i < items.length → Y i H x H' → Same H H' ∧ ∃ d, items[i]? = some d ∧ Rp Z' H' x d
def RI (F : Frm Γ) (wi : TI) (Ti : PTI Γ) : Prop := ∀ {W : Addr → Prop} {H0 : Hp} {os : List Addr} {σ : L2.St} {H : Hp} {ρ : List Sl} {g : Γ} {R : It → Hp → Prop} {Q' : List PyData → Γ → Prop}, Okk F W H0 os σ H ρ g → Ti ρ g Q' →
  (∀ J H1 items g1, Mv F.S H H1 → F.Ok g1 H1 → Wk (Zs W os) H1 J items → Q' items g1 → R J H1) → wi σ H R
def VI (X : Cx) (F : Frm Γ) (tg iter : Expr) (Ti : PTI Γ) : Prop := ∃ wi, PI X tg iter wi ∧ RI F wi Ti
def canI (F : Frm Γ) (T : PTI Γ) : TI := fun σ H R => ∃ (W : Addr → Prop) (H0 : Hp) (os : List Addr) (ρ : List Sl) (g : Γ) (Q' : List PyData → Γ → Prop), Okk F W H0 os σ H ρ g ∧ T ρ g Q' ∧
  ∀ J H1 items g1, Mv F.S H H1 → F.Ok g1 H1 → Wk (Zs W os) H1 J items → Q' items g1 → R J H1
theorem VI.can {tg iter : Expr} {T : PTI Γ} (h : VI X F tg iter T) : PI X tg iter (canI F T) := by
  obtain ⟨t, h1, h2⟩ := h
  refine ⟨fun pins s σ H R I hc => ?_⟩
  obtain ⟨W, H0, os, ρ, g, Q', k, hT, q⟩ := hc
  exact h1.run pins s σ H R I (h2 k hT q)
theorem ri_can {T : PTI Γ} : RI F (canI F T) T := fun {W H0 os σ H ρ g R Q'} k h q => ⟨W, H0, os, ρ, g, Q', k, h, q⟩
theorem wk_list {K : PySem.W.Frag} {Z : Addr → Prop} {H1 : Hp} {a : Addr} {vs : List V} {ds : List PyData} (n : ¬ Z a) (e : H1 a = some (.lst vs)) (r : RpAll Z H1 vs ds) : Wk Z H1 (Itl K a) ds := by
  refine ⟨fun H => SqL K H a vs, YAt vs, ?_, fun Z' H l => ?_, fun Z' H i x H' l dom hi y => ?_⟩
  · rw [← r.length]; exact walk_list
  · exact SqL.of (l a _ n e).2
  · obtain ⟨rfl, hx⟩ := y
    obtain ⟨d, hd, rd⟩ := r.get hx
    exact ⟨Same.refl _, d, hd, rd.mono l⟩
theorem wk_tup {K : PySem.W.Frag} {Z : Addr → Prop} {H1 : Hp} {a : Addr} {vs : List V} {ds : List PyData} (n : ¬ Z a) (e : H1 a = some (.tup vs)) (r : RpAll Z H1 vs ds) : Wk Z H1 (Itt K a) ds := by
  refine ⟨fun H => SqT K H a vs, YAt vs, ?_, fun Z' H l => ?_, fun Z' H i x H' l dom hi y => ?_⟩
  · rw [← r.length]; exact walk_tup
  · exact SqT.of (l a _ n e).2
  · obtain ⟨rfl, hx⟩ := y
    obtain ⟨d, hd, rd⟩ := r.get hx
    exact ⟨Same.refl _, d, hd, rd.mono l⟩
def seqD : PyData → Option (List PyData)
  | .list ds => some ds
  | .tuple ds => some ds
  | _ => none
def pSeq (T : PTE Γ) (ρ : List Sl) (g : Γ) (Q : List PyData → Γ → Prop) : Prop := T ρ g fun d g1 => ∃ ds, seqD d = some ds ∧ Q ds g1
def iSeq (K : PySem.W.Frag) (tl : TE) : TI := fun σ H R => tl σ H fun x H1 => ∃ a, x = .ref a ∧ ((∃ xs, SqL K H1 a xs ∧ R (Itl K a) H1) ∨ (∃ xs, SqT K H1 a xs ∧ R (Itt K a) H1))
theorem pi_seq {tg l : Expr} {tl : TE} (hl : PE X l tl) : PI X tg l (iSeq X.K tl) := by
  constructor
  intro pins s σ H R I h
  refine thn (hl.run pins s σ H _ I h) ?_
  rintro v s1 ⟨x, H1, I1, r1, a, rfl, q⟩
  cases r1
  have fp : ∀ b ∈ [s1.heap.objs.size], FpOk X pins H1 b := by
    intro b hb
    rw [List.mem_singleton.mp hb]
    exact I1.fpOk (Nat.le_refl _) (I1.hok.fresh (Nat.le_refl _))
  rcases q with ⟨xs, hq, q⟩ | ⟨xs, hq, q⟩
  · obtain ⟨its, rv, p, hz⟩ := I1.list hq
    exact wpAny_pyIter_list p.isList ⟨_, [_], _, _, H1, rfl, I1.kept (t' := s1.toks) (fun b o e => Heap.get?_push_of_some _ e), turn_list a _, ⟨_, Heap.get?_push_size _ rfl, rfl, rfl⟩, fp, q⟩
  · obtain ⟨its, rv, p, hz⟩ := I1.tuple hq
    exact wpAny_pyIter_tuple (show s1.heap.IsTuple a its.toArray from p) ⟨_, [_], _, _, H1, rfl, I1.kept (t' := s1.toks) (fun b o e => Heap.get?_push_of_some _ e), turn_tuple a _, ⟨_, Heap.get?_push_size _ rfl, rfl, rfl⟩, fp, q⟩
theorem vi_seq {tg l : Expr} {T : PTE Γ} (h : VE X F l T) : VI X F tg l (pSeq T) := by
  obtain ⟨t, h1, h2⟩ := h
  refine ⟨_, pi_seq h1, fun {W H0 os σ H ρ g R Q'} k hT q => h2 k hT fun v H1 d g1 m1 s1 r1 hq => ?_⟩
  obtain ⟨ds, hd, hq⟩ := hq
  cases r1 with
  | lst n e r =>
    cases hd
    exact ⟨_, rfl, .inl ⟨_, SqL.of e, q _ _ _ g1 m1 s1 (wk_list n e r) hq⟩⟩
  | tup n e r =>
    cases hd
    exact ⟨_, rfl, .inr ⟨_, SqT.of e, q _ _ _ g1 m1 s1 (wk_tup n e r) hq⟩⟩
  | non => cases hd
  | bl b => cases hd
  | int i => cases hd
  | str x => cases hd
  | dct n e => cases hd
  | ptr a => cases hd
def rngD (lo : Int) (n : Nat) : List PyData := (List.range n).map fun i => PyData.int (lo + (i : Nat))
theorem wk_rng {Z : Addr → Prop} {H1 : Hp} {lo : Int} {n : Nat} : Wk Z H1 (Itr lo n) (rngD lo n) := by
  refine ⟨fun _ => True, YFn fun i => .int (lo + i), ?_, fun _ _ _ => trivial, fun Z' H i x H' l dom hi y => ?_⟩
  · rw [rngD, List.length_map, List.length_range]
    exact walk_range
  · obtain ⟨rfl, rfl⟩ := y
    rw [rngD, List.length_map, List.length_range] at hi
    refine ⟨Same.refl _, .int (lo + (i : Nat)), ?_, .int _⟩
    rw [rngD, List.getElem?_map, List.getElem?_range hi]
    rfl
def pRng1 (a : PTE Γ) (ρ : List Sl) (g : Γ) (Q : List PyData → Γ → Prop) : Prop := a ρ g fun d g1 => ∃ n : Int, d = .int n ∧ -(2 ^ 62) ≤ n ∧ n < 2 ^ 62 ∧ Q (rngD 0 n.toNat) g1
def pRng2 (a b : PTE Γ) (ρ : List Sl) (g : Γ) (Q : List PyData → Γ → Prop) : Prop := a ρ g fun d g1 => b ρ g1 fun e g2 => ∃ i j : Int, d = .int i ∧ e = .int j ∧ (-(2 ^ 62) ≤ i ∧ i < 2 ^ 62 ∧ -(2 ^ 62) ≤ j ∧ j < 2 ^ 62) ∧ Q (rngD i (j - i).toNat) g2
theorem vi_range1 {tg a : Expr} {T : PTE Γ} {p : Pos} (hg : Gl X "range") (hm : X.mg "range" = none) (ha : VE X F a T) (hs : starEach [a] X.env = [(false, eval a X.env)] := by rfl) : VI X F tg (.Call (.Name "range" p) [a] [] pos) (pRng1 T) := by
  obtain ⟨t, h1, h2⟩ := ha
  refine ⟨_, pi_range1 hg hm (pa_cons h1 pa_nil hs) hs, fun {W H0 os σ H ρ g R Q'} k hT q => h2 k hT fun v H1 d g1 m1 s1 r1 hq => ?_⟩
  obtain ⟨n, rfl, n1, n2, hq⟩ := hq
  cases r1
  exact ⟨n, rfl, n1, n2, q _ _ _ g1 m1 s1 wk_rng hq⟩
def pwipe (ρ : List Sl) : List Nat → List Sl
  | [] => ρ
  | v :: vs => (pwipe ρ vs).set v .no
def noOwns (ρ : List Sl) (vs : List Nat) : Bool := vs.all (notOwn ρ)
theorem notOwn_set {ρ : List Sl} {i j : Nat} (h : notOwn ρ i = true) : notOwn (ρ.set j .no) i = true := by
  unfold notOwn at h ⊢
  rw [List.getElem?_set]
  by_cases e : j = i
  · subst e
    rw [if_pos rfl]
    by_cases hl : j < ρ.length
    · rw [if_pos hl]
    · rw [if_neg hl]
  · rw [if_neg e]
    exact h
theorem notOwn_pwipe {ρ : List Sl} {i : Nat} (h : notOwn ρ i = true) : ∀ vs : List Nat, notOwn (pwipe ρ vs) i = true
  | [] => h
  | v :: vs => notOwn_set (notOwn_pwipe h vs)
theorem Eok.wipe {Z : Addr → Prop} {H : Hp} {σ : L2.St} {ρ : List Sl} {os : List Addr} (e : Eok Z H σ ρ os) : ∀ {vs : List Nat}, noOwns ρ vs = true → Eok Z H (L2.wipe σ vs) (pwipe ρ vs) os
  | [], _ => e
  | v :: vs, h => by
    have h' : notOwn ρ v = true ∧ noOwns ρ vs = true := by simpa [noOwns] using h
    exact Eok.setN none v (notOwn_pwipe h'.1 vs) (Eok.wipe e h'.2)
def pLc (Ti : PTI Γ) (G : PTG) (tt : PTT Γ) (te : PTE Γ) (vs : List Nat) (ρ : List Sl) (g : Γ) (Q : PyData → Γ → Prop) : Prop := noOwns ρ vs = true ∧ Ti ρ g fun items g1 => ∃ I : Nat → List PyData → Γ → Prop, I 0 [] g1 ∧
  (∀ i d acc g2, items[i]? = some d → I i acc g2 → G d (pwipe ρ vs) fun ρ2 => tt ρ2 g2 fun b g3 => if b = true then te ρ2 g3 fun y g4 => acc.length < 1000000 ∧ I (i + 1) (acc ++ [y]) g4 else I (i + 1) acc g3) ∧
  ∀ acc g2, I items.length acc g2 → Q (.list acc) g2
def RF (F : Frm Γ) (t : TE) (T : PTE Γ) : Prop := ∀ {W : Addr → Prop} {H0 : Hp} {os : List Addr} {σ : L2.St} {H : Hp} {ρ : List Sl} {g : Γ} {Q : VK} {Q' : PyData → Γ → Prop}, Okk F W H0 os σ H ρ g → T ρ g Q' →
  (∀ D H' vs ds g', H D = none → Mv F.S H H' → F.Ok g' H' → H' D = some (.lst vs) → RpAll (fun b => Zs W os b ∨ b = D) H' vs ds → Q' (.list ds) g' → Q (.ref D) H') → t σ H Q
def VF (X : Cx) (F : Frm Γ) (e : Expr) (T : PTE Γ) : Prop := ∃ t, PE X e t ∧ RF F t T
theorem rf_lc {wi : TI} {tg : TG} {tt : TT} {te : TE} {Ti : PTI Γ} {G : PTG} {is : List Nat} {Tt : PTT Γ} {Te : PTE Γ} {ws : List Nat} (hi : RI F wi Ti) (hg : RG F tg G is) (ht : RT F tt Tt) (he : RE F te Te) (hv : ∀ i ∈ is, i ∈ ws) : RF F (tLc wi tg tt te ws) (pLc Ti G Tt Te ws) := by
  intro W H0 os σ H ρ g Q Q' k hT q
  obtain ⟨no, hT⟩ := hT
  refine hi k hT fun J H1 items g1 m1 s1 ⟨G0, Y, wk, wG, wY⟩ hq D nD => ?_
  obtain ⟨I, I0, step, fin⟩ := hq
  have k1 := k.move m1 s1
  have nH : H D = none := by
    cases e : H D with
    | none => rfl
    | some z =>
      by_cases hs : F.S D
      · obtain ⟨y, hy, _⟩ := F.has s1 hs
        rw [nD] at hy
        cases hy
      · have := m1 D z hs e
        rw [nD] at this
        cases this
  have nZ : ¬ Zs W os D := fresh_out k1.zdom nD
  have nS : ¬ F.S D := fun z => nZ (k1.zsub D z)
  -- the state within, D forbidden
  have inn : ∀ {H' : Hp} {g' : Γ} {vs : List V}, Mv F.S H1 H' → F.Ok g' H' → H' D = some (.lst vs) → Okk F (fun b => W b ∨ b = D) H0 os (wipe σ ws) H' (pwipe ρ ws) g' := by
    intro H' g' vs m s hD
    have kk := k1.move m s
    refine ⟨?_, s, fun b h => .inl (k.sub b h), fun b h => ?_, fun E hE => ⟨fun z => ?_, (k.new E hE).2⟩, k1.mv.trans m⟩
    · refine (k1.env.wipe no).mono (fun b o nb e => ⟨fun z => ?_, m b o (fun y => nb (k1.zsub b y)) e⟩) fun E vs' hE e => m E _ (fun z => (k.new E hE).1 (k.sub E z)) e
      rcases z with (z | z) | z
      · exact nb (.inl z)
      · rw [z, nD] at e
        cases e
      · exact nb (.inr z)
    · rcases h with h | rfl
      · exact kk.dom b h
      · exact ⟨_, hD, fun xs z => by cases z⟩
    · rcases z with z | rfl
      · exact (k.new E hE).1 z
      · exact nZ (.inr hE)
  have zeq : ∀ {b : Addr}, (Zs W os b ∨ b = D) → Zs (fun b => W b ∨ b = D) os b := fun h => by
    rcases h with (h | h) | h
    · exact .inl (.inl h)
    · exact .inr h
    · exact .inl (.inr h)
  have zeq' : ∀ {b : Addr}, Zs (fun b => W b ∨ b = D) os b → (Zs W os b ∨ b = D) := fun h => by
    rcases h with (h | h) | h
    · exact .inl (.inl h)
    · exact .inr h
    · exact .inl (.inr h)
  refine lc_it wk (fun i H' => ∃ acc vs g', Mv F.S H1 H' ∧ F.Ok g' H' ∧ H' D = some (.lst vs) ∧ RpAll (Zs (fun b => W b ∨ b = D) os) H' vs acc ∧ I i acc g') ?_ ?_ ?_ ?_
  · exact ⟨[], [], g1, Mv.same (same_new nD), keep_same s1 (same_new nD), upd_same, .nil, I0⟩
  · rintro i H' _ ⟨acc, vs, g', m, s, hD, r, hI⟩
    exact wG _ _ (k1.ld m)
  · rintro i x H2 H3 hi' ⟨acc, vs, g', m, s, hD, r, hI⟩ y
    have kin := inn m s hD
    obtain ⟨e3, d, hd, rd⟩ := wY (Zs (fun b => W b ∨ b = D) os) H2 i x H3 (fun b o nb e => ⟨fun z => (zeq' z).elim nb (fun w => by rw [w, nD] at e; cases e), m b o (fun y => nb (k1.zsub b y)) e⟩) kin.zdom hi' y
    have kin3 := kin.same e3
    refine hg kin3 rd (step i d acc g' hd hI) fun σ2 ρ2 k2 w2 hq2 => ⟨?_, ?_⟩
    · rw [w2 ws hv]
      have gen : ∀ (us : List Nat), (∀ u ∈ us, u ∈ ws) → wipe (wipe σ ws) us = wipe σ ws := by
        intro us
        induction us with
        | nil => intro _; rfl
        | cons u us ih =>
          intro hu
          show (wipe (wipe σ ws) us).set u none = wipe σ ws
          rw [ih fun z hz => hu z (List.mem_cons.mpr (.inr hz))]
          have hm := hu u (List.mem_cons.mpr (.inl rfl))
          refine List.ext_getElem? fun j => ?_
          rw [List.getElem?_set]
          by_cases ej : u = j
          · subst ej
            rw [if_pos rfl]
            by_cases hl : u < (wipe σ ws).length
            · rw [if_pos hl]
              have e1 : (wipe σ ws)[u]? = some ((wipe σ ws)[u]) := List.getElem?_eq_getElem hl
              cases e2 : (wipe σ ws)[u] with
              | none => rw [e1, e2]
              | some v =>
                rw [e2] at e1
                exact absurd hm (wipe_some e1).2
            · rw [if_neg hl]
              exact (List.getElem?_eq_none_iff.mpr (by omega)).symm
          · rw [if_neg ej]
      exact gen ws fun _ h => h
    · refine ht k2 hq2 fun b H4 g4 m4 s4 hq4 => ?_
      have k4 := k2.move m4 s4
      have hD3 := e3 _ _ hD
      have hD4 := m4 D _ nS hD3
      have r4 := (r.mono (kin.ld (Mv.same e3))).mono (k2.ld m4)
      have m14 := (m.trans (Mv.same e3)).trans m4
      cases b with
      | false =>
        rw [if_neg Bool.false_ne_true] at hq4 ⊢
        exact ⟨acc, vs, g4, m14, s4, hD4, r4, hq4⟩
      | true =>
        rw [if_pos rfl] at hq4 ⊢
        refine he k4 hq4 fun v H5 d5 g5 m5 s5 r5 hq5 => ?_
        have hD5 := m5 D _ nS hD4
        have k5 := k4.move m5 s5
        have ra := r4.mono (k4.ld m5)
        refine ⟨vs, hD5, line_lt (by rw [ra.length]; exact hq5.1), acc ++ [d5], vs ++ [v], g5, ?_, ?_, upd_same, ?_, hq5.2⟩
        · intro b z nb e
          by_cases eb : b = D
          · rw [eb, nD] at e
            cases e
          · rw [upd_ne eb]
            exact (m14.trans m5) b z nb e
        · refine F.keep s5 (fun b z hb e => ?_) fun b f nl e => ?_
          · rw [upd_ne (fun z => nS (by rw [← z]; exact hb))]
            exact e
          · rw [upd_ne (fun z => by rw [z, hD5] at e; exact nl _ (Option.some.inj e).symm)]
            exact e
        · exact (ra.append (.cons r5 .nil)).mono fun b o nb e => ⟨nb, by rw [upd_ne (fun z => nb (.inl (.inr z)))]; exact e⟩
  · rintro H' ⟨acc, vs, g', m, s, hD, r, hI⟩
    exact q D H' vs acc g' nH (m1.trans m) s hD (r.mono fun b o nb e => ⟨fun z => nb (zeq z), e⟩) (fin acc g' hI)
theorem re_of_rf {t : TE} {T : PTE Γ} (h : RF F t T) : RE F t T := by
  intro W H0 os σ H ρ g Q Q' k hT q
  refine h k hT fun D H' vs ds g' nD m s hD r hq => q _ H' _ g' m s (.lst (fresh_out k.zdom nD) hD (r.mono fun b o nb e => ⟨fun z => nb (.inl z), e⟩)) hq
theorem VF.ve {e : Expr} {T : PTE Γ} (h : VF X F e T) : VE X F e T := let ⟨t, h1, h2⟩ := h; ⟨t, h1, re_of_rf h2⟩
def pYes (_z1 : List Sl) (g : Γ) (Q : Bool → Γ → Prop) : Prop := Q true g
structure VTs (X : Cx) (F : Frm Γ) (ifs : List Expr) (t : TT) (T : PTT Γ) : Prop where
  p : PTs X ifs t
  r : RT F t T
theorem vts_nil : VTs X F [] tYes pYes := ⟨pts_nil, fun {W H0 os σ H ρ g Q Q'} k h q => q true H g (Mv.refl _ _) k.st h⟩
theorem vf_lc {elt tg iter : Expr} {ifs : List Expr} {scope : Scope} {own : List (Str × Nat)} {Ti : PTI Γ} {t : TG} {G : PTG} {is : List Nat} {tt : TT} {Tt : PTT Γ} {Te : PTE Γ} (hc : X.calm = true) (hN : X.N.Nodup) (hi : VI X F tg iter Ti) (ok : BlkOk X.N X.env.scope scope own)
    (hg : ∀ (s : Shared) (H : Hp) (C : Addr) (cl : List (Str × Addr)) (fp : List Addr), VG (X.blk s H scope (compEnvC scope cl C X.env) fp) F tg t G is) (ht : ∀ (s : Shared) (H : Hp) (C : Addr) (cl : List (Str × Addr)) (fp : List Addr), VTs (X.blk s H scope (compEnvC scope cl C X.env) fp) F ifs tt Tt)
    (he : ∀ (s : Shared) (H : Hp) (C : Addr) (cl : List (Str × Addr)) (fp : List Addr), VE (X.blk s H scope (compEnvC scope cl C X.env) fp) F elt Te) (hv : ∀ i ∈ is, i ∈ own.map (·.2) := by decide) (hs : ∀ x, foldedSetIterable iter X.env x = pure x := by intro _; rfl) :
    VF X F (.ListComp elt [⟨tg, iter, ifs, 0⟩] scope pos) (pLc Ti G Tt Te (own.map (·.2))) :=
  ⟨_, pe_lc hc hN hi.can ok (fun s H C cl fp => (hg s H C cl fp).1) (fun s H C cl fp => (ht s H C cl fp).p) (fun s H C cl fp => (he s H C cl fp).can) hs,
    rf_lc ri_can (hg X.s_0 (fun _ => none) 0 [] []).2 (ht X.s_0 (fun _ => none) 0 [] []).r re_can hv⟩
end Pv
set_option Elab.async false
set_option linter.all false
set_option maxRecDepth 100000
set_option maxHeartbeats 4000000
namespace Pv
open PySem PySem.Spec PyProof.Rows L2 Cm
variable {Γ : Type} {X : Cx} {F : Frm Γ} {pos : Pos}
section
variable {W : Addr → Prop} {H0 H H' : Hp} {os : List Addr} {σ : L2.St} {ρ : List Sl} {g g' : Γ}
theorem zs_sub {os os' : List Addr} (h : ∀ D ∈ os', D ∈ os) : ∀ {b : Addr}, Zs W os' b → Zs W os b := fun h' => h'.imp id (h _)
theorem Okk.set {v : V} {d : PyData} (k : Okk F W H0 os σ H ρ g) (r : Rp (Zs W os) H v d) (i : Nat) : ∃ os', Okk F W H0 os' (σ.set i (some v)) H (ρ.set i (.val d)) g := by
  obtain ⟨os', h, e⟩ := Eok.set r i k.env
  exact ⟨os', e.mono (fun b o n e => ⟨fun z => n (zs_sub h z), e⟩) fun _ _ _ e => e, k.st, k.sub, k.dom, fun D hD => k.new D (h D hD), k.mv⟩
def frz : Sl → Sl
  | .own xs => .val (.list xs)
  | s => s
theorem Eok.frz {Z Z' : Addr → Prop} {H : Hp} (l : ∀ b, Z' b → Z b) : ∀ {σ : L2.St} {ρ : List Sl} {os : List Addr}, (∀ D ∈ os, ¬ Z' D) → Eok Z H σ ρ os → Eok Z' H σ (ρ.map frz) []
  | _, _, _, _, .nil => .nil
  | _, _, _, h, .no t => .no (Eok.frz l h t)
  | _, _, _, h, .val r t => .val (r.mono fun b o n e => ⟨fun z => n (l b z), e⟩) (Eok.frz l h t)
  | _, _, _, h, .own e r n t => .val (.lst (h _ (List.mem_cons.mpr (.inl rfl))) e (r.mono fun b o n e => ⟨fun z => n (l b z), e⟩)) (Eok.frz l (fun D hD => h D (List.mem_cons.mpr (.inr hD))) t)
theorem Okk.frz (k : Okk F W H0 os σ H ρ g) : Okk F W H0 [] σ H (ρ.map frz) g :=
  ⟨k.env.frz (fun b z => z.elim .inl (fun y => nomatch y)) (fun D hD z => z.elim (k.new D hD).1 (fun y => nomatch y)), k.st, k.sub, k.dom, fun D hD => (nomatch hD), k.mv⟩
theorem Eok.drop {Z : Addr → Prop} {H : Hp} {D : Addr} : ∀ {σ : L2.St} {ρ : List Sl} {os : List Addr} {i : Nat} {xs : List PyData}, ρ[i]? = some (.own xs) → σ[i]? = some (some (.ref D)) → Eok Z H σ ρ os → ∃ os', (∀ E ∈ os', E ∈ os ∧ E ≠ D) ∧ D ∈ os ∧ Eok Z H σ (ρ.set i .no) os' := by
  intro σ ρ os i xs hi hs e
  induction e generalizing i with
  | nil => simp at hi
  | no t ih =>
    cases i with
    | zero => cases hi
    | succ i => obtain ⟨os', h1, h2, h3⟩ := ih hi hs; exact ⟨os', h1, h2, .no h3⟩
  | val q t ih =>
    cases i with
    | zero => cases hi
    | succ i => obtain ⟨os', h1, h2, h3⟩ := ih hi hs; exact ⟨os', h1, h2, .val q h3⟩
  | own h1 q n t ih =>
    rename_i D1 vs1 xs1 σ1 ρ1 os1
    cases i with
    | zero =>
      have e1 : D1 = D := by
        have := Option.some.inj (Option.some.inj hs)
        injection this
      subst e1
      exact ⟨os1, fun E hE => ⟨List.mem_cons.mpr (.inr hE), fun z => n (by rw [← z]; exact hE)⟩, List.mem_cons.mpr (.inl rfl), .no t⟩
    | succ i =>
      obtain ⟨os', g1, g2, g3⟩ := ih hi hs
      refine ⟨D1 :: os', fun E hE => ?_, List.mem_cons.mpr (.inr g2), .own h1 q (fun z => n (g1 _ z).1) g3⟩
      rcases List.mem_cons.mp hE with rfl | z
      · exact ⟨List.mem_cons.mpr (.inl rfl), fun z => n (by rw [z]; exact g2)⟩
      · exact ⟨List.mem_cons.mpr (.inr (g1 E z).1), (g1 E z).2⟩
end
def pNext (D : PEnds Γ) (ρ : List Sl) (g : Γ) : Prop := D.nx ρ g
def Tl (u : PTS Γ) (D : PEnds Γ) (ρ : List Sl) (g : Γ) : Prop := u D ρ g
def pSq (t u : PTS Γ) (D : PEnds Γ) (ρ : List Sl) (g : Γ) : Prop := t { D with nx := fun ρ' g' => Tl u D ρ' g' } ρ g
theorem vss_nil : VSs X F [] pNext := ⟨_, pss_nil, fun {W H0 os σ H ρ g D D'} k d h => d.nx os σ H ρ g k h⟩
theorem vss_cons {st : Stmt} {rest : List Stmt} {T U : PTS Γ} (h1 : VS X F st T) (h2 : VSs X F rest U) : VSs X F (st :: rest) (pSq T U) := by
  obtain ⟨t, a1, a2⟩ := h1
  obtain ⟨u, b1, b2⟩ := h2
  refine ⟨_, pss_cons a1 b1, fun {W H0 os σ H ρ g D D'} k d h => a2 (D' := { D' with nx := fun ρ' g' => Tl U D' ρ' g' }) k ⟨fun os σ H ρ g k' h' => b2 k' d h', d.rt, d.bk, d.ct⟩ h⟩
theorem vss_one {st : Stmt} {T : PTS Γ} (h : VS X F st T) : VSs X F [st] T := let ⟨t, a1, a2⟩ := h; ⟨t, pss_one a1, a2⟩
def pFrz (i : Nat) (T : PTS Γ) (D : PEnds Γ) (ρ : List Sl) (g : Γ) : Prop := ∃ xs, ρ[i]? = some (.own xs) ∧ T D (ρ.set i (.val (.list xs))) g
def pRet (T : PTE Γ) (D : PEnds Γ) (ρ : List Sl) (g : Γ) : Prop := T (ρ.map frz) g D.rt
theorem vs_ret {e : Expr} {T : PTE Γ} (h : VE X F e T) : VS X F (.Return (some e) pos) (pRet T) := by
  obtain ⟨t, a1, a2⟩ := h
  refine ⟨_, ps_ret a1, fun {W H0 os σ H ρ g D D'} k d h => a2 k.frz h fun v H' dd g' m s r hq => d.rt v H' dd g' (k.mv.trans m) s (r.mono fun b o n e => ⟨fun z => n (.inl z), e⟩) hq⟩
def pRetN (D : PEnds Γ) (_z2 : List Sl) (g : Γ) : Prop := D.rt .none g
def pDrop (T : PTE Γ) (D : PEnds Γ) (ρ : List Sl) (g : Γ) : Prop := T ρ g fun _ g1 => D.nx ρ g1
theorem vs_expr {e : Expr} {T : PTE Γ} (h : VE X F e T) (hs : swapsWith e none pos.line X.env = pure false := by rfl) : VS X F (.Expr e pos) (pDrop T) := by
  obtain ⟨t, a1, a2⟩ := h
  exact ⟨_, ps_expr a1 hs, fun {W H0 os σ H ρ g D D'} k d h => a2 k h fun v H' dd g' m s r hq => d.nx os σ H' ρ g' (k.move m s) hq⟩
def pIfS (c : PTT Γ) (t u : PTS Γ) (D : PEnds Γ) (ρ : List Sl) (g : Γ) : Prop := c (ρ.map frz) g fun b g1 => if b = true then t D ρ g1 else u D ρ g1
theorem vs_if {c : Expr} {a b : List Stmt} {tc : PTT Γ} {T U : PTS Γ} (hc : VT X F c tc) (ha : VSs X F a T) (hb : VSs X F b U) : VS X F (.If c a b pos) (pIfS tc T U) := by
  obtain ⟨t0, c1, c2⟩ := hc
  obtain ⟨t, a1, a2⟩ := ha
  obtain ⟨u, b1, b2⟩ := hb
  refine ⟨_, ps_if c1 a1 b1, fun {W H0 os σ H ρ g D D'} k d h => c2 k.frz h fun c H1 g1 m s hq => ?_⟩
  cases c with
  | true =>
    rw [if_pos rfl] at hq ⊢
    exact a2 (k.move m s) d hq
  | false =>
    rw [if_neg Bool.false_ne_true] at hq ⊢
    exact b2 (k.move m s) d hq
def pSet (i : Nat) (T : PTE Γ) (D : PEnds Γ) (ρ : List Sl) (g : Γ) : Prop := T ρ g fun d g1 => D.nx (ρ.set i (.val d)) g1
theorem rs_set {i : Nat} {t : TE} {T : PTE Γ} (h : RE F t T) : RS F (tAsg t (gName i)) (pSet i T) := by
  intro W H0 os σ H ρ g D D' k d hT
  refine h k hT fun v H' dd g' m s r hq => ?_
  obtain ⟨os', k'⟩ := (k.move m s).set r i
  exact d.nx os' _ H' _ g' k' hq
theorem vs_set {i : Nat} {x : Str} {e : Expr} {T : PTE Γ} {pos' : Pos} (hN : X.N.Nodup) (hi : X.N[i]? = some x) (hx : Loc X.env.scope x) (he : VE X F e T) (hs : swapsWith e (some (.Name x pos')) pos.line X.env = pure false := by rfl) (hf : X.fn x = true ∨ X.env.scope.names.lookup x = some .local := by first | exact .inl rfl | exact .inr rfl | assumption) :
    VS X F (.Assign [.Name x pos'] e pos) (pSet i T) := by
  obtain ⟨t, a1, a2⟩ := he
  exact ⟨_, ps_set hN hi hx a1 hs hf, rs_set a2⟩
def scal : PyData → Bool
  | .none => true
  | .bool _ => true
  | .int _ => true
  | .str _ => true
  | _ => false
theorem Rp.scal {Z Z' : Addr → Prop} {H H' : Hp} {v : V} {d : PyData} (r : Rp Z H v d) (h : scal d = true) : Rp Z' H' v d := by
  cases r with
  | non => exact .non
  | bl b => exact .bl b
  | int i => exact .int i
  | str x => exact .str x
  | lst => cases h
  | tup => cases h
  | dct => cases h
  | ptr => cases h
def pLook (T : PTE Γ) (ρ : List Sl) (g : Γ) (Q : PyData → Γ → Prop) : Prop := T (ρ.map frz) g fun d g1 => scal d = true ∧ Q d g1
def pSetF (i : Nat) (T : PTE Γ) (D : PEnds Γ) (ρ : List Sl) (g : Γ) : Prop := i < ρ.length ∧ T ρ g fun d g1 => ∃ xs, d = .list xs ∧ D.nx (ρ.set i (.own xs)) g1
def pAsg (T : PTE Γ) (G : PTG) (D : PEnds Γ) (ρ : List Sl) (g : Γ) : Prop := T ρ g fun d g1 => G d ρ fun ρ' => D.nx ρ' g1
theorem vs_asg {tg e : Expr} {T : PTE Γ} {t : TG} {G : PTG} {is : List Nat} (he : VE X F e T) (hg : VG X F tg t G is)
    (hp : ∀ {te : TE}, PE X e te → PS X (.Assign [tg] e pos) (tAsg te t)) : VS X F (.Assign [tg] e pos) (pAsg T G) := by
  obtain ⟨u, a1, a2⟩ := he
  exact ⟨_, hp a1, fun {W H0 os σ H ρ g D D'} k d h => a2 k h fun v H' dd g' m s r hq => hg.2 (k.move m s) r hq fun σ' ρ' k' _ hq' => d.nx os σ' H' ρ' g' k' hq'⟩
def pPar (i j : Nat) (T : PTA Γ) (D : PEnds Γ) (ρ : List Sl) (g : Γ) : Prop := T ρ g fun ds g1 => match ds with
  | [d, e] => notOwn ρ i = true ∧ notOwn ρ j = true ∧ D.nx ((ρ.set i (.val d)).set j (.val e)) g1
  | _ => False
open Classical in
noncomputable def base (os : List Addr) (H1 : Hp) : Hp := fun b => if b ∈ os then none else H1 b
theorem base_in {os : List Addr} {H1 : Hp} {b : Addr} (h : b ∈ os) : base os H1 b = none := by unfold base; rw [if_pos h]
theorem base_out {os : List Addr} {H1 : Hp} {b : Addr} (h : b ∉ os) : base os H1 b = H1 b := by unfold base; rw [if_neg h]
section
variable {W : Addr → Prop} {H0 H H' H1 : Hp} {os os' : List Addr} {σ σ' : L2.St} {ρ ρ' : List Sl} {g g' : Γ}
theorem Okk.based (k : Okk F W H0 os σ H1 ρ g) : Okk F W (base os H1) os σ H1 ρ g :=
  ⟨k.env, k.st, k.sub, k.dom, fun D hD => ⟨(k.new D hD).1, base_in hD⟩, fun b z n e => by
    by_cases hb : b ∈ os
    · rw [base_in hb] at e
      cases e
    · rw [base_out hb] at e
      exact e⟩
theorem mv_back (k : Okk F W H0 os σ H1 ρ g) (m : Mv F.S (base os H1) H) : Mv F.S H0 H := fun b z n e => by
  have hb : b ∉ os := fun h => by
    have := (k.new b h).2
    rw [this] at e
    cases e
  exact m b z n (by rw [base_out hb]; exact k.mv b z n e)
theorem Okk.back (k : Okk F W H0 os σ H1 ρ g) (k' : Okk F W (base os H1) os' σ' H ρ' g') : Okk F W H0 os' σ' H ρ' g' := by
  refine ⟨k'.env, k'.st, k'.sub, k'.dom, fun D hD => ⟨(k'.new D hD).1, ?_⟩, mv_back k k'.mv⟩
  have h1 := (k'.new D hD).2
  by_cases hb : D ∈ os
  · exact (k.new D hb).2
  · rw [base_out hb] at h1
    cases e : H0 D with
    | none => rfl
    | some z =>
      have := k.mv D z (fun y => (k'.new D hD).1 (k.sub D y)) e
      rw [h1] at this
      cases this
theorem Okk.led (k : Okk F W H0 os σ H1 ρ g) (k' : Okk F W (base os H1) os' σ' H ρ' g') : Ld (Zs W os) H1 (Zs W os') H := fun b o n e => by
  have hb : b ∉ os := fun h => n (.inr h)
  have e0 : base os H1 b = some o := by rw [base_out hb]; exact e
  refine ⟨fun z => z.elim (fun y => n (.inl y)) fun y => ?_, k'.mv b o (fun y => n (k.zsub b y)) e0⟩
  rw [(k'.new b y).2] at e0
  cases e0
end
def pFor (Ti : PTI Γ) (G : PTG) (body : PTS Γ) (D : PEnds Γ) (ρ : List Sl) (g : Γ) : Prop := Ti ρ g fun items g1 => ∃ I : Nat → List Sl → Γ → Prop, I 0 ρ g1 ∧
  (∀ i d ρ g, items[i]? = some d → I i ρ g → G d ρ fun ρ2 => body { D with nx := I (i + 1), ct := I (i + 1), bk := D.nx } ρ2 g) ∧ ∀ ρ g, I items.length ρ g → D.nx ρ g
theorem rs_for {wi : TI} {tg : TG} {tb : TS} {Ti : PTI Γ} {G : PTG} {is : List Nat} {B : PTS Γ} (hi : RI F wi Ti) (hg : RG F tg G is) (hb : RS F tb B) : RS F (tFor wi tg tb) (pFor Ti G B) := by
  intro W H0 os σ H ρ g D D' k d hT
  refine hi k hT fun J H1 items g1 m1 s1 ⟨G0, Y, wk, wG, wY⟩ hq => ?_
  obtain ⟨I, I0, step, fin⟩ := hq
  have k1 := k.move m1 s1
  refine for_it wk (fun i σ' H' => ∃ os' ρ' g', Okk F W (base os H1) os' σ' H' ρ' g' ∧ I i ρ' g') ⟨os, ρ, g1, k1.based, I0⟩ ?_ ?_ ?_
  · rintro i σ' H' _ ⟨os', ρ', g', k', hI⟩
    exact wG _ _ (k1.led k')
  · rintro i x σ' H2 H3 hi' ⟨os', ρ', g', k', hI⟩ y
    obtain ⟨e3, dd, hd, rd⟩ := wY _ H2 i x H3 (k1.led k') k'.zdom hi' y
    refine hg (k'.same e3) rd (step i dd ρ' g' hd hI) fun σ2 ρ2 k2 _ hq2 => ?_
    refine hb (D' := { D' with nx := I (i + 1), ct := I (i + 1), bk := D'.nx }) k2 ⟨fun os σ H ρ g kk h => ⟨os, ρ, g, kk, h⟩, fun v H d' g' m s r h => d.rt v H d' g' (mv_back k1 m) s r h, fun os σ H ρ g kk h => d.nx os σ H ρ g (k1.back kk) h, fun os σ H ρ g kk h => ⟨os, ρ, g, kk, h⟩⟩ hq2
  · rintro σ' H' ⟨os', ρ', g', k', hI⟩
    exact d.nx os' σ' H' ρ' g' (k1.back k') (fin ρ' g' hI)
theorem vs_for {tg iter : Expr} {body : List Stmt} {Ti : PTI Γ} {t : TG} {G : PTG} {is : List Nat} {B : PTS Γ} (hp : PassesOwn (model X.prog X.w) X.A X.env X.xe) (hc : X.calm = true) (hi : VI X F tg iter Ti) (hg : VG X F tg t G is) (hb : VSs X F body B)
    (hs : ∀ x, foldedSetIterable iter X.env x = pure x := by intro _; rfl) : VS X F (.For tg iter body [] pos) (pFor Ti G B) := by
  obtain ⟨wi, i1, i2⟩ := hi
  obtain ⟨tb, b1, b2⟩ := hb
  exact ⟨_, ps_for hp hc i1 hg.1 b1 hs, rs_for i2 hg.2 b2⟩
def pWhile (c : PTT Γ) (B : PTS Γ) (D : PEnds Γ) (ρ : List Sl) (g : Γ) : Prop := ∃ I : Nat → List Sl → Γ → Prop, (∃ m, I m ρ g) ∧ ∀ m ρ g, I m ρ g →
  c (ρ.map frz) g fun b g1 => if b = true then B { D with nx := fun ρ' g' => ∃ m', m' < m ∧ I m' ρ' g', ct := fun ρ' g' => ∃ m', m' < m ∧ I m' ρ' g', bk := D.nx } ρ g1 else D.nx ρ g1
theorem vs_while {c : Expr} {body : List Stmt} {C : PTT Γ} {B : PTS Γ} (hp : PassesOwn (model X.prog X.w) X.A X.env X.xe) (hc : VT X F c C) (hb : VSs X F body B) : VS X F (.While c body [] pos) (pWhile C B) := by
  obtain ⟨tc, c1, c2⟩ := hc
  obtain ⟨tb, b1, b2⟩ := hb
  refine ⟨_, ps_while hp c1 b1, fun {W H0 os σ H ρ g D D'} k d hT => ?_⟩
  obtain ⟨I, ⟨m0, I0⟩, step⟩ := hT
  refine ⟨fun m σ H => ∃ os ρ g, Okk F W H0 os σ H ρ g ∧ I m ρ g, ⟨m0, os, ρ, g, k, I0⟩, ?_⟩
  rintro m σ1 H1 ⟨os1, ρ1, g1, k1, hI⟩
  refine c2 k1.frz (step m ρ1 g1 hI) fun b H2 g2 mv s hq => ?_
  have k2 := k1.move mv s
  cases b with
  | false =>
    rw [if_neg Bool.false_ne_true] at hq ⊢
    exact d.nx os1 σ1 H2 ρ1 g2 k2 hq
  | true =>
    rw [if_pos rfl] at hq ⊢
    refine ⟨fun σ' H' => ∃ m', m' < m ∧ ∃ os ρ g, Okk F W H0 os σ' H' ρ g ∧ I m' ρ g, fun σ' H' h => h, ?_⟩
    have nx : ∀ os σ H ρ g, Okk F W H0 os σ H ρ g → (∃ m', m' < m ∧ I m' ρ g) → ∃ m', m' < m ∧ ∃ os ρ g, Okk F W H0 os σ H ρ g ∧ I m' ρ g := fun os σ H ρ g kk ⟨m', hm, h⟩ => ⟨m', hm, os, ρ, g, kk, h⟩
    exact b2 (D' := { D' with nx := fun ρ' g' => ∃ m', m' < m ∧ I m' ρ' g', ct := fun ρ' g' => ∃ m', m' < m ∧ I m' ρ' g', bk := D'.nx }) k2 ⟨nx, d.rt, d.nx, nx⟩ hq
def pApp (i : Nat) (T : PTE Γ) (D : PEnds Γ) (ρ : List Sl) (g : Γ) : Prop := ∃ xs, ρ[i]? = some (.own xs) ∧ xs.length < 1000000 ∧ T ρ g fun d g1 => D.nx (ρ.set i (.own (xs ++ [d]))) g1
def pSetI (i : Nat) (Ti Te : PTE Γ) (D : PEnds Γ) (ρ : List Sl) (g : Γ) : Prop := ∃ xs, ρ[i]? = some (.own xs) ∧ Te ρ g fun d g1 => Ti ρ g1 fun n g2 => ∃ (k : Int) (j : Nat), n = .int k ∧ ixN xs.length k = some j ∧ D.nx (ρ.set i (.own (xs.set j d))) g2
def startP (N : List Str) (ds : List PyData) : List Sl := ds.map Sl.val ++ List.replicate (N.length - ds.length) .no
theorem eok_start {Z : Addr → Prop} {H : Hp} {N : List Str} : ∀ {vs : List V} {ds : List PyData}, RpAll Z H vs ds → Eok Z H (start N vs) (startP N ds) [] := by
  have tail : ∀ n : Nat, Eok Z H (List.replicate n none) (List.replicate n .no) [] := by
    intro n
    induction n with
    | zero => exact .nil
    | succ n ih => exact .no ih
  have go : ∀ (n : Nat) {vs : List V} {ds : List PyData}, RpAll Z H vs ds → Eok Z H (vs.map some ++ List.replicate n none) (ds.map Sl.val ++ List.replicate n .no) [] := by
    intro n vs
    induction vs with
    | nil => intro ds r; cases r; exact tail n
    | cons v vs ih => intro ds r; cases r with | cons h t => exact .val h (ih t)
  intro vs ds r
  unfold L2.start startP
  rw [r.length]
  exact go _ r
theorem DfP {P : Program} {w : World} {K : PySem.W.Frag} {mg : Str → Option Value} {base : Heap} {x : Str} {st : Stmt} {ps N : List Str} {k : Nat} {T : PSp Γ} (D : Df K mg x st ps) (S : FnScope N ps (defScope st)) (len : ∀ ds g Q', T ds g Q' → ds.length = ps.length)
    (hbody : ∀ (f : Addr) (cdv : Value) (A : Around) (outer : List Env) (s : Shared) (H : Hp) (E : XK), Room k (A.deeper (envOfC x (defScope st) s.heap.objs.size f cdv)) → A.guards = some [] →
      ∃ U, VSs (cxOf CX0 P w K mg base N x (defScope st) f cdv A outer s H E).nox F (defBody st) U ∧ ∀ ds g Q', T ds g Q' → U { nx := fun _ g' => Q' .none g', rt := Q' } (startP N ds) g) : FnP P w K mg base F (k + 1) x ps T := by
  refine D.ok S (fun vs H Q E h => ?_) fun f cdv A outer s H vs Q E hr hg h => ?_
  · obtain ⟨W, ds, g, Q', _, _, r, _, hT, _⟩ := h
    rw [r.length]
    exact len ds g Q' hT
  · obtain ⟨W, ds, g, Q', sub, dom, r, s0, hT, q⟩ := h
    obtain ⟨U, ⟨t, p1, p2⟩, hU⟩ := hbody f cdv A outer s H E hr hg
    refine ⟨t, p1, p2 (D' := { nx := fun _ g' => Q' .none g', rt := Q' }) (W := W) (H0 := H) (os := []) ⟨eok_start (r.mono fun b o n e => ⟨fun z => z.elim n (fun y => nomatch y), e⟩), s0, sub, dom, fun D hD => (nomatch hD), Mv.refl _ _⟩ ⟨?_, ?_, ?_, ?_⟩ (hU ds g Q' hT)⟩
    · intro os σ H' ρ g' k' h'
      exact q .non H' .none g' k'.mv k'.st .non h'
    · intro v H' d g' m s' r' h'
      exact q v H' d g' m s' r' h'
    · intro os σ H' ρ g' k' h'
      exact h'
    · intro os σ H' ρ g' k' h'
      exact h'
end Pv
set_option Elab.async false
set_option linter.all false
set_option maxRecDepth 100000
set_option maxHeartbeats 4000000
namespace Cm
open PySem PySem.Spec PyProof.Rows L2
theorem tuple_mul1 (l : Addr) (items : Array Value) (n : Nat) (dd : Option Addr) (sl : Array (Option Value)) (u : Tok) :
    Meets (Builtin.«tuple.__mul__» ⟨[.ref l, .int 1 u], []⟩) (fun _ R s => s.heap.get? l = some { cls := .type "tuple", dict := dd, data := .seq items n, slots := sl } ∧ R (.ok (.ret (Value.ref l))) s) :=
  .of_wp fun P0 w0 A0 R0 s0 pre => by
    obtain ⟨hp0, g0, d0, tk0, os0⟩ := s0
    obtain ⟨hat, post⟩ := pre
    have f1 := AutoSeq1.idx_int
    wp_walk using wpAny_loadPart' hat
    exact ⟨_, rfl, post⟩
theorem tuple_mul0 (l : Addr) (items : Array Value) (n : Nat) (dd : Option Addr) (sl : Array (Option Value)) (u : Tok) (hi : items.isEmpty = false) :
    Meets (Builtin.«tuple.__mul__» ⟨[.ref l, .int 0 u], []⟩) (fun _ R s => s.heap.get? l = some { cls := .type "tuple", dict := dd, data := .seq items n, slots := sl } ∧
      R (.ok (.ret (Value.ref s.heap.objs.size))) { s with heap := s.heap.push { cls := Value.type "tuple", data := Data.seq #[] }, toks := s.toks }) :=
  .of_wp fun P0 w0 A0 R0 s0 pre => by
    obtain ⟨hp0, g0, d0, tk0, os0⟩ := s0
    obtain ⟨hat, post⟩ := pre
    have f1 := AutoSeq1.idx_int
    wp_walk using wpAny_loadPart' hat
    have c1 : (items.isEmpty || (0 : Int) == 1) = false := by rw [hi]; rfl
    have c2 : (decide ((0 : Int) ≤ 0) || items.isEmpty) = true := by rw [hi]; rfl
    exact ⟨_, rfl, post⟩
theorem rep_flat (z : V) : ∀ n : Nat, (List.replicate n [z]).flatten = List.replicate n z
  | 0 => rfl
  | n + 1 => by
    rw [List.replicate_succ, List.flatten_cons, rep_flat z n]
    rfl
end Cm
set_option Elab.async false
set_option linter.all false
set_option maxRecDepth 100000
set_option maxHeartbeats 4000000
namespace Pv
open PySem PySem.Spec PyProof.Rows L2 Cm
variable {Γ : Type} {X : Cx} {F : Frm Γ} {pos : Pos}
def addD (d : PyData) (e : PyData) (Q : PyData → Prop) : Prop := match d, e with
  | .int i, .int j => Q (.int (i + j))
  | .tuple a, .tuple b => a.length + b.length ≤ 1000000 ∧ Q (.tuple (a ++ b))
  | .list a, .list b => a.length + b.length ≤ 1000000 ∧ Q (.list (a ++ b))
  | .str a, .str b => a.length + b.length ≤ 1000000 ∧ Q (.str (a ++ b))
  | _, _ => False
theorem ol_cat {K : PySem.W.Frag} {Z : Addr → Prop} {H : Hp} {x y : V} {a b : List PyData} {Q : VK} {Q' : PyData → Prop} (dom : ∀ b, Z b → ∃ z, H b = some z) (rx : Rp Z H x (.tuple a)) (ry : Rp Z H y (.tuple b)) (hl : a.length + b.length ≤ 1000000) (hq : Q' (.tuple (a ++ b)))
    (q : ∀ v H' z, Same H H' → Rp Z H' v z → Q' z → Q v H') : rCatA K x y H Q := by
  cases rx with
  | tup n1 e1 r1 =>
    cases ry with
    | tup n2 e2 r2 =>
      refine ⟨_, _, _, _, rfl, rfl, SqT.of e1, SqT.of e2, by rw [r1.length, r2.length]; exact line_ok hl, fun h => ?_, fun _ h => ?_, fun _ _ p np => ?_⟩
      · subst h
        cases r1
        exact q _ H _ (Same.refl _) (.tup n2 e2 r2) hq
      · subst h
        cases r2
        rw [List.append_nil] at hq
        exact q _ H _ (Same.refl _) (.tup n1 e1 r1) hq
      · exact q _ _ _ (same_new np) (Rp.newTup dom np (r1.append r2)) hq
theorem vo_add : VOp X (binaryOp .Add) addD := by
  refine ⟨_, op_add.or (op_catA.or (op_cat.or op_add_str)), fun {Z H x y d e Q Q'} dom rx ry h q => ?_⟩
  cases d <;> cases e <;> simp only [addD] at h
  case int.int i j =>
    cases rx; cases ry
    exact .inl ⟨_, _, rfl, rfl, q _ H _ (Same.refl _) (.int _) h⟩
  case tuple.tuple a b => exact .inr (.inl (ol_cat dom rx ry h.1 h.2 q))
  case list.list a b =>
    cases rx with
    | lst n1 e1 r1 =>
      cases ry with
      | lst n2 e2 r2 => exact .inr (.inr (.inl ⟨_, _, _, _, rfl, rfl, e1, e2, by rw [r1.length, r2.length]; exact line_ok h.1, fun p np => q _ _ _ (same_new np) (Rp.newLst dom np (r1.append r2)) h.2⟩))
  case str.str a b =>
    cases rx; cases ry
    exact .inr (.inr (.inr ⟨_, _, rfl, rfl, line_ok h.1, q _ H _ (Same.refl _) (.str _) h.2⟩))
def subD (d : PyData) (e : PyData) (Q : PyData → Prop) : Prop := match d, e with
  | .int i, .int j => Q (.int (i - j))
  | _, _ => False
def modD (d : PyData) (e : PyData) (Q : PyData → Prop) : Prop := match d, e with
  | .int i, .int j => 0 < j ∧ Q (.int (i % j))
  | _, _ => False
def divD (d : PyData) (e : PyData) (Q : PyData → Prop) : Prop := match d, e with
  | .int i, .int j => CDivW i j ∧ Q (.int (i / j))
  | _, _ => False
def powD (d : PyData) (e : PyData) (Q : PyData → Prop) : Prop := match d, e with
  | .int i, .int j => CPow i j ∧ Q (.int (i ^ j.toNat))
  | _, _ => False
def mulD (d : PyData) (e : PyData) (Q : PyData → Prop) : Prop := match d, e with
  | .int i, .int j => CMulW i j ∧ Q (.int (i * j))
  | .tuple [z], .int j => ∃ n : Nat, j = n ∧ n ≤ 1000 ∧ Q (.tuple (List.replicate n z))
  | .list a, .int j => -(2 ^ 63) ≤ j ∧ j < 2 ^ 63 ∧ a.length * j.toNat ≤ 1000000 ∧ Q (.list (List.replicate j.toNat a).flatten)
  | _, _ => False
theorem vo_int {op : Operator} {C : Int → Int → Prop} {f : Int → Int → Int} {p : P2} (o : OpR X (binaryOp op) (rI C fun i j => .int (f i j))) (hp : ∀ d e Q, p d e Q → ∃ i j, d = .int i ∧ e = .int j ∧ C i j ∧ Q (.int (f i j))) : VOp X (binaryOp op) p := by
  refine ⟨_, o, fun {Z H x y d e Q Q'} dom rx ry h q => ?_⟩
  obtain ⟨i, j, rfl, rfl, hc, h⟩ := hp _ _ _ h
  cases rx; cases ry
  exact ⟨i, j, rfl, rfl, hc, q _ H _ (Same.refl _) (.int _) h⟩
theorem vo_sub : VOp X (binaryOp .Sub) subD := by
  refine ⟨_, op_sub, fun {Z H x y d e Q Q'} dom rx ry h q => ?_⟩
  cases d <;> cases e <;> simp only [subD] at h
  cases rx; cases ry
  exact ⟨_, _, rfl, rfl, q _ H _ (Same.refl _) (.int _) h⟩
theorem vo_mod : VOp X (binaryOp .Mod) modD := vo_int op_mod fun d e Q h => by
  cases d <;> cases e <;> simp only [modD] at h
  exact ⟨_, _, rfl, rfl, h.1, h.2⟩
theorem vo_div : VOp X (binaryOp .FloorDiv) divD := vo_int op_fdivW fun d e Q h => by
  cases d <;> cases e <;> simp only [divD] at h
  exact ⟨_, _, rfl, rfl, h.1, h.2⟩
theorem vo_pow : VOp X (binaryOp .Pow) powD := vo_int op_pow fun d e Q h => by
  cases d <;> cases e <;> simp only [powD] at h
  exact ⟨_, _, rfl, rfl, h.1, h.2⟩
theorem rpAll_rep {Z : Addr → Prop} {H : Hp} {v : V} {d : PyData} (r : Rp Z H v d) : ∀ n : Nat, RpAll Z H (List.replicate n v) (List.replicate n d)
  | 0 => .nil
  | n + 1 => .cons r (rpAll_rep r n)
theorem rpAll_flat {Z : Addr → Prop} {H : Hp} {vs : List V} {ds : List PyData} (r : RpAll Z H vs ds) : ∀ n : Nat, RpAll Z H (List.replicate n vs).flatten (List.replicate n ds).flatten
  | 0 => .nil
  | n + 1 => by
    rw [List.replicate_succ, List.replicate_succ, List.flatten_cons, List.flatten_cons]
    exact r.append (rpAll_flat r n)
def rRepM : R2 := fun x y H Q => ∃ (l : Addr) (z : V) (n : Nat), x = .ref l ∧ y = .int n ∧ H l = some (.tup [z]) ∧ n ≤ 1000 ∧ (n = 1 → Q (.ref l) H) ∧ (n ≠ 1 → ∀ p, H p = none → Q (.ref p) (upd H p (.tup (List.replicate n z))))
theorem op_repM {X : Cx} : OpR X (binaryOp .Mult) rRepM := by
  intro pins s σ H x y v u Q I rx ry h
  obtain ⟨l, z, n, rfl, rfl, hl, hn, q1, q⟩ := h
  match n, hn, q1, q, ry with
  | 0, hn, q1, q, ry =>
    cases rx
    obtain ⟨t, rfl⟩ := ry
    obtain ⟨its, r, ⟨⟨cls, dd, data, sl⟩, ho, hc, n, hd⟩, hs⟩ := I.tuple (SqT.of hl)
    simp only at hc hd
    subst hc hd
    have hi : its.toArray.isEmpty = false := by
      cases r
      rfl
    refine wpAny_binaryOp_repeat_ref (T := "tuple") (U := "int") (by decide) ⟨_, ho, rfl⟩ (fun s' => typeIs_int s' _ t) noFill_tuple_mul F.fills_int_mul F.slot_int_rmul repeat_tuple F.slot_int_index.lookup
      (call_meets F.slot_int_rmul (typeIs_int s _ t) F.entry_int_rmul (F.args_int_rmul_2 _ _) (int_rmul_tuple _ t l its.toArray n dd sl)
        ⟨ho, rfl, ⟨_, ho, rfl⟩, call_meets F.slot_tuple_mul ⟨_, ho, rfl⟩ F.entry_tuple_mul (F.args_tuple_mul_2 _ _) (tuple_mul0 l its.toArray n dd sl t hi) ⟨ho, ?_⟩⟩)
    refine ⟨.ref s.heap.objs.size, _, I.laid (t' := s.toks) (o := .tup []) (fun b ob q => Heap.get?_push_of_some _ q) (Nat.le_refl _) ?_, rfl, q (by decide) _ (I.hok.fresh (Nat.le_refl _))⟩
    exact ⟨Nat.zero_le _, [], .nil, IsTup.new _ _⟩
  | 1, hn, q1, q, ry =>
    cases rx
    obtain ⟨t, rfl⟩ := ry
    obtain ⟨its, r, ⟨⟨cls, dd, data, sl⟩, ho, hc, n, hd⟩, hs⟩ := I.tuple (SqT.of hl)
    simp only at hc hd
    subst hc hd
    refine wpAny_binaryOp_repeat_ref (T := "tuple") (U := "int") (by decide) ⟨_, ho, rfl⟩ (fun s' => typeIs_int s' _ t) noFill_tuple_mul F.fills_int_mul F.slot_int_rmul repeat_tuple F.slot_int_index.lookup
      (call_meets F.slot_int_rmul (typeIs_int s _ t) F.entry_int_rmul (F.args_int_rmul_2 _ _) (int_rmul_tuple _ t l its.toArray n dd sl)
        ⟨ho, rfl, ⟨_, ho, rfl⟩, call_meets F.slot_tuple_mul ⟨_, ho, rfl⟩ F.entry_tuple_mul (F.args_tuple_mul_2 _ _) (tuple_mul1 l its.toArray n dd sl t) ⟨ho, ?_⟩⟩)
    exact ⟨.ref l, H, I, rfl, q1 rfl⟩
  | n + 2, hn, q1, q, ry =>
    refine op_repT pins s σ H _ _ v u Q I rx ry ⟨l, _, [z], rfl, rfl, SqT.of hl, by simp, by omega, by omega, by simp, fun p hp => ?_⟩
    have := q (by omega) p hp
    rw [show (((n + 2 : Nat) : Int)).toNat = n + 2 from rfl, rep_flat]
    exact this
theorem vo_mul : VOp X (binaryOp .Mult) mulD := by
  refine ⟨_, op_mulW.or (op_repM.or op_rep), fun {Z H x y d e Q Q'} dom rx ry h q => ?_⟩
  unfold mulD at h
  split at h
  · cases rx; cases ry
    exact .inl ⟨_, _, rfl, rfl, h.1, q _ H _ (Same.refl _) (.int _) h.2⟩
  · obtain ⟨n, rfl, hn, h⟩ := h
    cases rx with
    | tup n1 e1 r1 =>
      cases ry
      cases r1 with
      | cons r1 r2 =>
        cases r2
        refine .inr (.inl ⟨_, _, n, rfl, rfl, e1, hn, fun e => ?_, fun _ p np => q _ _ _ (same_new np) (Rp.newTup dom np (rpAll_rep r1 n)) h⟩)
        subst e
        exact q _ H _ (Same.refl _) (.tup n1 e1 (.cons r1 .nil)) h
  · cases ry
    cases rx with
    | lst n1 e1 r1 =>
      exact .inr (.inr ⟨_, _, _, rfl, rfl, e1, h.1, h.2.1, by rw [r1.length]; exact line_ok h.2.2.1, fun p np => q _ _ _ (same_new np) (Rp.newLst dom np (rpAll_flat r1 _)) h.2.2.2⟩)
  · exact h.elim
def negD (d : PyData) (Q : PyData → Prop) : Prop := match d with
  | .int i => Q (.int (-i))
  | _ => False
theorem ve_neg {a : Expr} {T : PTE Γ} (h : VE X F a T) : VE X F (.UnaryOp .USub a pos) (pUn negD T) := by
  obtain ⟨t, a1, a2⟩ := h
  refine ⟨_, pe_un un_neg a1, re_un (fun {Z H x d Q Q'} dom rx h q => ?_) a2⟩
  cases d <;> simp only [negD] at h
  cases rx
  exact ⟨_, rfl, q _ H _ (Same.refl _) (.int _) h⟩
def cmpD (p : Int → Int → Bool) (d : PyData) (e : PyData) (Q : PyData → Prop) : Prop := match d, e with
  | .int i, .int j => Q (.bool (p i j))
  | _, _ => False
theorem vo_cmpI {op : CmpOp} {p : Int → Int → Bool} (o : OpR X (compareOp op) (rI0 fun i j => .bl (p i j))) : VOp X (compareOp op) (cmpD p) := by
  refine ⟨_, o, fun {Z H x y d e Q Q'} dom rx ry h q => ?_⟩
  cases d <;> cases e <;> simp only [cmpD] at h
  cases rx; cases ry
  exact ⟨_, _, rfl, rfl, q _ H _ (Same.refl _) (.bl _) h⟩
abbrev ltD := cmpD fun i j => decide (i < j)
abbrev gtD := cmpD fun i j => decide (j < i)
abbrev geD := cmpD fun i j => decide (j ≤ i)
theorem vo_lt : VOp X (compareOp .Lt) ltD := vo_cmpI op_lt
theorem vo_gt : VOp X (compareOp .Gt) gtD := vo_cmpI op_gt
theorem vo_ge : VOp X (compareOp .GtE) geD := vo_cmpI op_ge
def eqD (d e : PyData) (Q : PyData → Prop) : Prop := match d, e with
  | .int i, .int j => Q (.bool (decide (i = j)))
  | .str i, .str j => Q (.bool (decide (i = j)))
  | d, e => SeqAt.shaped d = true ∧ SeqAt.shaped e = true ∧ Q (.bool (PyData.eqv d e))
def neD (d e : PyData) (Q : PyData → Prop) : Prop := match d, e with
  | .int i, .int j => Q (.bool (!decide (i = j)))
  | .str i, .str j => Q (.bool (!decide (i = j)))
  | d, e => SeqAt.shaped d = true ∧ SeqAt.shaped e = true ∧ Q (.bool (!PyData.eqv d e))
theorem vo_eq {k : Nat} (hr : Room k X.A) : VOp X (compareOp .Eq) eqD := by
  refine ⟨_, (op_eqD hr.units).or op_eq, fun {Z H x y d e Q Q'} dom rx ry h q => ?_⟩
  unfold eqD at h
  split at h
  · cases rx; cases ry
    exact .inr ⟨rfl, by simpa using q _ H _ (Same.refl _) (.bl _) h⟩
  · cases rx; cases ry
    exact .inr ⟨rfl, by simpa using q _ H _ (Same.refl _) (.bl _) h⟩
  · exact .inl ⟨d, e, rx.dp (SeqAt.canLay_of_shaped h.1), ry.dp (SeqAt.canLay_of_shaped h.2.1), h.1, h.2.1, q _ H _ (Same.refl _) (.bl _) h.2.2⟩
theorem vo_ne {k : Nat} (hr : Room k X.A) : VOp X (compareOp .NotEq) neD := by
  refine ⟨_, (op_neD hr.units).or op_ne, fun {Z H x y d e Q Q'} dom rx ry h q => ?_⟩
  unfold neD at h
  split at h
  · cases rx; cases ry
    exact .inr ⟨rfl, by simpa using q _ H _ (Same.refl _) (.bl _) h⟩
  · cases rx; cases ry
    exact .inr ⟨rfl, by simpa using q _ H _ (Same.refl _) (.bl _) h⟩
  · exact .inl ⟨d, e, rx.dp (SeqAt.canLay_of_shaped h.1), ry.dp (SeqAt.canLay_of_shaped h.2.1), h.1, h.2.1, q _ H _ (Same.refl _) (.bl _) h.2.2⟩
def isNone : PyData → Bool
  | .none => true
  | _ => false
def isD (d : PyData) (e : PyData) (Q : PyData → Prop) : Prop := match e with
  | .none => Q (.bool (isNone d))
  | .bool b => ∃ a, d = .bool a ∧ Q (.bool (decide (a = b)))
  | _ => False
def isntD (d : PyData) (e : PyData) (Q : PyData → Prop) : Prop := match e with
  | .none => Q (.bool (!isNone d))
  | .bool b => ∃ a, d = .bool a ∧ Q (.bool (!decide (a = b)))
  | _ => False
def ixD (d : PyData) (e : PyData) (Q : PyData → Prop) : Prop := match d, e with
  | .list ds, .int i => ∃ z, atI ds i = some z ∧ Q z
  | .tuple ds, .int i => ∃ z, atI ds i = some z ∧ Q z
  | _, _ => False
theorem at_rp {Z : Addr → Prop} {H : Hp} {vs : List V} {ds : List PyData} {i : Int} {z : PyData} (r : RpAll Z H vs ds) (h : atI ds i = some z) : ∃ v, atI vs i = some v ∧ Rp Z H v z := by
  unfold atI at h ⊢
  rw [r.length]
  cases e : ixN ds.length i with
  | none => rw [e] at h; cases h
  | some j =>
    rw [e] at h
    exact r.get' h
theorem ve_ix {a b : Expr} {T U : PTE Γ} (ha : VE X F a T) (hb : VE X F b U) (hs : PlainIx b) : VE X F (.Subscript a b pos) (pOp ixD T U) := by
  obtain ⟨t, a1, a2⟩ := ha
  obtain ⟨u, b1, b2⟩ := hb
  refine ⟨_, pe_ix ix_seq a1 b1 hs, re_op (fun {Z H x y d e Q Q'} dom rx ry h q => ?_) a2 b2⟩
  unfold ixD at h
  split at h
  · obtain ⟨z, hz, h⟩ := h
    cases ry
    cases rx with
    | lst n e r =>
      obtain ⟨v, hv, rv⟩ := at_rp r hz
      exact .inl ⟨_, _, _, _, rfl, rfl, SqL.of e, hv, q _ H _ (Same.refl _) rv h⟩
  · obtain ⟨z, hz, h⟩ := h
    cases ry
    cases rx with
    | tup n e r =>
      obtain ⟨v, hv, rv⟩ := at_rp r hz
      exact .inr (.inl ⟨_, _, _, _, rfl, rfl, SqT.of e, hv, q _ H _ (Same.refl _) rv h⟩)
  · exact h.elim
def cutD (xs : List PyData) (lo hi : Option Int) : List PyData := (xs.drop (HT.sIx xs.length 0 lo)).take (HT.sIx xs.length xs.length hi - HT.sIx xs.length 0 lo)
abbrev PTO (Γ : Type) := List Sl → Γ → (Option Int → Γ → Prop) → Prop
def RO (F : Frm Γ) (t : TO) (T : PTO Γ) : Prop := ∀ {W : Addr → Prop} {H0 : Hp} {os : List Addr} {σ : L2.St} {H : Hp} {ρ : List Sl} {g : Γ} {Q : Option Int → Hp → Prop} {Q' : Option Int → Γ → Prop}, Okk F W H0 os σ H ρ g → T ρ g Q' →
  (∀ o H' g', Mv F.S H H' → F.Ok g' H' → Q' o g' → Q o H') → t σ H Q
def VO (X : Cx) (F : Frm Γ) (e : Option Expr) (T : PTO Γ) : Prop := ∃ t, PO X e t ∧ RO F t T
def pNoPart (_z1 : List Sl) (g : Γ) (Q : Option Int → Γ → Prop) : Prop := Q none g
def pPart (T : PTE Γ) (ρ : List Sl) (g : Γ) (Q : Option Int → Γ → Prop) : Prop := T ρ g fun d g1 => ∃ i, d = .int i ∧ Q (some i) g1
theorem vo_none : VO X F none pNoPart := ⟨_, po_none, fun {W H0 os σ H ρ g Q Q'} k h q => q none H g (Mv.refl _ _) k.st h⟩
theorem vo_some {e : Expr} {T : PTE Γ} (h : VE X F e T) : VO X F (some e) (pPart T) := by
  obtain ⟨t, a1, a2⟩ := h
  refine ⟨_, po_some a1, fun {W H0 os σ H ρ g Q Q'} k h q => a2 k h fun v H' d g' m s r hq => ?_⟩
  obtain ⟨i, rfl, hq⟩ := hq
  cases r
  exact ⟨i, rfl, q _ H' g' m s hq⟩
def slD (d : PyData) (lo hi : Option Int) (Q : PyData → Prop) : Prop := match d with
  | .tuple ds => Q (.tuple (cutD ds lo hi))
  | .list ds => Q (.list (cutD ds lo hi))
  | _ => False
def pSl (T : PTE Γ) (lo hi : PTO Γ) (ρ : List Sl) (g : Γ) (Q : PyData → Γ → Prop) : Prop := T ρ g fun d g1 => lo ρ g1 fun l g2 => hi ρ g2 fun u g3 => slD d l u fun z => Q z g3
abbrev PB := List PyData → (PyData → Prop) → Prop
theorem ve_bui {id : String} {x : Str} {p : PB} {e : Expr} {es : List Expr} {Ta : PTA Γ} {pp : Pos} (hc : VCall X (.builtin id) p) (hg : Gl X x) (hm : X.mg x = none) (hv : bootBuiltins x = some (.builtin id)) (ha : VA X F (e :: es) Ta) (hn : x ≠ "__name__" := by decide) (hdb : (x == ("__debug__" : Str)) = false := by decide)
    (he : starEach (e :: es) X.env = (false, eval e X.env) :: starEach es X.env := by rfl) (hpl : (backTo pos (starEach es X.env)).any (·.1) = false := by rfl) : VE X F (.Call (.Name x pp) (e :: es) [] pos) (pBui p Ta) := by
  obtain ⟨r, c1, c2⟩ := hc
  obtain ⟨t, a1, a2⟩ := ha
  exact ⟨_, pe_callB c1 hg hm hv a1 hn hdb he hpl, re_bui c2 a2⟩
theorem ve_buiT {T : String} {x : Str} {p : PB} {e : Expr} {es : List Expr} {Ta : PTA Γ} {pp : Pos} (hc : VCall X (.type T) p) (hg : Gl X x) (hm : X.mg x = none) (hv : bootBuiltins x = some (.type T)) (ha : VA X F (e :: es) Ta) (hn : x ≠ "__name__" := by decide) (hdb : (x == ("__debug__" : Str)) = false := by decide)
    (he : starEach (e :: es) X.env = (false, eval e X.env) :: starEach es X.env := by rfl) (hpl : (backTo pos (starEach es X.env)).any (·.1) = false := by rfl) : VE X F (.Call (.Name x pp) (e :: es) [] pos) (pBui p Ta) := by
  obtain ⟨r, c1, c2⟩ := hc
  obtain ⟨t, a1, a2⟩ := ha
  exact ⟨_, pe_callTy c1 hg hm hv a1 hn hdb he hpl, re_bui c2 a2⟩
def lenD (ds : List PyData) (Q : PyData → Prop) : Prop := match ds with
  | [.list xs] => Q (.int xs.length)
  | [.tuple xs] => Q (.int xs.length)
  | _ => False
theorem vc_len : VCall X (.builtin "len") lenD := by
  refine ⟨_, call_len_seq, fun {Z H xs ds Q Q'} dom r h q => ?_⟩
  unfold lenD at h
  split at h
  · cases r with
    | cons r1 r2 =>
      cases r2
      cases r1 with
      | lst n e r =>
        rw [← r.length] at h
        exact ⟨_, _, rfl, .inl (SqL.of e), q _ H _ (Same.refl _) (.int _) h⟩
  · cases r with
    | cons r1 r2 =>
      cases r2
      cases r1 with
      | tup n e r =>
        rw [← r.length] at h
        exact ⟨_, _, rfl, .inr (SqT.of e), q _ H _ (Same.refl _) (.int _) h⟩
  · exact h.elim
def tupD (ds : List PyData) (Q : PyData → Prop) : Prop := match ds with
  | [.list xs] => Q (.tuple xs)
  | [.tuple xs] => Q (.tuple xs)
  | _ => False
theorem vc_tuple : VCall X (.type "tuple") tupD := by
  refine ⟨_, call_tuple_of, fun {Z H xs ds Q Q'} dom r h q => ?_⟩
  unfold tupD at h
  split at h
  · cases r with
    | cons r1 r2 =>
      cases r2
      cases r1 with
      | lst n e r => exact ⟨_, _, rfl, .inl ⟨SqL.of e, fun p np => q _ _ _ (same_new np) (Rp.newTup dom np r) h⟩⟩
  · cases r with
    | cons r1 r2 =>
      cases r2
      cases r1 with
      | tup n e r => exact ⟨_, _, rfl, .inr ⟨SqT.of e, q _ H _ (Same.refl _) (.tup n e r) h⟩⟩
  · exact h.elim
def lstD (ds : List PyData) (Q : PyData → Prop) : Prop := match ds with
  | [.list xs] => Q (.list xs)
  | [.tuple xs] => Q (.list xs)
  | _ => False
def absD (ds : List PyData) (Q : PyData → Prop) : Prop := match ds with
  | [.int i] => Q (.int i.natAbs)
  | _ => False
theorem abs_eq (i : Int) : (if i < 0 then -i else i) = (i.natAbs : Int) := by
  split <;> omega
theorem vc_abs : VCall X (.builtin "abs") absD := by
  refine ⟨_, call_abs, fun {Z H xs ds Q Q'} dom r h q => ?_⟩
  unfold absD at h
  split at h
  · cases r with
    | cons r1 r2 =>
      cases r2
      cases r1
      exact ⟨_, rfl, by rw [abs_eq]; exact q _ H _ (Same.refl _) (.int _) h⟩
  · exact h.elim
def minD (ds : List PyData) (Q : PyData → Prop) : Prop := match ds with
  | [.int i, .int j] => Q (.int (min i j))
  | _ => False
def maxD (ds : List PyData) (Q : PyData → Prop) : Prop := match ds with
  | [.int i, .int j] => Q (.int (max i j))
  | _ => False
def sumD (ds : List PyData) (Q : PyData → Prop) : Prop := match ds with
  | [.list xs] => ∃ ns : List Int, xs = ns.map PyData.int ∧ Q (.int ns.sum)
  | _ => False
end Pv
set_option Elab.async false
set_option linter.all false
set_option maxRecDepth 100000
set_option maxHeartbeats 4000000
namespace Cm
open PySem PySem.Spec PyProof.Rows L2
section
variable {X : Cx} {K : PySem.W.Frag} {tg l : Expr} {tl : TE}
end
end Cm
set_option Elab.async false
set_option linter.all false
set_option maxRecDepth 100000
set_option maxHeartbeats 4000000
namespace ZM
open PySem PySem.Spec PyProof.Rows L2 RZ
section
variable {prog : Program} {w : World} {A : Around} {E : Value → Shared → Prop} {s : Shared}
end
section
variable {prog : Program} {w : World} {A : Around} {E : Value → Shared → Prop} {s : Shared}
end
end ZM
set_option Elab.async false
set_option linter.all false
set_option maxRecDepth 100000
set_option maxHeartbeats 4000000
namespace EnT
open PySem PySem.Spec PyProof.Rows L2
section
variable {prog : Program} {w : World} {A : Around} {E : Value → Shared → Prop} {s : Shared}
end
end EnT
set_option Elab.async false
set_option linter.all false
set_option maxRecDepth 100000
set_option maxHeartbeats 4000000
namespace Pv
open PySem PySem.Spec PyProof.Rows L2 Cm
variable {Γ : Type} {X : Cx} {F : Frm Γ} {pos : Pos}
theorem vg_tup {K : PySem.W.Frag} {es : List Expr} {k : Nat} {t : TGs} {U : List PyData → List Sl → (List Sl → Prop) → Prop} {is : List Nat} (n : Nat) (hK : X.K = K) (h : VGs X F es t U is) (hp : PG X (.Tuple es k pos) (gTup X.K n t)) : VG X F (.Tuple es k pos) (gTup K n t) (qTup n U) is := by
  subst hK
  exact ⟨hp, rg_tup h.2⟩
def pDct (_z1 : List Sl) (g : Γ) (Q : PyData → Γ → Prop) : Prop := Q (.dict []) g
section
variable {Z : Addr → Prop} {H : Hp}
mutual
theorem Rp.dpN {K : PySem.W.Frag} : ∀ {v : V} {d : PyData}, Rp Z H v d → d.hasDict = false → Dp K H v d
  | _, _, .non, _ => .non
  | _, _, .bl b, _ => .bl b
  | _, _, .int i, _ => .int i
  | _, _, .str x, _ => .str x
  | _, .list ds, .lst n e r, s => .lst (SqL.of e) (RpAll.dpN r (by simpa [PyData.hasDict] using s))
  | _, .tuple ds, .tup n e r, s => .tup (SqT.of e) (RpAll.dpN r (by simpa [PyData.hasDict] using s))
  | _, _, .dct n e, s => by simp [PyData.hasDict] at s
  | _, _, .ptr a, s => by simp [PyData.hasDict] at s
theorem RpAll.dpN {K : PySem.W.Frag} : ∀ {vs : List V} {ds : List PyData}, RpAll Z H vs ds → PyData.hasDictAll ds = false → DpAll K H vs ds
  | _, _, .nil, _ => .nil
  | _, d :: ds, .cons h t, s => by
    have s' : d.hasDict = false ∧ PyData.hasDictAll ds = false := by simpa [PyData.hasDictAll] using s
    exact .cons (Rp.dpN h s'.1) (RpAll.dpN t s'.2)
end
end
def rReprP (Z : Addr → Prop) : List V → Hp → VK → Prop := fun xs H Q => ∃ (v : V) (d : PyData), xs = [v] ∧ Rp Z H v d ∧ (d.hasDict = false ∨ d = .dict []) ∧ d.showable = true ∧ d.depth ≤ 60 ∧ d.shown.length ≤ sizeLine ∧ Q (.str d.shown) H
theorem call_reprP {k : Nat} (Z : Addr → Prop) (hr : Room k X.A) (hg : X.A.guards = some []) : CallR X (.builtin "repr") (rReprP Z) := by
  intro pins s σ H xs us Q I r h
  obtain ⟨v, d, rfl, hd, nd, sh, dp, sz, q⟩ := h
  obtain ⟨u, rfl, ru⟩ := vals1 r
  cases hd with
  | non =>
    obtain rfl : u = Value.none := ru
    exact PySem.P.repr_of_none ⟨.str _, H, I.tok _, ⟨_, rfl⟩, q⟩
  | bl b =>
    obtain rfl : u = Value.bool b := ru
    refine PySem.P.repr_of_bool ⟨.str _, H, I.tok _, ⟨_, rfl⟩, ?_⟩
    cases b <;> exact q
  | int i =>
    obtain ⟨t, rfl⟩ := ru
    exact PySem.P.repr_of_int (of_decide_eq_true sh) ⟨.str _, H, I.tok _, ⟨_, rfl⟩, q⟩
  | str x =>
    obtain ⟨t, rfl⟩ := ru
    exact PySem.P.repr_of_str ⟨.str _, H, I.tok _, ⟨_, rfl⟩, q⟩ sz
  | lst n e ra =>
    rcases nd with nd | nd
    · exact call_repr hr hg rfl pins s σ H _ _ Q I r ⟨_, _, rfl, Rp.dpN (.lst n e ra) nd, sh, nd, dp, sz, q⟩
    · cases nd
  | tup n e ra =>
    rcases nd with nd | nd
    · exact call_repr hr hg rfl pins s σ H _ _ Q I r ⟨_, _, rfl, Rp.dpN (.tup n e ra) nd, sh, nd, dp, sz, q⟩
    · cases nd
  | dct n e =>
    cases ru
    obtain ⟨_, nm, vs, kv, o, es, ep, h1, h2, h3, _, h5, _⟩ := (show ObjOk X.prog X.w H s.heap _ (.dK []) from I.hok _ _ e)
    cases kv
    have he : es.toList = [] := by
      cases hh : es.toList with
      | nil => rfl
      | cons z zs =>
        rw [hh] at h5
        cases h5
    refine repr_of_reads' (d := .dict []) (as := [_]) (Reads.dict (as := []) (bs := []) h1 h2.1 h3 (by rw [he]; exact .nil) (by rw [he]; exact .nil)) sh (fun _ z => ?_) hg (by have := hr.units; omega) (fun _ _ e => e) (fun h' u tk keep => ?_) sz
    · have := List.mem_singleton.mp z
      rw [← this] at nm
      simp at nm
    · exact ⟨.str _, H, I.kept keep, ⟨_, rfl⟩, q⟩
  | ptr a =>
    rcases nd with nd | nd
    · simp [PyData.hasDict] at nd
    · cases nd
def reprD (ds : List PyData) (Q : PyData → Prop) : Prop := match ds with
  | [d] => (d.hasDict = false ∨ d = .dict []) ∧ d.showable = true ∧ d.depth ≤ 60 ∧ d.shown.length ≤ sizeLine ∧ Q (.str d.shown)
  | _ => False
theorem ve_repr {k : Nat} {x : Str} {e : Expr} {T : PTE Γ} {pp : Pos} (hr : Room k X.A) (hgd : X.A.guards = some []) (hg : Gl X x) (hm : X.mg x = none) (hv : bootBuiltins x = some (.builtin "repr")) (ha : VE X F e T) (hn : x ≠ "__name__" := by decide) (hdb : (x == ("__debug__" : Str)) = false := by decide)
    (he : starEach [e] X.env = [(false, eval e X.env)] := by rfl) : VE X F (.Call (.Name x pp) [e] [] pos) (pBui reprD (pCons T pNil)) := by
  obtain ⟨t, a1, a2⟩ := ha
  refine ⟨canE F (pBui reprD (pCons T pNil)), ⟨fun pins s σ H Q I hc => ?_⟩, re_can⟩
  obtain ⟨W, H0, os, ρ, g, Q', k', hT, q⟩ := hc
  refine (pe_callB (call_reprP (Zs W os) hr hgd) hg hm hv (pa_cons a1 pa_nil he) hn hdb he rfl).run pins s σ H Q I ?_
  refine a2 k' hT fun v H1 d g1 m1 s1 r1 h1 => ?_
  exact ⟨v, d, rfl, r1, h1.1, h1.2.1, h1.2.2.1, h1.2.2.2.1, q _ H1 _ g1 m1 s1 (.str _) h1.2.2.2.2⟩
def tyD : PyData → String
  | .none => "NoneType"
  | .bool _ => "bool"
  | .int _ => "int"
  | .str _ => "str"
  | .list _ => "list"
  | .tuple _ => "tuple"
  | .dict _ => "dict"
def isPtr : PyData → Bool
  | .dict (_ :: _) => true
  | _ => false
theorem Rp.hasK {Z : Addr → Prop} {H : Hp} {v : V} {d : PyData} (r : Rp Z H v d) (h : isPtr d = false) : ∃ k, HasK H v k ∧ tyK k = tyD d := by
  cases r with
  | non => exact ⟨_, .non, rfl⟩
  | bl b => exact ⟨_, .bl b, rfl⟩
  | int i => exact ⟨_, .int i, rfl⟩
  | str x => exact ⟨_, .str x, rfl⟩
  | lst n e r => exact ⟨_, .lst e, rfl⟩
  | tup n e r => exact ⟨_, .tup e, rfl⟩
  | dct n e => exact ⟨_, .dct e, rfl⟩
  | ptr a => cases h
def pIsi (p : PyData → Bool) (T : PTE Γ) (ρ : List Sl) (g : Γ) (Q : PyData → Γ → Prop) : Prop := T ρ g fun d g1 => isPtr d = false ∧ Q (.bool (p d)) g1
theorem ve_isi {c : String} {x : Str} {p : PyData → Bool} {e : Expr} {T : PTE Γ} {pp qp : Pos} (kit : ∀ d, kitB (tyD d) c = some (p d)) (hg : Gl X "isinstance") (hm : X.mg "isinstance" = none) (hg2 : Gl X x) (hm2 : X.mg x = none) (hv : bootBuiltins x = some (.type c)) (ha : VE X F e T)
    (hn : x ≠ "__name__" := by decide) (hdb : (x == ("__debug__" : Str)) = false := by decide) (he : starEach [e, .Name x qp] X.env = (false, eval e X.env) :: starEach [.Name x qp] X.env := by rfl) (he2 : starEach [.Name x qp] X.env = [(false, eval (.Name x qp) X.env)] := by rfl)
    (hpl : (backTo pos (starEach [.Name x qp] X.env)).any (·.1) = false := by rfl) : VE X F (.Call (.Name "isinstance" pp) [e, .Name x qp] [] pos) (pIsi p T) := by
  obtain ⟨t, a1, a2⟩ := ha
  refine ⟨_, pe_callB (isi_K (K := X.K) rfl) hg hm (by decide +kernel) (pa_cons a1 (pa_cons (pe_bltn (v := .ty c) hg2 hm2 hv rfl hn hdb) pa_nil he2) he) (by decide) (by decide) he hpl, fun {W H0 os σ H ρ g Q Q'} k h q => a2 k h fun v H1 d g1 m1 s1 r1 h1 => ?_⟩
  obtain ⟨kd, hk, ek⟩ := r1.hasK h1.1
  exact ⟨_, _, _, _, p d, rfl, .ty c, hk.ty, kit_ty (by rw [ek]; exact kit d), q _ H1 _ g1 m1 s1 (.bl _) h1.2⟩
def isStrD : PyData → Bool
  | .str _ => true
  | _ => false
theorem ki_str : ∀ d, kitB (tyD d) "str" = some (isStrD d)
  | .none => (by decide +kernel : kitB "NoneType" "str" = some false)
  | .bool _ => (by decide +kernel : kitB "bool" "str" = some false)
  | .int _ => (by decide +kernel : kitB "int" "str" = some false)
  | .str _ => (by decide +kernel : kitB "str" "str" = some true)
  | .list _ => (by decide +kernel : kitB "list" "str" = some false)
  | .tuple _ => (by decide +kernel : kitB "tuple" "str" = some false)
  | .dict _ => (by decide +kernel : kitB "dict" "str" = some false)
def zipD (a b : List PyData) : List PyData := List.zipWith (fun x y => .tuple [x, y]) a b
end Pv
set_option Elab.async false
set_option linter.all false
set_option maxRecDepth 100000
set_option maxHeartbeats 4000000
namespace Cm
open PySem PySem.Spec PyProof.Rows L2
abbrev Rs := List (List Int)
inductive St3 where
  | add (i j : Nat) (z : Int) | swap (i j : Nat) | turn (i : Nat)
def St3.vals : St3 → List V
  | .add i j z => [.str "add", .int i, .int j, .int z]
  | .swap i j => [.str "swap", .int i, .int j]
  | .turn i => [.str "turn", .int i]
def St3.ok (m : Nat) : St3 → Prop
  | .add i j z => i < m ∧ j < m ∧ i ≠ j ∧ z.natAbs < 2 ^ 100
  | .swap i j => i < m ∧ j < m ∧ i ≠ j
  | .turn i => i < m
def St3.back : St3 → St3
  | .add i j z => .add i j (-z)
  | .swap i j => .swap i j
  | .turn i => .turn i
def row (rs : Rs) (i : Nat) : List Int := rs[i]?.getD []
def St3.run : St3 → Rs → Rs
  | .add i j z, rs => rs.set i (List.zipWith (fun x y => x + z * y) (row rs i) (row rs j))
  | .swap i j, rs => (rs.set i (row rs j)).set j (row rs i)
  | .turn i, rs => rs.set i ((row rs i).map fun x => -x)
structure RB (m w b : Nat) (rs : Rs) : Prop where
  len : rs.length = m
  wide : ∀ r ∈ rs, r.length = w
  small : ∀ r ∈ rs, ∀ x ∈ r, x.natAbs < 2 ^ b
theorem RB.mono {m w b c : Nat} {rs : Rs} (h : RB m w b rs) (hb : b ≤ c) : RB m w c rs :=
  ⟨h.len, h.wide, fun r hr x hx => Nat.lt_of_lt_of_le (h.small r hr x hx) (Nat.pow_le_pow_right (by decide) hb)⟩
theorem mem_set {rs : Rs} {i : Nat} {r x : List Int} (h : x ∈ rs.set i r) : x ∈ rs ∨ x = r := by
  rcases List.mem_or_eq_of_mem_set h with z | z
  · exact .inl z
  · exact .inr z
theorem RB.set {m w b : Nat} {rs : Rs} {i : Nat} {r : List Int} (h : RB m w b rs) (h1 : r.length = w) (h2 : ∀ x ∈ r, x.natAbs < 2 ^ b) : RB m w b (rs.set i r) :=
  ⟨by rw [List.length_set]; exact h.len, fun x hx => by
    rcases mem_set hx with z | z
    · exact h.wide x z
    · rw [z]; exact h1, fun x hx => by
    rcases mem_set hx with z | z
    · exact h.small x z
    · rw [z]; exact h2⟩
inductive Undo (m w : Nat) : List St3 → Rs → Rs → Prop where
  | nil {r : Rs} : Undo m w [] r r
  | cons {b : St3} {bs : List St3} {cur r0 : Rs} {k : Nat} : b.ok m → RB m w k cur → k ≤ 1000 → Undo m w bs (b.run cur) r0 → Undo m w (b :: bs) cur r0
def rowD (r : List Int) : PyData := .tuple (r.map .int)
def rowsD (rs : Rs) : PyData := .tuple (rs.map rowD)
def St3.data : St3 → PyData
  | .add i j z => .tuple [.str "add", .int i, .int j, .int z]
  | .swap i j => .tuple [.str "swap", .int i, .int j]
  | .turn i => .tuple [.str "turn", .int i]
theorem log_big {i : Int} (h : i.natAbs < 2 ^ 1000) : i.natAbs.log2 < 1000 := PySem.Flt.log2_lt_of (by decide) h
theorem int_text {i : Int} (h : i.natAbs < 2 ^ 1000) : (PyData.shown (.int i)).length ≤ 1001 := by
  show (Str.ofString (toString i)).length ≤ 1001
  rw [PySem.ofString_length]
  exact PySem.int_text_length_le (by decide) (log_big h)
theorem show_ints : ∀ {r : List Int}, (∀ x ∈ r, x.natAbs < 2 ^ 1000) → PyData.showableAll (r.map .int) = true ∧ PyData.hasDictAll (r.map .int) = false ∧ PyData.leavesShortAll 1001 (r.map .int) = true ∧ PyData.bulkAll (r.map .int) = r.length
  | [], _ => ⟨rfl, rfl, rfl, rfl⟩
  | x :: r, h => by
    obtain ⟨h1, h2, h3, h4⟩ := show_ints fun y hy => h y (List.mem_cons.mpr (.inr hy))
    have s1 := h x (List.mem_cons.mpr (.inl rfl))
    have l1 := log_big s1
    refine ⟨?_, ?_, ?_, ?_⟩
    · show (decide (x.natAbs.log2 < 1920) && PyData.showableAll (r.map .int)) = true
      rw [h1, decide_eq_true (by omega)]
      rfl
    · show (PyData.hasDict (.int x) || PyData.hasDictAll (r.map .int)) = false
      rw [h2]
      rfl
    · show (decide ((PyData.shown (.int x)).length ≤ 1001) && PyData.leavesShortAll 1001 (r.map .int)) = true
      rw [h3, decide_eq_true (int_text s1)]
      rfl
    · show PyData.bulk (.int x) + 1 + PyData.bulkAll (r.map .int) = r.length + 1
      rw [h4]
      show 0 + 1 + r.length = _
      omega
theorem show_rows {w : Nat} : ∀ {rs : Rs}, (∀ r ∈ rs, r.length = w ∧ ∀ x ∈ r, x.natAbs < 2 ^ 1000) → PyData.showableAll (rs.map rowD) = true ∧ PyData.hasDictAll (rs.map rowD) = false ∧ PyData.leavesShortAll 1001 (rs.map rowD) = true ∧ PyData.bulkAll (rs.map rowD) = (w + 1) * rs.length
  | [], _ => ⟨rfl, rfl, rfl, rfl⟩
  | x :: r, h => by
    obtain ⟨h1, h2, h3, h4⟩ := show_rows fun y hy => h y (List.mem_cons.mpr (.inr hy))
    obtain ⟨hw, s1⟩ := h x (List.mem_cons.mpr (.inl rfl))
    obtain ⟨i1, i2, i3, i4⟩ := show_ints s1
    refine ⟨?_, ?_, ?_, ?_⟩
    · show (PyData.showableAll (x.map .int) && PyData.showableAll (r.map rowD)) = true
      rw [h1, i1]
      rfl
    · show (PyData.hasDictAll (x.map .int) || PyData.hasDictAll (r.map rowD)) = false
      rw [h2, i2]
      rfl
    · show (PyData.leavesShortAll 1001 (x.map .int) && PyData.leavesShortAll 1001 (r.map rowD)) = true
      rw [h3, i3]
      rfl
    · show PyData.bulkAll (x.map .int) + 1 + PyData.bulkAll (r.map rowD) = (w + 1) * (r.length + 1)
      rw [h4, i4, hw, Nat.mul_add, Nat.mul_one]
      omega
def TI (H : Hp) (v : V) (ns : List Int) : Prop := ∃ a, v = .ref a ∧ H a = some (.tup (ns.map V.int))
theorem TI.ext {H H' : Hp} {v : V} {ns : List Int} (h : TI H v ns) (e : Ext H H') : TI H' v ns := let ⟨a, h1, h2⟩ := h; ⟨a, h1, e.t _ _ h2⟩
def TT (H : Hp) (v : V) (rs : Rs) : Prop := ∃ a xs, v = .ref a ∧ H a = some (.tup xs) ∧ Paired (TI H) xs rs
theorem TT.ext {H H' : Hp} {v : V} {rs : Rs} (h : TT H v rs) (e : Ext H H') : TT H' v rs := let ⟨a, xs, h1, h2, h3⟩ := h; ⟨a, xs, h1, e.t _ _ h2, Paired.mapP h3 fun _ _ z => z.ext e⟩
def SV (H : Hp) (v : V) (st : St3) : Prop := ∃ a, v = .ref a ∧ H a = some (.tup st.vals)
theorem SV.ext {H H' : Hp} {v : V} {st : St3} (h : SV H v st) (e : Ext H H') : SV H' v st := let ⟨a, h1, h2⟩ := h; ⟨a, h1, e.t _ _ h2⟩
theorem dp_ints {K : PySem.W.Frag} {H : Hp} : ∀ ns : List Int, DpAll K H (ns.map V.int) (ns.map .int)
  | [] => .nil
  | x :: r => .cons (.int x) (dp_ints r)
theorem TI.dp {K : PySem.W.Frag} {H : Hp} {v : V} {ns : List Int} (h : TI H v ns) : Dp K H v (rowD ns) := by
  obtain ⟨a, rfl, h2⟩ := h
  exact .tup (SqT.of h2) (dp_ints ns)
theorem dp_rows {K : PySem.W.Frag} {H : Hp} : ∀ {xs : List V} {rs : Rs}, Paired (TI H) xs rs → DpAll K H xs (rs.map rowD)
  | _, _, .nil => .nil
  | _, _, .cons h t => .cons h.dp (dp_rows t)
theorem TT.dp {K : PySem.W.Frag} {H : Hp} {v : V} {rs : Rs} (h : TT H v rs) : Dp K H v (rowsD rs) := by
  obtain ⟨a, xs, rfl, h2, h3⟩ := h
  exact .tup (SqT.of h2) (dp_rows h3)
theorem SV.dp {K : PySem.W.Frag} {H : Hp} {v : V} : ∀ {st : St3}, SV H v st → Dp K H v st.data
  | .add i j z, ⟨a, e, h⟩ => by
    subst e
    exact .tup (SqT.of h) (.cons (.str _) (.cons (.int _) (.cons (.int _) (.cons (.int _) .nil))))
  | .swap i j, ⟨a, e, h⟩ => by
    subst e
    exact .tup (SqT.of h) (.cons (.str _) (.cons (.int _) (.cons (.int _) .nil)))
  | .turn i, ⟨a, e, h⟩ => by
    subst e
    exact .tup (SqT.of h) (.cons (.str _) (.cons (.int _) .nil))
section
variable {X : Cx} {K : PySem.W.Frag}
end
def St3.kinds : St3 → List Kd
  | .add i j z => [.str "add", .int i, .int j, .int z]
  | .swap i j => [.str "swap", .int i, .int j]
  | .turn i => [.str "turn", .int i]
def St3.word : St3 → Str
  | .add _ _ _ => "add"
  | .swap _ _ => "swap"
  | .turn _ => "turn"
def LI (D : Addr) (H : Hp) (v : V) (ns : List Int) : Prop := ∃ a, v = .ref a ∧ a ≠ D ∧ H a = some (.lst (ns.map V.int))
theorem LI.same {D : Addr} {H H' : Hp} {v : V} {ns : List Int} (h : LI D H v ns) (s : Same H H') : LI D H' v ns := let ⟨a, h1, h2, h3⟩ := h; ⟨a, h1, h2, s _ _ h3⟩
end Cm
set_option Elab.async false
set_option linter.all false
set_option maxRecDepth 100000
set_option maxHeartbeats 4000000
namespace Pv
open PySem PySem.Spec PyProof.Rows L2 Cm
variable {Γ : Type} {X : Cx} {F : Frm Γ} {pos : Pos}
theorem ptr_rp {Z : Addr → Prop} {H : Hp} {v : V} {a : Addr} (r : Rp Z H v (ptrD a)) : v = .ref a := by
  generalize e : ptrD a = d at r
  cases r with
  | ptr b =>
    have : (a : Nat) = b := by
      injection e with e
      injection e with e _
      injection e with e _
      injection e with e
      exact Int.ofNat.inj e
    rw [this]
  | non => cases e
  | bl b => cases e
  | int i => cases e
  | str x => cases e
  | lst => cases e
  | tup => cases e
  | dct => cases e
def pCat (a b : PTE Γ) (ρ : List Sl) (g : Γ) (Q : PyData → Γ → Prop) : Prop := a ρ g fun x g1 => b ρ g1 fun y g2 => ∃ xs ys, x = .list xs ∧ y = .list ys ∧ xs.length + ys.length ≤ 1000000 ∧ Q (.list (xs ++ ys)) g2
def pListF (a : PTE Γ) (ρ : List Sl) (g : Γ) (Q : PyData → Γ → Prop) : Prop := a ρ g fun x g1 => ∃ xs, seqD x = some xs ∧ Q (.list xs) g1
theorem vs_dead {st : Stmt} : VS X F st (fun _ _ _ => False) := ⟨fun _ _ _ => False, ⟨fun _ _ _ _ _ _ h => h.elim⟩, fun {W H0 os σ H ρ g D D'} k d h => h⟩
def truD : PyData → Option Bool
  | .none => some false
  | .bool b => some b
  | .int i => some (i != 0)
  | .list xs => some (!xs.isEmpty)
  | .tuple xs => some (!xs.isEmpty)
  | _ => none
def pTru (T : PTE Γ) (ρ : List Sl) (g : Γ) (Q : Bool → Γ → Prop) : Prop := T ρ g fun d g1 => ∃ b, truD d = some b ∧ Q b g1
structure Shw (d : PyData) (b k : Nat) : Prop where
  sh : d.showable = true
  lv : d.leavesShort 1001 = true
  bk : d.bulk ≤ b
  dp : d.depth ≤ k
  nd : d.hasDict = false
theorem shw_int {i : Int} (h : i.natAbs < 2 ^ 1000) : Shw (.int i) 0 0 :=
  ⟨decide_eq_true (Nat.lt_trans (log_big h) (by decide)), decide_eq_true (int_text h), Nat.le_refl _, Nat.le_refl _, rfl⟩
theorem shw_str {x : Str} {n : Nat} (h : (x.cps.toList.all fun c => decide (c < 16 ^ 8)) = true) (hn : x.cps.size ≤ n) : Shw (.str x) n 0 := ⟨rfl, h, hn, Nat.le_refl _, rfl⟩
theorem Shw.mono {d : PyData} {b b' k k' : Nat} (h : Shw d b k) (hb : b ≤ b') (hk : k ≤ k') : Shw d b' k' := ⟨h.sh, h.lv, Nat.le_trans h.bk hb, Nat.le_trans h.dp hk, h.nd⟩
theorem shw_all {b k : Nat} : ∀ {ds : List PyData}, (∀ d ∈ ds, Shw d b k) → PyData.showableAll ds = true ∧ PyData.leavesShortAll 1001 ds = true ∧ PyData.bulkAll ds ≤ (b + 1) * ds.length ∧ PyData.depthAll ds ≤ k ∧ PyData.hasDictAll ds = false
  | [], _ => ⟨rfl, rfl, Nat.le_refl _, Nat.zero_le _, rfl⟩
  | d :: ds, h => by
    obtain ⟨h1, h2, h3, h4, h5⟩ := shw_all fun e he => h e (List.mem_cons.mpr (.inr he))
    have hd := h d (List.mem_cons.mpr (.inl rfl))
    refine ⟨?_, ?_, ?_, ?_, ?_⟩
    · show (d.showable && PyData.showableAll ds) = true
      rw [hd.sh, h1]; rfl
    · show (d.leavesShort 1001 && PyData.leavesShortAll 1001 ds) = true
      rw [hd.lv, h2]; rfl
    · show d.bulk + 1 + PyData.bulkAll ds ≤ (b + 1) * (ds.length + 1)
      rw [Nat.mul_succ]
      have := hd.bk
      omega
    · show max d.depth (PyData.depthAll ds) ≤ k
      have := hd.dp
      omega
    · show (d.hasDict || PyData.hasDictAll ds) = false
      rw [hd.nd, h5]; rfl
theorem shw_tup {ds : List PyData} {b k : Nat} (h : ∀ d ∈ ds, Shw d b k) : Shw (.tuple ds) ((b + 1) * ds.length) (k + 1) := by
  obtain ⟨h1, h2, h3, h4, h5⟩ := shw_all h
  refine ⟨by simpa [PyData.showable] using h1, by simpa [PyData.leavesShort] using h2, by simpa [PyData.bulk] using h3, ?_, by simpa [PyData.hasDict] using h5⟩
  simp only [PyData.depth]
  omega
theorem shw_lst {ds : List PyData} {b k : Nat} (h : ∀ d ∈ ds, Shw d b k) : Shw (.list ds) ((b + 1) * ds.length) (k + 1) := by
  obtain ⟨h1, h2, h3, h4, h5⟩ := shw_all h
  refine ⟨by simpa [PyData.showable] using h1, by simpa [PyData.leavesShort] using h2, by simpa [PyData.bulk] using h3, ?_, by simpa [PyData.hasDict] using h5⟩
  simp only [PyData.depth]
  omega
def Rpr (d : PyData) : Prop := (d.hasDict = false ∨ d = .dict []) ∧ d.showable = true ∧ d.depth ≤ 60 ∧ d.shown.length ≤ sizeLine
theorem Shw.rpr {d : PyData} {b k : Nat} (h : Shw d b k) (hb : b ≤ 16000) (hk : k ≤ 60) : Rpr d := by
  refine ⟨.inl h.nd, h.sh, Nat.le_trans h.dp hk, ?_⟩
  have := PyData.shown_le_bulk 1001 (by decide) d h.lv
  have h2 := h.bk
  have h3 : (1001 + 2) * d.bulk ≤ 1003 * 16000 := Nat.mul_le_mul_left _ (Nat.le_trans h2 hb)
  rw [sizeLine_eq]
  omega
theorem pickD {p : PyData → Prop} {ds : List PyData} {r : Int} (r0 : 0 ≤ r) (r1 : r < (ds.length : Int)) (h : ∀ z ∈ ds, p z) : ∃ z, atI ds r = some z ∧ p z := by
  obtain ⟨n, rfl⟩ : ∃ n : Nat, r = n := ⟨r.toNat, by omega⟩
  have hn : n < ds.length := by omega
  exact ⟨ds[n], atI_nat (List.getElem?_eq_getElem hn), h _ (List.getElem_mem hn)⟩
def sv : Option PyData → Sl
  | none => .no
  | some d => .val d
def Inw (p : List Sl → Γ → Prop) (ρ : List Sl) (g : Γ) : Prop := p ρ g
theorem for_ok {Ti : PTI Γ} {G : PTG} {B : PTS Γ} {D : PEnds Γ} {ρ : List Sl} {g : Γ} (items : List PyData) (g1 : Γ) (hT : ∀ Q : List PyData → Γ → Prop, Q items g1 → Ti ρ g Q) (I : Nat → List Sl → Γ → Prop) (h0 : I 0 ρ g1)
    (hs : ∀ i d ρ g, items[i]? = some d → I i ρ g → G d ρ fun ρ2 => B { D with nx := Inw (I (i + 1)), ct := Inw (I (i + 1)), bk := D.nx } ρ2 g) (hd : ∀ ρ g, I items.length ρ g → D.nx ρ g) : pFor Ti G B D ρ g := hT _ ⟨I, h0, hs, hd⟩
theorem rng_at {lo : Int} {n i : Nat} {d : PyData} (h : (rngD lo n)[i]? = some d) : i < n ∧ d = .int (lo + (i : Int)) := by
  have hi : i < n := by
    have := (List.getElem?_eq_some_iff.mp h).1
    simpa [rngD] using this
  refine ⟨hi, ?_⟩
  rw [rngD, List.getElem?_map, List.getElem?_range hi] at h
  exact (Option.some.inj h).symm
theorem rng_len (lo : Int) (n : Nat) : (rngD lo n).length = n := by simp [rngD]
theorem sq_share {t u : PTS Γ} {D : PEnds Γ} {ρ : List Sl} {g : Γ} (I : List Sl → Γ → Prop) (tail : ∀ ρ' g', I ρ' g' → Tl u D ρ' g') (main : (∀ ρ' g', I ρ' g' → Tl u D ρ' g') → pSq t u D ρ g) : pSq t u D ρ g := main tail
theorem wh_ok {C : PTT Γ} {B : PTS Γ} {D : PEnds Γ} {ρ : List Sl} {g : Γ} (I : Nat → List Sl → Γ → Prop) (m0 : Nat) (h0 : I m0 ρ g)
    (hs : ∀ m ρ g, I m ρ g → C (ρ.map frz) g fun b g1 => if b = true then B { D with nx := Inw fun ρ' g' => ∃ m', m' < m ∧ I m' ρ' g', ct := Inw fun ρ' g' => ∃ m', m' < m ∧ I m' ρ' g', bk := D.nx } ρ g1 else D.nx ρ g1) : pWhile C B D ρ g := ⟨I, ⟨m0, h0⟩, hs⟩
theorem lc_ok {Ti : PTI Γ} {G : PTG} {tt : PTT Γ} {te : PTE Γ} {vs : List Nat} {ρ : List Sl} {g : Γ} {Q : PyData → Γ → Prop} (no : noOwns ρ vs = true) (items : List PyData) (g1 : Γ) (hT : ∀ Q : List PyData → Γ → Prop, Q items g1 → Ti ρ g Q) (I : Nat → List PyData → Γ → Prop) (h0 : I 0 [] g1)
    (hs : ∀ i d acc g2, items[i]? = some d → I i acc g2 → G d (pwipe ρ vs) fun ρ2 => tt ρ2 g2 fun b g3 => if b = true then te ρ2 g3 fun y g4 => acc.length < 1000000 ∧ I (i + 1) (acc ++ [y]) g4 else I (i + 1) acc g3) (hd : ∀ acc g2, I items.length acc g2 → Q (.list acc) g2) : pLc Ti G tt te vs ρ g Q := ⟨no, hT _ ⟨I, h0, hs, hd⟩⟩
def canS (F : Frm Γ) (U : PTS Γ) : TS := fun D σ H => ∃ (W : Addr → Prop) (H0 : Hp) (os : List Addr) (ρ : List Sl) (g : Γ) (D' : PEnds Γ), Okk F W H0 os σ H ρ g ∧ Dok F W H0 D D' ∧ U D' ρ g
theorem VSs.can {sts : List Stmt} {U : PTS Γ} (h : VSs X F sts U) : PSs X sts (canS F U) := by
  obtain ⟨t, h1, h2⟩ := h
  refine ⟨fun pins s σ H D I hc => ?_⟩
  obtain ⟨W, H0, os, ρ, g, D', k, d, hU⟩ := hc
  exact h1.run pins s σ H D I (h2 k d hU)
theorem pss_ex {ι : Type} {sts : List Stmt} {t : ι → TS} (h : ∀ i, PSs X sts (t i)) : PSs X sts (fun D σ H => ∃ i, t i D σ H) := ⟨fun pins s σ H D I hc => let ⟨i, hi⟩ := hc; (h i).run pins s σ H D I hi⟩
end Pv
set_option Elab.async false
set_option linter.all false
set_option maxRecDepth 100000
set_option maxHeartbeats 4000000
namespace Z3
open PySem PySem.Spec PyProof.Rows L2
section
variable {prog : Program} {w : World} {A : Around} {E : Value → Shared → Prop} {s : Shared}
end
end Z3
set_option Elab.async false
set_option linter.all false
set_option maxRecDepth 100000
set_option maxHeartbeats 4000000
namespace Pv
open PySem PySem.Spec PyProof.Rows L2 Cm GxR
structure Px (K : PySem.W.Frag) (d a : Addr) (Bs : List Addr) (ns : List Int) (tr : Prop) : Prop where
  db : d ∉ Bs
  da : tr → a ≠ d
  ab : tr → a ∉ Bs
  sq : ¬ tr → ∀ H : Hp, SqL K H a (ns.map V.int)
  tb : Bs.Nodup
def lpF {K : PySem.W.Frag} {d a : Addr} {Bs : List Addr} {ns : List Int} {tr : Prop} (x : Px K d a Bs ns tr) : Frm (Int × Int) where
  S b := b = d ∨ b ∈ Bs ∨ (b = a ∧ tr)
  Ok g H := H d = some (.lst [.ref a, .int g.1, .int g.2]) ∧ SqL K H a (ns.map V.int) ∧ (∀ B ∈ Bs, TabG H B) ∧ (tr → ∃ z, H a = some z ∧ nT z)
  keep := by
    rintro g H H' ⟨h1, s, h2, h3⟩ k _
    refine ⟨k _ _ (.inl rfl) h1, ?_, fun B hB => ?_, fun t => ?_⟩
    · by_cases t : tr
      · rcases s with (s | ⟨o, s⟩) | s
        · exact .inl (.inl (k _ _ (.inr (.inr ⟨rfl, t⟩)) s))
        · exact .inl (.inr ⟨o, k _ _ (.inr (.inr ⟨rfl, t⟩)) s⟩)
        · exact .inr s
      · exact x.sq t H'
    · obtain ⟨ps, h4, o⟩ := h2 B hB
      exact ⟨ps, k _ _ (.inr (.inl hB)) h4, o⟩
    · obtain ⟨z, hz, hn⟩ := h3 t
      exact ⟨z, k _ _ (.inr (.inr ⟨rfl, t⟩)) hz, hn⟩
  has := by
    rintro g H b ⟨h1, s, h2, h3⟩ hb
    rcases hb with rfl | hB | ⟨rfl, t⟩
    · exact ⟨_, h1, fun xs z => by cases z⟩
    · obtain ⟨ps, h4, o⟩ := h2 b hB
      exact ⟨_, h4, fun xs z => by cases z⟩
    · exact h3 t
section
variable {K : PySem.W.Frag} {d a : Addr} {Bs : List Addr} {ns : List Int} {tr : Prop} (x : Px K d a Bs ns tr)
variable {X : Cx} {pos : Pos}
def pPen (d : Addr) (i : Nat) (f : Int × Int → Int) (ρ : List Sl) (g : Int × Int) (Q : PyData → Int × Int → Prop) : Prop := ρ[i]? = some (.val (ptrD d)) ∧ Q (.int (f g)) g
theorem ve_pen1 {y : Str} {j : Nat} {i : Nat} {p1 p2 : Pos} (hN : X.N[i]? = some y) (hv : Vis X.env.scope y) (hd : (y == ("__debug__" : Str)) = false := by decide) (hcd : (y == ("__classdict__" : Str)) = false := by decide) :
    VE X (lpF x) (.Subscript (.Name y p1) (.Constant (.int 1) j p2) pos) (pPen d i fun g => g.1) := by
  refine ⟨_, pe_ix ix_list (pe_var hN hv hd hcd) pe_int (fun _ _ => rfl), fun {W H0 os σ H ρ g Q Q'} k h q => ?_⟩
  obtain ⟨hi, h⟩ := h
  obtain ⟨v, hv, r⟩ := k.env.get hi
  have e := ptr_rp r
  subst e
  exact ⟨_, hv, _, _, _, _, rfl, rfl, SqL.of k.st.1, atI_nat (j := 1) rfl, q _ H _ g (Mv.refl _ _) k.st (.int _) h⟩
theorem ve_pen2 {y : Str} {j : Nat} {i : Nat} {p1 p2 : Pos} (hN : X.N[i]? = some y) (hv : Vis X.env.scope y) (hd : (y == ("__debug__" : Str)) = false := by decide) (hcd : (y == ("__classdict__" : Str)) = false := by decide) :
    VE X (lpF x) (.Subscript (.Name y p1) (.Constant (.int 2) j p2) pos) (pPen d i fun g => g.2) := by
  refine ⟨_, pe_ix ix_list (pe_var hN hv hd hcd) pe_int (fun _ _ => rfl), fun {W H0 os σ H ρ g Q Q'} k h q => ?_⟩
  obtain ⟨hi, h⟩ := h
  obtain ⟨v, hv, r⟩ := k.env.get hi
  have e := ptr_rp r
  subst e
  exact ⟨_, hv, _, _, _, _, rfl, rfl, SqL.of k.st.1, atI_nat (j := 2) rfl, q _ H _ g (Mv.refl _ _) k.st (.int _) h⟩
def pPenL (d : Addr) (ns : List Int) (i : Nat) (ρ : List Sl) (g : Int × Int) (Q : PyData → Int × Int → Prop) : Prop := ρ[i]? = some (.val (ptrD d)) ∧ Q (.int ns.length) g
theorem ve_penL {y : Str} {j : Nat} {i : Nat} {p1 p2 p3 p4 : Pos} (hg : Gl X "len") (hm : X.mg "len" = none) (hK : X.K = K) (hN : X.N[i]? = some y) (hv : Vis X.env.scope y) (hs : starEach [.Subscript (.Name y p1) (.Constant (.int 0) j p2) p3] X.env = [(false, eval (.Subscript (.Name y p1) (.Constant (.int 0) j p2) p3) X.env)] := by rfl)
    (hd : (y == ("__debug__" : Str)) = false := by decide) (hcd : (y == ("__classdict__" : Str)) = false := by decide) :
    VE X (lpF x) (.Call (.Name "len" p4) [.Subscript (.Name y p1) (.Constant (.int 0) j p2) p3] [] pos) (pPenL d ns i) := by
  subst hK
  refine ⟨_, pe_callB call_len_seq hg hm (by decide +kernel) (pa_cons (pe_ix ix_list (pe_var hN hv hd hcd) pe_int (fun _ _ => rfl)) pa_nil hs) (by decide) (by decide) hs rfl, fun {W H0 os σ H ρ g Q Q'} k h q => ?_⟩
  obtain ⟨hi, h⟩ := h
  obtain ⟨v, hv, r⟩ := k.env.get hi
  have e := ptr_rp r
  subst e
  refine ⟨_, hv, _, _, _, _, rfl, rfl, SqL.of k.st.1, atI_nat (j := 0) rfl, _, _, rfl, .inl k.st.2.1, ?_⟩
  rw [List.length_map]
  exact q _ H _ g (Mv.refl _ _) k.st (.int _) h
def pPenI (d : Addr) (ns : List Int) (i : Nat) (T : PTE (Int × Int)) (ρ : List Sl) (g : Int × Int) (Q : PyData → Int × Int → Prop) : Prop := ρ[i]? = some (.val (ptrD d)) ∧ T ρ g fun e g1 => ∃ (n : Nat) (z : Int), e = .int n ∧ ns[n]? = some z ∧ Q (.int z) g1
theorem ve_penI {y : Str} {j : Nat} {i : Nat} {p1 p2 p3 : Pos} {e : Expr} {T : PTE (Int × Int)} (hK : X.K = K) (hN : X.N[i]? = some y) (hv : Vis X.env.scope y) (he : VE X (lpF x) e T) (hx : PlainIx e) (hd : (y == ("__debug__" : Str)) = false := by decide) (hcd : (y == ("__classdict__" : Str)) = false := by decide) :
    VE X (lpF x) (.Subscript (.Subscript (.Name y p1) (.Constant (.int 0) j p2) p3) e pos) (pPenI d ns i T) := by
  subst hK
  obtain ⟨t, a1, a2⟩ := he
  refine ⟨_, pe_ix ix_list (pe_ix ix_list (pe_var hN hv hd hcd) pe_int (fun _ _ => rfl)) a1 hx, fun {W H0 os σ H ρ g Q Q'} k h q => ?_⟩
  obtain ⟨hi, h⟩ := h
  obtain ⟨v, hv, r⟩ := k.env.get hi
  have e := ptr_rp r
  subst e
  refine ⟨_, hv, _, _, _, _, rfl, rfl, SqL.of k.st.1, atI_nat (j := 0) rfl, a2 k h fun u H1 de g1 m s r1 hq => ?_⟩
  obtain ⟨n, z, rfl, hz, hq⟩ := hq
  cases r1
  exact ⟨_, _, _, _, rfl, rfl, s.2.1, atI_nat (j := n) (by rw [List.getElem?_map, hz]; rfl), q _ H1 _ g1 m s (.int _) hq⟩
def pPenS (d : Addr) (i : Nat) (f : Int × Int → Int → Int × Int) (T : PTE (Int × Int)) (D : PEnds (Int × Int)) (ρ : List Sl) (g : Int × Int) : Prop := ρ[i]? = some (.val (ptrD d)) ∧ T ρ g fun e g1 => ∃ z : Int, e = .int z ∧ D.nx ρ (f g1 z)
theorem okk_pen {W : Addr → Prop} {H0 H : Hp} {os : List Addr} {σ : L2.St} {ρ : List Sl} {g g' : Int × Int} (k : Okk (lpF x) W H0 os σ H ρ g) : Okk (lpF x) W H0 os σ (upd H d (.lst [.ref a, .int g'.1, .int g'.2])) ρ g' := by
  have m : Mv (lpF x).S H (upd H d (.lst [.ref a, .int g'.1, .int g'.2])) := fun b z n e => by
    rw [upd_ne (fun w => n (.inl w))]
    exact e
  refine k.move m ⟨upd_same, ?_, fun B hB => ?_, fun t => ?_⟩
  · by_cases t : tr
    · have ne := x.da t
      rcases k.st.2.1 with (s | ⟨o, s⟩) | s
      · exact .inl (.inl (by rw [upd_ne ne]; exact s))
      · exact .inl (.inr ⟨o, by rw [upd_ne ne]; exact s⟩)
      · exact .inr s
    · exact x.sq t _
  · obtain ⟨ps, h4, o⟩ := k.st.2.2.1 B hB
    exact ⟨ps, by rw [upd_ne (fun w => x.db (by rw [← w]; exact hB))]; exact h4, o⟩
  · obtain ⟨z, hz, hn⟩ := k.st.2.2.2 t
    exact ⟨z, by rw [upd_ne (x.da t)]; exact hz, hn⟩
theorem vs_pen1 {y : Str} {j : Nat} {i : Nat} {p1 p2 p3 : Pos} {e : Expr} {T : PTE (Int × Int)} (he : VE X (lpF x) e T) (hp : ∀ {te : TE}, PE X e te → PS X (.Assign [.Subscript (.Name y p1) (.Constant (.int 1) j p2) p3] e pos) (tAsg te (gSub (tVar i) (tC (.int 1)) rSetL))) :
    VS X (lpF x) (.Assign [.Subscript (.Name y p1) (.Constant (.int 1) j p2) p3] e pos) (pPenS d i (fun g z => (z, g.2)) T) := by
  obtain ⟨t, a1, a2⟩ := he
  refine ⟨_, hp a1, fun {W H0 os σ H ρ g D D'} k dd h => ?_⟩
  obtain ⟨hi, h⟩ := h
  refine a2 k h fun u H1 de g1 m s r1 hq => ?_
  obtain ⟨z, rfl, hq⟩ := hq
  cases r1
  have k1 := k.move m s
  obtain ⟨v, hv, r⟩ := k1.env.get hi
  have e := ptr_rp r
  subst e
  exact ⟨_, hv, d, _, _, 1, rfl, rfl, s.1, rfl, dd.nx os σ _ ρ _ (okk_pen x (g' := (z, g1.2)) k1) hq⟩
theorem vs_pen2 {y : Str} {j : Nat} {i : Nat} {p1 p2 p3 : Pos} {e : Expr} {T : PTE (Int × Int)} (he : VE X (lpF x) e T) (hp : ∀ {te : TE}, PE X e te → PS X (.Assign [.Subscript (.Name y p1) (.Constant (.int 2) j p2) p3] e pos) (tAsg te (gSub (tVar i) (tC (.int 2)) rSetL))) :
    VS X (lpF x) (.Assign [.Subscript (.Name y p1) (.Constant (.int 2) j p2) p3] e pos) (pPenS d i (fun g z => (g.1, z)) T) := by
  obtain ⟨t, a1, a2⟩ := he
  refine ⟨_, hp a1, fun {W H0 os σ H ρ g D D'} k dd h => ?_⟩
  obtain ⟨hi, h⟩ := h
  refine a2 k h fun u H1 de g1 m s r1 hq => ?_
  obtain ⟨z, rfl, hq⟩ := hq
  cases r1
  have k1 := k.move m s
  obtain ⟨v, hv, r⟩ := k1.env.get hi
  have e := ptr_rp r
  subst e
  exact ⟨_, hv, d, _, _, 2, rfl, rfl, s.1, rfl, dd.nx os σ _ ρ _ (okk_pen x (g' := (g1.1, z)) k1) hq⟩
end
section
variable {Γ : Type} {X : Cx} {F : Frm Γ} {pos : Pos}
end
end Pv
set_option Elab.async false
set_option linter.all false
set_option maxRecDepth 100000
set_option maxHeartbeats 4000000
namespace SL
open PySem PySem.Spec PyProof.Rows L2
section
variable {P : Program} {w : World} {A : Around} {E : Value → Shared → Prop} {s : Shared}
end
end SL
set_option Elab.async false
set_option linter.all false
set_option maxRecDepth 100000
set_option maxHeartbeats 4000000
namespace SL
open PySem PySem.Spec PyProof.Rows L2
section
variable {X : Cx}
end
end SL
set_option Elab.async false
set_option linter.all false
set_option maxRecDepth 100000
set_option maxHeartbeats 4000000
namespace SL
open PySem PySem.Spec PyProof.Rows L2
section
variable {P : Program} {w : World} {A : Around} {E : Value → Shared → Prop} {s : Shared} {a : Addr}
end
section
variable {X : Cx}
end
end SL
set_option Elab.async false
set_option linter.all false
set_option maxRecDepth 100000
set_option maxHeartbeats 4000000
namespace Pv
open PySem PySem.Spec PyProof.Rows L2 Cm GxR SL
section
variable {Γ : Type} {F : Frm Γ} {X : Cx} {pos : Pos}
end
end Pv
set_option Elab.async false
set_option linter.all false
set_option maxRecDepth 100000
set_option maxHeartbeats 4000000
namespace Cm
open PySem PySem.Spec PyProof.Rows L2
end Cm
set_option Elab.async false
set_option linter.all false
set_option maxRecDepth 100000
set_option maxHeartbeats 4000000
namespace Pv
open PySem PySem.Spec PyProof.Rows L2 Cm GxR
section
variable {Γ : Type} {F : Frm Γ} {X : Cx} {pos : Pos}
end
end Pv
set_option Elab.async false
set_option linter.all false
set_option maxRecDepth 100000
set_option maxHeartbeats 4000000
namespace Cm
open PySem PySem.Spec PyProof.Rows L2 GxR
structure GenF (N0 : List Str) (sc scope : Scope) (N : List Str) (nt : Nat) (fr : List Nat) : Prop where
  kind : scope.kind = .function
  co : scope.isCoroutine = false
  cell : ∀ y ∈ scope.names, y.2 ≠ .cell
  dot : scope.names.lookup (".0" : Str) = some NameKind.local
  free : ∀ y ∈ scope.names, y.2 = .free → sc.names.lookup y.1 = some .cell ∨ sc.names.lookup y.1 = some .free
  len : N.length = nt + fr.length
  at_ : ∀ (i j : Nat), fr[i]? = some j → ∃ y, N[nt + i]? = some y ∧ N0[j]? = some y ∧ scope.names.lookup y = some .free
def gStart (nt : Nat) (fr : List Nat) (σ : L2.St) : L2.St := List.replicate nt none ++ fr.map fun j => (σ[j]?).join
section
variable {X : Cx} {pins : List (Addr × Obj)} {σ : L2.St} {H : Hp} {s : Shared}
theorem Inv.gens {G : Array GenState} {t' : Nat} (I : Inv X pins σ H s) (h : AllBare G) : Inv X pins σ H { s with gens := G, toks := t' } :=
  ⟨I.ok, I.os, h, I.base, I.loc, I.cell, I.free, I.freeC, I.pin, I.hok, I.len⟩
end
section
variable {prog : Program} {w : World} {A : Around}
end
section
variable {X : Cx}
end
section
variable {X : Cx}
end
end Cm
set_option Elab.async false
set_option linter.all false
set_option maxRecDepth 100000
set_option maxHeartbeats 4000000
namespace Pv
open PySem PySem.Spec PyProof.Rows L2 Cm GxR
def slV : Option Sl → Sl
  | some (.val d) => .val d
  | _ => .no
def gSlots (nt : Nat) (fr : List Nat) (ρ : List Sl) : List Sl := List.replicate nt .no ++ fr.map fun j => slV (ρ[j]?)
theorem Eok.gen {Z : Addr → Prop} {H : Hp} {σ : L2.St} {ρ : List Sl} {os : List Addr} (e : Eok Z H σ ρ os) (nt : Nat) (fr : List Nat) : Eok Z H (gStart nt fr σ) (gSlots nt fr ρ) [] := by
  have rest : ∀ l : List Nat, Eok Z H (l.map fun j => (σ[j]?).join) (l.map fun j => slV (ρ[j]?)) [] := by
    intro l
    induction l with
    | nil => exact .nil
    | cons j l ih =>
      show Eok Z H ((σ[j]?).join :: _) (slV (ρ[j]?) :: _) []
      cases hj : ρ[j]? with
      | none => exact .no ih
      | some x =>
        cases x with
        | no => exact .no ih
        | own xs => exact .no ih
        | val d =>
          obtain ⟨v, hv, r⟩ := e.get hj
          rw [hv]
          exact .val r ih
  unfold gStart gSlots
  induction nt with
  | zero => exact rest fr
  | succ n ih => exact .no ih
section
variable {Γ : Type} {X : Cx} {F : Frm Γ} {pos : Pos}
structure TabF (F : Frm Γ) (B : Addr) : Prop where
  has : ∀ {g : Γ} {H : Hp}, F.Ok g H → TabG H B
  mv : ∀ {g : Γ} {H H' : Hp}, F.Ok g H → Tabbed B H H' → Mv F.S H H' ∧ F.Ok g H'
end
end Pv
set_option Elab.async false
set_option linter.all false
set_option maxRecDepth 100000
set_option maxHeartbeats 4000000
namespace Pv
open PySem PySem.Spec PyProof.Rows L2 Cm GxR
structure Dx (d a : Addr) (Bs : List Addr) : Prop where
  da : a ≠ d
  db : d ∉ Bs
  ab : a ∉ Bs
section
variable {K : PySem.W.Frag} {d a : Addr} {Bs : List Addr} {ns : List Int} (x : Dx d a Bs)
variable {X : Cx} {pos : Pos}
end
end Pv
set_option Elab.async false
set_option linter.all false
set_option maxRecDepth 100000
set_option maxHeartbeats 4000000
namespace Pv
open PySem PySem.Spec PyProof.Rows L2 Cm GxR
def pl : Nat → PyData → Bool
  | _, .int _ => true
  | n + 1, .list xs => xs.all (pl n)
  | n + 1, .tuple xs => xs.all (pl n)
  | _, _ => false
theorem pl_int (n : Nat) (i : Int) : pl n (.int i) = true := by cases n <;> rfl
theorem lay_pl : ∀ (n : Nat) (d : PyData), pl n d = true → d.canLay0 = true ∧ d.depth ≤ n := by
  intro n
  induction n with
  | zero =>
    intro d h
    cases d <;> first | exact ⟨rfl, Nat.le_refl _⟩ | (simp [pl] at h)
  | succ n ih =>
    have all : ∀ xs : List PyData, xs.all (pl n) = true → PyData.canLayAll0 xs = true ∧ PyData.depthAll xs ≤ n := by
      intro xs
      induction xs with
      | nil => intro _; exact ⟨rfl, Nat.zero_le _⟩
      | cons x xs ihx =>
        intro h
        rw [List.all_cons, Bool.and_eq_true] at h
        obtain ⟨a1, a2⟩ := ih x h.1
        obtain ⟨b1, b2⟩ := ihx h.2
        refine ⟨?_, ?_⟩
        · rw [PyData.canLayAll0, a1, b1]; rfl
        · rw [PyData.depthAll]; exact Nat.max_le.mpr ⟨a2, b2⟩
    intro d h
    cases d with
    | int i => exact ⟨rfl, Nat.zero_le _⟩
    | list xs =>
      obtain ⟨a1, a2⟩ := all xs h
      exact ⟨by rw [PyData.canLay0]; exact a1, by rw [PyData.depth]; omega⟩
    | tuple xs =>
      obtain ⟨a1, a2⟩ := all xs h
      exact ⟨by rw [PyData.canLay0]; exact a1, by rw [PyData.depth]; omega⟩
    | none => simp [pl] at h
    | bool _ => simp [pl] at h
    | str _ => simp [pl] at h
    | dict _ => simp [pl] at h
theorem shaped_pl {n : Nat} {d : PyData} (h : pl n d = true) (hn : n ≤ 60 := by decide) : SeqAt.shaped d = true := by
  obtain ⟨a, b⟩ := lay_pl n d h
  unfold SeqAt.shaped
  rw [a, decide_eq_true (by omega)]
  rfl
theorem eqv_pl : ∀ (n m : Nat) (d e : PyData), pl n d = true → pl m e = true → (PyData.eqv d e = true ↔ d = e) := by
  intro n
  induction n with
  | zero =>
    intro m d e h h'
    cases d <;> first | (simp [pl] at h; done) | skip
    cases e <;> first | (simp [pl] at h'; done) | skip
    all_goals first
      | (simp [PyData.eqv]; done)
      | (cases m <;> simp [pl] at h')
  | succ n ih =>
    intro m d e h h'
    have all : ∀ (m : Nat) (xs ys : List PyData), xs.all (pl n) = true → ys.all (pl m) = true → (PyData.eqvAll xs ys = true ↔ xs = ys) := by
      intro m xs
      induction xs with
      | nil => intro ys _ _; cases ys <;> simp [PyData.eqvAll]
      | cons x xs ihx =>
        intro ys h1 h2
        cases ys with
        | nil => simp [PyData.eqvAll]
        | cons y ys =>
          rw [List.all_cons, Bool.and_eq_true] at h1 h2
          rw [PyData.eqvAll, Bool.and_eq_true, ih m x y h1.1 h2.1, ihx ys h1.2 h2.2, List.cons.injEq]
    cases d with
    | int i => cases e <;> first | (simp [PyData.eqv]; done) | (cases m <;> simp [pl] at h')
    | list xs =>
      cases e with
      | list ys =>
        cases m with
        | zero => simp [pl] at h'
        | succ m => rw [PyData.eqv, all m xs ys h h', PyData.list.injEq]
      | int i => simp [PyData.eqv]
      | tuple ys => simp [PyData.eqv]
      | none => simp [PyData.eqv]
      | bool _ => simp [PyData.eqv]
      | str _ => simp [PyData.eqv]
      | dict _ => simp [PyData.eqv]
    | tuple xs =>
      cases e with
      | tuple ys =>
        cases m with
        | zero => simp [pl] at h'
        | succ m => rw [PyData.eqv, all m xs ys h h', PyData.tuple.injEq]
      | int i => simp [PyData.eqv]
      | list ys => simp [PyData.eqv]
      | none => simp [PyData.eqv]
      | bool _ => simp [PyData.eqv]
      | str _ => simp [PyData.eqv]
      | dict _ => simp [PyData.eqv]
    | none => simp [pl] at h
    | bool _ => simp [pl] at h
    | str _ => simp [pl] at h
    | dict _ => simp [pl] at h
theorem eqv_no {n m : Nat} {d e : PyData} (h : pl n d = true) (h' : pl m e = true) (e1 : d ≠ e) : PyData.eqv d e = false := by
  cases z : PyData.eqv d e with
  | false => rfl
  | true => exact absurd ((eqv_pl n m d e h h').mp z) e1
section
variable {Γ : Type} {X : Cx} {F : Frm Γ} {pos : Pos}
end
end Pv
set_option Elab.async false
set_option linter.all false
set_option maxRecDepth 100000
set_option maxHeartbeats 4000000
namespace Pv
open PySem PySem.Spec PyProof.Rows L2 Cm GxR
section
variable {Γ : Type} {X : Cx} {F : Frm Γ} {pos : Pos}
def pLstRg (T : PTE Γ) (ρ : List Sl) (g : Γ) (Q : PyData → Γ → Prop) : Prop := T ρ g fun x g1 => ∃ n : Nat, x = .int (n : Int) ∧ n ≤ 1000000 ∧ Q (.list (rngD 0 n)) g1
def pSqF (T : PTS Γ) (U : (PyData → Γ → Prop) → List Sl → Γ → Prop) (Q : PyData → Γ → Prop) (ρ : List Sl) (g : Γ) : Prop := T { nx := fun ρ' g' => U Q ρ' g', rt := fun _ _ => False, bk := fun _ _ => False, ct := fun _ _ => False } ρ g
def pRetF (i : Nat) (Q : PyData → Γ → Prop) (ρ : List Sl) (g : Γ) : Prop := ∃ xs, ρ[i]? = some (.own xs) ∧ Q (.list xs) g
end
end Pv
namespace Pv
open PySem PySem.Spec PyProof.Rows L2 Cm GxR
section
variable {Γ : Type} {X : Cx} {F : Frm Γ} {pos : Pos}
def pMov (i j : Nat) (D : PEnds Γ) (ρ : List Sl) (g : Γ) : Prop := ∃ xs, ρ[j]? = some (.own xs) ∧ i < ρ.length ∧ D.nx ((ρ.set j .no).set i (.own xs)) g
end
end Pv
set_option linter.all false
namespace H64
def H6 (ms : List Nat) : Prop := ms.length ≤ 6 ∧ ∀ m ∈ ms, 1 ≤ m ∧ m < 2 ^ 128
theorem H6.pos {ms : List Nat} (h : H6 ms) : ∀ m ∈ ms, 1 ≤ m := fun m hm => (h.2 m hm).1
def Th : List Nat → List Nat → Prop
  | [], [] => True
  | m :: ms, t :: ts => t < m ∧ Th ms ts
  | _, _ => False
theorem Th.len : ∀ {ms ts : List Nat}, Th ms ts → ts.length = ms.length
  | [], [], _ => rfl
  | _ :: _, _ :: _, h => by rw [List.length_cons, List.length_cons, h.2.len]
theorem Th.at : ∀ {ms ts : List Nat} {i m t : Nat}, Th ms ts → ms[i]? = some m → ts[i]? = some t → t < m
  | m :: ms, t :: ts, 0, _, _, h, e1, e2 => by
    cases e1
    cases e2
    exact h.1
  | m :: ms, t :: ts, i + 1, _, _, h, e1, e2 => Th.at (i := i) h.2 e1 e2
def sm (L : Nat) : List Nat → List Nat → List Nat → Nat
  | x :: xs, y :: ys, m :: ms => x * y * (L / m) + sm L xs ys ms
  | _, _, _ => 0
end H64
set_option Elab.async false
set_option linter.all false
set_option maxRecDepth 100000
set_option maxHeartbeats 4000000
namespace Pv
open PySem PySem.Spec PyProof.Rows L2 Cm GxR H64
abbrev ivD (l : List Int) : PyData := .tuple (l.map PyData.int)
theorem ofMap {α : Type} {f : α → PyData} {l : List α} {i : Nat} {dd : PyData} (h : (l.map f)[i]? = some dd) : ∃ n, l[i]? = some n ∧ dd = f n := by
  rw [List.getElem?_map] at h
  cases e : l[i]? with
  | none => rw [e] at h; cases h
  | some n =>
    rw [e] at h
    exact ⟨n, rfl, (Option.some.inj h).symm⟩
theorem take_snoc {α : Type} {l : List α} {i : Nat} {v : α} (h : l[i]? = some v) : l.take (i + 1) = l.take i ++ [v] := by
  rw [List.take_succ, h]
  rfl
theorem pl_ints (k : Nat) (l : List Int) : (l.map PyData.int).all (pl k) = true := by
  rw [List.all_eq_true]
  intro d hd
  obtain ⟨i, _, rfl⟩ := List.mem_map.mp hd
  exact pl_int k i
theorem pl_ivD (k : Nat) (l : List Int) : pl (k + 1) (ivD l) = true := by
  show (l.map PyData.int).all (pl k) = true
  exact pl_ints k l
theorem pl_map {α : Type} {f : α → PyData} {k : Nat} {l : List α} (h : ∀ x ∈ l, pl k (f x) = true) : (l.map f).all (pl k) = true := by
  rw [List.all_eq_true]
  intro d hd
  obtain ⟨x, hx, rfl⟩ := List.mem_map.mp hd
  exact h x hx
end Pv
set_option Elab.async false
set_option linter.all false
set_option maxRecDepth 100000
set_option maxHeartbeats 4000000
namespace Pv
open PySem PySem.Spec PyProof.Rows L2 Cm GxR H64
structure Nx (d : Addr) (Bs : List Addr) : Prop where
  db : d ∉ Bs
def npF {d : Addr} {Bs : List Addr} (x : Nx d Bs) : Frm (List Int) where
  S b := b = d ∨ b ∈ Bs
  Ok g H := H d = some (.lst (g.map V.int)) ∧ ∀ B ∈ Bs, TabG H B
  keep := by
    rintro g H H' ⟨h1, h2⟩ k _
    refine ⟨k _ _ (.inl rfl) h1, fun B hB => ?_⟩
    obtain ⟨ps, h4, o⟩ := h2 B hB
    exact ⟨ps, k _ _ (.inr hB) h4, o⟩
  has := by
    rintro g H b ⟨h1, h2⟩ hb
    rcases hb with rfl | hB
    · exact ⟨_, h1, fun xs z => by cases z⟩
    · obtain ⟨ps, h4, o⟩ := h2 b hB
      exact ⟨_, h4, fun xs z => by cases z⟩
section
variable {d : Addr} {Bs : List Addr} (x : Nx d Bs)
variable {X : Cx} {pos : Pos}
def pNp (d : Addr) (i j : Nat) (ρ : List Sl) (g : List Int) (Q : PyData → List Int → Prop) : Prop := ρ[i]? = some (.val (ptrD d)) ∧ ∃ z, g[j]? = some z ∧ Q (.int z) g
def pNpS (d : Addr) (i j : Nat) (T : PTE (List Int)) (D : PEnds (List Int)) (ρ : List Sl) (g : List Int) : Prop := ρ[i]? = some (.val (ptrD d)) ∧ T ρ g fun e g1 => ∃ z : Int, e = .int z ∧ j < g1.length ∧ D.nx ρ (g1.set j z)
end
section
variable {Γ : Type} {X : Cx} {F : Frm Γ} {pos : Pos}
def allD (ds : List PyData) (Q : PyData → Prop) : Prop := match ds with
  | [.list xs] => ∃ bs : List Bool, xs = bs.map PyData.bool ∧ Q (.bool (bs.all id))
  | _ => False
def anyD (ds : List PyData) (Q : PyData → Prop) : Prop := match ds with
  | [.list xs] => ∃ bs : List Bool, xs = bs.map PyData.bool ∧ Q (.bool (bs.any id))
  | _ => False
def intD (ds : List PyData) (Q : PyData → Prop) : Prop := match ds with
  | [.int i] => Q (.int i)
  | [.bool b] => Q (.int (if b then 1 else 0))
  | _ => False
theorem vc_int : VCall X (.type "int") intD := by
  refine ⟨_, call_int1, fun {Z H xs ds Q Q'} dom r h q => ?_⟩
  unfold intD at h
  split at h
  · cases r with
    | cons r1 r2 =>
      cases r2
      cases r1
      exact .inl ⟨_, rfl, q _ H _ (Same.refl _) (.int _) h⟩
  · cases r with
    | cons r1 r2 =>
      cases r2
      cases r1
      exact .inr ⟨_, rfl, q _ H _ (Same.refl _) (.int _) h⟩
  · exact h.elim
def boolD (ds : List PyData) (Q : PyData → Prop) : Prop := match ds with
  | [.int i] => Q (.bool (i != 0))
  | [.bool b] => Q (.bool b)
  | _ => False
def mulT (d : PyData) (e : PyData) (Q : PyData → Prop) : Prop := match d, e with
  | .tuple a, .int j => a ≠ [] ∧ 2 ≤ j ∧ j ≤ 1000 ∧ a.length ≤ 1000 ∧ Q (.tuple (List.replicate j.toNat a).flatten)
  | _, _ => False
end
section
variable {Γ : Type} {X : Cx} {F : Frm Γ} {pos : Pos}
def pOrI (T U : PTI Γ) (ρ : List Sl) (g : Γ) (Q : List PyData → Γ → Prop) : Prop := T ρ g Q ∨ U ρ g Q
end
def np : Nat → PyData → Bool
  | 0, d => !isPtr d
  | k + 1, .list xs => xs.all (np k)
  | k + 1, .tuple xs => xs.all (np k)
  | _ + 1, d => !isPtr d
def Sn (c : Int) (g : List Int) : Prop := ∃ p q n : Int, g = [p, q, n] ∧ 0 ≤ q ∧ q < 2 ^ 40 ∧ 0 ≤ n ∧ n ≤ c
theorem Sn.mono {c c' : Int} {g : List Int} (h : Sn c g) (hc : c ≤ c') : Sn c' g := let ⟨p, q, n, e, a, b, l, m⟩ := h; ⟨p, q, n, e, a, b, l, Int.le_trans m hc⟩
theorem sql_same {K : PySem.W.Frag} {H H' : Hp} {a : Addr} {xs : List V} (s : Same H H') (h : SqL K H a xs) : SqL K H' a xs := by
  rcases h with (z | ⟨o, z⟩) | z
  · exact .inl (.inl (s _ _ z))
  · exact .inl (.inr ⟨o, s _ _ z⟩)
  · exact .inr z
def LawSt (K : PySem.W.Frag) (a : Addr) (ns : List Int) (Bs : List Addr) (H : Hp) : Prop := SqL K H a (ns.map V.int) ∧ ∀ B ∈ Bs, TabG H B
structure NxI (Bs : List Addr) where
  d : Addr
  x : Nx d Bs
theorem LawSt.same {K : PySem.W.Frag} {a : Addr} {ns : List Int} {Bs : List Addr} {H H' : Hp} (h : LawSt K a ns Bs H) (s : Same H H') : LawSt K a ns Bs H' := ⟨sql_same s h.1, fun B hB => let ⟨ps, e, o⟩ := h.2 B hB; ⟨ps, s _ _ e, o⟩⟩
theorem LawSt.nx {K : PySem.W.Frag} {a d : Addr} {ns : List Int} {Bs : List Addr} {H : Hp} (h : LawSt K a ns Bs H) (n : H d = none) : Nx d Bs := ⟨fun z => by
  obtain ⟨ps, e, _⟩ := h.2 d z
  rw [n] at e
  cases e⟩
theorem LawSt.next {K : PySem.W.Frag} {a d : Addr} {ns g : List Int} {Bs : List Addr} {H0 H H' : Hp} {x : Nx d Bs} (h : LawSt K a ns Bs H0) (n : H0 d = none) (s : Same H0 H) (m : Mv (npF x).S H H') (k : (npF x).Ok g H') : LawSt K a ns Bs H' := by
  refine ⟨?_, k.2⟩
  have out : ∀ {o : HO}, H0 a = some o → (∀ ps, o ≠ .tbl ps) → ¬ (npF x).S a := fun {o} e hn z => by
    rcases z with z | z
    · rw [z, n] at e
      cases e
    · obtain ⟨ps, e2, _⟩ := h.2 a z
      rw [e2] at e
      exact hn ps (Option.some.inj e).symm
  rcases h.1 with (z | ⟨o, z⟩) | z
  · exact .inl (.inl (m _ _ (out z (by intro ps y; cases y)) (s _ _ z)))
  · exact .inl (.inr ⟨o, m _ _ (out z (by intro ps y; cases y)) (s _ _ z)⟩)
  · exact .inr z
end Pv
set_option Elab.async false
set_option linter.all false
set_option maxRecDepth 100000
set_option maxHeartbeats 4000000
namespace Pv
open PySem PySem.Spec PyProof.Rows L2 Cm GxR H64
def seqOf (t : Bool) (l : List PyData) : PyData := if t then .tuple l else .list l
def ok : Nat → PyData → Bool
  | _, .int i => decide (i.natAbs < 2 ^ 128)
  | k + 1, .list xs => xs.all (ok k)
  | k + 1, .tuple xs => xs.all (ok k)
  | _, d => !isPtr d
structure Tn (hs as : List Int) : Prop where
  len : as.length = hs.length
  at_ : ∀ (i : Nat) (a h : Int), as[i]? = some a → hs[i]? = some h → 0 ≤ a ∧ a < h
section
variable {Γ : Type} {X : Cx} {F : Frm Γ} {pos : Pos}
def strD (ds : List PyData) (Q : PyData → Prop) : Prop := match ds with
  | [.int i] => i.natAbs.log2 < 1920 ∧ Q (.str (toString i))
  | _ => False
theorem vc_str : VCall X (.type "str") strD := by
  refine ⟨_, call_str_int, fun {Z H xs ds Q Q'} dom r h q => ?_⟩
  unfold strD at h
  split at h
  · cases r with
    | cons r1 r2 =>
      cases r2
      cases r1
      exact ⟨_, rfl, h.1, q _ H _ (Same.refl _) (.str _) h.2⟩
  · exact h.elim
end
section
variable {Γ : Type} {X : Cx} {F : Frm Γ} {pos : Pos}
end
end Pv
set_option Elab.async false
set_option linter.all false
set_option maxRecDepth 100000
set_option maxHeartbeats 4000000
namespace Cm
open PySem PySem.Spec PyProof.Rows L2
def excF (a : Addr) (cls : Value) (d : Option Addr) : Heap → Prop := fun h => ∃ o, h.get? a = some o ∧ Zc cls d o ∧ ∃ vs, o.data = .fields vs
abbrev excO (a : Addr) (cls : Value) (d : Option Addr) : HO := .ext (excF a cls d)
section
variable {X : Cx} {pins : List (Addr × Obj)} {σ : L2.St} {H : Hp} {s : Shared}
end
section
variable {X : Cx} {x n : Str} {c : Value} {i : Nat} {body suite : List Stmt} {b₀ : Stmt} {np pos pos' : Pos} {tb : WX → TS} {ts : Addr → Value → Option Addr → TS} {Wout : WX}
end
section
variable {P : Program} {w : World} {K : PySem.W.Frag} {mg : Str → Option Value} {base : Heap}
end
section
variable {X : Cx} {k : Nat} {x : Str} {ps : List Str} {sp : Sp} {e : Expr} {es : List Expr} {t : TA} {p pos : Pos} {E : L2.St → XK}
end
end Cm
set_option Elab.async false
set_option linter.all false
set_option maxRecDepth 100000
set_option maxHeartbeats 4000000
namespace Cm
open PySem PySem.Spec PyProof.Rows L2
abbrev asked : List Str := ["NoThing", "TooGreat", "Endless", "NoPaper", "NoFit", "NoTable", "NoText", "NoName", "NoRow"]
structure Errs (K : PySem.W.Frag) (mg : Str → Option Value) (D : Addr) (nm : Str) (j : Nat) : Prop where
  g : mg nm = some (.ref D)
  kp : PySem.W.keepIn K (.ref D) = true
  own : PySem.W.excIn K D [.type "ValueError", .type "Exception", .type "BaseException", .type "object"] "ValueError.__new__" = true
  ex : PySem.W.subIn K (.ref D) (.type "BaseException") = some true
  ty : PySem.W.typeIn K (.ref D) = some (.type "type")
  C : ExcC K D
  base : ∃ B, mg "HouseError" = some (.ref B) ∧ PySem.W.exmOne K (.ref D) (.ref B) = some true
  ask : ∀ (k : Nat) (x : Str), asked[k]? = some x → ∃ C, mg x = some (.ref C) ∧ PySem.W.kitOne K (.ref D) (.ref C) = some (k == j)
  val : PySem.W.kitOne K (.ref D) (.type "ValueError") = some true
end Cm
set_option Elab.async false
set_option linter.all false
set_option maxRecDepth 100000
set_option maxHeartbeats 4000000
namespace Cm
open PySem PySem.Spec PyProof.Rows L2
end Cm
set_option Elab.async false
set_option linter.all false
set_option maxRecDepth 100000
set_option maxHeartbeats 4000000
namespace Cm
open PySem PySem.Spec PyProof.Rows L2
open LamX (TabS CodeO LamS lamEnv lamCx)
def Lamd (P : Addr) (q : Str) (H H1 : Hp) : Prop := TabS H1 P q ∧ ∀ b o, b ≠ P → H b = some o → H1 b = some o
section
variable {X : Cx} {pins : List (Addr × Obj)} {σ : L2.St} {H : Hp} {s : Shared}
end
section
variable {X : Cx}
end
end Cm
namespace Pv
open PySem PySem.Spec PyProof.Rows L2 Cm GxR
section
variable {Γ : Type} {X : Cx} {F : Frm Γ} {pos : Pos}
def canA (F : Frm Γ) (T : PTA Γ) : TA := fun σ H Q => ∃ (W : Addr → Prop) (H0 : Hp) (os : List Addr) (ρ : List Sl) (g : Γ) (Q' : List PyData → Γ → Prop), Okk F W H0 os σ H ρ g ∧ T ρ g Q' ∧
  ∀ vs H' ds g', Mv F.S H H' → F.Ok g' H' → RpAll (Zs W os) H' vs ds → Q' ds g' → Q vs H'
theorem VA.can {es : List Expr} {T : PTA Γ} (h : VA X F es T) : PA X es (canA F T) := by
  obtain ⟨t, h1, h2⟩ := h
  refine ⟨fun p pins s σ H Q I hc => ?_⟩
  obtain ⟨W, H0, os, ρ, g, Q', k, hT, q⟩ := hc
  exact h1.run p pins s σ H Q I (h2 k hT q)
theorem VS.can {st : Stmt} {U : PTS Γ} (h : VS X F st U) : PS X st (canS F U) := by
  obtain ⟨t, h1, h2⟩ := h
  refine ⟨fun pins s σ H D I hc => ?_⟩
  obtain ⟨W, H0, os, ρ, g, D', k, d, hT⟩ := hc
  exact h1.run pins s σ H D I (h2 k d hT)
structure LamF (F : Frm Γ) (P : Addr) (q : Str) : Prop where
  has : ∀ {g : Γ} {H : Hp}, F.Ok g H → LamX.TabS H P q
  mv : ∀ {g : Γ} {H H1 : Hp}, F.Ok g H → Lamd P q H H1 → Mv F.S H H1 ∧ F.Ok g H1
end
end Pv
set_option Elab.async false
set_option linter.all false
set_option maxRecDepth 100000
set_option maxHeartbeats 4000000
namespace Pv
open PySem PySem.Spec PyProof.Rows L2 Cm GxR
structure DpFr (F : Frm (Int × Int)) (d a : Addr) (ns : List Int) : Prop where
  st : ∀ {g : Int × Int} {H : Hp}, F.Ok g H → H d = some (.dK (penD a g.1 g.2)) ∧ H a = some (.lst (ns.map V.int))
  up : ∀ {W : Addr → Prop} {H0 H : Hp} {os : List Addr} {σ : L2.St} {ρ : List Sl} {g g' : Int × Int}, Okk F W H0 os σ H ρ g → Okk F W H0 os σ (upd H d (.dK (penD a g'.1 g'.2))) ρ g'
section
variable {d a P : Addr} {Bs : List Addr} {ns : List Int} {q : Str} (x : Dx d a (P :: Bs)) (nP : P ∉ Bs)
end
section
variable {K : PySem.W.Frag} {d a : Addr} {ns : List Int} {F : Frm (Int × Int)} (x : DpFr F d a ns)
include x
variable {X : Cx} {pos : Pos}
end
section
variable {Γ : Type} {X : Cx} {F : Frm Γ} {pos : Pos}
end
section
variable {Γ : Type} {X : Cx} {F : Frm Γ} {pos : Pos}
end
end Pv
set_option Elab.async false
set_option linter.all false
set_option maxRecDepth 100000
set_option maxHeartbeats 4000000
namespace Pv
open PySem PySem.Spec PyProof.Rows L2 Cm GxR
end Pv
set_option Elab.async false
set_option linter.all false
set_option maxRecDepth 100000
set_option maxHeartbeats 4000000
namespace ZT
open PySem PySem.Spec PyProof.Rows L2 RZ
section
variable {prog : Program} {w : World} {A : Around} {E : Value → Shared → Prop} {s : Shared}
end
section
variable {prog : Program} {w : World} {A : Around} {E : Value → Shared → Prop} {s : Shared}
end
end ZT
set_option Elab.async false
set_option linter.all false
set_option maxRecDepth 100000
set_option maxHeartbeats 4000000
namespace Pv
open PySem PySem.Spec PyProof.Rows L2 Cm GxR
section
variable {Γ : Type} {X : Cx} {F : Frm Γ} {pos : Pos}
end
end Pv
set_option Elab.async false
set_option linter.all false
set_option maxRecDepth 100000
set_option maxHeartbeats 4000000
namespace Pv
open PySem PySem.Spec PyProof.Rows L2 Cm GxR
section
variable {Γ : Type} {X : Cx} {F : Frm Γ} {pos : Pos}
def rngS (lo c : Int) (n : Nat) : List PyData := (List.range n).map fun i => PyData.int (lo + (i : Nat) * c)
theorem wk_rngS {Z : Addr → Prop} {H1 : Hp} {lo c : Int} {n : Nat} : Wk Z H1 (Itc lo c n) (rngS lo c n) := by
  refine ⟨fun _ => True, YFn fun i => .int (lo + (i : Nat) * c), ?_, fun _ _ _ => trivial, fun Z' H i x H' l dom hi y => ?_⟩
  · rw [rngS, List.length_map, List.length_range]
    exact walk_rangeC
  · obtain ⟨rfl, rfl⟩ := y
    rw [rngS, List.length_map, List.length_range] at hi
    refine ⟨Same.refl _, .int (lo + (i : Nat) * c), ?_, .int _⟩
    rw [rngS, List.getElem?_map, List.getElem?_range hi]
    rfl
def pRng3 (a b c : PTE Γ) (ρ : List Sl) (g : Γ) (Q : List PyData → Γ → Prop) : Prop := a ρ g fun d g1 => b ρ g1 fun e g2 => c ρ g2 fun f g3 => ∃ (i j k : Int) (n : Nat), d = .int i ∧ e = .int j ∧ f = .int k ∧ RgC i j k n ∧ Q (rngS i k n) g3
theorem vi_range3 {tg a b c : Expr} {T U V' : PTE Γ} {p : Pos} (hg : Gl X "range") (hm : X.mg "range" = none) (ha : VE X F a T) (hb : VE X F b U) (hc : VE X F c V') (hs : starEach [a, b, c] X.env = (false, eval a X.env) :: starEach [b, c] X.env := by rfl) (hs1 : starEach [b, c] X.env = (false, eval b X.env) :: starEach [c] X.env := by rfl) (hs2 : starEach [c] X.env = [(false, eval c X.env)] := by rfl) (hpl : (backTo pos (starEach [b, c] X.env)).any (·.1) = false := by rfl) :
    VI X F tg (.Call (.Name "range" p) [a, b, c] [] pos) (pRng3 T U V') := by
  obtain ⟨t, h1, h2⟩ := ha
  obtain ⟨u, u1, u2⟩ := hb
  obtain ⟨v, v1, v2⟩ := hc
  refine ⟨_, pi_range3 hg hm (pa_cons h1 (pa_cons u1 (pa_cons v1 pa_nil hs2) hs1) hs) hs hpl, fun {W H0 os σ H ρ g R Q'} k hT q => h2 k hT fun w1 H1 d g1 m1 s1 r1 hq => u2 (k.move m1 s1) hq fun w2 H2 e g2 m2 s2 r2 hq2 => v2 ((k.move m1 s1).move m2 s2) hq2 fun w3 H3 f g3 m3 s3 r3 hq3 => ?_⟩
  obtain ⟨i, j, c', n, rfl, rfl, rfl, bd, hq3⟩ := hq3
  cases r1
  cases r2
  cases r3
  exact ⟨i, j, c', n, rfl, bd, q _ _ _ g3 ((m1.trans m2).trans m3) s3 wk_rngS hq3⟩
end
section
variable {d a : Addr} {Bs : List Addr} {ns : List Int} {Ls : List (Addr × Str)} (x : Dx d a (Ls.map (·.1) ++ Bs)) (nP : (Ls.map (·.1) ++ Bs).Nodup)
end
end Pv
set_option Elab.async false
set_option linter.all false
set_option maxRecDepth 100000
set_option maxHeartbeats 4000000
namespace Cm
open PySem PySem.Spec PyProof.Rows L2
section
variable {X : Cx} {x : Str} {BE : Addr} {mc : Value} {e : Expr} {es : List Expr} {ta : TA} {p p1 p2 pos : Pos} {pl : Sem Bool}
end
end Cm
namespace Cm
open PySem PySem.Spec PyProof.Rows L2
structure ErrsB (K : PySem.W.Frag) (mg : Str → Option Value) (D : Addr) (nm : Str) (j : Nat) : Prop where
  g : mg nm = some (.ref D)
  kp : PySem.W.keepIn K (.ref D) = true
  ex : PySem.W.subIn K (.ref D) (.type "BaseException") = some true
  ty : PySem.W.typeIn K (.ref D) = some (.type "type")
  C : ExcC K D
  base : ∃ B, mg "HouseError" = some (.ref B) ∧ PySem.W.exmOne K (.ref D) (.ref B) = some true
  ask : ∀ (k : Nat) (x : Str), asked[k]? = some x → ∃ C, mg x = some (.ref C) ∧ PySem.W.kitOne K (.ref D) (.ref C) = some (k == j)
  val : PySem.W.kitOne K (.ref D) (.type "ValueError") = some true
structure ErrsF (K : PySem.W.Frag) (mg : Str → Option Value) (D : Addr) (nm : Str) (j : Nat) (fs : List Str) (i : Stmt) : Prop where
  er : ErrsB K mg D nm j
  oc : OexC K D
  free : ∀ f ∈ fs, PySem.W.findIn K (.ref D) f = some none
  ini : ∃ (fI : Addr) (fd : FuncData) (q : Str), PySem.W.findIn K (.ref D) "__init__" = some (some (.ref fI)) ∧ PySem.W.typeIn K (.ref fI) = some (.type "function") ∧ Fun K "__init__" q i fI fd ∧ Binds K fd ("self" :: fs) []
  base : ∃ (BE : Addr) (mc : Value), mg "HouseError" = some (.ref BE) ∧ ClX.CRead K BE mc ∧ PySem.W.findCls K (.ref BE) mc "__init__" = some (.val (.builtin "ValueError.__init__"))
section
variable {P : Program} {w : World} {K : PySem.W.Frag} {mg : Str → Option Value} {base : Heap} {D fI : Addr} {fd : FuncData} {nm q f1 f2 tx : Str} {j k : Nat} {i : Stmt} {p1 p2 p3 p4 p5 p6 p7 p8 p9 p10 p11 p12 p13 p14 : Pos} {z : Nat}
end
section
variable {X : Cx} {x f1 f2 : Str} {D fI : Addr} {fd : FuncData} {k : Nat} {ta : TA} {e : Expr} {es : List Expr} {p pos : Pos}
end
end Cm
set_option Elab.async false
set_option linter.all false
set_option maxRecDepth 100000
set_option maxHeartbeats 4000000
namespace Pv
open PySem PySem.Spec PyProof.Rows L2 Cm GxR
structure Err where
  a : Addr
  D : Addr
  dd : Addr
  fs : List (Str × PyData)
inductive Fd (H : Hp) : V → PyData → Prop
  | int (i : Int) : Fd H (.int i) (.int i)
  | str (x : Str) : Fd H (.str x) (.str x)
  | tup {r : Addr} {ts : List Int} : H r = some (.tup (ts.map V.int)) → Fd H (.ref r) (.tuple (ts.map PyData.int))
inductive FdD : PyData → Prop
  | int (i : Int) : FdD (.int i)
  | str (x : Str) : FdD (.str x)
  | tup (ts : List Int) : FdD (.tuple (ts.map PyData.int))
theorem Fd.mono {H H' : Hp} {v : V} {d : PyData} (h : ∀ b xs, H b = some (.tup xs) → H' b = some (.tup xs)) (k : Fd H v d) : Fd H' v d := by
  cases k with
  | int i => exact .int i
  | str x => exact .str x
  | tup e => exact .tup (h _ _ e)
def ErrAt (S : Addr → Prop) (H : Hp) (e : Err) : Prop := ¬ S e.a ∧ ¬ S e.dd ∧ H e.a = some (excO e.a (.ref e.D) (some e.dd)) ∧ ∃ vs : List (Str × V), H e.dd = some (.xd vs) ∧ ∀ f d, e.fs.lookup f = some d → ∃ v, vs.lookup f = some v ∧ Fd H v d
theorem ErrAt.mono {S : Addr → Prop} {H H' : Hp} {e : Err} (k : ErrAt S H e) (h : ∀ b z, (∀ vs, z ≠ .lst vs) → (¬ S b ∨ ∃ xs, z = .tup xs) → H b = some z → H' b = some z) : ErrAt S H' e := by
  obtain ⟨n1, n2, e1, vs, e2, k⟩ := k
  refine ⟨n1, n2, h _ _ (fun _ z => by cases z) (.inl n1) e1, vs, h _ _ (fun _ z => by cases z) (.inl n2) e2, fun f d hd => ?_⟩
  obtain ⟨v, hv, r⟩ := k f d hd
  exact ⟨v, hv, r.mono fun b xs hb => h _ _ (fun _ z => by cases z) (.inr ⟨xs, rfl⟩) hb⟩
section
variable {Γ : Type}
variable {P : Program} {w : World} {K : PySem.W.Frag} {mg : Str → Option Value} {base : Heap} {F : Frm Γ}
variable {X : Cx}
end
end Pv
set_option Elab.async false
set_option linter.all false
set_option maxRecDepth 100000
set_option maxHeartbeats 4000000
namespace Pv
open PySem PySem.Spec PyProof.Rows L2 Cm GxR
section
variable {Γ : Type} {X : Cx} {F : Frm Γ}
abbrev RowL := List (Addr × List V × List PyData)
def ZR (W : Addr → Prop) (os : List Addr) (D : Addr) (L : RowL) : Addr → Prop := fun b => Zs W os b ∨ b = D ∨ b ∈ L.map (·.1)
def RFF (F : Frm Γ) (t : TE) (T : PTE Γ) : Prop := ∀ {W : Addr → Prop} {H0 : Hp} {os : List Addr} {σ : L2.St} {H : Hp} {ρ : List Sl} {g : Γ} {Q : VK} {Q' : PyData → Γ → Prop}, Okk F W H0 os σ H ρ g → T ρ g Q' →
  (∀ (D : Addr) (H' : Hp) (L : RowL) (g' : Γ), H D = none → (∀ x ∈ L, H x.1 = none ∧ x.1 ≠ D) → (L.map (·.1)).Nodup → Mv F.S H H' → F.Ok g' H' → H' D = some (.lst (L.map fun x => V.ref x.1)) →
    (∀ x ∈ L, H' x.1 = some (.lst x.2.1) ∧ RpAll (ZR W os D L) H' x.2.1 x.2.2) → Q' (.list (L.map fun x => .list x.2.2)) g' → Q (.ref D) H') → t σ H Q
def VRows (X : Cx) (F : Frm Γ) (st : Stmt) (i : Nat) (T : PTE Γ) : Prop := ∃ t, PS X st (tAsg t (gName i)) ∧ RFF F t T
def canRows (F : Frm Γ) (T : PTE Γ) : TE := fun σ H Q => ∃ (W : Addr → Prop) (H0 : Hp) (os : List Addr) (ρ : List Sl) (g : Γ) (Q' : PyData → Γ → Prop), Okk F W H0 os σ H ρ g ∧ T ρ g Q' ∧
  ∀ (D : Addr) (H' : Hp) (L : RowL) (g' : Γ), H D = none → (∀ x ∈ L, H x.1 = none ∧ x.1 ≠ D) → (L.map (·.1)).Nodup → Mv F.S H H' → F.Ok g' H' → H' D = some (.lst (L.map fun x => V.ref x.1)) →
    (∀ x ∈ L, H' x.1 = some (.lst x.2.1) ∧ RpAll (ZR W os D L) H' x.2.1 x.2.2) → Q' (.list (L.map fun x => .list x.2.2)) g' → Q (.ref D) H'
theorem VRows.can {st : Stmt} {i : Nat} {T : PTE Γ} (h : VRows X F st i T) : PS X st (tAsg (canRows F T) (gName i)) := by
  obtain ⟨t, h1, h2⟩ := h
  refine ⟨fun pins s σ H D I hc => h1.run pins s σ H D I ?_⟩
  obtain ⟨W, H0, os, ρ, g, Q', k, hT, q⟩ := hc
  exact h2 k hT q
end
end Pv
set_option Elab.async false
set_option linter.all false
set_option maxRecDepth 100000
set_option maxHeartbeats 4000000
namespace Pv
open PySem PySem.Spec PyProof.Rows L2 Cm GxR
structure RowS where
  D : Addr
  as : List Addr
abbrev Rws := List (List Int)
structure RowOk (r : RowS) (rows : Rws) (H : Hp) : Prop where
  len : r.as.length = rows.length
  top : H r.D = some (.lst (r.as.map V.ref))
  row : ∀ (i : Nat) a x, r.as[i]? = some a → rows[i]? = some x → H a = some (.lst (x.map V.int))
structure RowD {Γ : Type} (F : Frm Γ) (r : RowS) : Prop where
  nD : ¬ F.S r.D
  nA : ∀ a ∈ r.as, ¬ F.S a ∧ a ≠ r.D
  nd : r.as.Nodup
section
variable {Γ : Type} {X : Cx} {F : Frm Γ} {pos : Pos}
end
end Pv
set_option Elab.async false
set_option linter.all false
set_option maxRecDepth 100000
set_option maxHeartbeats 4000000
namespace Cm
open PySem PySem.Spec PyProof.Rows L2 GxR
section
variable {X : Cx}
end
end Cm
set_option Elab.async false
set_option linter.all false
set_option maxRecDepth 100000
set_option maxHeartbeats 4000000
namespace Pv
open PySem PySem.Spec PyProof.Rows L2 Cm GxR
section
variable {Γ : Type} {X : Cx} {F : Frm Γ} {pos : Pos}
end
end Pv
set_option Elab.async false
set_option linter.all false
set_option maxRecDepth 100000
set_option maxHeartbeats 4000000
namespace Pv
open PySem PySem.Spec PyProof.Rows L2 Cm GxR
section
variable {X : Cx}
end
end Pv
set_option Elab.async false
set_option linter.all false
set_option maxRecDepth 100000
set_option maxHeartbeats 4000000
namespace Pv
open PySem PySem.Spec PyProof.Rows L2 Cm GxR
section
variable {Γ : Type} {X : Cx} {F : Frm Γ} {pos : Pos}
abbrev Dt := List (List Int × Int)
def dtE (p : List Int × Int) : List Key × V := (p.1.map Sum.inl, .int p.2)
def dtO (l : Dt) : HO := .dT (l.map dtE)
structure RwNew (H : Hp) (r : RowS) : Prop where
  nD : H r.D = none
  nA : ∀ a ∈ r.as, H a = none ∧ a ≠ r.D
  nd : r.as.Nodup
def VR (X : Cx) (F : Frm Γ) (e : Expr) (T : PTE Γ) : Prop := ∃ t, PE X e t ∧ RFF F t T
theorem RwNew.row {H : Hp} {r : RowS} (nw : RwNew H r) {g : Γ} (s : F.Ok g H) : RowD F r := by
  have nS : ∀ {b : Addr}, H b = none → ¬ F.S b := fun h z => by
    obtain ⟨y, hy, _⟩ := F.has s z
    rw [h] at hy
    cases hy
  exact ⟨nS nw.nD, fun a ha => ⟨nS (nw.nA a ha).1, (nw.nA a ha).2⟩, nw.nd⟩
theorem VR.can {e : Expr} {T : PTE Γ} (h : VR X F e T) : PE X e (canRows F T) := by
  obtain ⟨t, h1, h2⟩ := h
  refine ⟨fun pins s σ H Q I hc => h1.run pins s σ H Q I ?_⟩
  obtain ⟨W, H0, os, ρ, g, Q', k, hT, q⟩ := hc
  exact h2 k hT q
def VDy (X : Cx) (F : Frm Γ) (e : Expr) (T : List Sl → Γ → (Dt → Γ → Prop) → Prop) : Prop := ∃ t, PE X e t ∧ ∀ {W : Addr → Prop} {H0 : Hp} {os : List Addr} {σ : L2.St} {H : Hp} {ρ : List Sl} {g : Γ} {Q : VK} {Q' : Dt → Γ → Prop}, Okk F W H0 os σ H ρ g → T ρ g Q' →
  (∀ D H' l g', H D = none → Mv F.S H H' → F.Ok g' H' → H' D = some (dtO l) → Q' l g' → Q (.ref D) H') → t σ H Q
def canDy (F : Frm Γ) (T : List Sl → Γ → (Dt → Γ → Prop) → Prop) : TE := fun σ H Q => ∃ (W : Addr → Prop) (H0 : Hp) (os : List Addr) (ρ : List Sl) (g : Γ) (Q' : Dt → Γ → Prop), Okk F W H0 os σ H ρ g ∧ T ρ g Q' ∧
  (∀ D H' l g', H D = none → Mv F.S H H' → F.Ok g' H' → H' D = some (dtO l) → Q' l g' → Q (.ref D) H')
theorem VDy.can {e : Expr} {T : List Sl → Γ → (Dt → Γ → Prop) → Prop} (h : VDy X F e T) : PE X e (canDy F T) := by
  obtain ⟨t, h1, h2⟩ := h
  refine ⟨fun pins s σ H Q I hc => h1.run pins s σ H Q I ?_⟩
  obtain ⟨W, H0, os, ρ, g, Q', k, hT, q⟩ := hc
  exact h2 k hT q
end
end Pv
set_option Elab.async false
set_option linter.all false
set_option maxRecDepth 100000
set_option maxHeartbeats 4000000
namespace Pv
open PySem PySem.Spec PyProof.Rows L2 Cm GxR
def Wr (W : Addr → Prop) (r : RowS) : Addr → Prop := fun b => W b ∨ b = r.D ∨ b ∈ r.as
structure RwZ (W : Addr → Prop) (H0 : Hp) (r : RowS) : Prop where
  nD : ¬ W r.D ∧ H0 r.D = none
  nA : ∀ a ∈ r.as, (¬ W a ∧ H0 a = none) ∧ a ≠ r.D
  nd : r.as.Nodup
section
variable {Γ : Type} {X : Cx} {F : Frm Γ} {pos : Pos}
structure Okd (F : Frm Γ) (W : Addr → Prop) (H0 : Hp) (Z1 : Addr → Prop) (H1 : Hp) (r : RowS) (os : List Addr) (σ : L2.St) (H : Hp) (ρ : List Sl) (g : Γ) (rows : Rws) : Prop where
  k : Okk F (Wr W r) H0 os σ H ρ g
  o : RowOk r rows H
  z : RwZ W H0 r
  sub : ∀ b, F.S b → W b
  l : Ld Z1 H1 (Zs (Wr W r) os) H
theorem RwZ.row {W : Addr → Prop} {H0 : Hp} {r : RowS} (z : RwZ W H0 r) (sub : ∀ b, F.S b → W b) : RowD F r := ⟨fun h => z.nD.1 (sub _ h), fun a ha => ⟨fun h => (z.nA a ha).1.1 (sub _ h), (z.nA a ha).2⟩, z.nd⟩
theorem RowOk.mv {W : Addr → Prop} {H0 H' : Hp} {H : Hp} {r : RowS} {rows : Rws} {os : List Addr} {σ : L2.St} {ρ : List Sl} {g : Γ} (o : RowOk r rows H) (z : RwZ W H0 r) (sub : ∀ b, F.S b → W b) (k : Okk F (Wr W r) H0 os σ H ρ g) (m : Mv F.S (base os H) H') : RowOk r rows H' := by
  have up : ∀ {b : Addr} {x : HO}, Wr W r b → ¬ F.S b → H b = some x → H' b = some x := fun {b x} hw hs e => m b x hs (by rw [base_out (fun h => (k.new b h).1 hw)]; exact e)
  exact ⟨o.len, up (.inr (.inl rfl)) (fun h => z.nD.1 (sub _ h)) o.top, fun i a x ha hx => up (.inr (.inr (List.mem_of_getElem? ha))) (fun h => (z.nA a (List.mem_of_getElem? ha)).1.1 (sub _ h)) (o.row i a x ha hx)⟩
abbrev PTSd (Γ : Type) := (List Sl → Γ → Rws → Prop) → List Sl → Γ → Rws → Prop
def RSd (F : Frm Γ) (D : Addr) (t : TS) (T : PTSd Γ) : Prop := ∀ {W : Addr → Prop} {H0 : Hp} {Z1 : Addr → Prop} {H1 : Hp} {as os : List Addr} {σ : L2.St} {H : Hp} {ρ : List Sl} {g : Γ} {rows : Rws} {En : Ends} {N : List Sl → Γ → Rws → Prop}, Okd F W H0 Z1 H1 ⟨D, as⟩ os σ H ρ g rows →
  (∀ as os σ H ρ g rows, Okd F W H0 Z1 H1 ⟨D, as⟩ os σ H ρ g rows → N ρ g rows → En.nx σ H) → T N ρ g rows → t En σ H
def VSsd (X : Cx) (F : Frm Γ) (D : Addr) (sts : List Stmt) (T : PTSd Γ) : Prop := ∃ t, PSs X sts t ∧ RSd F D t T
def canSd (F : Frm Γ) (U : Addr → PTSd Γ) : TS := fun En σ H => ∃ (D : Addr) (W : Addr → Prop) (H0 : Hp) (Z1 : Addr → Prop) (H1 : Hp) (as os : List Addr) (ρ : List Sl) (g : Γ) (rows : Rws) (N : List Sl → Γ → Rws → Prop), Okd F W H0 Z1 H1 ⟨D, as⟩ os σ H ρ g rows ∧
  (∀ as os σ H ρ g rows, Okd F W H0 Z1 H1 ⟨D, as⟩ os σ H ρ g rows → N ρ g rows → En.nx σ H) ∧ U D N ρ g rows
theorem VSsd.can {sts : List Stmt} {U : Addr → PTSd Γ} (h : ∀ D, VSsd X F D sts (U D)) : PSs X sts (canSd F U) := by
  refine ⟨fun pins s σ H En I hc => ?_⟩
  obtain ⟨D, W, H0, Z1, H1, as, os, ρ, g, rows, N, k, fin, hU⟩ := hc
  obtain ⟨t, h1, h2⟩ := h D
  exact h1.run pins s σ H En I (h2 k fin hU)
end
section
variable {Γ : Type} {X : Cx} {F : Frm Γ} {pos : Pos}
end
end Pv
set_option Elab.async false
set_option linter.all false
set_option maxRecDepth 100000
set_option maxHeartbeats 4000000
namespace Pv
open PySem PySem.Spec PyProof.Rows L2 Cm RZ
section
variable {Γ : Type} {X : Cx} {F : Frm Γ} {pos : Pos}
def seqs (d : PyData) (Q : List PyData → Prop) : Prop := match d with
  | .list ds => Q ds
  | .tuple ds => Q ds
  | _ => False
def pZipX (a b : PTE Γ) (ρ : List Sl) (g : Γ) (Q : List PyData → Γ → Prop) : Prop := a ρ g fun x g1 => b ρ g1 fun y g2 => seqs x fun ds => seqs y fun es => Q (zipD ds es) g2
theorem lenX {tp : Bool} {l : List PyData} {Q : PyData → Prop} : lenD [seqOf tp l] Q = Q (.int l.length) := by cases tp <;> rfl
theorem lenDl {l : List PyData} {Q : PyData → Prop} : lenD [.list l] Q = Q (.int l.length) := rfl
theorem lenDt {l : List PyData} {Q : PyData → Prop} : lenD [.tuple l] Q = Q (.int l.length) := rfl
theorem ixX {tp : Bool} {l : List PyData} {i : Int} {Q : PyData → Prop} : ixD (seqOf tp l) (.int i) Q = ∃ z, atI l i = some z ∧ Q z := by cases tp <;> rfl
theorem ixDl {l : List PyData} {i : Int} {Q : PyData → Prop} : ixD (.list l) (.int i) Q = ∃ z, atI l i = some z ∧ Q z := rfl
theorem ixDt {l : List PyData} {i : Int} {Q : PyData → Prop} : ixD (.tuple l) (.int i) Q = ∃ z, atI l i = some z ∧ Q z := rfl
theorem tupX {tp : Bool} {l : List PyData} {Q : PyData → Prop} : tupD [seqOf tp l] Q = Q (.tuple l) := by cases tp <;> rfl
theorem tupDl {l : List PyData} {Q : PyData → Prop} : tupD [.list l] Q = Q (.tuple l) := rfl
theorem tupDt {l : List PyData} {Q : PyData → Prop} : tupD [.tuple l] Q = Q (.tuple l) := rfl
theorem lstX {tp : Bool} {l : List PyData} {Q : PyData → Prop} : lstD [seqOf tp l] Q = Q (.list l) := by cases tp <;> rfl
theorem lstDl {l : List PyData} {Q : PyData → Prop} : lstD [.list l] Q = Q (.list l) := rfl
theorem lstDt {l : List PyData} {Q : PyData → Prop} : lstD [.tuple l] Q = Q (.list l) := rfl
theorem slX {tp : Bool} {l : List PyData} {lo hi : Option Int} {Q : PyData → Prop} : slD (seqOf tp l) lo hi Q = Q (seqOf tp (cutD l lo hi)) := by cases tp <;> rfl
theorem slDl {l : List PyData} {lo hi : Option Int} {Q : PyData → Prop} : slD (.list l) lo hi Q = Q (.list (cutD l lo hi)) := rfl
theorem slDt {l : List PyData} {lo hi : Option Int} {Q : PyData → Prop} : slD (.tuple l) lo hi Q = Q (.tuple (cutD l lo hi)) := rfl
theorem seqDX {tp : Bool} {l : List PyData} : seqD (seqOf tp l) = some l := by cases tp <;> rfl
def dmD (ds : List PyData) (Q : PyData → Prop) : Prop := ∃ i j : Int, ds = [.int i, .int j] ∧ CDivP i j ∧ Q (.tuple [.int (i / j), .int (i % j)])
theorem vc_divmod : VCall X (.builtin "divmod") dmD := by
  refine ⟨_, call_divmodW, fun {Z H xs ds Q Q'} dom r h q => ?_⟩
  obtain ⟨i, j, rfl, hc, h⟩ := h
  cases r with
  | cons r1 r2 =>
    cases r2 with
    | cons r2 r3 =>
      cases r3
      cases r1
      cases r2
      exact ⟨i, j, rfl, hc, fun p np => q _ _ _ (same_new np) (Rp.newTup dom np (.cons (.int _) (.cons (.int _) .nil))) h⟩
end
end Pv
set_option Elab.async false
set_option linter.all false
set_option maxRecDepth 100000
set_option maxHeartbeats 4000000
namespace Pv
open PySem PySem.Spec PyProof.Rows L2 Cm GxR
section
variable {X : Cx} {pos : Pos}
end
section
variable {Γ : Type} {X : Cx} {F : Frm Γ} {pos : Pos} {p : Addr}
end
end Pv
set_option Elab.async false
set_option linter.all false
set_option maxRecDepth 100000
set_option maxHeartbeats 4000000
namespace Pv
open PySem PySem.Spec PyProof.Rows L2 Cm GxR
section
variable {prog : Program} {w : World} {A : Around} {E : Value → Shared → Prop} {s : Shared}
end
section
variable {X : Cx}
end
end Pv
set_option Elab.async false
set_option linter.all false
set_option maxRecDepth 100000
set_option maxHeartbeats 4000000
namespace Pv
open PySem PySem.Spec PyProof.Rows L2 Cm GxR
section
variable {X : Cx}
end
end Pv
set_option Elab.async false
set_option linter.all false
set_option maxRecDepth 100000
set_option maxHeartbeats 4000000
namespace Pv
open PySem PySem.Spec PyProof.Rows L2 Cm GxR
section
variable {Γ : Type} {X : Cx} {F : Frm Γ} {pos : Pos} {p : Addr}
end
end Pv
set_option Elab.async false
set_option linter.all false
set_option maxRecDepth 100000
set_option maxHeartbeats 4000000
namespace Pv
open PySem PySem.Spec PyProof.Rows L2 Cm GxR
structure LpFr (K : PySem.W.Frag) (F : Frm (Int × Int)) (d a : Addr) (ns : List Int) : Prop where
  st : ∀ {g : Int × Int} {H : Hp}, F.Ok g H → H d = some (.lst [.ref a, .int g.1, .int g.2]) ∧ SqL K H a (ns.map V.int)
  up : ∀ {W : Addr → Prop} {H0 H : Hp} {os : List Addr} {σ : L2.St} {ρ : List Sl} {g g' : Int × Int}, Okk F W H0 os σ H ρ g → Okk F W H0 os σ (upd H d (.lst [.ref a, .int g'.1, .int g'.2])) ρ g'
section
variable {K : PySem.W.Frag} {d a : Addr} {ns : List Int} {F : Frm (Int × Int)} (x : LpFr K F d a ns)
include x
variable {X : Cx} {pos : Pos}
end
section
variable {d a : Addr} {Bs : List Addr} {ns : List Int} {Ls : List (Addr × Str)} (x : Dx d a (Ls.map (·.1) ++ Bs)) (nP : (Ls.map (·.1) ++ Bs).Nodup)
end
section
variable {d a : Addr} {Bs : List Addr} {ns : List Int} {Ls : List (Addr × Str)} (x : Dx d a (Ls.map (·.1) ++ Bs)) (nP : (Ls.map (·.1) ++ Bs).Nodup)
end
end Pv
set_option Elab.async false
set_option linter.all false
set_option maxRecDepth 100000
set_option maxHeartbeats 4000000
namespace Pv
open PySem PySem.Spec PyProof.Rows L2 Cm GxR
section
variable {X : Cx}
end
section
variable {Γ : Type} {X : Cx} {F : Frm Γ} {pos : Pos}
end
end Pv
set_option Elab.async false
set_option linter.all false
set_option maxRecDepth 100000
set_option maxHeartbeats 4000000
namespace Pv
open PySem PySem.Spec PyProof.Rows L2 Cm GxR
open PySem.W
section
variable {X : Cx}
end
end Pv
set_option Elab.async false
set_option linter.all false
set_option maxRecDepth 100000
set_option maxHeartbeats 4000000
namespace Pv
open PySem PySem.Spec PyProof.Rows L2 Cm GxR
section
variable {Γ : Type}
variable {X : Cx} {F : Frm Γ} {D : Addr}
end
end Pv
set_option Elab.async false
set_option linter.all false
set_option maxRecDepth 100000
set_option maxHeartbeats 4000000
namespace Pv
open PySem PySem.Spec PyProof.Rows L2 Cm GxR
section
variable {Γ : Type} {X : Cx} {F : Frm Γ} {pos : Pos}
end
end Pv
set_option Elab.async false
set_option linter.all false
set_option maxRecDepth 100000
set_option maxHeartbeats 4000000
namespace Pv
open PySem PySem.Spec PyProof.Rows L2 Cm GxR TL
section
variable {Γ : Type} {X : Cx} {F : Frm Γ} {pos : Pos}
theorem rp_str {Z : Addr → Prop} {H : Hp} {v : V} {a : Str} (r : Rp Z H v (.str a)) : v = .str a := by cases r; rfl
theorem rp_strs {Z : Addr → Prop} {H : Hp} : ∀ {vs : List V} {ys : List Str}, RpAll Z H vs (ys.map PyData.str) → vs = ys.map V.str
  | _, [], h => by cases h; rfl
  | _, y :: ys, h => by
    cases h with
    | cons a t =>
      rw [rp_str a, rp_strs t]
      rfl
theorem strs_rp {Z : Addr → Prop} {H : Hp} : ∀ ys : List Str, RpAll Z H (ys.map V.str) (ys.map PyData.str)
  | [] => .nil
  | y :: ys => .cons (.str y) (strs_rp ys)
def pM0 (C : Str → Prop) (f : Str → PyData) (T : PTE Γ) (ρ : List Sl) (g : Γ) (Q : PyData → Γ → Prop) : Prop := T ρ g fun d g1 => ∃ a, d = .str a ∧ C a ∧ Q (f a) g1
theorem ve_m0 {e o : Expr} {T : PTE Γ} {C : Str → Prop} {gv : Str → V} {f : Str → PyData} (ho : VE X F o T) (hf : ∀ Z H a, Rp Z H (gv a) (f a))
    (hp : ∀ {to : TE}, PE X o to → PE X e (tM0 (fun x xs H Q => ∃ a, x = .str a ∧ xs = [] ∧ C a ∧ Q (gv a) H) to)) : VE X F e (pM0 C f T) := by
  obtain ⟨t, a1, a2⟩ := ho
  refine ⟨_, hp a1, fun {W H0 os σ H ρ g Q Q'} k h q => a2 k h fun v H1 d g1 m1 s1 r1 h1 => ?_⟩
  obtain ⟨a, rfl, hc, h1⟩ := h1
  obtain rfl := rp_str r1
  exact ⟨⟨a, rfl⟩, a, rfl, rfl, hc, q _ H1 _ g1 m1 s1 (hf _ _ a) h1⟩
def pM1 (C : Str → Str → Prop) (f : Str → Str → PyData) (T U : PTE Γ) (ρ : List Sl) (g : Γ) (Q : PyData → Γ → Prop) : Prop := T ρ g fun d g1 => ∃ a, d = .str a ∧ U ρ g1 fun e g2 => ∃ b, e = .str b ∧ C a b ∧ Q (f a b) g2
theorem ve_m1 {e o u : Expr} {T U : PTE Γ} {C : Str → Str → Prop} {gv : Str → Str → V} {f : Str → Str → PyData} (ho : VE X F o T) (hu : VE X F u U) (hf : ∀ Z H a b, Rp Z H (gv a b) (f a b))
    (hp : ∀ {to te : TE}, PE X o to → PE X u te → PE X e (tM1 (fun x xs H Q => ∃ a b, x = .str a ∧ xs = [.str b] ∧ C a b ∧ Q (gv a b) H) to te)) : VE X F e (pM1 C f T U) := by
  obtain ⟨t, a1, a2⟩ := ho
  obtain ⟨t2, b1, b2⟩ := hu
  refine ⟨_, hp a1 b1, fun {W H0 os σ H ρ g Q Q'} k h q => a2 k h fun v H1 d g1 m1 s1 r1 h1 => ?_⟩
  obtain ⟨a, rfl, h1⟩ := h1
  obtain rfl := rp_str r1
  refine ⟨⟨a, rfl⟩, b2 (k.move m1 s1) h1 fun v2 H2 d2 g2 m2 s2 r2 h2 => ?_⟩
  obtain ⟨b, rfl, hc, h2⟩ := h2
  obtain rfl := rp_str r2
  exact ⟨a, b, rfl, rfl, hc, q _ H2 _ g2 (m1.trans m2) s2 (hf _ _ a b) h2⟩
def pM1I (C : Str → Int → Prop) (f : Str → Int → PyData) (T U : PTE Γ) (ρ : List Sl) (g : Γ) (Q : PyData → Γ → Prop) : Prop := T ρ g fun d g1 => ∃ a, d = .str a ∧ U ρ g1 fun e g2 => ∃ b, e = .int b ∧ C a b ∧ Q (f a b) g2
theorem ve_m1I {e o u : Expr} {T U : PTE Γ} {C : Str → Int → Prop} {gv : Str → Int → V} {f : Str → Int → PyData} (ho : VE X F o T) (hu : VE X F u U) (hf : ∀ Z H a b, Rp Z H (gv a b) (f a b))
    (hp : ∀ {to te : TE}, PE X o to → PE X u te → PE X e (tM1 (fun x xs H Q => ∃ (a : Str) (b : Int), x = .str a ∧ xs = [.int b] ∧ C a b ∧ Q (gv a b) H) to te)) : VE X F e (pM1I C f T U) := by
  obtain ⟨t, a1, a2⟩ := ho
  obtain ⟨t2, b1, b2⟩ := hu
  refine ⟨_, hp a1 b1, fun {W H0 os σ H ρ g Q Q'} k h q => a2 k h fun v H1 d g1 m1 s1 r1 h1 => ?_⟩
  obtain ⟨a, rfl, h1⟩ := h1
  obtain rfl := rp_str r1
  refine ⟨⟨a, rfl⟩, b2 (k.move m1 s1) h1 fun v2 H2 d2 g2 m2 s2 r2 h2 => ?_⟩
  obtain ⟨b, rfl, hc, h2⟩ := h2
  cases r2
  exact ⟨a, b, rfl, rfl, hc, q _ H2 _ g2 (m1.trans m2) s2 (hf _ _ a b) h2⟩
def pJoin (T U : PTE Γ) (ρ : List Sl) (g : Γ) (Q : PyData → Γ → Prop) : Prop := T ρ g fun d g1 => ∃ a, d = .str a ∧ U ρ g1 fun e g2 => ∃ ys : List Str, e = .list (ys.map PyData.str) ∧ (ys.map (·.length)).sum + ys.length * a.length ≤ 16777216 ∧ Q (.str (Txt.join a ys)) g2
theorem ve_join {e o u : Expr} {T U : PTE Γ} (ho : VE X F o T) (hu : VE X F u U)
    (hp : ∀ {to te : TE}, PE X o to → PE X u te → PE X e (tM1 (fun x xs H Q => ∃ a p, ∃ ys : List Str, x = .str a ∧ xs = [.ref p] ∧ (SqL X.K H p (ys.map V.str) ∨ SqT X.K H p (ys.map V.str)) ∧
      (ys.map (·.length)).sum + ys.length * a.length ≤ 16777216 ∧ Q (.str (Txt.join a ys)) H) to te)) : VE X F e (pJoin T U) := by
  obtain ⟨t, a1, a2⟩ := ho
  obtain ⟨t2, b1, b2⟩ := hu
  refine ⟨_, hp a1 b1, fun {W H0 os σ H ρ g Q Q'} k h q => a2 k h fun v H1 d g1 m1 s1 r1 h1 => ?_⟩
  obtain ⟨a, rfl, h1⟩ := h1
  obtain rfl := rp_str r1
  refine ⟨⟨a, rfl⟩, b2 (k.move m1 s1) h1 fun v2 H2 d2 g2 m2 s2 r2 h2 => ?_⟩
  obtain ⟨ys, rfl, hc, h2⟩ := h2
  cases r2 with
  | lst n e2 r =>
    obtain rfl := rp_strs r
    exact ⟨a, _, ys, rfl, rfl, .inl (SqL.of e2), hc, q _ H2 _ g2 (m1.trans m2) s2 (.str _) h2⟩
def pSplit (T U : PTE Γ) (ρ : List Sl) (g : Γ) (Q : PyData → Γ → Prop) : Prop := T ρ g fun d g1 => ∃ a, d = .str a ∧ U ρ g1 fun e g2 => ∃ b, e = .str b ∧ (b.length == 0) = false ∧ a.length + 2 ≤ sizeLine ∧ Q (.list ((Txt.split a b).map PyData.str)) g2
theorem ve_split {e o u : Expr} {T U : PTE Γ} (ho : VE X F o T) (hu : VE X F u U)
    (hp : ∀ {to te : TE}, PE X o to → PE X u te → PE X e (tM1 (fun x xs H Q => ∃ a b, x = .str a ∧ xs = [.str b] ∧ (b.length == 0) = false ∧ a.length + 2 ≤ sizeLine ∧ rNewStrs (Txt.split a b) H Q) to te)) : VE X F e (pSplit T U) := by
  obtain ⟨t, a1, a2⟩ := ho
  obtain ⟨t2, b1, b2⟩ := hu
  refine ⟨_, hp a1 b1, fun {W H0 os σ H ρ g Q Q'} k h q => a2 k h fun v H1 d g1 m1 s1 r1 h1 => ?_⟩
  obtain ⟨a, rfl, h1⟩ := h1
  obtain rfl := rp_str r1
  have k1 := k.move m1 s1
  refine ⟨⟨a, rfl⟩, b2 k1 h1 fun v2 H2 d2 g2 m2 s2 r2 h2 => ?_⟩
  obtain ⟨b, rfl, hb, hl, h2⟩ := h2
  obtain rfl := rp_str r2
  have k2 := k1.move m2 s2
  refine ⟨a, b, rfl, rfl, hb, hl, fun p np => ?_⟩
  exact q _ _ _ g2 ((m1.trans m2).trans (Mv.same (same_new np))) (keep_same s2 (same_new np)) (Rp.newLst k2.zdom np (strs_rp _)) h2
def intSD (ds : List PyData) (Q : PyData → Prop) : Prop := ∃ a n, ds = [.str a] ∧ PySem.intText? a = some n ∧ a.length ≤ 640 ∧ Q (.int n)
theorem vc_intS : VCall X (.type "int") intSD := by
  refine ⟨_, call_int_str, fun {Z H xs ds Q Q'} dom r h q => ?_⟩
  obtain ⟨a, n, rfl, e, hl, h⟩ := h
  cases r with
  | cons r1 r2 =>
    cases r2
    obtain rfl := rp_str r1
    exact ⟨a, n, rfl, e, hl, q _ H _ (Same.refl _) (.int n) h⟩
def lenSD (ds : List PyData) (Q : PyData → Prop) : Prop := ∃ a, ds = [.str a] ∧ a.length ≤ sizeLine ∧ Q (.int (a.length : Nat))
theorem vc_lenS : VCall X (.builtin "len") lenSD := by
  refine ⟨_, call_len, fun {Z H xs ds Q Q'} dom r h q => ?_⟩
  obtain ⟨a, rfl, hl, h⟩ := h
  cases r with
  | cons r1 r2 =>
    cases r2
    obtain rfl := rp_str r1
    exact ⟨_, _, rfl, ⟨hl, rfl⟩, q _ H _ (Same.refl _) (.int _) h⟩
def ixSD (d : PyData) (e : PyData) (Q : PyData → Prop) : Prop := ∃ z i c, d = .str z ∧ e = .int i ∧ z.length ≤ sizeLine ∧ atI z.cps.toList i = some c ∧ Q (.str ⟨#[c]⟩)
theorem ve_ixS {a b : Expr} {T U : PTE Γ} (ha : VE X F a T) (hb : VE X F b U) (hs : PlainIx b) : VE X F (.Subscript a b pos) (pOp ixSD T U) := by
  obtain ⟨t, a1, a2⟩ := ha
  obtain ⟨u, b1, b2⟩ := hb
  refine ⟨_, pe_ix ix_str a1 b1 hs, re_op (fun {Z H x y d e Q Q'} dom rx ry h q => ?_) a2 b2⟩
  obtain ⟨z, i, c, rfl, rfl, hl, e, h⟩ := h
  cases ry
  obtain rfl := rp_str rx
  exact ⟨z, i, c, rfl, rfl, hl, e, q _ H _ (Same.refl _) (.str _) h⟩
def pSlS (T : PTE Γ) (lo hi : PTO Γ) (ρ : List Sl) (g : Γ) (Q : PyData → Γ → Prop) : Prop := T ρ g fun d g1 => ∃ z, d = .str z ∧ z.length ≤ sizeLine ∧ lo ρ g1 fun l g2 => hi ρ g2 fun u g3 => Q (.str (cutS z l u)) g3
theorem ve_sliceS {e : Expr} {lo hi : Option Expr} {p2 : Pos} {T : PTE Γ} {L U : PTO Γ} (he : VE X F e T) (hl : VO X F lo L) (hu : VO X F hi U) : VE X F (.Subscript e (.Slice lo hi none p2) pos) (pSlS T L U) := by
  obtain ⟨t, a1, a2⟩ := he
  obtain ⟨l, l1, l2⟩ := hl
  obtain ⟨u, u1, u2⟩ := hu
  refine ⟨_, pe_slice sl_str a1 l1 u1, fun {W H0 os σ H ρ g Q Q'} k h q => a2 k h fun v H1 d g1 m1 s1 r1 h1 => ?_⟩
  obtain ⟨z, rfl, zl, h1⟩ := h1
  obtain rfl := rp_str r1
  exact l2 (k.move m1 s1) h1 fun lo H2 g2 m2 s2 h2 => u2 ((k.move m1 s1).move m2 s2) h2 fun hi H3 g3 m3 s3 h3 => ⟨z, rfl, zl, q _ H3 _ g3 ((m1.trans m2).trans m3) s3 (.str _) h3⟩
theorem op_mul_str : OpR X (binaryOp .Mult) (fun x y H Q => ∃ a n, x = .str a ∧ y = .int n ∧ MulOk a n ∧ Q (.str (Txt.mul a n)) H) := by
  intro pins s σ H x y v u Q I rx ry h
  obtain ⟨a, n, rfl, rfl, hz, q⟩ := h
  obtain ⟨t, rfl⟩ := rx
  obtain ⟨t', rfl⟩ := ry
  exact SB.mul hz (fun t' tk => ⟨.str (Txt.mul a n), H, I.tok _, ⟨_, rfl⟩, q⟩)
def mulSD (d : PyData) (e : PyData) (Q : PyData → Prop) : Prop := ∃ a n, d = .str a ∧ e = .int n ∧ MulOk a n ∧ Q (.str (Txt.mul a n))
theorem vo_mulS : VOp X (binaryOp .Mult) mulSD := by
  refine ⟨_, op_mul_str, fun {Z H x y d e Q Q'} dom rx ry h q => ?_⟩
  obtain ⟨a, n, rfl, rfl, hz, h⟩ := h
  obtain rfl := rp_str rx
  cases ry
  exact ⟨a, n, rfl, rfl, hz, q _ H _ (Same.refl _) (.str _) h⟩
end
def tx (l : List Nat) : PyData := .str ⟨l.toArray⟩
theorem tx_app (a b : List Nat) : (⟨a.toArray⟩ : Str) ++ ⟨b.toArray⟩ = ⟨(a ++ b).toArray⟩ := ext_tl (by rw [tl_append])
theorem tx_str (x : Str) : PyData.str x = tx (tl x) := by rw [tx, mk_tl]
theorem tx_cut (l : List Nat) (lo hi : Option Int) : cutS ⟨l.toArray⟩ lo hi = ⟨((l.drop (HT.sIx l.length 0 lo)).take (HT.sIx l.length l.length hi - HT.sIx l.length 0 lo)).toArray⟩ := rfl
theorem tx_join (y : List Nat) (ps : List (List Nat)) : Txt.join ⟨y.toArray⟩ (ps.map fun l => ⟨l.toArray⟩) = ⟨(joinL y ps).toArray⟩ := by
  rw [join_eq]
  refine ext_tl ?_
  rw [tl_join, List.map_map]
  show joinL y (ps.map fun l => tl ⟨l.toArray⟩) = joinL y ps
  rw [show (fun l : List Nat => tl (⟨l.toArray⟩ : Str)) = id from funext fun l => rfl, List.map_id]
theorem tx_split {s : Nat} {S : List Nat} (hk : (s :: S).all (· < 256) = true) {ps : List (List Nat)} (hne : ps ≠ []) (hp : ∀ p ∈ ps, s ∉ p) : Txt.split ⟨(joinL (s :: S) ps).toArray⟩ ⟨(s :: S).toArray⟩ = ps.map fun l => ⟨l.toArray⟩ := by
  refine map_tl_inj ?_
  rw [split_spl _ _ (by show (s :: S) ≠ []; simp) (kind_ok (by
    rw [← Array.all_toList]
    exact hk))]
  show spl (s :: S) 0 [] (joinL (s :: S) ps) = _
  rw [spl_join hne hp, List.map_map]
  show ps = ps.map fun l => tl ⟨l.toArray⟩
  rw [show (fun l : List Nat => tl (⟨l.toArray⟩ : Str)) = id from funext fun l => rfl, List.map_id]
end Pv
set_option Elab.async false
set_option linter.all false
set_option maxRecDepth 100000
set_option maxHeartbeats 4000000
namespace Pv
open PySem PySem.Spec PyProof.Rows L2 Cm GxR TL
def numT (n : Int) : List Nat := (if n < 0 then [45] else []) ++ numL n.natAbs
theorem str_abs (n : Int) : PyData.str (Str.ofString (toString ((n.natAbs : Nat) : Int))) = tx (numL n.natAbs) := by rw [tx_str, tl_num]
theorem c_min : PyData.str (Str.ofString "-") = tx [45] := by rw [tx_str, tl_ofString]; rfl
theorem c_nil : PyData.str (Str.ofString "") = tx [] := by rw [tx_str, tl_ofString]; rfl
theorem c_sp : PyData.str (Str.ofString " ") = tx [32] := by rw [tx_str, tl_ofString]; rfl
theorem c_semi : PyData.str (Str.ofString " ; ") = tx [32, 59, 32] := by rw [tx_str, tl_ofString]; rfl
theorem c_none : PyData.str (Str.ofString "none") = tx [110, 111, 110, 101] := by rw [tx_str, tl_ofString]; rfl
def rowT (r : List Int) : List Nat := if r = [] then [45] else joinL [32] (r.map numT)
def rowsT (rs : List (List Int)) : List Nat := if rs = [] then [110, 111, 110, 101] else joinL [32, 59, 32] (rs.map rowT)
theorem numT_len {n : Int} (h : n.natAbs < 10 ^ 60) : (numT n).length ≤ 61 := by
  have := numL_len (k := 60) (by decide) h
  rw [numT, List.length_append]
  split <;> (simp only [List.length_cons, List.length_nil]; omega)
theorem joinL_len (S : List Nat) : ∀ ps : List (List Nat), (joinL S ps).length ≤ (ps.map (·.length)).sum + ps.length * S.length
  | [] => Nat.zero_le _
  | [p] => by
    show p.length ≤ _
    rw [List.map_cons, List.map_nil, List.sum_cons, List.sum_nil]
    omega
  | p :: q :: r => by
    have ih := joinL_len S (q :: r)
    show (p ++ (S ++ joinL S (q :: r))).length ≤ _
    rw [List.length_append, List.length_append, List.map_cons, List.sum_cons, List.length_cons, Nat.add_mul, Nat.one_mul]
    omega
theorem sum_le {α : Type} {f : α → Nat} {b : Nat} : ∀ {l : List α}, (∀ x ∈ l, f x ≤ b) → (l.map f).sum ≤ l.length * b
  | [], _ => Nat.zero_le _
  | x :: l, h => by
    have h1 := h x List.mem_cons_self
    have h2 := sum_le fun y hy => h y (List.mem_cons_of_mem _ hy)
    rw [List.map_cons, List.sum_cons, List.length_cons, Nat.add_mul, Nat.one_mul]
    omega
def TxR (r : List Int) : Prop := r.length ≤ 1000 ∧ ∀ n ∈ r, n.natAbs < 10 ^ 60
def TxRs (rs : List (List Int)) : Prop := rs.length ≤ 1000 ∧ ∀ r ∈ rs, r.length ≤ 100 ∧ TxR r
theorem row_sum {r : List Int} (h : TxR r) : (((r.map numT).map (·.length)).sum) ≤ r.length * 65 := by
  rw [List.map_map]
  exact sum_le fun n hn => Nat.le_trans (numT_len (h.2 n hn)) (by decide)
theorem rowT_len {r : List Int} (h : TxR r) : (rowT r).length ≤ r.length * 66 + 1 := by
  unfold rowT
  split
  · exact Nat.le_add_left _ _
  · have h1 := joinL_len [32] (r.map numT)
    have h2 := row_sum h
    rw [List.length_map] at h1
    simp only [List.length_cons, List.length_nil] at h1
    omega
theorem rows_sum {rs : List (List Int)} (h : TxRs rs) : (((rs.map rowT).map (·.length)).sum) ≤ rs.length * 6601 := by
  rw [List.map_map]
  refine sum_le fun r hr => ?_
  have h1 := h.2 r hr
  have := rowT_len h1.2
  show (rowT r).length ≤ _
  omega
theorem txs_map (ls : List (List Nat)) : ls.map tx = (ls.map fun l => (⟨l.toArray⟩ : Str)).map PyData.str := by rw [List.map_map]; rfl
theorem txs_sum (ls : List (List Nat)) : ((ls.map fun l => (⟨l.toArray⟩ : Str)).map (·.length)).sum = (ls.map (·.length)).sum := by rw [List.map_map]; rfl
section
variable {Γ : Type} {F : Frm Γ}
theorem join_tx {y : List Nat} {ls : List (List Nat)} {Q : PyData → Γ → Prop} {g : Γ} (hb : (ls.map (·.length)).sum + ls.length * y.length ≤ 16777216) (h : Q (tx (joinL y ls)) g) : ∃ a, tx y = .str a ∧ ∃ ys : List Str, PyData.list (ls.map tx) = .list (ys.map PyData.str) ∧ (ys.map (·.length)).sum + ys.length * a.length ≤ 16777216 ∧ Q (.str (Txt.join a ys)) g := by
  refine ⟨_, rfl, _, by rw [txs_map], by rw [txs_sum, List.length_map]; exact hb, ?_⟩
  rw [tx_join]
  exact h
end
theorem numL_head {n : Nat} (h : 0 < n) : ∃ c r, numL n = c :: r ∧ c ≠ 48 := by
  induction n using Nat.strongRecOn with
  | _ n ih =>
    by_cases h9 : n < 10
    · exact ⟨48 + n, [], numL_lt h9, by omega⟩
    · obtain ⟨c, r, e, hc⟩ := ih (n / 10) (by omega) (by omega)
      exact ⟨c, r ++ [48 + n % 10], by rw [numL_step (by omega), e]; rfl, hc⟩
theorem numT_free {n : Int} {s : Nat} (h : s < 45 ∨ 57 < s) : s ∉ numT n := fun hm => by
  rcases List.mem_append.mp hm with e | e
  · split at e
    · have := List.mem_singleton.mp e
      omega
    · cases e
  · have := numL_digits _ s e
    omega
theorem numT_ne (n : Int) : numT n ≠ [45] := fun h => by
  unfold numT at h
  split at h
  · have := (List.cons.inj h).2
    exact numL_ne _ this
  · have e : (45 : Nat) ∈ numL n.natAbs := by
      rw [List.nil_append] at h
      rw [h]
      exact List.mem_singleton.mpr rfl
    exact numL_free (by omega) e
theorem joinL_free {S : List Nat} {s : Nat} (hS : s ∉ S) : ∀ {ps : List (List Nat)}, (∀ p ∈ ps, s ∉ p) → s ∉ joinL S ps
  | [], _, h => by cases h
  | [p], hp, h => hp p List.mem_cons_self h
  | p :: q :: r, hp, h => by
    rcases List.mem_append.mp h with e | e
    · exact hp p List.mem_cons_self e
    · rcases List.mem_append.mp e with e | e
      · exact hS e
      · exact joinL_free hS (fun x hx => hp x (List.mem_cons_of_mem _ hx)) e
theorem rowT_free {r : List Int} {s : Nat} (h : 57 < s) : s ∉ rowT r := by
  unfold rowT
  split
  · intro e
    have := List.mem_singleton.mp e
    omega
  · refine joinL_free (fun e => by have := List.mem_singleton.mp e; omega) fun p hp => ?_
    obtain ⟨n, _, rfl⟩ := List.mem_map.mp hp
    exact numT_free (.inr h)
theorem rowT_one {r : List Int} (h : rowT r = [45]) : r = [] := Classical.byContradiction fun c => by
  unfold rowT at h
  rw [if_neg c] at h
  have e : spl [32] 0 [] (joinL [32] (r.map numT)) = r.map numT := spl_join (fun z => c (List.map_eq_nil_iff.mp z)) fun p hp => by
    obtain ⟨n, _, rfl⟩ := List.mem_map.mp hp
    exact numT_free (.inl (by decide))
  rw [h, spl_last1 (by decide)] at e
  cases r with
  | nil => exact c rfl
  | cons n r =>
    cases r with
    | nil =>
      exact numT_ne n (List.cons.inj e).1.symm
    | cons m r => cases (List.cons.inj e).2
theorem pre_two {a b : Nat} {S p q : List Nat} (ab : a ≠ b) (h : b ∉ p) (hq : ∃ r, q = a :: r) : ∀ i, i < p.length → pre (a :: b :: S) ((p ++ q).drop i) = false := fun i hi => by
  obtain ⟨r, rfl⟩ := hq
  rw [List.drop_append_of_le_length (Nat.le_of_lt hi), List.drop_eq_getElem_cons hi]
  have nb : ∀ (l : List Nat) (c : Nat), (∀ d, l.head? = some d → d ≠ b) → l ≠ [] → pre (a :: b :: S) (c :: l) = false := fun l c hd hl => by
    cases l with
    | nil => exact absurd rfl hl
    | cons d l =>
      unfold pre
      rw [beq_eq_false_iff_ne]
      intro e
      have e2 := (List.cons.inj e).2
      exact hd d rfl (List.cons.inj e2).1
  refine nb _ _ (fun d hd => ?_) (by simp)
  by_cases c : i + 1 < p.length
  · rw [List.drop_eq_getElem_cons c] at hd
    cases hd
    exact fun e => h (e ▸ List.getElem_mem c)
  · rw [List.drop_of_length_le (by omega)] at hd
    cases hd
    exact ab
theorem pre_end {a b : Nat} {S p : List Nat} (h : b ∉ p) : ∀ i, i < p.length → pre (a :: b :: S) (p.drop i) = false := fun i hi => by
  rw [List.drop_eq_getElem_cons hi]
  unfold pre
  rw [beq_eq_false_iff_ne]
  intro e
  have e2 := (List.cons.inj e).2
  by_cases c : i + 1 < p.length
  · rw [List.drop_eq_getElem_cons c] at e2
    exact h ((List.cons.inj e2).1 ▸ List.getElem_mem c)
  · rw [List.drop_of_length_le (by omega)] at e2
    simp at e2
theorem spl_join2 {a b : Nat} {S : List Nat} (ab : a ≠ b) : ∀ {ps : List (List Nat)}, ps ≠ [] → (∀ p ∈ ps, b ∉ p) → spl (a :: b :: S) 0 [] (joinL (a :: b :: S) ps) = ps
  | [], h, _ => absurd rfl h
  | [p], _, hp => by
    show spl _ 0 [] p = _
    rw [spl_last (pre_end (hp p List.mem_cons_self))]
    rfl
  | p :: q :: r, _, hp => by
    show spl _ 0 [] (p ++ ((a :: b :: S) ++ joinL _ (q :: r))) = _
    rw [spl_part (by simp) (pre_two ab (hp p List.mem_cons_self) ⟨_, rfl⟩), spl_join2 ab (by simp) fun x hx => hp x (List.mem_cons_of_mem _ hx)]
    rfl
theorem tx_split2 {a b : Nat} {S : List Nat} (ab : a ≠ b) (hk : (a :: b :: S).all (· < 256) = true) {ps : List (List Nat)} (hne : ps ≠ []) (hp : ∀ p ∈ ps, b ∉ p) : Txt.split ⟨(joinL (a :: b :: S) ps).toArray⟩ ⟨(a :: b :: S).toArray⟩ = ps.map fun l => ⟨l.toArray⟩ := by
  refine map_tl_inj ?_
  rw [split_spl _ _ (by show (a :: b :: S) ≠ []; simp) (kind_ok (by
    rw [← Array.all_toList]
    exact hk))]
  show spl (a :: b :: S) 0 [] (joinL (a :: b :: S) ps) = _
  rw [spl_join2 ab hne hp, List.map_map]
  show ps = ps.map fun l => tl ⟨l.toArray⟩
  rw [show (fun l : List Nat => tl (⟨l.toArray⟩ : Str)) = id from funext fun l => rfl, List.map_id]
theorem dig_is : ∀ c, 48 ≤ c → c ≤ 57 → Unicode.isDigit c = true := by
  have : ∀ k, k < 10 → Unicode.isDigit (48 + k) = true := by decide +kernel
  intro c h1 h2
  have e := this (c - 48) (by omega)
  rwa [show 48 + (c - 48) = c by omega] at e
theorem num_ascii (n : Nat) : Txt.isascii ⟨(numL n).toArray⟩ = true := by
  unfold Txt.isascii
  rw [← Array.all_toList, List.all_eq_true]
  intro c hc
  have := numL_digits n c hc
  exact decide_eq_true (by omega)
theorem num_digit (n : Nat) : Txt.isdigit ⟨(numL n).toArray⟩ = true := by
  unfold Txt.isdigit
  rw [Bool.and_eq_true]
  refine ⟨decide_eq_true (List.length_pos_iff.mpr (numL_ne n)), ?_⟩
  rw [← Array.all_toList, List.all_eq_true]
  intro c hc
  have := numL_digits n c hc
  exact dig_is c this.1 this.2
theorem num_int (n : Nat) (h : (numL n).length ≤ 600) : PySem.intText? ⟨(48 :: numL n).toArray⟩ = some (n : Int) := by
  have hd : NumText.AllDigits (48 :: numL n) := fun c hc => by
    rcases List.mem_cons.mp hc with rfl | hc
    · omega
    · exact numL_digits n c hc
  have e := intText_digits (x := ⟨(48 :: numL n).toArray⟩) hd (by simp) (by show (numL n).length + 1 ≤ _; omega)
  rw [e]
  have v := numL_val n
  unfold NumText.digitsVal at v ⊢
  rw [show ((⟨(48 :: numL n).toArray⟩ : Str).cps.toList) = 48 :: numL n from rfl, List.foldl_cons]
  exact congrArg (fun m : Nat => some (m : Int)) v
theorem starts1 (l : List Nat) (c : Nat) : Txt.startswith ⟨l.toArray⟩ ⟨[c].toArray⟩ = (l.head? == some c) := by
  unfold Txt.startswith
  rw [PySem.StrLaws.subAt_eq]
  cases l with
  | nil => rfl
  | cons d r =>
    show (decide (0 + 1 ≤ r.length + 1) && ([d] == [c])) = (some d == some c)
    rw [decide_eq_true (by omega), Bool.true_and]
    by_cases e : d = c
    · subst e; simp
    · simp [e]
theorem rmp_hit (l : List Nat) (c : Nat) : Txt.removeprefix ⟨(c :: l).toArray⟩ ⟨[c].toArray⟩ = ⟨l.toArray⟩ := by
  rw [PySem.StrLaws.removeprefix_eq, PySem.StrLaws.subAt_eq]
  have e : (decide (0 + (⟨[c].toArray⟩ : Str).length ≤ (⟨(c :: l).toArray⟩ : Str).length) && (((((⟨(c :: l).toArray⟩ : Str).cps.toList).drop 0).take (⟨[c].toArray⟩ : Str).length) == (⟨[c].toArray⟩ : Str).cps.toList)) = true := by
    show (decide (0 + 1 ≤ l.length + 1) && ([c] == [c])) = true
    rw [decide_eq_true (by omega), Bool.true_and]
    simp
  rw [if_pos e]
  show (⟨(l.take (l.length + 1 - 1)).toArray⟩ : Str) = _
  rw [Nat.add_sub_cancel, List.take_length]
theorem rmp_miss (l : List Nat) (c : Nat) (h : l.head? ≠ some c) : Txt.removeprefix ⟨l.toArray⟩ ⟨[c].toArray⟩ = ⟨l.toArray⟩ := by
  rw [PySem.StrLaws.removeprefix_eq, PySem.StrLaws.subAt_eq]
  have e : ¬ (decide (0 + (⟨[c].toArray⟩ : Str).length ≤ (⟨l.toArray⟩ : Str).length) && (((((⟨l.toArray⟩ : Str).cps.toList).drop 0).take (⟨[c].toArray⟩ : Str).length) == (⟨[c].toArray⟩ : Str).cps.toList)) = true := by
    cases l with
    | nil => exact fun z => Bool.noConfusion z
    | cons d r =>
      show ¬ (decide (0 + 1 ≤ r.length + 1) && ([d] == [c])) = true
      rw [decide_eq_true (by omega), Bool.true_and]
      intro z
      simp at z
      exact h (congrArg some z)
  rw [if_neg e]
theorem numL_hd (n : Nat) : (numL n).head? ≠ some 45 := fun h => by
  have : (45 : Nat) ∈ numL n := by
    cases e : numL n with
    | nil => rw [e] at h; cases h
    | cons c r =>
      rw [e] at h
      cases h
      exact List.mem_cons_self
  exact numL_free (by omega) this
theorem numT_rmp (n : Int) : Txt.removeprefix ⟨(numT n).toArray⟩ ⟨[45].toArray⟩ = ⟨(numL n.natAbs).toArray⟩ := by
  unfold numT
  by_cases c : n < 0
  · rw [if_pos c]
    exact rmp_hit _ _
  · rw [if_neg c, List.nil_append]
    exact rmp_miss _ _ (numL_hd _)
theorem numT_neg (n : Int) : Txt.startswith ⟨(numT n).toArray⟩ ⟨[45].toArray⟩ = decide (n < 0) := by
  rw [starts1]
  unfold numT
  by_cases c : n < 0
  · rw [if_pos c, decide_eq_true c]
    rfl
  · rw [if_neg c, List.nil_append, decide_eq_false c]
    exact beq_eq_false_iff_ne.mpr (numL_hd _)
theorem num_zero (n : Nat) : Txt.startswith ⟨(numL n).toArray⟩ ⟨[48].toArray⟩ = decide (n = 0) := by
  rw [starts1]
  by_cases c : n = 0
  · subst c
    rw [numL_lt (by decide)]
    rfl
  · obtain ⟨d, r, e, hd⟩ := numL_head (Nat.pos_of_ne_zero c)
    rw [e, decide_eq_false c]
    exact beq_eq_false_iff_ne.mpr fun z => hd (Option.some.inj z)
theorem cut_toS (l : List Nat) : cutS ⟨l.toArray⟩ none (some (l.length : Int)) = ⟨l.toArray⟩ := by
  rw [tx_cut]
  have e1 : HT.sIx l.length 0 none = 0 := rfl
  have e2 : HT.sIx l.length l.length (some (l.length : Int)) = l.length := by
    simp only [HT.sIx]
    rw [if_neg (by omega)]
    omega
  rw [e1, e2, List.drop_zero, Nat.sub_zero, List.take_length]
theorem rowsT_none {rs : List (List Int)} (h : rowsT rs = [110, 111, 110, 101]) : rs = [] := Classical.byContradiction fun c => by
  unfold rowsT at h
  rw [if_neg c] at h
  have : (110 : Nat) ∉ joinL [32, 59, 32] (rs.map rowT) := joinL_free (by decide) fun p hp => by
    obtain ⟨r, _, rfl⟩ := List.mem_map.mp hp
    exact rowT_free (by decide)
  rw [h] at this
  exact this List.mem_cons_self
end Pv
set_option linter.all false
namespace K01
structure Bo (A B m r x l : Int) : Prop where
  a0 : 0 ≤ A
  m0 : 0 ≤ m
  r0 : 0 ≤ r
  em : ∃ y, m = x * A + y * B
  er : ∃ z, r = l * A + z * B
  g : Int.gcd m r = Int.gcd A B
  bd : (l.natAbs : Int) * m + (x.natAbs : Int) * r ≤ B
  bx : (x.natAbs : Int) ≤ B + 1
  bl : (l.natAbs : Int) ≤ B + 1
  mA : m ≤ A + B
  rB : r ≤ B
end K01
set_option Elab.async false
set_option linter.all false
set_option maxRecDepth 100000
set_option maxHeartbeats 4000000
namespace K76
open PySem PySem.Spec PyProof.Rows L2 Cm GxR Pv
def topS (i : Nat) : Stmt := PySem.Challenge.pw_commonhouse_k76_rows_as_texts.main.body.getD i (.Pass ⟨0, 0, 0, 0⟩)
abbrev s_show_number : Stmt := topS 6
abbrev N_show_number : List Str := ["number", "sign", "rest", "figures", "piece"]
theorem sc_show_number : FnScope N_show_number ["number"] (defScope s_show_number) := ⟨rfl, rfl, rfl, by decide +kernel, rfl, by decide +kernel, by decide +kernel⟩
abbrev s_show_row : Stmt := topS 7
abbrev N_show_row : List Str := ["row", "number"]
theorem sc_show_row : FnScope N_show_row ["row"] (defScope s_show_row) := ⟨rfl, rfl, rfl, by decide +kernel, rfl, by decide +kernel, by decide +kernel⟩
abbrev s_show_rows : Stmt := topS 8
abbrev N_show_rows : List Str := ["rows", "row"]
theorem sc_show_rows : FnScope N_show_rows ["rows"] (defScope s_show_rows) := ⟨rfl, rfl, rfl, by decide +kernel, rfl, by decide +kernel, by decide +kernel⟩
abbrev s_is_number : Stmt := topS 10
abbrev N_is_number : List Str := ["word", "figures"]
theorem sc_is_number : FnScope N_is_number ["word"] (defScope s_is_number) := ⟨rfl, rfl, rfl, by decide +kernel, rfl, by decide +kernel, by decide +kernel⟩
abbrev s_need : Stmt := topS 11
abbrev N_need : List Str := ["holds"]
theorem sc_need : FnScope N_need ["holds"] (defScope s_need) := ⟨rfl, rfl, rfl, by decide +kernel, rfl, by decide +kernel, by decide +kernel⟩
abbrev s_read_number : Stmt := topS 12
abbrev N_read_number : List Str := ["word", "figures", "short", "number", "start"]
theorem sc_read_number : FnScope N_read_number ["word"] (defScope s_read_number) := ⟨rfl, rfl, rfl, by decide +kernel, rfl, by decide +kernel, by decide +kernel⟩
abbrev s_read_row : Stmt := topS 13
abbrev N_read_row : List Str := ["text", "word"]
theorem sc_read_row : FnScope N_read_row ["text"] (defScope s_read_row) := ⟨rfl, rfl, rfl, by decide +kernel, rfl, by decide +kernel, by decide +kernel⟩
abbrev s_read_rows : Stmt := topS 14
abbrev N_read_rows : List Str := ["text", "row"]
theorem sc_read_rows : FnScope N_read_rows ["text"] (defScope s_read_rows) := ⟨rfl, rfl, rfl, by decide +kernel, rfl, by decide +kernel, by decide +kernel⟩
abbrev s_law_pen : Stmt := topS 16
abbrev N_law_pen : List Str := ["_law_script"]
theorem sc_law_pen : FnScope N_law_pen ["_law_script"] (defScope s_law_pen) := ⟨rfl, rfl, rfl, by decide +kernel, rfl, by decide +kernel, by decide +kernel⟩
abbrev s_law_draw : Stmt := topS 17
abbrev N_law_draw : List Str := ["_law_pen_here", "_law_many", "_law_digit", "_law_at", "_law_cell", "_law_number_here"]
theorem sc_law_draw : FnScope N_law_draw ["_law_pen_here", "_law_many"] (defScope s_law_draw) := ⟨rfl, rfl, rfl, by decide +kernel, rfl, by decide +kernel, by decide +kernel⟩
abbrev s_law_number : Stmt := topS 18
abbrev N_law_number : List Str := ["_law_pen_here", "_law_way", "_law_found"]
theorem sc_law_number : FnScope N_law_number ["_law_pen_here"] (defScope s_law_number) := ⟨rfl, rfl, rfl, by decide +kernel, rfl, by decide +kernel, by decide +kernel⟩
abbrev s_law_drawn_row : Stmt := topS 19
abbrev N_law_drawn_row : List Str := ["_law_pen_here", "_law_most", "_law_k"]
theorem sc_law_drawn_row : FnScope N_law_drawn_row ["_law_pen_here", "_law_most"] (defScope s_law_drawn_row) := ⟨rfl, rfl, rfl, by decide +kernel, rfl, by decide +kernel, by decide +kernel⟩
abbrev s_law_drawn_rows : Stmt := topS 20
abbrev N_law_drawn_rows : List Str := ["_law_pen_here", "_law_k"]
theorem sc_law_drawn_rows : FnScope N_law_drawn_rows ["_law_pen_here"] (defScope s_law_drawn_rows) := ⟨rfl, rfl, rfl, by decide +kernel, rfl, by decide +kernel, by decide +kernel⟩
abbrev s_law_word_of : Stmt := topS 21
abbrev N_law_word_of : List Str := ["_law_number_here", "_law_rest", "_law_found"]
theorem sc_law_word_of : FnScope N_law_word_of ["_law_number_here"] (defScope s_law_word_of) := ⟨rfl, rfl, rfl, by decide +kernel, rfl, by decide +kernel, by decide +kernel⟩
abbrev s_law_row_text : Stmt := topS 22
abbrev N_law_row_text : List Str := ["_law_row", "_law_number_here"]
theorem sc_law_row_text : FnScope N_law_row_text ["_law_row"] (defScope s_law_row_text) := ⟨rfl, rfl, rfl, by decide +kernel, rfl, by decide +kernel, by decide +kernel⟩
abbrev s_law_rows_text : Stmt := topS 23
abbrev N_law_rows_text : List Str := ["_law_rows", "_law_row"]
theorem sc_law_rows_text : FnScope N_law_rows_text ["_law_rows"] (defScope s_law_rows_text) := ⟨rfl, rfl, rfl, by decide +kernel, rfl, by decide +kernel, by decide +kernel⟩
abbrev s_law_many_right : Stmt := topS 24
abbrev N_law_many_right : List Str := ["_law_pen_here", "_law_rows", "_law_text", "_law_found", "_law_k"]
theorem sc_law_many_right : FnScope N_law_many_right ["_law_pen_here"] (defScope s_law_many_right) := ⟨rfl, rfl, rfl, by decide +kernel, rfl, by decide +kernel, by decide +kernel⟩
abbrev s_law_long_right : Stmt := topS 25
abbrev N_law_long_right : List Str := ["_law_pen_here", "_law_row", "_law_rows", "_law_k"]
theorem sc_law_long_right : FnScope N_law_long_right ["_law_pen_here"] (defScope s_law_long_right) := ⟨rfl, rfl, rfl, by decide +kernel, rfl, by decide +kernel, by decide +kernel⟩
abbrev s_law : Stmt := topS 26
abbrev N_law : List Str := ["_law_script", "_law_pen_here", "_law_k", "_law_row", "_law_rows", "_law_kept", "_law_due", "_law_again"]
theorem sc_law : FnScope N_law ["_law_script"] (defScope s_law) := ⟨rfl, rfl, rfl, by decide +kernel, rfl, by decide +kernel, by decide +kernel⟩
structure Txt (K : PySem.W.Frag) (mg : Str → Option Value) : Prop where
  d_show_number : Df K mg "show_number" s_show_number ["number"]
  d_show_row : Df K mg "show_row" s_show_row ["row"]
  d_show_rows : Df K mg "show_rows" s_show_rows ["rows"]
  d_is_number : Df K mg "is_number" s_is_number ["word"]
  d_need : Df K mg "need" s_need ["holds"]
  d_read_number : Df K mg "read_number" s_read_number ["word"]
  d_read_row : Df K mg "read_row" s_read_row ["text"]
  d_read_rows : Df K mg "read_rows" s_read_rows ["text"]
  d_law_pen : Df K mg "_law_pen" s_law_pen ["_law_script"]
  d_law_draw : Df K mg "_law_draw" s_law_draw ["_law_pen_here", "_law_many"]
  d_law_number : Df K mg "_law_number" s_law_number ["_law_pen_here"]
  d_law_drawn_row : Df K mg "_law_drawn_row" s_law_drawn_row ["_law_pen_here", "_law_most"]
  d_law_drawn_rows : Df K mg "_law_drawn_rows" s_law_drawn_rows ["_law_pen_here"]
  d_law_word_of : Df K mg "_law_word_of" s_law_word_of ["_law_number_here"]
  d_law_row_text : Df K mg "_law_row_text" s_law_row_text ["_law_row"]
  d_law_rows_text : Df K mg "_law_rows_text" s_law_rows_text ["_law_rows"]
  d_law_many_right : Df K mg "_law_many_right" s_law_many_right ["_law_pen_here"]
  d_law_long_right : Df K mg "_law_long_right" s_law_long_right ["_law_pen_here"]
  d_law : Df K mg "law" s_law ["_law_script"]
  n_abs : mg "abs" = none
  n_all : mg "all" = none
  n_any : mg "any" = none
  n_bool : mg "bool" = none
  n_divmod : mg "divmod" = none
  n_enumerate : mg "enumerate" = none
  n_int : mg "int" = none
  n_isinstance : mg "isinstance" = none
  n_len : mg "len" = none
  n_list : mg "list" = none
  n_max : mg "max" = none
  n_min : mg "min" = none
  n_range : mg "range" = none
  n_repr : mg "repr" = none
  n_reversed : mg "reversed" = none
  n_str : mg "str" = none
  n_tuple : mg "tuple" = none
  n_zip : mg "zip" = none
  g_PIECE : ∃ t, mg "PIECE" = some (.int 64 t)
  g_BEYOND : ∃ t, mg "BEYOND" = some (.int 10000000000000000000000000000000000000000000000000000000000000000 t)
section
variable {P : Program} {w : World} {K : PySem.W.Frag} {mg : Str → Option Value} {base : Heap}
abbrev rsD (rows : List (List Int)) : PyData := .tuple (rows.map ivD)
end
end K76
set_option Elab.async false
set_option linter.all false
set_option maxRecDepth 100000
set_option maxHeartbeats 4000000
namespace K76
open PySem PySem.Spec PyProof.Rows L2 Cm GxR Pv
local macro_rules | `(tactic| walk_at "pk0") => `(tactic| simp only [pSq, pSet, pSetF, pRet, pRetN, pIfS, pDrop, pAsg, pApp, pSetI, pFrz, pPar, pNext, pVar, pC, pOp, pUn, pTest, pAnd, pOr, pNot, pAndV, pOrV, pNotV, pIf, pChain, pNil, pCons, pTup, pLst, pCat, pListF, pCall, pBui, pLook, pSl, pPart, pNoPart, pIsi, pTru, pDct, pRng1, pRng2, pSeq, pYes, addD, subD, modD, divD, powD, mulD, negD, cmpD, eqD, neD, isD, isntD, isNone, ixD, slD, lenD, tupD, lstD, absD, minD, maxD, sumD, seqD, Pv.scal, qName, qTup, qCons, qNil, notOwn, noOwns, pwipe, frz, startP, List.map_cons, List.map_nil, List.cons_append, List.nil_append, List.getElem?_cons_zero, List.getElem?_cons_succ, List.set_cons_zero, List.set_cons_succ, List.length_cons, List.length_nil, List.replicate, Option.some.injEq, Sl.val.injEq, Sl.own.injEq, PyData.int.injEq, PyData.bool.injEq, PyData.list.injEq, PyData.tuple.injEq, List.cons.injEq, exists_eq_left', exists_eq_left, exists_eq_right, exists_eq_right', exists_and_left, true_and, and_true, if_true, if_false, decide_eq_true_eq, Bool.not_eq_true', decide_eq_false_iff_not, List.all_cons, List.all_nil, Bool.and_true, Bool.true_and, Nat.reduceAdd, Nat.reduceLT, Nat.reduceLeDiff, Nat.zero_add, Int.reduceSub, Int.reduceAdd, Int.reduceNeg, gSlots, slV, pLstRg, pSqF, pRetF, pMov, Pv.intD, Pv.boolD, Pv.allD, Pv.anyD, Pv.mulT, pNp, pNpS, pPen, pPenS, pPenL, pPenI])
local macro_rules | `(tactic| walk_at "pk1") => `(tactic| simp only [pSq, pSet, pSetF, pRet, pRetN, pIfS, pDrop, pAsg, pApp, pSetI, pFrz, pPar, pNext, pVar, pC, pOp, pUn, pTest, pAnd, pOr, pNot, pAndV, pOrV, pNotV, pIf, pChain, pNil, pCons, pTup, pLst, pCat, pListF, pCall, pBui, pLook, pSl, pPart, pNoPart, pIsi, pTru, pDct, pRng1, pRng2, pSeq, pYes, addD, subD, modD, divD, powD, mulD, negD, cmpD, eqD, neD, isD, isntD, isNone, ixD, slD, lenD, tupD, lstD, absD, minD, maxD, sumD, seqD, Pv.scal, qName, qTup, qCons, qNil, notOwn, noOwns, pwipe, frz, startP, List.map_cons, List.map_nil, List.cons_append, List.nil_append, List.getElem?_cons_zero, List.getElem?_cons_succ, List.set_cons_zero, List.set_cons_succ, List.length_cons, List.length_nil, List.replicate, Option.some.injEq, Sl.val.injEq, Sl.own.injEq, PyData.int.injEq, PyData.bool.injEq, PyData.list.injEq, PyData.tuple.injEq, List.cons.injEq, exists_eq_left', exists_eq_left, exists_eq_right, exists_eq_right', exists_and_left, true_and, and_true, if_true, if_false, decide_eq_true_eq, Bool.not_eq_true', decide_eq_false_iff_not, List.all_cons, List.all_nil, Bool.and_true, Bool.true_and, Nat.reduceAdd, Nat.reduceLT, Nat.reduceLeDiff, Nat.zero_add, Int.reduceSub, Int.reduceAdd, Int.reduceNeg, gSlots, slV, pLstRg, pSqF, pRetF, pMov, Pv.intD, Pv.boolD, Pv.allD, Pv.anyD, Pv.mulT, pNp, pNpS])
section
variable {P : Program} {w : World} {K : PySem.W.Frag} {mg : Str → Option Value} {base : Heap}
def Sc (c : Int) (g : Int × Int) : Prop := 0 ≤ g.1 ∧ g.1 ≤ c ∧ 0 ≤ g.2
theorem Sc.mono {c c' : Int} {g : Int × Int} (h : Sc c g) (hc : c ≤ c') : Sc c' g := ⟨h.1, Int.le_trans h.2.1 hc, h.2.2⟩
section
variable {d a : Addr} {Bs : List Addr} {ns : List Int} {tr : Prop}
def tDraw (d : Addr) : PSp (Int × Int) := fun ds g Q => ∃ (many : Nat) (c : Int), ds = [ptrD d, .int (many : Int)] ∧ 0 < many ∧ many < 2 ^ 200 ∧ Sc c g ∧ c ≤ 1000000 ∧ ∀ (r : Nat) g', r < many → Sc (c + 1) g' → Q (.int (r : Int)) g'
theorem small_w {i : Int} {n : Nat} (h : i.natAbs ≤ n) (hn : n < 2 ^ 100 := by decide) : i.natAbs < 2 ^ 100 := Nat.lt_of_le_of_lt h hn
theorem mod_r {z : Int} {many : Nat} (hm : 0 < many) : ∃ r : Nat, z % (many : Int) = r ∧ r < many := by
  have h1 := Int.emod_nonneg z (show (many : Int) ≠ 0 by omega)
  have h2 := Int.emod_lt_of_pos z (show (0 : Int) < many by omega)
  exact ⟨(z % (many : Int)).toNat, by omega, by omega⟩
theorem p_draw (x : Px K d a Bs ns tr) (T : Txt K mg) : FnP P w K mg base (lpF x) 1 "_law_draw" ["_law_pen_here", "_law_many"] (tDraw d) := by
  refine DfP T.d_law_draw sc_law_draw (by rintro ds g Q' ⟨_, _, rfl, _⟩; rfl) fun f cdv A outer s H E hr hg => ⟨_, (vss_cons (vs_if (vt_cmp vo_gt (ve_pen2 x (i := 0) rfl (.inl rfl)) ve_int (nomark _))
(vss_cons (vs_set (i := 2) sc_law_draw.nd rfl (by first | exact Or.inl rfl | exact Or.inr rfl) (ve_op vo_mod (ve_pen2 x (i := 0) rfl (.inl rfl)) (vv 1)))
(vss_cons (vs_pen2 x (i := 0) (ve_op vo_div (ve_pen2 x (i := 0) rfl (.inl rfl)) (vv 1)) (fun h => ps_asg h (pg_sub (pv 0) pe_int set_list)))
(vss_one (vs_ret (vv 2)))))
vss_nil)
(vss_cons (vs_set (i := 3) sc_law_draw.nd rfl (by first | exact Or.inl rfl | exact Or.inr rfl) (ve_pen1 x (i := 0) rfl (.inl rfl)))
(vss_cons (vs_pen1 x (i := 0) (ve_op vo_add (vv 3) ve_int) (fun h => ps_asg h (pg_sub (pv 0) pe_int set_list)))
(vss_cons (vs_set (i := 4) sc_law_draw.nd rfl (by first | exact Or.inl rfl | exact Or.inr rfl) (ve_op vo_add (ve_op vo_mul ve_int (vv 3)) ve_int))
(vss_cons (vs_if (vt_cmp vo_gt (ve_penL x (i := 0) (by rfl) T.n_len rfl rfl (.inl rfl)) ve_int (nomark _))
(vss_cons (vs_set (i := 4) sc_law_draw.nd rfl (by first | exact Or.inl rfl | exact Or.inr rfl) (ve_penI x (i := 0) rfl rfl (.inl rfl) (ve_op vo_mod (vv 3) (ve_penL x (i := 0) (by rfl) T.n_len rfl rfl (.inl rfl))) (fun _ _ => rfl)))
(vss_one (vs_if (VW.vt (vw_and (vt_cmp vo_lt (vv 3) (ve_penL x (i := 0) (by rfl) T.n_len rfl rfl (.inl rfl)) (nomark _)) (vw_and1 (vt_cmp vo_ge (ve_bui vc_abs (by rfl) T.n_abs (by decide +kernel) (va_cons (vv 4) va_nil)) (ve_op vo_pow ve_int ve_int) (nomark _)))))
(vss_cons (vs_pen2 x (i := 0) (ve_op vo_div (ve_bui vc_abs (by rfl) T.n_abs (by decide +kernel) (va_cons (vv 4) va_nil)) (vv 1)) (fun h => ps_asg h (pg_sub (pv 0) pe_int set_list)))
(vss_one (vs_ret (ve_op vo_mod (ve_bui vc_abs (by rfl) T.n_abs (by decide +kernel) (va_cons (vv 4) va_nil)) (vv 1)))))
vss_nil)))
vss_nil)
(vss_cons (vs_set (i := 5) sc_law_draw.nd rfl (by first | exact Or.inl rfl | exact Or.inr rfl) (ve_op vo_mod (ve_op vo_mul (ve_op vo_add (ve_op vo_add (ve_op vo_mod (vv 4) ve_int) (ve_op vo_mul ve_int (vv 3))) ve_int) ve_int) ve_int))
(vss_cons (vs_set (i := 5) sc_law_draw.nd rfl (by first | exact Or.inl rfl | exact Or.inr rfl) (ve_op vo_mod (ve_op vo_add (ve_op vo_add (ve_op vo_mul (vv 5) (vv 5)) (ve_op vo_mul ve_int (vv 5))) (vv 3)) ve_int))
(vss_one (vs_ret (ve_op vo_mod (ve_op vo_div (ve_op vo_mod (ve_op vo_mul (vv 5) (ve_op vo_add (ve_op vo_mod (vv 5) ve_int) ve_int)) ve_int) ve_int) (vv 1))))))))))), ?_⟩
  rintro ds g Q' ⟨many, c, rfl, hm, hm2, ⟨g1, g2, g3⟩, hc, hT⟩
  have dv : ∀ z : Int, CDivW z (many : Int) := fun z => wide_div (b := 200) (by omega) (by rw [Int.natAbs_natCast]; exact hm2) (by decide) (by decide)
  have mw : ∀ i j : Int, i.natAbs < 2 ^ 100 → j.natAbs < 2 ^ 100 → CMulW i j := fun i j hi hj => wide_mul (a := 100) (b := 100) hi hj (by decide) (by decide) (by decide)
  have bd : ∀ z m : Int, 0 < m → 0 ≤ z % m ∧ z % m < m := fun z m h => ⟨Int.emod_nonneg _ (by omega), Int.emod_lt_of_pos _ h⟩
  walk_at "pk0"
  split
  · obtain ⟨r, er, hr'⟩ := mod_r (z := g.2) hm
    refine ⟨by omega, ?_⟩
    (unfold Tl; walk_at "pk0")
    refine ⟨dv _, ?_⟩
    (unfold Tl; walk_at "pk0")
    rw [er]
    exact hT r _ hr' ⟨g1, by show g.1 ≤ c + 1; omega, Int.ediv_nonneg g3 (by omega)⟩
  · (unfold Tl; walk_at "pk0")
    (unfold Tl; walk_at "pk0")
    (unfold Tl; walk_at "pk0")
    refine ⟨mw _ _ (by decide) (small_w (n := 1000000) (by omega)), ?_⟩
    unfold Tl
    refine sq_share (fun ρ g' => g' = (g.1 + 1, g.2) ∧ ∃ cell : Int, ρ = [.val (ptrD d), .val (.int many), .no, .val (.int g.1), .val (.int cell), .no]) ?tail ?main
    case main =>
      intro tail
      simp only [pSq]
      generalize Tl _ = tlp at tail ⊢
      walk_at "pk0"
      split
      · rename_i hl
        have hl' : (0 : Int) < (ns.length : Int) := by omega
        refine ⟨hl', ?_⟩
        have e1 := Int.emod_nonneg g.1 (show (ns.length : Int) ≠ 0 by omega)
        have e2 := Int.emod_lt_of_pos g.1 hl'
        refine ⟨(g.1 % (ns.length : Int)).toNat, by rw [Int.toNat_of_nonneg e1], ns[(g.1 % (ns.length : Int)).toNat]'(by omega), List.getElem?_eq_getElem _, ?_⟩
        unfold Tl
        walk_at "pk0"
        split
        · refine ⟨⟨by decide, by decide, by decide⟩, ?_⟩
          split
          · refine ⟨dv _, ?_⟩
            (unfold Tl; walk_at "pk1")
            obtain ⟨r, er, hr'⟩ := mod_r (z := ((ns[(g.1 % (ns.length : Int)).toNat]'(by omega)).natAbs : Int)) hm
            refine ⟨by omega, ?_⟩
            rw [er]
            exact hT r _ hr' ⟨by show (0 : Int) ≤ g.1 + 1; omega, by show g.1 + 1 ≤ c + 1; omega, Int.ediv_nonneg (by omega) (by omega)⟩
          · exact tail _ _ ⟨rfl, _, rfl⟩
        · exact tail _ _ ⟨rfl, _, rfl⟩
      · exact tail _ _ ⟨rfl, _, rfl⟩
    case tail =>
      rintro ρ' g' ⟨rfl, cell, rfl⟩
      (unfold Tl; walk_at "pk1")
      have b1 := bd cell 2147483629 (by decide)
      refine ⟨by decide, mw _ _ (by decide) (small_w (n := 1000000000000) (by omega)), mw _ _ (small_w (n := 100000000000000) (by omega)) (by decide), by decide, ?_⟩
      have b2 := bd ((cell % 2147483629 + 150001 * g.1 + 101) * 69621) 2147483647 (by decide)
      generalize (cell % 2147483629 + 150001 * g.1 + 101) * 69621 % 2147483647 = z at b2 ⊢
      (unfold Tl; walk_at "pk1")
      refine ⟨mw _ _ (small_w (n := 2147483647) (by omega)) (small_w (n := 2147483647) (by omega)), mw _ _ (by decide) (small_w (n := 2147483647) (by omega)), by decide, ?_⟩
      have b3 := bd (z * z + 69621 * z + g.1) 2147483587 (by decide)
      generalize (z * z + 69621 * z + g.1) % 2147483587 = y at b3 ⊢
      (unfold Tl; walk_at "pk1")
      have b4 := bd y 65521 (by decide)
      refine ⟨by decide, mw _ _ (small_w (n := 2147483647) (by omega)) (small_w (n := 2147483647) (by omega)), by decide, ?_⟩
      generalize y * (y % 65521 + 5) % 2147483579 = v
      obtain ⟨r, er, hr'⟩ := mod_r (z := v / 64) hm
      refine ⟨wide_div (b := 10) (by decide) (by decide) (by decide) (by decide), by omega, ?_⟩
      rw [er]
      exact hT r _ hr' ⟨by show (0 : Int) ≤ g.1 + 1; omega, by show g.1 + 1 ≤ c + 1; omega, g3⟩
end
end
end K76
set_option Elab.async false
set_option linter.all false
set_option maxRecDepth 100000
set_option maxHeartbeats 4000000
namespace K76
open PySem PySem.Spec PyProof.Rows L2 Cm GxR Pv
local macro_rules | `(tactic| walk_at "pk0") => `(tactic| simp only [pSq, pSet, pSetF, pRet, pRetN, pIfS, pDrop, pAsg, pApp, pSetI, pFrz, pPar, pNext, pVar, pC, pOp, pUn, pTest, pAnd, pOr, pNot, pAndV, pOrV, pNotV, pIf, pChain, pNil, pCons, pTup, pLst, pCat, pListF, pCall, pBui, pLook, pSl, pPart, pNoPart, pIsi, pTru, pDct, pRng1, pRng2, pSeq, pYes, addD, subD, modD, divD, powD, mulD, negD, cmpD, eqD, neD, isD, isntD, isNone, ixX, ixDl, ixDt, slX, slDl, slDt, lenX, lenDl, lenDt, tupX, tupDl, tupDt, lstX, lstDl, lstDt, absD, minD, maxD, sumD, seqD, seqDX, Pv.scal, qName, qTup, qCons, qNil, notOwn, noOwns, pwipe, frz, startP, List.map_cons, List.map_nil, List.cons_append, List.nil_append, List.getElem?_cons_zero, List.getElem?_cons_succ, List.set_cons_zero, List.set_cons_succ, List.length_cons, List.length_nil, List.replicate, Option.some.injEq, Sl.val.injEq, Sl.own.injEq, PyData.int.injEq, PyData.bool.injEq, PyData.list.injEq, PyData.tuple.injEq, List.cons.injEq, exists_eq_left', exists_eq_left, exists_eq_right, exists_eq_right', exists_and_left, true_and, and_true, if_true, if_false, decide_eq_true_eq, Bool.not_eq_true', decide_eq_false_iff_not, List.all_cons, List.all_nil, Bool.and_true, Bool.true_and, Nat.reduceAdd, Nat.reduceLT, Nat.reduceLeDiff, Nat.zero_add, Int.reduceSub, Int.reduceAdd, Int.reduceNeg, gSlots, slV, pLstRg, pSqF, pRetF, pMov, Pv.intD, Pv.boolD, Pv.allD, Pv.anyD, Pv.mulT, pNp, pNpS, pZipX, pOrI])
section
variable {P : Program} {w : World} {K : PySem.W.Frag} {mg : Str → Option Value} {base : Heap}
open TL
section
variable {Γ : Type} {F : Frm Γ}
def tShowN : PSp Γ := fun ds g Q => ∃ n : Int, ds = [.int n] ∧ n.natAbs < 10 ^ 64 ∧ Q (tx (numT n)) g
theorem p_show_number (T : Txt K mg) : FnP P w K mg base F 1 "show_number" ["number"] tShowN := by
  refine DfP T.d_show_number sc_show_number (by rintro ds g Q' ⟨_, rfl, _⟩; rfl) fun f cdv' A outer s H E hr hg => ⟨_, (vss_cons (vs_set (i := 1) sc_show_number.nd rfl (by first | exact Or.inl rfl | exact Or.inr rfl) (ve_ifExp (vt_cmp vo_lt (vv 0) ve_int (nomark _)) ve_str ve_str))
(vss_cons (vs_set (i := 2) sc_show_number.nd rfl (by first | exact Or.inl rfl | exact Or.inr rfl) (ve_bui vc_abs (by rfl) T.n_abs (by decide +kernel) (va_cons (vv 0) va_nil)))
(vss_cons (vs_set (i := 3) sc_show_number.nd rfl (by first | exact Or.inl rfl | exact Or.inr rfl) ve_str)
(vss_cons (vs_while PassesOwn.never (vt_cmp vo_ge (vv 2) (ve_gint T.g_BEYOND (by rfl)) (nomark _))
(vss_cons (vs_asg (ve_bui vc_divmod (by rfl) T.n_divmod (by decide +kernel) (va_cons (vv 2) (va_cons (ve_gint T.g_BEYOND (by rfl)) va_nil))) (vg_tup (K := K) 2 rfl (vgs_cons (vg_name (i := 2) sc_show_number.nd rfl (by first | exact Or.inl rfl | exact Or.inr rfl)) (vgs_cons (vg_name (i := 4) sc_show_number.nd rfl (by first | exact Or.inl rfl | exact Or.inr rfl)) vgs_nil (pgs_cons (pg_name (i := 4) sc_show_number.nd rfl (by first | exact Or.inl rfl | exact Or.inr rfl)) pgs_nil)) (pgs_cons (pg_name (i := 2) sc_show_number.nd rfl (by first | exact Or.inl rfl | exact Or.inr rfl)) (pgs_cons (pg_name (i := 4) sc_show_number.nd rfl (by first | exact Or.inl rfl | exact Or.inr rfl)) pgs_nil))) (pg_tup rfl (pgs_cons (pg_name (i := 2) sc_show_number.nd rfl (by first | exact Or.inl rfl | exact Or.inr rfl)) (pgs_cons (pg_name (i := 4) sc_show_number.nd rfl (by first | exact Or.inl rfl | exact Or.inr rfl)) pgs_nil)))) (fun h => ps_asg h (pg_tup rfl (pgs_cons (pg_name (i := 2) sc_show_number.nd rfl (by first | exact Or.inl rfl | exact Or.inr rfl)) (pgs_cons (pg_name (i := 4) sc_show_number.nd rfl (by first | exact Or.inl rfl | exact Or.inr rfl)) pgs_nil)))))
(vss_one (vs_set (i := 3) sc_show_number.nd rfl (by first | exact Or.inl rfl | exact Or.inr rfl) (ve_op vo_add (ve_m1I (gv := fun a i => .str (Txt.zfill a i)) (f := fun a i => .str (Txt.zfill a i)) (ve_buiT vc_str (by rfl) T.n_str (by decide +kernel) (va_cons (vv 4) va_nil)) (ve_gint T.g_PIECE (by rfl)) (fun _ _ _ _ => .str _) (fun h1 h2 => pe_m1 PySem.F.slot_str_zfill PySem.F.type_str_zfill mt_zfill h1 h2)) (vv 3))))))
(vss_one (vs_ret (ve_op vo_add (ve_op vo_add (vv 1) (ve_buiT vc_str (by rfl) T.n_str (by decide +kernel) (va_cons (vv 2) va_nil))) (vv 3)))))))), ?_⟩
  rintro ds g Q' ⟨n, rfl, hn, hT⟩
  have nl : (numL n.natAbs).length ≤ 64 := numL_len (by decide) hn
  have hn' : n.natAbs < 10000000000000000000000000000000000000000000000000000000000000000 := hn
  walk_at "pk0"
  split
  all_goals
    rename_i hneg
    unfold Tl
    walk_at "pk0"
    unfold Tl
    walk_at "pk0"
    unfold Tl
    simp only [pSq]
    refine wh_ok (fun m ρ g' => g' = g ∧ ρ = [.val (.int n), .val (tx (if n < 0 then [45] else [])), .val (.int (n.natAbs : Nat)), .val (tx []), .no]) 0 ⟨rfl, by first | rw [if_pos hneg, ← c_min, ← c_nil] | rw [if_neg hneg, ← c_nil]⟩ ?_
    rintro m ρ g' ⟨rfl, rfl⟩
    walk_at "pk0"
    rw [if_neg (by omega)]
    unfold Tl
    walk_at "pk0"
    have lg : (((n.natAbs : Nat) : Int)).natAbs.log2 < 1920 := by
      rw [Int.natAbs_natCast]
      by_cases z : n.natAbs = 0
      · rw [z]; decide
      · exact (Nat.log2_lt z).mpr (Nat.lt_trans hn (by decide))
    refine ⟨lg, ?_⟩
    rw [str_abs]
    refine ⟨by first | (rw [if_pos hneg]; show 1 + (numL n.natAbs).length ≤ _; omega) | (rw [if_neg hneg]; show 0 + (numL n.natAbs).length ≤ _; omega), ?_⟩
    rw [tx_app]
    refine ⟨by show ((if n < 0 then [45] else []) ++ numL n.natAbs).length + 0 ≤ _; rw [List.length_append]; split <;> (simp only [List.length_cons, List.length_nil]; omega), ?_⟩
    rw [tx_app, List.append_nil]
    exact hT
end
end
end K76
set_option Elab.async false
set_option linter.all false
set_option maxRecDepth 100000
set_option maxHeartbeats 4000000
namespace K76
open PySem PySem.Spec PyProof.Rows L2 Cm GxR Pv TL
local macro_rules | `(tactic| walk_at "pk0") => `(tactic| simp only [pSq, pSet, pSetF, pRet, pRetN, pIfS, pDrop, pAsg, pApp, pSetI, pFrz, pPar, pNext, pVar, pC, pOp, pUn, pTest, pAnd, pOr, pNot, pAndV, pOrV, pNotV, pIf, pChain, pNil, pCons, pTup, pLst, pCat, pListF, pCall, pBui, pLook, pSl, pPart, pNoPart, pIsi, pTru, pDct, pRng1, pRng2, pSeq, pYes, addD, subD, modD, divD, powD, mulD, negD, cmpD, eqD, neD, isD, isntD, isNone, ixX, ixDl, ixDt, slX, slDl, slDt, lenX, lenDl, lenDt, tupX, tupDl, tupDt, lstX, lstDl, lstDt, absD, minD, maxD, sumD, seqD, seqDX, Pv.scal, qName, qTup, qCons, qNil, notOwn, noOwns, pwipe, frz, startP, List.map_cons, List.map_nil, List.cons_append, List.nil_append, List.getElem?_cons_zero, List.getElem?_cons_succ, List.set_cons_zero, List.set_cons_succ, List.length_cons, List.length_nil, List.replicate, Option.some.injEq, Sl.val.injEq, Sl.own.injEq, PyData.int.injEq, PyData.bool.injEq, PyData.list.injEq, PyData.tuple.injEq, List.cons.injEq, exists_eq_left', exists_eq_left, exists_eq_right, exists_eq_right', exists_and_left, true_and, and_true, if_true, if_false, decide_eq_true_eq, Bool.not_eq_true', decide_eq_false_iff_not, List.all_cons, List.all_nil, Bool.and_true, Bool.true_and, Nat.reduceAdd, Nat.reduceLT, Nat.reduceLeDiff, Nat.zero_add, Int.reduceSub, Int.reduceAdd, Int.reduceNeg, gSlots, slV, pLstRg, pSqF, pRetF, pMov, Pv.intD, Pv.boolD, Pv.allD, Pv.anyD, Pv.mulT, pNp, pNpS, pZipX, pOrI])
section
variable {P : Program} {w : World} {K : PySem.W.Frag} {mg : Str → Option Value} {base : Heap}
theorem plR' (rs : List (List Int)) : pl 2 (rsD rs) = true := pl_map (k := 1) fun r _ => pl_ivD 0 r
section
variable {Γ : Type} {F : Frm Γ}
def tShowR : PSp Γ := fun ds g Q => ∃ r : List Int, ds = [ivD r] ∧ TxR r ∧ Q (tx (rowT r)) g
theorem p_show_row (T : Txt K mg) : FnP P w K mg base F 2 "show_row" ["row"] tShowR := by
  have G_show_number := p_show_number (P := P) (w := w) (base := base) (F := F) T
  refine DfP T.d_show_row sc_show_row (by rintro ds g Q' ⟨_, rfl, _⟩; rfl) fun f cdv' A outer s H E hr hg => ⟨_, (vss_cons (vs_if (vt_cmp (vo_eq hr) (ve_bui vc_len (by rfl) T.n_len (by decide +kernel) (va_cons (vv 0) va_nil)) ve_int (nomark _))
(vss_one (vs_ret ve_str))
vss_nil)
(vss_one (vs_ret (ve_join ve_str (VF.ve (vf_lc (own := [("number", 1)]) rfl sc_show_row.nd (vi_seq (vv 0)) (blkOk_by (own := [("number", 1)]) (N := N_show_row) (sc := defScope s_show_row) (by decide +kernel)) (fun _ _ _ _ _ => (vg_name (i := 1) sc_show_row.nd rfl (by first | exact Or.inl rfl | exact Or.inr rfl))) (fun _ _ _ _ _ => vts_nil) (fun _ _ _ _ _ => (ve_fn G_show_number (hr.mono (by first | decide | omega)) hg (by rfl) (va_cons (vv 1) va_nil))))) (fun h1 h2 => pe_join h1 h2))))), ?_⟩
  rintro ds g Q' ⟨r, rfl, hr1, hT⟩
  walk_at "pk0"
  by_cases c : r = []
  · subst c
    rw [if_pos (by first | rfl | decide)]
    rw [c_min]
    exact hT
  · rw [if_neg (by first | (have := List.length_pos_iff.mpr c; rw [List.length_map]; omega) | (rw [eqv_no (pl_ivD 0 r) (show pl 1 (PyData.tuple []) = true from rfl) (fun e => c (List.map_eq_nil_iff.mp (PyData.tuple.inj e)))]; exact Bool.noConfusion))]
    (unfold Tl; walk_at "pk0")
    rw [c_sp]
    refine ⟨_, rfl, ?_⟩
    refine lc_ok rfl (r.map PyData.int) g (fun Q h => ⟨_, rfl, _, rfl, h⟩) (fun i acc g2 => g2 = g ∧ acc = ((r.map numT).take i).map tx) ⟨rfl, rfl⟩ ?_ ?_
    · rintro i dd acc g2 hi ⟨rfl, rfl⟩
      obtain ⟨n, hn, rfl⟩ := ofMap hi
      have il := (List.getElem?_eq_some_iff.mp hn).1
      have r1 := hr1.1
      refine ⟨rfl, ?_⟩
      walk_at "pk0"
      refine ⟨n, rfl, Nat.lt_trans (hr1.2 n (List.mem_of_getElem? hn)) (by decide), by rw [List.length_map, List.length_take]; omega, rfl, ?_⟩
      rw [take_snoc (show (r.map numT)[i]? = some (numT n) by rw [List.getElem?_map, hn]; rfl), List.map_append]
      rfl
    rintro acc g2 ⟨rfl, rfl⟩
    rw [List.length_map, show (r.map numT).take r.length = r.map numT from List.take_of_length_le (by rw [List.length_map]; exact Nat.le_refl _)]
    have h1 := row_sum hr1
    have r1 := hr1.1
    have e : rowT r = joinL [32] (r.map numT) := if_neg c
    rw [e] at hT
    obtain ⟨a, ea, ys, ey, hb, hq⟩ := join_tx (y := [32]) (ls := r.map numT) (Q := Q') (by rw [List.length_map]; simp only [List.length_cons, List.length_nil]; omega) hT
    cases ea
    exact ⟨ys, ey, hb, hq⟩
def tShowRs : PSp Γ := fun ds g Q => ∃ rs : List (List Int), ds = [rsD rs] ∧ TxRs rs ∧ Q (tx (rowsT rs)) g
theorem p_show_rows (T : Txt K mg) : FnP P w K mg base F 3 "show_rows" ["rows"] tShowRs := by
  have G_show_row := p_show_row (P := P) (w := w) (base := base) (F := F) T
  refine DfP T.d_show_rows sc_show_rows (by rintro ds g Q' ⟨_, rfl, _⟩; rfl) fun f cdv' A outer s H E hr hg => ⟨_, (vss_cons (vs_if (vt_cmp (vo_eq hr) (ve_bui vc_len (by rfl) T.n_len (by decide +kernel) (va_cons (vv 0) va_nil)) ve_int (nomark _))
(vss_one (vs_ret ve_str))
vss_nil)
(vss_one (vs_ret (ve_join ve_str (VF.ve (vf_lc (own := [("row", 1)]) rfl sc_show_rows.nd (vi_seq (vv 0)) (blkOk_by (own := [("row", 1)]) (N := N_show_rows) (sc := defScope s_show_rows) (by decide +kernel)) (fun _ _ _ _ _ => (vg_name (i := 1) sc_show_rows.nd rfl (by first | exact Or.inl rfl | exact Or.inr rfl))) (fun _ _ _ _ _ => vts_nil) (fun _ _ _ _ _ => (ve_fn G_show_row (hr.mono (by first | decide | omega)) hg (by rfl) (va_cons (vv 1) va_nil))))) (fun h1 h2 => pe_join h1 h2))))), ?_⟩
  rintro ds g Q' ⟨rs, rfl, hr1, hT⟩
  walk_at "pk0"
  by_cases c : rs = []
  · subst c
    rw [if_pos (by first | rfl | decide)]
    rw [c_none]
    exact hT
  · rw [if_neg (by first | (have := List.length_pos_iff.mpr c; rw [List.length_map]; omega) | (rw [eqv_no (plR' rs) (show pl 2 (PyData.tuple []) = true from rfl) (fun e => c (List.map_eq_nil_iff.mp (PyData.tuple.inj e)))]; exact Bool.noConfusion))]
    (unfold Tl; walk_at "pk0")
    rw [c_semi]
    refine ⟨_, rfl, ?_⟩
    refine lc_ok rfl (rs.map ivD) g (fun Q h => ⟨_, rfl, _, rfl, h⟩) (fun i acc g2 => g2 = g ∧ acc = ((rs.map rowT).take i).map tx) ⟨rfl, rfl⟩ ?_ ?_
    · rintro i dd acc g2 hi ⟨rfl, rfl⟩
      obtain ⟨n, hn, rfl⟩ := ofMap hi
      have il := (List.getElem?_eq_some_iff.mp hn).1
      have r1 := hr1.1
      refine ⟨rfl, ?_⟩
      walk_at "pk0"
      refine ⟨n, rfl, (hr1.2 n (List.mem_of_getElem? hn)).2, by rw [List.length_map, List.length_take]; omega, rfl, ?_⟩
      rw [take_snoc (show (rs.map rowT)[i]? = some (rowT n) by rw [List.getElem?_map, hn]; rfl), List.map_append]
      rfl
    rintro acc g2 ⟨rfl, rfl⟩
    rw [List.length_map, show (rs.map rowT).take rs.length = rs.map rowT from List.take_of_length_le (by rw [List.length_map]; exact Nat.le_refl _)]
    have h1 := rows_sum hr1
    have r1 := hr1.1
    have e : rowsT rs = joinL [32, 59, 32] (rs.map rowT) := if_neg c
    rw [e] at hT
    obtain ⟨a, ea, ys, ey, hb, hq⟩ := join_tx (y := [32, 59, 32]) (ls := rs.map rowT) (Q := Q') (by rw [List.length_map]; simp only [List.length_cons, List.length_nil]; omega) hT
    cases ea
    exact ⟨ys, ey, hb, hq⟩
def tWordOf : PSp Γ := fun ds g Q => ∃ n : Int, ds = [.int n] ∧ n.natAbs < 10 ^ 64 ∧ Q (tx (numT n)) g
theorem p_word_of (T : Txt K mg) : FnP P w K mg base F 1 "_law_word_of" ["_law_number_here"] tWordOf := by
  refine DfP T.d_law_word_of sc_law_word_of (by rintro ds g Q' ⟨_, rfl, _⟩; rfl) fun f cdv' A outer s H E hr hg => ⟨_, (vss_cons (vs_set (i := 1) sc_law_word_of.nd rfl (by first | exact Or.inl rfl | exact Or.inr rfl) (ve_bui vc_abs (by rfl) T.n_abs (by decide +kernel) (va_cons (vv 0) va_nil)))
(vss_cons (vs_set (i := 2) sc_law_word_of.nd rfl (by first | exact Or.inl rfl | exact Or.inr rfl) (ve_ixS ve_str (ve_op vo_mod (vv 1) ve_int) (fun _ _ => rfl)))
(vss_cons (vs_while PassesOwn.never (vt_cmp vo_gt (vv 1) ve_int (nomark _))
(vss_cons (vs_set (i := 1) sc_law_word_of.nd rfl (by first | exact Or.inl rfl | exact Or.inr rfl) (ve_op vo_div (vv 1) ve_int))
(vss_one (vs_set (i := 2) sc_law_word_of.nd rfl (by first | exact Or.inl rfl | exact Or.inr rfl) (ve_op vo_add (ve_ixS ve_str (ve_op vo_mod (vv 1) ve_int) (fun _ _ => rfl)) (vv 2))))))
(vss_one (vs_ret (ve_op vo_add (ve_op vo_mulS ve_str (ve_buiT vc_int (by rfl) T.n_int (by decide +kernel) (va_cons (ve_cmp vo_lt (vv 0) ve_int (nomark _)) va_nil))) (vv 2))))))), ?_⟩
  rintro ds g Q' ⟨n, rfl, hn, hT⟩
  walk_at "pk0"
  have dig : ∀ k : Nat, k < 10 → atI (Str.ofString "0123456789").cps.toList (k : Int) = some (48 + k) := by
    have e : (Str.ofString "0123456789").cps.toList = [48, 49, 50, 51, 52, 53, 54, 55, 56, 57] := (tl_ofString _).trans rfl
    rw [e]
    decide
  have dl : (Str.ofString "0123456789").length ≤ sizeLine := by
    show (Str.ofString "0123456789").cps.size ≤ _
    rw [← Array.length_toList, show (Str.ofString "0123456789").cps.toList = [48, 49, 50, 51, 52, 53, 54, 55, 56, 57] from (tl_ofString _).trans rfl]
    decide
  have nl : (numL n.natAbs).length ≤ 64 := numL_len (by decide) hn
  unfold Tl
  walk_at "pk0"
  have dig2 : ∀ k : Nat, atI (Str.ofString "0123456789").cps.toList ((k : Int) % 10) = some (48 + k % 10) := fun k => by
    rw [show ((k : Int) % 10) = ((k % 10 : Nat) : Int) by omega]
    exact dig _ (Nat.mod_lt _ (by decide))
  refine ⟨by decide, _, _, 48 + n.natAbs % 10, rfl, rfl, dl, dig2 _, ?_⟩
  unfold Tl
  simp only [pSq]
  refine wh_ok (fun m ρ g' => g' = g ∧ ∃ suf : List Nat, ρ = [.val (.int n), .val (.int (m : Nat)), .val (tx ((48 + m % 10) :: suf))] ∧ numL n.natAbs = numL m ++ suf) n.natAbs ⟨rfl, [], rfl, (List.append_nil _).symm⟩ ?_
  rintro m ρ g' ⟨rfl, suf, rfl, es⟩
  walk_at "pk0"
  split
  · rename_i hm
    have m9 : 10 ≤ m := by omega
    refine ⟨wide_div (b := 10) (by decide) (by decide) (by decide) (by decide), ?_⟩
    rw [show ((m : Int) / 10) = ((m / 10 : Nat) : Int) by omega]
    unfold Tl
    walk_at "pk0"
    refine ⟨by decide, _, _, 48 + m / 10 % 10, rfl, rfl, dl, dig2 _, ?_⟩
    have st := numL_step m9
    have sl : suf.length ≤ 64 := by
      have := congrArg List.length es
      rw [List.length_append] at this
      omega
    have e1 : ((⟨#[48 + m / 10 % 10]⟩ : Str) ++ ⟨((48 + m % 10) :: suf).toArray⟩) = ⟨((48 + m / 10 % 10) :: (48 + m % 10) :: suf).toArray⟩ := tx_app [48 + m / 10 % 10] ((48 + m % 10) :: suf)
    refine ⟨by show 1 + (suf.length + 1) ≤ _; omega, ?_⟩
    rw [e1]
    refine ⟨m / 10, by omega, rfl, (48 + m % 10) :: suf, rfl, ?_⟩
    rw [es, st, List.append_assoc]
    rfl
  · rename_i hm
    have m9 : m < 10 := by omega
    have e0 : numL n.natAbs = (48 + m % 10) :: suf := by
      rw [es, numL_lt m9, Nat.mod_eq_of_lt m9]
      rfl
    rw [← e0]
    unfold Tl
    walk_at "pk0"
    have mo : ∀ k : Int, k = 0 ∨ k = 1 → MulOk (Str.ofString "-") k := fun k hk => by
      rcases hk with rfl | rfl
      · exact ⟨by decide, fun h => absurd (by decide) h, fun h => absurd (by decide) h⟩
      · exact ⟨by decide, fun _ h => Bool.noConfusion h, fun _ h => Bool.noConfusion h⟩
    refine ⟨_, _, rfl, rfl, mo _ (by split <;> simp), ?_⟩
    by_cases c : n < 0
    · rw [if_pos c]
      have e2 : Txt.mul (Str.ofString "-") 1 = ⟨[45].toArray⟩ := ext_tl (by
        show tl (Str.ofString "-") = _
        rw [tl_ofString]
        rfl)
      rw [e2]
      refine ⟨by show 1 + (numL n.natAbs).length ≤ _; omega, ?_⟩
      rw [tx_app]
      rw [numT, if_pos c] at hT
      exact hT
    · rw [if_neg c]
      have e2 : Txt.mul (Str.ofString "-") 0 = ⟨([] : List Nat).toArray⟩ := rfl
      rw [e2]
      refine ⟨by show 0 + (numL n.natAbs).length ≤ _; omega, ?_⟩
      rw [tx_app]
      rw [numT, if_neg c] at hT
      exact hT
theorem p_row_text (T : Txt K mg) : FnP P w K mg base F 2 "_law_row_text" ["_law_row"] tShowR := by
  have G_law_word_of := p_word_of (P := P) (w := w) (base := base) (F := F) T
  refine DfP T.d_law_row_text sc_law_row_text (by rintro ds g Q' ⟨_, rfl, _⟩; rfl) fun f cdv' A outer s H E hr hg => ⟨_, (vss_cons (vs_if (vt_cmp (vo_eq hr) (vv 0) (ve_tup va_nil) (nomark _))
(vss_one (vs_ret ve_str))
vss_nil)
(vss_one (vs_ret (ve_join ve_str (VF.ve (vf_lc (own := [("_law_number_here", 1)]) rfl sc_law_row_text.nd (vi_seq (vv 0)) (blkOk_by (own := [("_law_number_here", 1)]) (N := N_law_row_text) (sc := defScope s_law_row_text) (by decide +kernel)) (fun _ _ _ _ _ => (vg_name (i := 1) sc_law_row_text.nd rfl (by first | exact Or.inl rfl | exact Or.inr rfl))) (fun _ _ _ _ _ => vts_nil) (fun _ _ _ _ _ => (ve_fn G_law_word_of (hr.mono (by first | decide | omega)) hg (by rfl) (va_cons (vv 1) va_nil))))) (fun h1 h2 => pe_join h1 h2))))), ?_⟩
  rintro ds g Q' ⟨r, rfl, hr1, hT⟩
  walk_at "pk0"
  refine ⟨shaped_pl (pl_ivD 0 r), shaped_pl (n := 1) rfl, ?_⟩
  by_cases c : r = []
  · subst c
    rw [if_pos (by first | rfl | decide)]
    rw [c_min]
    exact hT
  · rw [if_neg (by first | (have := List.length_pos_iff.mpr c; rw [List.length_map]; omega) | (rw [eqv_no (pl_ivD 0 r) (show pl 1 (PyData.tuple []) = true from rfl) (fun e => c (List.map_eq_nil_iff.mp (PyData.tuple.inj e)))]; exact Bool.noConfusion))]
    (unfold Tl; walk_at "pk0")
    rw [c_sp]
    refine ⟨_, rfl, ?_⟩
    refine lc_ok rfl (r.map PyData.int) g (fun Q h => ⟨_, rfl, _, rfl, h⟩) (fun i acc g2 => g2 = g ∧ acc = ((r.map numT).take i).map tx) ⟨rfl, rfl⟩ ?_ ?_
    · rintro i dd acc g2 hi ⟨rfl, rfl⟩
      obtain ⟨n, hn, rfl⟩ := ofMap hi
      have il := (List.getElem?_eq_some_iff.mp hn).1
      have r1 := hr1.1
      refine ⟨rfl, ?_⟩
      walk_at "pk0"
      refine ⟨n, rfl, Nat.lt_trans (hr1.2 n (List.mem_of_getElem? hn)) (by decide), by rw [List.length_map, List.length_take]; omega, rfl, ?_⟩
      rw [take_snoc (show (r.map numT)[i]? = some (numT n) by rw [List.getElem?_map, hn]; rfl), List.map_append]
      rfl
    rintro acc g2 ⟨rfl, rfl⟩
    rw [List.length_map, show (r.map numT).take r.length = r.map numT from List.take_of_length_le (by rw [List.length_map]; exact Nat.le_refl _)]
    have h1 := row_sum hr1
    have r1 := hr1.1
    have e : rowT r = joinL [32] (r.map numT) := if_neg c
    rw [e] at hT
    obtain ⟨a, ea, ys, ey, hb, hq⟩ := join_tx (y := [32]) (ls := r.map numT) (Q := Q') (by rw [List.length_map]; simp only [List.length_cons, List.length_nil]; omega) hT
    cases ea
    exact ⟨ys, ey, hb, hq⟩
theorem p_rows_text (T : Txt K mg) : FnP P w K mg base F 3 "_law_rows_text" ["_law_rows"] tShowRs := by
  have G_law_row_text := p_row_text (P := P) (w := w) (base := base) (F := F) T
  refine DfP T.d_law_rows_text sc_law_rows_text (by rintro ds g Q' ⟨_, rfl, _⟩; rfl) fun f cdv' A outer s H E hr hg => ⟨_, (vss_cons (vs_if (vt_cmp (vo_eq hr) (vv 0) (ve_tup va_nil) (nomark _))
(vss_one (vs_ret ve_str))
vss_nil)
(vss_one (vs_ret (ve_join ve_str (VF.ve (vf_lc (own := [("_law_row", 1)]) rfl sc_law_rows_text.nd (vi_seq (vv 0)) (blkOk_by (own := [("_law_row", 1)]) (N := N_law_rows_text) (sc := defScope s_law_rows_text) (by decide +kernel)) (fun _ _ _ _ _ => (vg_name (i := 1) sc_law_rows_text.nd rfl (by first | exact Or.inl rfl | exact Or.inr rfl))) (fun _ _ _ _ _ => vts_nil) (fun _ _ _ _ _ => (ve_fn G_law_row_text (hr.mono (by first | decide | omega)) hg (by rfl) (va_cons (vv 1) va_nil))))) (fun h1 h2 => pe_join h1 h2))))), ?_⟩
  rintro ds g Q' ⟨rs, rfl, hr1, hT⟩
  walk_at "pk0"
  refine ⟨shaped_pl (plR' rs), shaped_pl (n := 1) rfl, ?_⟩
  by_cases c : rs = []
  · subst c
    rw [if_pos (by first | rfl | decide)]
    rw [c_none]
    exact hT
  · rw [if_neg (by first | (have := List.length_pos_iff.mpr c; rw [List.length_map]; omega) | (rw [eqv_no (plR' rs) (show pl 2 (PyData.tuple []) = true from rfl) (fun e => c (List.map_eq_nil_iff.mp (PyData.tuple.inj e)))]; exact Bool.noConfusion))]
    (unfold Tl; walk_at "pk0")
    rw [c_semi]
    refine ⟨_, rfl, ?_⟩
    refine lc_ok rfl (rs.map ivD) g (fun Q h => ⟨_, rfl, _, rfl, h⟩) (fun i acc g2 => g2 = g ∧ acc = ((rs.map rowT).take i).map tx) ⟨rfl, rfl⟩ ?_ ?_
    · rintro i dd acc g2 hi ⟨rfl, rfl⟩
      obtain ⟨n, hn, rfl⟩ := ofMap hi
      have il := (List.getElem?_eq_some_iff.mp hn).1
      have r1 := hr1.1
      refine ⟨rfl, ?_⟩
      walk_at "pk0"
      refine ⟨n, rfl, (hr1.2 n (List.mem_of_getElem? hn)).2, by rw [List.length_map, List.length_take]; omega, rfl, ?_⟩
      rw [take_snoc (show (rs.map rowT)[i]? = some (rowT n) by rw [List.getElem?_map, hn]; rfl), List.map_append]
      rfl
    rintro acc g2 ⟨rfl, rfl⟩
    rw [List.length_map, show (rs.map rowT).take rs.length = rs.map rowT from List.take_of_length_le (by rw [List.length_map]; exact Nat.le_refl _)]
    have h1 := rows_sum hr1
    have r1 := hr1.1
    have e : rowsT rs = joinL [32, 59, 32] (rs.map rowT) := if_neg c
    rw [e] at hT
    obtain ⟨a, ea, ys, ey, hb, hq⟩ := join_tx (y := [32, 59, 32]) (ls := rs.map rowT) (Q := Q') (by rw [List.length_map]; simp only [List.length_cons, List.length_nil]; omega) hT
    cases ea
    exact ⟨ys, ey, hb, hq⟩
end
end
end K76
set_option Elab.async false
set_option linter.all false
set_option maxRecDepth 100000
set_option maxHeartbeats 4000000
namespace K76
open PySem PySem.Spec PyProof.Rows L2 Cm GxR Pv TL
local macro_rules | `(tactic| walk_at "pk0") => `(tactic| simp only [pSq, pSet, pSetF, pRet, pRetN, pIfS, pDrop, pAsg, pApp, pSetI, pFrz, pPar, pNext, pVar, pC, pOp, pUn, pTest, pAnd, pOr, pNot, pAndV, pOrV, pNotV, pIf, pChain, pNil, pCons, pTup, pLst, pCat, pListF, pCall, pBui, pLook, pSl, pPart, pNoPart, pIsi, pTru, pDct, pRng1, pRng2, pSeq, pYes, addD, subD, modD, divD, powD, mulD, negD, cmpD, eqD, neD, isD, isntD, isNone, ixX, ixDl, ixDt, slX, slDl, slDt, lenX, lenDl, lenDt, tupX, tupDl, tupDt, lstX, lstDl, lstDt, absD, minD, maxD, sumD, seqD, seqDX, Pv.scal, qName, qTup, qCons, qNil, notOwn, noOwns, pwipe, frz, startP, List.map_cons, List.map_nil, List.cons_append, List.nil_append, List.getElem?_cons_zero, List.getElem?_cons_succ, List.set_cons_zero, List.set_cons_succ, List.length_cons, List.length_nil, List.replicate, Option.some.injEq, Sl.val.injEq, Sl.own.injEq, PyData.int.injEq, PyData.bool.injEq, PyData.list.injEq, PyData.tuple.injEq, List.cons.injEq, exists_eq_left', exists_eq_left, exists_eq_right, exists_eq_right', exists_and_left, true_and, and_true, if_true, if_false, decide_eq_true_eq, Bool.not_eq_true', decide_eq_false_iff_not, List.all_cons, List.all_nil, Bool.and_true, Bool.true_and, Nat.reduceAdd, Nat.reduceLT, Nat.reduceLeDiff, Nat.zero_add, Int.reduceSub, Int.reduceAdd, Int.reduceNeg, gSlots, slV, pLstRg, pSqF, pRetF, pMov, Pv.intD, Pv.boolD, Pv.allD, Pv.anyD, Pv.mulT, pNp, pNpS, pZipX, pOrI])
local macro_rules | `(tactic| walk_at "pk1") => `(tactic| simp only [pSq, pSet, pSetF, pRet, pRetN, pIfS, pDrop, pAsg, pApp, pSetI, pFrz, pPar, pNext, pVar, pC, pOp, pUn, pTest, pAnd, pOr, pNot, pAndV, pOrV, pNotV, pIf, pChain, pNil, pCons, pTup, pLst, pCat, pListF, pCall, pBui, pLook, pSl, pPart, pNoPart, pIsi, pTru, pDct, pRng1, pRng2, pSeq, pYes, addD, subD, modD, divD, powD, mulD, negD, cmpD, eqD, neD, isD, isntD, isNone, ixX, ixDl, ixDt, slX, slDl, slDt, lenX, lenDl, lenDt, tupX, tupDl, tupDt, lstX, lstDl, lstDt, absD, minD, maxD, sumD, seqD, seqDX, Pv.scal, qName, qTup, qCons, qNil, notOwn, noOwns, pwipe, frz, startP, List.map_cons, List.map_nil, List.cons_append, List.nil_append, List.getElem?_cons_zero, List.getElem?_cons_succ, List.set_cons_zero, List.set_cons_succ, List.length_cons, List.length_nil, List.replicate, Option.some.injEq, Sl.val.injEq, Sl.own.injEq, PyData.int.injEq, PyData.bool.injEq, PyData.list.injEq, PyData.tuple.injEq, List.cons.injEq, exists_eq_left', exists_eq_left, exists_eq_right, exists_eq_right', exists_and_left, true_and, and_true, if_true, if_false, decide_eq_true_eq, Bool.not_eq_true', decide_eq_false_iff_not, List.all_cons, List.all_nil, Bool.and_true, Bool.true_and, Nat.reduceAdd, Nat.reduceLT, Nat.reduceLeDiff, Nat.zero_add, Int.reduceSub, Int.reduceAdd, Int.reduceNeg, gSlots, slV, pLstRg, pSqF, pRetF, pMov, Pv.intD, Pv.boolD, Pv.allD, Pv.anyD, Pv.mulT, pNp, pNpS, pZipX, pOrI, pM1])
section
variable {P : Program} {w : World} {K : PySem.W.Frag} {mg : Str → Option Value} {base : Heap}
theorem c_zero : PyData.str (Str.ofString "0") = tx [48] := by rw [tx_str, tl_ofString]; rfl
theorem s_zero : Str.ofString "0" = ⟨[48].toArray⟩ := ext_tl (by rw [tl_ofString]; rfl)
theorem rgc_none {l : Nat} (h : l ≤ 100) : RgC (l : Int) (l : Int) 64 0 := by
  have hz : Builtin.Range.rangeSize (l : Int) (l : Int) 64 = ((0 : Nat) : Int) := by
    unfold Builtin.Range.rangeSize
    rw [if_pos (by decide), if_neg (by omega)]
    rfl
  have hs : ∀ l : Fin 101, Builtin.Range.small ((l.1 : Nat) : Int) ((l.1 : Nat) : Int) 64 = true := by decide
  exact ⟨by decide, by decide, hs ⟨l, by omega⟩, hz⟩
section
variable {X : Cx}
theorem mt_startswithC : MtR X "str.startswith" (fun x xs H Q => ∃ a b, x = .str a ∧ xs = [.str b] ∧ True ∧ Q (.bl (Txt.startswith a b)) H) := by
  intro pins s σ H x xs v us Q I r rs h
  obtain ⟨a, b, h1, h2, _, h3⟩ := h
  exact mt_startswith pins s σ H x xs v us Q I r rs ⟨a, b, h1, h2, h3⟩
end
section
variable {Γ : Type} {F : Frm Γ}
def tIsNum : PSp Γ := fun ds g Q => ∃ n : Int, ds = [tx (numT n)] ∧ n.natAbs < 10 ^ 60 ∧ Q (.bool true) g
theorem p_is_number (T : Txt K mg) : FnP P w K mg base F 1 "is_number" ["word"] tIsNum := by
  refine DfP T.d_is_number sc_is_number (by rintro ds g Q' ⟨_, rfl, _⟩; rfl) fun f cdv' A outer s H E hr hg => ⟨_, (vss_cons (vs_set (i := 1) sc_is_number.nd rfl (by first | exact Or.inl rfl | exact Or.inr rfl) (ve_m1 (gv := fun a i => .str (Txt.removeprefix a i)) (f := fun a i => .str (Txt.removeprefix a i)) (vv 0) ve_str (fun _ _ _ _ => .str _) (fun h1 h2 => pe_m1 PySem.F.slot_str_removeprefix PySem.F.type_str_removeprefix mt_removeprefix h1 h2)))
(vss_cons (vs_if (VW.vt (vw_or (vt_not (vt_val (ve_m0 (gv := fun a => .bl (Txt.isascii a)) (f := fun a => .bool (Txt.isascii a)) (vv 1) (fun _ _ _ => .bl _) (fun h1 => pe_m0 PySem.F.slot_str_isascii PySem.F.type_str_isascii mt_isascii h1)))) (vw_or1 (vt_not (vt_val (ve_m0 (gv := fun a => .bl (Txt.isdigit a)) (f := fun a => .bool (Txt.isdigit a)) (vv 1) (fun _ _ _ => .bl _) (fun h1 => pe_m0 PySem.F.slot_str_isdigit PySem.F.type_str_isdigit mt_isdigit h1)))))))
(vss_one (vs_ret ve_bl))
vss_nil)
(vss_one (vs_ret (ve_or (ve_cmp (vo_eq hr) (vv 0) ve_str (nomark _)) (ve_one (ve_not (ve_m1 (C := fun _ _ => True) (gv := fun a i => .bl (Txt.startswith a i)) (f := fun a i => .bool (Txt.startswith a i)) (vv 1) ve_str (fun _ _ _ _ => .bl _) (fun h1 h2 => pe_m1 PySem.F.slot_str_startswith PySem.F.type_str_startswith mt_startswithC h1 h2))))))))), ?_⟩
  rintro ds g Q' ⟨n, rfl, hn, hT⟩
  walk_at "pk0"
  have nl := numT_len hn
  unfold pM1
  walk_at "pk0"
  rw [c_min]
  refine ⟨_, rfl, _, rfl, by show (numT n).length ≤ sizeLine; rw [sizeLine_eq]; omega, ?_⟩
  rw [numT_rmp]
  unfold Tl
  simp only [pSq, pSet, pSetF, pRet, pRetN, pIfS, pDrop, pAsg, pApp, pSetI, pFrz, pPar, pNext, pVar, pC, pOp, pUn, pTest, pAnd, pOr, pNot, pAndV, pOrV, pNotV, pIf, pChain, pNil, pCons, pTup, pLst, pCat, pListF, pCall, pBui, pLook, pSl, pPart, pNoPart, pIsi, pTru, pDct, pRng1, pRng2, pSeq, pYes, addD, subD, modD, divD, powD, mulD, negD, cmpD, eqD, neD, isD, isntD, isNone, ixX, ixDl, ixDt, slX, slDl, slDt, lenX, lenDl, lenDt, tupX, tupDl, tupDt, lstX, lstDl, lstDt, absD, minD, maxD, sumD, seqD, seqDX, Pv.scal, qName, qTup, qCons, qNil, notOwn, noOwns, pwipe, frz, startP, List.map_cons, List.map_nil, List.cons_append, List.nil_append, List.getElem?_cons_zero, List.getElem?_cons_succ, List.set_cons_zero, List.set_cons_succ, List.length_cons, List.length_nil, List.replicate, Option.some.injEq, Sl.val.injEq, Sl.own.injEq, PyData.int.injEq, PyData.bool.injEq, PyData.list.injEq, PyData.tuple.injEq, List.cons.injEq, exists_eq_left', exists_eq_left, exists_eq_right, exists_eq_right', exists_and_left, true_and, and_true, if_true, if_false, decide_eq_true_eq, Bool.not_eq_true', decide_eq_false_iff_not, List.all_cons, List.all_nil, Bool.and_true, Bool.true_and, Nat.reduceAdd, Nat.reduceLT, Nat.reduceLeDiff, Nat.zero_add, Int.reduceSub, Int.reduceAdd, Int.reduceNeg, gSlots, slV, pLstRg, pSqF, pRetF, pMov, Pv.intD, Pv.boolD, Pv.allD, Pv.anyD, Pv.mulT, pNp, pNpS, pZipX, pOrI, pM0, pM1]
  refine ⟨_, rfl, ?_⟩
  rw [num_ascii, if_neg (show ¬ (true = false) from Bool.noConfusion)]
  refine ⟨_, rfl, ?_⟩
  rw [num_digit, if_neg (show ¬ (true = false) from Bool.noConfusion)]
  unfold Tl
  walk_at "pk1"
  rw [c_zero]
  dsimp only [tx]
  by_cases c : (⟨(numT n).toArray⟩ : Str) = ⟨#[48]⟩
  · rw [if_pos c]
    exact hT
  · rw [if_neg c]
    refine ⟨_, rfl, _, rfl, ?_⟩
    rw [show (⟨#[48]⟩ : Str) = ⟨[48].toArray⟩ from rfl, num_zero, decide_eq_false (fun e => c (by
      have : n = 0 := by omega
      subst this
      rfl))]
    exact hT
def tNeed : PSp Γ := fun ds g Q => ds = [.bool true] ∧ Q .none g
theorem p_need (T : Txt K mg) : FnP P w K mg base F 1 "need" ["holds"] tNeed := by
  refine DfP T.d_need sc_need (by rintro ds g Q' ⟨rfl, _⟩; rfl) fun f cdv' A outer s H E hr hg => ⟨_, (vss_one (vs_if (vt_not (vt_val (vv 0)))
(vss_one vs_dead)
vss_nil)), ?_⟩
  rintro ds g Q' ⟨rfl, hT⟩
  walk_at "pk0"
  exact hT
def tReadN : PSp Γ := fun ds g Q => ∃ n : Int, ds = [tx (numT n)] ∧ n.natAbs < 10 ^ 60 ∧ Q (.int n) g
theorem p_read_number (T : Txt K mg) : FnP P w K mg base F 2 "read_number" ["word"] tReadN := by
  have G_is_number := p_is_number (P := P) (w := w) (base := base) (F := F) T
  have G_need := p_need (P := P) (w := w) (base := base) (F := F) T
  refine DfP T.d_read_number sc_read_number (by rintro ds g Q' ⟨_, rfl, _⟩; rfl) fun f cdv' A outer s H E hr hg => ⟨_, (vss_cons (vs_expr (ve_fn G_need (hr.mono (by first | decide | omega)) hg (by rfl) (va_cons (ve_fn G_is_number (hr.mono (by first | decide | omega)) hg (by rfl) (va_cons (vv 0) va_nil)) va_nil)))
(vss_cons (vs_set (i := 1) sc_read_number.nd rfl (by first | exact Or.inl rfl | exact Or.inr rfl) (ve_m1 (gv := fun a i => .str (Txt.removeprefix a i)) (f := fun a i => .str (Txt.removeprefix a i)) (vv 0) ve_str (fun _ _ _ _ => .str _) (fun h1 h2 => pe_m1 PySem.F.slot_str_removeprefix PySem.F.type_str_removeprefix mt_removeprefix h1 h2)))
(vss_cons (vs_set (i := 2) sc_read_number.nd rfl (by first | exact Or.inl rfl | exact Or.inr rfl) (ve_op vo_mod (ve_bui vc_lenS (by rfl) T.n_len (by decide +kernel) (va_cons (vv 1) va_nil)) (ve_gint T.g_PIECE (by rfl))))
(vss_cons (vs_set (i := 3) sc_read_number.nd rfl (by first | exact Or.inl rfl | exact Or.inr rfl) (ve_buiT vc_intS (by rfl) T.n_int (by rfl) (va_cons (ve_op vo_add ve_str (ve_sliceS (vv 1) vo_none (vo_some (vv 2)))) va_nil)))
(vss_cons (vs_for PassesOwn.never rfl (vi_range3 (by rfl) T.n_range (vv 2) (ve_bui vc_lenS (by rfl) T.n_len (by decide +kernel) (va_cons (vv 1) va_nil)) (ve_gint T.g_PIECE (by rfl))) (vg_name (i := 4) sc_read_number.nd rfl (by first | exact Or.inl rfl | exact Or.inr rfl))
(vss_one (vs_set (i := 3) sc_read_number.nd rfl (by first | exact Or.inl rfl | exact Or.inr rfl) (ve_op vo_add (ve_op vo_mul (vv 3) (ve_gint T.g_BEYOND (by rfl))) (ve_buiT vc_intS (by rfl) T.n_int (by rfl) (va_cons (ve_sliceS (vv 1) (vo_some (vv 4)) (vo_some (ve_op vo_add (vv 4) (ve_gint T.g_PIECE (by rfl))))) va_nil))))))
(vss_one (vs_ret (ve_ifExp (vt_val (ve_m1 (C := fun _ _ => True) (gv := fun a i => .bl (Txt.startswith a i)) (f := fun a i => .bool (Txt.startswith a i)) (vv 0) ve_str (fun _ _ _ _ => .bl _) (fun h1 h2 => pe_m1 PySem.F.slot_str_startswith PySem.F.type_str_startswith mt_startswithC h1 h2))) (ve_neg (vv 3)) (vv 3))))))))), ?_⟩
  rintro ds g Q' ⟨n, rfl, hn, hT⟩
  walk_at "pk0"
  have nl := numT_len hn
  have nn : (numL n.natAbs).length ≤ 60 := numL_len (by decide) hn
  refine ⟨n, rfl, hn, rfl, ?_⟩
  unfold Tl
  walk_at "pk1"
  rw [c_min]
  refine ⟨_, rfl, _, rfl, by show (numT n).length ≤ sizeLine; rw [sizeLine_eq]; omega, ?_⟩
  rw [numT_rmp]
  unfold Tl
  walk_at "pk0"
  refine ⟨_, rfl, by show (numL n.natAbs).length ≤ sizeLine; rw [sizeLine_eq]; omega, by decide, ?_⟩
  rw [show ((((⟨(numL n.natAbs).toArray⟩ : Str).length : Nat) : Int) % 64) = ((numL n.natAbs).length : Int) by show (((numL n.natAbs).length : Nat) : Int) % 64 = _; omega]
  unfold Tl
  simp only [pSq, pSet, pSetF, pRet, pRetN, pIfS, pDrop, pAsg, pApp, pSetI, pFrz, pPar, pNext, pVar, pC, pOp, pUn, pTest, pAnd, pOr, pNot, pAndV, pOrV, pNotV, pIf, pChain, pNil, pCons, pTup, pLst, pCat, pListF, pCall, pBui, pLook, pSl, pPart, pNoPart, pIsi, pTru, pDct, pRng1, pRng2, pSeq, pYes, addD, subD, modD, divD, powD, mulD, negD, cmpD, eqD, neD, isD, isntD, isNone, ixX, ixDl, ixDt, slX, slDl, slDt, lenX, lenDl, lenDt, tupX, tupDl, tupDt, lstX, lstDl, lstDt, absD, minD, maxD, sumD, seqD, seqDX, Pv.scal, qName, qTup, qCons, qNil, notOwn, noOwns, pwipe, frz, startP, List.map_cons, List.map_nil, List.cons_append, List.nil_append, List.getElem?_cons_zero, List.getElem?_cons_succ, List.set_cons_zero, List.set_cons_succ, List.length_cons, List.length_nil, List.replicate, Option.some.injEq, Sl.val.injEq, Sl.own.injEq, PyData.int.injEq, PyData.bool.injEq, PyData.list.injEq, PyData.tuple.injEq, List.cons.injEq, exists_eq_left', exists_eq_left, exists_eq_right, exists_eq_right', exists_and_left, true_and, and_true, if_true, if_false, decide_eq_true_eq, Bool.not_eq_true', decide_eq_false_iff_not, List.all_cons, List.all_nil, Bool.and_true, Bool.true_and, Nat.reduceAdd, Nat.reduceLT, Nat.reduceLeDiff, Nat.zero_add, Int.reduceSub, Int.reduceAdd, Int.reduceNeg, gSlots, slV, pLstRg, pSqF, pRetF, pMov, Pv.intD, Pv.boolD, Pv.allD, Pv.anyD, Pv.mulT, pNp, pNpS, pZipX, pOrI, pSlS]
  rw [s_zero]
  refine ⟨_, rfl, by show (numL n.natAbs).length ≤ sizeLine; rw [sizeLine_eq]; omega, ?_⟩
  rw [cut_toS]
  refine ⟨by show 1 + (numL n.natAbs).length ≤ _; omega, ?_⟩
  refine ⟨_, (n.natAbs : Int), by rw [tx_app]; rfl, num_int n.natAbs (by omega), by show (numL n.natAbs).length + 1 ≤ 640; omega, ?_⟩
  unfold Tl
  walk_at "pk0"
  have rg : RgC ((numL n.natAbs).length : Int) ((numL n.natAbs).length : Int) 64 0 := rgc_none (by omega)
  refine for_ok (rngS ((numL n.natAbs).length : Int) 64 0) g (fun Q q => ?_) (fun i ρ g' => g' = g ∧ ρ = [.val (tx (numT n)), .val (.str ⟨(numL n.natAbs).toArray⟩), .val (.int ((numL n.natAbs).length : Nat)), .val (.int (n.natAbs : Nat)), .no]) ⟨rfl, rfl⟩ ?_ ?_
  · simp only [pRng3, pSq, pSet, pSetF, pRet, pRetN, pIfS, pDrop, pAsg, pApp, pSetI, pFrz, pPar, pNext, pVar, pC, pOp, pUn, pTest, pAnd, pOr, pNot, pAndV, pOrV, pNotV, pIf, pChain, pNil, pCons, pTup, pLst, pCat, pListF, pCall, pBui, pLook, pSl, pPart, pNoPart, pIsi, pTru, pDct, pRng1, pRng2, pSeq, pYes, addD, subD, modD, divD, powD, mulD, negD, cmpD, eqD, neD, isD, isntD, isNone, ixX, ixDl, ixDt, slX, slDl, slDt, lenX, lenDl, lenDt, tupX, tupDl, tupDt, lstX, lstDl, lstDt, absD, minD, maxD, sumD, seqD, seqDX, Pv.scal, qName, qTup, qCons, qNil, notOwn, noOwns, pwipe, frz, startP, List.map_cons, List.map_nil, List.cons_append, List.nil_append, List.getElem?_cons_zero, List.getElem?_cons_succ, List.set_cons_zero, List.set_cons_succ, List.length_cons, List.length_nil, List.replicate, Option.some.injEq, Sl.val.injEq, Sl.own.injEq, PyData.int.injEq, PyData.bool.injEq, PyData.list.injEq, PyData.tuple.injEq, List.cons.injEq, exists_eq_left', exists_eq_left, exists_eq_right, exists_eq_right', exists_and_left, true_and, and_true, if_true, if_false, decide_eq_true_eq, Bool.not_eq_true', decide_eq_false_iff_not, List.all_cons, List.all_nil, Bool.and_true, Bool.true_and, Nat.reduceAdd, Nat.reduceLT, Nat.reduceLeDiff, Nat.zero_add, Int.reduceSub, Int.reduceAdd, Int.reduceNeg, gSlots, slV, pLstRg, pSqF, pRetF, pMov, Pv.intD, Pv.boolD, Pv.allD, Pv.anyD, Pv.mulT, pNp, pNpS, pZipX, pOrI]
    refine ⟨_, rfl, by show (numL n.natAbs).length ≤ sizeLine; rw [sizeLine_eq]; omega, ?_⟩
    exact ⟨_, rfl, 0, rg, q⟩
  · intro i d ρ g' hi
    rw [show rngS ((numL n.natAbs).length : Int) 64 0 = [] from rfl] at hi
    cases hi
  · rintro ρ g' ⟨rfl, rfl⟩
    unfold Tl
    walk_at "pk1"
    refine ⟨_, rfl, _, rfl, ?_⟩
    rw [numT_neg]
    by_cases c : n < 0
    · rw [if_pos (decide_eq_true c), show -((n.natAbs : Nat) : Int) = n by omega]
      exact hT
    · rw [if_neg (by rw [decide_eq_false c]; exact Bool.noConfusion), show ((n.natAbs : Nat) : Int) = n by omega]
      exact hT
def tReadR : PSp Γ := fun ds g Q => ∃ r : List Int, ds = [tx (rowT r)] ∧ TxR r ∧ Q (ivD r) g
theorem p_read_row (T : Txt K mg) : FnP P w K mg base F 3 "read_row" ["text"] tReadR := by
  have G_read_number := p_read_number (P := P) (w := w) (base := base) (F := F) T
  have G_need := p_need (P := P) (w := w) (base := base) (F := F) T
  refine DfP T.d_read_row sc_read_row (by rintro ds g Q' ⟨_, rfl, _⟩; rfl) fun f cdv' A outer s H E hr hg => ⟨_, (vss_cons (vs_expr (ve_fn G_need (hr.mono (by first | decide | omega)) hg (by rfl) (va_cons (ve_isi ki_str (by rfl) T.n_isinstance (by rfl) T.n_str (by decide +kernel) (vv 0)) va_nil)))
(vss_cons (vs_if (vt_cmp (vo_eq hr) (vv 0) ve_str (nomark _))
(vss_one (vs_ret (ve_tup va_nil)))
vss_nil)
(vss_one (vs_ret (ve_buiT vc_tuple (by rfl) T.n_tuple (by decide +kernel) (va_cons (VF.ve (vf_lc (own := [("word", 1)]) rfl sc_read_row.nd (vi_seq (ve_split (vv 0) ve_str (fun h1 h2 => pe_split h1 h2))) (blkOk_by (own := [("word", 1)]) (N := N_read_row) (sc := defScope s_read_row) (by decide +kernel)) (fun _ _ _ _ _ => (vg_name (i := 1) sc_read_row.nd rfl (by first | exact Or.inl rfl | exact Or.inr rfl))) (fun _ _ _ _ _ => vts_nil) (fun _ _ _ _ _ => (ve_fn G_read_number (hr.mono (by first | decide | omega)) hg (by rfl) (va_cons (vv 1) va_nil))))) va_nil)))))), ?_⟩
  rintro ds g Q' ⟨r, rfl, hr1, hT⟩
  walk_at "pk0"
  refine ⟨rfl, rfl, ?_⟩
  unfold Tl
  walk_at "pk0"
  rw [c_min]
  dsimp only [tx]
  by_cases c : r = []
  · subst c
    rw [if_pos (by rfl)]
    exact hT
  · rw [if_neg (fun e => c (rowT_one (congrArg tl e)))]
    have et : rowT r = joinL [32] (r.map numT) := if_neg c
    have sp := tx_split (ps := r.map numT) (s := 32) (S := []) (by decide) (fun z => c (List.map_eq_nil_iff.mp z)) fun p hp => by
      obtain ⟨n, _, rfl⟩ := List.mem_map.mp hp
      exact numT_free (.inl (by decide))
    have r1 := hr1.1
    unfold Tl
    walk_at "pk0"
    refine lc_ok rfl ((r.map numT).map tx) g (fun Q h => ?_) (fun i acc g2 => g2 = g ∧ acc = (r.take i).map PyData.int) ⟨rfl, rfl⟩ ?_ ?_
    · simp only [pSq, pSet, pSetF, pRet, pRetN, pIfS, pDrop, pAsg, pApp, pSetI, pFrz, pPar, pNext, pVar, pC, pOp, pUn, pTest, pAnd, pOr, pNot, pAndV, pOrV, pNotV, pIf, pChain, pNil, pCons, pTup, pLst, pCat, pListF, pCall, pBui, pLook, pSl, pPart, pNoPart, pIsi, pTru, pDct, pRng1, pRng2, pSeq, pYes, addD, subD, modD, divD, powD, mulD, negD, cmpD, eqD, neD, isD, isntD, isNone, ixX, ixDl, ixDt, slX, slDl, slDt, lenX, lenDl, lenDt, tupX, tupDl, tupDt, lstX, lstDl, lstDt, absD, minD, maxD, sumD, seqD, seqDX, Pv.scal, qName, qTup, qCons, qNil, notOwn, noOwns, pwipe, frz, startP, List.map_cons, List.map_nil, List.cons_append, List.nil_append, List.getElem?_cons_zero, List.getElem?_cons_succ, List.set_cons_zero, List.set_cons_succ, List.length_cons, List.length_nil, List.replicate, Option.some.injEq, Sl.val.injEq, Sl.own.injEq, PyData.int.injEq, PyData.bool.injEq, PyData.list.injEq, PyData.tuple.injEq, List.cons.injEq, exists_eq_left', exists_eq_left, exists_eq_right, exists_eq_right', exists_and_left, true_and, and_true, if_true, if_false, decide_eq_true_eq, Bool.not_eq_true', decide_eq_false_iff_not, List.all_cons, List.all_nil, Bool.and_true, Bool.true_and, Nat.reduceAdd, Nat.reduceLT, Nat.reduceLeDiff, Nat.zero_add, Int.reduceSub, Int.reduceAdd, Int.reduceNeg, gSlots, slV, pLstRg, pSqF, pRetF, pMov, Pv.intD, Pv.boolD, Pv.allD, Pv.anyD, Pv.mulT, pNp, pNpS, pZipX, pOrI, pSplit]
      rw [c_sp]
      refine ⟨_, rfl, _, rfl, by rfl, by
      show (rowT r).length + 2 ≤ sizeLine
      rw [sizeLine_eq]
      have := rowT_len hr1
      omega, ?_⟩
      rw [et, sp, ← txs_map]
      exact h
    · rintro i dd acc g2 hi ⟨rfl, rfl⟩
      obtain ⟨l, hl, rfl⟩ := ofMap hi
      rw [List.getElem?_map] at hl
      obtain ⟨n, hn, rfl⟩ := Option.map_eq_some_iff.mp hl
      have il := (List.getElem?_eq_some_iff.mp hn).1
      refine ⟨rfl, ?_⟩
      walk_at "pk0"
      refine ⟨n, rfl, hr1.2 n (List.mem_of_getElem? hn), by rw [List.length_map, List.length_take]; omega, rfl, ?_⟩
      rw [take_snoc hn, List.map_append]
      rfl
    rintro acc g2 ⟨rfl, rfl⟩
    rw [List.length_map, List.length_map, List.take_of_length_le (Nat.le_refl _)]
    exact hT
def tReadRs : PSp Γ := fun ds g Q => ∃ rs : List (List Int), ds = [tx (rowsT rs)] ∧ TxRs rs ∧ Q (rsD rs) g
theorem p_read_rows (T : Txt K mg) : FnP P w K mg base F 4 "read_rows" ["text"] tReadRs := by
  have G_read_row := p_read_row (P := P) (w := w) (base := base) (F := F) T
  have G_need := p_need (P := P) (w := w) (base := base) (F := F) T
  refine DfP T.d_read_rows sc_read_rows (by rintro ds g Q' ⟨_, rfl, _⟩; rfl) fun f cdv' A outer s H E hr hg => ⟨_, (vss_cons (vs_expr (ve_fn G_need (hr.mono (by first | decide | omega)) hg (by rfl) (va_cons (ve_isi ki_str (by rfl) T.n_isinstance (by rfl) T.n_str (by decide +kernel) (vv 0)) va_nil)))
(vss_cons (vs_if (vt_cmp (vo_eq hr) (vv 0) ve_str (nomark _))
(vss_one (vs_ret (ve_tup va_nil)))
vss_nil)
(vss_one (vs_ret (ve_buiT vc_tuple (by rfl) T.n_tuple (by decide +kernel) (va_cons (VF.ve (vf_lc (own := [("row", 1)]) rfl sc_read_rows.nd (vi_seq (ve_split (vv 0) ve_str (fun h1 h2 => pe_split h1 h2))) (blkOk_by (own := [("row", 1)]) (N := N_read_rows) (sc := defScope s_read_rows) (by decide +kernel)) (fun _ _ _ _ _ => (vg_name (i := 1) sc_read_rows.nd rfl (by first | exact Or.inl rfl | exact Or.inr rfl))) (fun _ _ _ _ _ => vts_nil) (fun _ _ _ _ _ => (ve_fn G_read_row (hr.mono (by first | decide | omega)) hg (by rfl) (va_cons (vv 1) va_nil))))) va_nil)))))), ?_⟩
  rintro ds g Q' ⟨rs, rfl, hr1, hT⟩
  walk_at "pk0"
  refine ⟨rfl, rfl, ?_⟩
  unfold Tl
  walk_at "pk0"
  rw [c_none]
  dsimp only [tx]
  by_cases c : rs = []
  · subst c
    rw [if_pos (by rfl)]
    exact hT
  · rw [if_neg (fun e => c (rowsT_none (congrArg tl e)))]
    have et : rowsT rs = joinL [32, 59, 32] (rs.map rowT) := if_neg c
    have sp := tx_split2 (ps := rs.map rowT) (a := 32) (b := 59) (S := [32]) (by decide) (by decide) (fun z => c (List.map_eq_nil_iff.mp z)) fun p hp => by
      obtain ⟨n, _, rfl⟩ := List.mem_map.mp hp
      exact rowT_free (by decide)
    have r1 := hr1.1
    unfold Tl
    walk_at "pk0"
    refine lc_ok rfl ((rs.map rowT).map tx) g (fun Q h => ?_) (fun i acc g2 => g2 = g ∧ acc = (rs.take i).map ivD) ⟨rfl, rfl⟩ ?_ ?_
    · simp only [pSq, pSet, pSetF, pRet, pRetN, pIfS, pDrop, pAsg, pApp, pSetI, pFrz, pPar, pNext, pVar, pC, pOp, pUn, pTest, pAnd, pOr, pNot, pAndV, pOrV, pNotV, pIf, pChain, pNil, pCons, pTup, pLst, pCat, pListF, pCall, pBui, pLook, pSl, pPart, pNoPart, pIsi, pTru, pDct, pRng1, pRng2, pSeq, pYes, addD, subD, modD, divD, powD, mulD, negD, cmpD, eqD, neD, isD, isntD, isNone, ixX, ixDl, ixDt, slX, slDl, slDt, lenX, lenDl, lenDt, tupX, tupDl, tupDt, lstX, lstDl, lstDt, absD, minD, maxD, sumD, seqD, seqDX, Pv.scal, qName, qTup, qCons, qNil, notOwn, noOwns, pwipe, frz, startP, List.map_cons, List.map_nil, List.cons_append, List.nil_append, List.getElem?_cons_zero, List.getElem?_cons_succ, List.set_cons_zero, List.set_cons_succ, List.length_cons, List.length_nil, List.replicate, Option.some.injEq, Sl.val.injEq, Sl.own.injEq, PyData.int.injEq, PyData.bool.injEq, PyData.list.injEq, PyData.tuple.injEq, List.cons.injEq, exists_eq_left', exists_eq_left, exists_eq_right, exists_eq_right', exists_and_left, true_and, and_true, if_true, if_false, decide_eq_true_eq, Bool.not_eq_true', decide_eq_false_iff_not, List.all_cons, List.all_nil, Bool.and_true, Bool.true_and, Nat.reduceAdd, Nat.reduceLT, Nat.reduceLeDiff, Nat.zero_add, Int.reduceSub, Int.reduceAdd, Int.reduceNeg, gSlots, slV, pLstRg, pSqF, pRetF, pMov, Pv.intD, Pv.boolD, Pv.allD, Pv.anyD, Pv.mulT, pNp, pNpS, pZipX, pOrI, pSplit]
      rw [c_semi]
      refine ⟨_, rfl, _, rfl, by rfl, by
      show (rowsT rs).length + 2 ≤ sizeLine
      rw [sizeLine_eq, et]
      have h1 := joinL_len [32, 59, 32] (rs.map rowT)
      have h2 := rows_sum hr1
      rw [List.length_map] at h1
      simp only [List.length_cons, List.length_nil] at h1
      omega, ?_⟩
      rw [et, sp, ← txs_map]
      exact h
    · rintro i dd acc g2 hi ⟨rfl, rfl⟩
      obtain ⟨l, hl, rfl⟩ := ofMap hi
      rw [List.getElem?_map] at hl
      obtain ⟨n, hn, rfl⟩ := Option.map_eq_some_iff.mp hl
      have il := (List.getElem?_eq_some_iff.mp hn).1
      refine ⟨rfl, ?_⟩
      walk_at "pk0"
      refine ⟨n, rfl, (hr1.2 n (List.mem_of_getElem? hn)).2, by rw [List.length_map, List.length_take]; omega, rfl, ?_⟩
      rw [take_snoc hn, List.map_append]
      rfl
    rintro acc g2 ⟨rfl, rfl⟩
    rw [List.length_map, List.length_map, List.take_of_length_le (Nat.le_refl _)]
    exact hT
end
end
end K76
set_option Elab.async false
set_option linter.all false
set_option maxRecDepth 100000
set_option maxHeartbeats 4000000
namespace K76
open PySem PySem.Spec PyProof.Rows L2 Cm GxR Pv TL
local macro_rules | `(tactic| walk_at "pk0") => `(tactic| simp only [pSq, pSet, pSetF, pRet, pRetN, pIfS, pDrop, pAsg, pApp, pSetI, pFrz, pPar, pNext, pVar, pC, pOp, pUn, pTest, pAnd, pOr, pNot, pAndV, pOrV, pNotV, pIf, pChain, pNil, pCons, pTup, pLst, pCat, pListF, pCall, pBui, pLook, pSl, pPart, pNoPart, pIsi, pTru, pDct, pRng1, pRng2, pSeq, pYes, addD, subD, modD, divD, powD, mulD, negD, cmpD, eqD, neD, isD, isntD, isNone, ixX, ixDl, ixDt, slX, slDl, slDt, lenX, lenDl, lenDt, tupX, tupDl, tupDt, lstX, lstDl, lstDt, absD, minD, maxD, sumD, seqD, seqDX, Pv.scal, qName, qTup, qCons, qNil, notOwn, noOwns, pwipe, frz, startP, List.map_cons, List.map_nil, List.cons_append, List.nil_append, List.getElem?_cons_zero, List.getElem?_cons_succ, List.set_cons_zero, List.set_cons_succ, List.length_cons, List.length_nil, List.replicate, Option.some.injEq, Sl.val.injEq, Sl.own.injEq, PyData.int.injEq, PyData.bool.injEq, PyData.list.injEq, PyData.tuple.injEq, List.cons.injEq, exists_eq_left', exists_eq_left, exists_eq_right, exists_eq_right', exists_and_left, true_and, and_true, if_true, if_false, decide_eq_true_eq, Bool.not_eq_true', decide_eq_false_iff_not, List.all_cons, List.all_nil, Bool.and_true, Bool.true_and, Nat.reduceAdd, Nat.reduceLT, Nat.reduceLeDiff, Nat.zero_add, Int.reduceSub, Int.reduceAdd, Int.reduceNeg, gSlots, slV, pLstRg, pSqF, pRetF, pMov, Pv.intD, Pv.boolD, Pv.allD, Pv.anyD, Pv.mulT, pNp, pNpS, pZipX, pOrI])
section
variable {P : Program} {w : World} {K : PySem.W.Frag} {mg : Str → Option Value} {base : Heap}
theorem mulB {i j : Int} {m n : Nat} (hi : i.natAbs < 2 ^ m) (hj : j.natAbs < 2 ^ n) (hm : 0 < m := by decide) (hn : 0 < n := by decide) (h : m + n ≤ 1000000 := by decide) : CMulW i j := wide_mul hi hj hm hn h
section
variable {d a : Addr} {Bs : List Addr} {ns : List Int} {tr : Prop}
def tNumber (d : Addr) : PSp (Int × Int) := fun ds g Q => ∃ c : Int, ds = [ptrD d] ∧ Sc c g ∧ c + 10 ≤ 1000000 ∧ ∀ (n : Int) g', n.natAbs < 10 ^ 32 → Sc (c + 6) g' → Q (.int n) g'
theorem p_number (x : Px K d a Bs ns tr) (T : Txt K mg) : FnP P w K mg base (lpF x) 2 "_law_number" ["_law_pen_here"] (tNumber d) := by
  have G_law_draw := p_draw (P := P) (w := w) (base := base) x T
  refine DfP T.d_law_number sc_law_number (by rintro ds g Q' ⟨_, rfl, _⟩; rfl) fun f cdv A outer s H E hr hg => ⟨_, (vss_cons (vs_set (i := 1) sc_law_number.nd rfl (by first | exact Or.inl rfl | exact Or.inr rfl) (ve_fn G_law_draw (hr.mono (by first | decide | omega)) hg (by rfl) (va_cons (vv 0) (va_cons ve_int va_nil))))
(vss_cons (vs_set (i := 2) sc_law_number.nd rfl (by first | exact Or.inl rfl | exact Or.inr rfl) (ve_fn G_law_draw (hr.mono (by first | decide | omega)) hg (by rfl) (va_cons (vv 0) (va_cons ve_int va_nil))))
(vss_cons (vs_if (vt_cmp (vo_eq hr) (vv 1) ve_int (nomark _))
(vss_one (vs_set (i := 2) sc_law_number.nd rfl (by first | exact Or.inl rfl | exact Or.inr rfl) (ve_op vo_add (ve_op vo_pow ve_int ve_int) (ve_fn G_law_draw (hr.mono (by first | decide | omega)) hg (by rfl) (va_cons (vv 0) (va_cons (ve_op vo_mul ve_int (ve_op vo_pow ve_int ve_int)) va_nil))))))
vss_nil)
(vss_cons (vs_if (vt_cmp (vo_eq hr) (vv 1) ve_int (nomark _))
(vss_one (vs_set (i := 2) sc_law_number.nd rfl (by first | exact Or.inl rfl | exact Or.inr rfl) (ve_fn G_law_draw (hr.mono (by first | decide | omega)) hg (by rfl) (va_cons (vv 0) (va_cons (ve_op vo_pow ve_int ve_int) va_nil)))))
vss_nil)
(vss_cons (vs_if (vt_cmp (vo_eq hr) (vv 1) ve_int (nomark _))
(vss_one (vs_set (i := 2) sc_law_number.nd rfl (by first | exact Or.inl rfl | exact Or.inr rfl) (ve_ix (ve_tup (va_cons ve_int (va_cons ve_int (va_cons ve_int (va_cons ve_int (va_cons (ve_op vo_sub (ve_op vo_pow ve_int ve_int) ve_int) va_nil)))))) (ve_fn G_law_draw (hr.mono (by first | decide | omega)) hg (by rfl) (va_cons (vv 0) (va_cons ve_int va_nil))) (fun _ _ => rfl))))
vss_nil)
(vss_one (vs_ret (ve_op vo_mul (vv 2) (ve_op vo_sub ve_int (ve_op vo_mul ve_int (ve_fn G_law_draw (hr.mono (by first | decide | omega)) hg (by rfl) (va_cons (vv 0) (va_cons ve_int va_nil))))))))))))), ?_⟩
  rintro ds g Q' ⟨c, rfl, sc, hc, hT⟩
  walk_at "pk0"
  refine ⟨6, c, rfl, by decide, by decide, sc, by omega, fun wy g1 hwy s1 => ?_⟩
  unfold Tl
  walk_at "pk0"
  refine ⟨12, c + 1, rfl, by decide, by decide, s1, by omega, fun f0 g2 hf0 s2 => ?_⟩
  unfold Tl
  have pw : ∀ k : Nat, ((10 : Int) ^ k) = ((10 ^ k : Nat) : Int) := fun k => by rw [Int.natCast_pow]; rfl
  refine sq_share (fun ρ g => Sc (c + 3) g ∧ ∃ fd : Nat, ρ = [.val (ptrD d), .val (.int (wy : Nat)), .val (.int (fd : Nat))] ∧ fd < 10 ^ 31) ?zt ?zm
  case zm =>
    intro tail
    simp only [pSq]
    generalize Tl _ = tlp at tail ⊢
    walk_at "pk0"
    split
    · refine ⟨⟨by decide, by decide, by decide⟩, ⟨by decide, by decide, by decide⟩, mulB (m := 10) (n := 100) (by decide) (by decide), 9 * 10 ^ 29, c + 2, rfl, by decide, by decide, s2.mono (by omega), by omega, fun r g3 hr3 s3 => ?_⟩
      exact tail _ _ ⟨s3.mono (by omega), 10 ^ 29 + r, by rw [show ((10 : Int) ^ Int.toNat 29 + (r : Int)) = ((10 ^ 29 + r : Nat) : Int) by rw [Int.natCast_add]; rfl], by omega⟩
    · exact tail _ _ ⟨s2.mono (by omega), f0, rfl, by omega⟩
  case zt =>
    rintro ρ g ⟨sg, fd, rfl, hf⟩
    unfold Tl
    refine sq_share (fun ρ g => Sc (c + 4) g ∧ ∃ fd : Nat, ρ = [.val (ptrD d), .val (.int (wy : Nat)), .val (.int (fd : Nat))] ∧ fd < 10 ^ 31) ?zt2 ?zm2
    case zm2 =>
      intro tail
      simp only [pSq]
      generalize Tl _ = tlp at tail ⊢
      walk_at "pk0"
      split
      · refine ⟨⟨by decide, by decide, by decide⟩, 10 ^ 9, c + 3, rfl, by decide, by decide, sg, by omega, fun r g3 hr3 s3 => ?_⟩
        exact tail _ _ ⟨s3.mono (by omega), r, rfl, by omega⟩
      · exact tail _ _ ⟨sg.mono (by omega), fd, rfl, hf⟩
    case zt2 =>
      rintro ρ g ⟨sg, fd, rfl, hf⟩
      unfold Tl
      refine sq_share (fun ρ g => Sc (c + 5) g ∧ ∃ fd : Nat, ρ = [.val (ptrD d), .val (.int (wy : Nat)), .val (.int (fd : Nat))] ∧ fd < 10 ^ 31) ?zt3 ?zm3
      case zm3 =>
        intro tail
        simp only [pSq]
        generalize Tl _ = tlp at tail ⊢
        walk_at "pk0"
        split
        · refine ⟨⟨by decide, by decide, by decide⟩, 5, c + 4, rfl, by decide, by decide, sg, by omega, fun r g3 hr3 s3 => ?_⟩
          obtain ⟨z, ez, one, rfl, o1⟩ := pickD (ds := [PyData.int 0, .int 1, .int 9, .int 10, .int (10 ^ Int.toNat 30 - 1)]) (p := fun z => ∃ one : Nat, z = .int (one : Int) ∧ one < 10 ^ 31) (r := (r : Int)) (by omega) (by show (r : Int) < 5; omega) (by
            intro z hz
            simp only [List.mem_cons, List.not_mem_nil, or_false] at hz
            rcases hz with rfl | rfl | rfl | rfl | rfl
            · exact ⟨0, rfl, by decide⟩
            · exact ⟨1, rfl, by decide⟩
            · exact ⟨9, rfl, by decide⟩
            · exact ⟨10, rfl, by decide⟩
            · exact ⟨10 ^ 30 - 1, congrArg PyData.int (by decide), by decide⟩)
          exact ⟨_, ez, tail _ _ ⟨s3.mono (by omega), one, rfl, o1⟩⟩
        · exact tail _ _ ⟨sg.mono (by omega), fd, rfl, hf⟩
      case zt3 =>
        rintro ρ g ⟨sg, fd, rfl, hf⟩
        unfold Tl
        walk_at "pk0"
        refine ⟨2, c + 5, rfl, by decide, by decide, sg, by omega, fun r g3 hr3 s3 => ?_⟩
        have hb : (1 - 2 * (r : Int)).natAbs < 2 ^ 10 := by omega
        have fb : ((fd : Nat) : Int).natAbs < 2 ^ 110 := by
          rw [Int.natAbs_natCast]
          exact Nat.lt_trans hf (by decide)
        refine ⟨mulB (m := 10) (n := 10) (by decide) (by omega), mulB (m := 110) (n := 10) fb hb, ?_⟩
        refine hT _ g3 ?_ (s3.mono (by omega))
        rw [Int.natAbs_mul, Int.natAbs_natCast]
        have h1 : (1 - 2 * (r : Int)).natAbs = 1 := by omega
        rw [h1, Nat.mul_one]
        exact Nat.lt_trans hf (by decide)
def tDrawnR (d : Addr) : PSp (Int × Int) := fun ds g Q => ∃ (c : Int) (most : Nat), ds = [ptrD d, .int (most : Nat)] ∧ most ≤ 40 ∧ Sc c g ∧ c + 300 ≤ 1000000 ∧ ∀ (r : List Int) g', r.length ≤ most → (∀ n ∈ r, n.natAbs < 10 ^ 32) → Sc (c + 1 + 6 * most) g' → Q (ivD r) g'
theorem p_drawn_row (x : Px K d a Bs ns tr) (T : Txt K mg) : FnP P w K mg base (lpF x) 3 "_law_drawn_row" ["_law_pen_here", "_law_most"] (tDrawnR d) := by
  have G_law_draw := p_draw (P := P) (w := w) (base := base) x T
  have G_law_number := p_number (P := P) (w := w) (base := base) x T
  refine DfP T.d_law_drawn_row sc_law_drawn_row (by rintro ds g Q' ⟨_, _, rfl, _⟩; rfl) fun f cdv A outer s H E hr hg => ⟨_, (vss_one (vs_ret (ve_buiT vc_tuple (by rfl) T.n_tuple (by decide +kernel) (va_cons (VF.ve (vf_lc (own := [("_law_k", 2)]) rfl sc_law_drawn_row.nd (vi_range1 (by rfl) T.n_range (ve_fn G_law_draw (hr.mono (by first | decide | omega)) hg (by rfl) (va_cons (vv 0) (va_cons (ve_op vo_add (vv 1) ve_int) va_nil)))) (blkOk_by (own := [("_law_k", 2)]) (N := N_law_drawn_row) (sc := defScope s_law_drawn_row) (by decide +kernel)) (fun _ _ _ _ _ => (vg_name (i := 2) sc_law_drawn_row.nd rfl (by first | exact Or.inl rfl | exact Or.inr rfl))) (fun _ _ _ _ _ => vts_nil) (fun _ _ _ _ _ => (ve_fn G_law_number (hr.mono (by first | decide | omega)) hg (by rfl) (va_cons (vv 0) va_nil))))) va_nil)))), ?_⟩
  rintro ds g Q' ⟨c, most, rfl, hm, sc, hc, hT⟩
  walk_at "pk0"
  refine ⟨rfl, _, rfl, _, rfl, most + 1, c, rfl, by omega, Nat.lt_of_le_of_lt (show most + 1 ≤ 41 by omega) (by decide), sc, by omega, fun n g1 hn s1 => ⟨_, rfl, by omega, by omega, fun i acc g' => Sc (c + 1 + 6 * i) g' ∧ ∃ r : List Int, acc = r.map PyData.int ∧ r.length = i ∧ ∀ n ∈ r, n.natAbs < 10 ^ 32, ⟨s1.mono (by omega), [], rfl, rfl, fun _ h => (nomatch h)⟩, ?_, ?_⟩⟩
  · rintro i dd acc g' hi ⟨si, r, rfl, rl, hr0⟩
    obtain ⟨il, rfl⟩ := rng_at hi
    refine ⟨rfl, ?_⟩
    walk_at "pk0"
    refine ⟨c + 1 + 6 * i, rfl, si, by omega, fun z g2 hz s2 => ⟨by rw [List.length_map]; omega, s2.mono (by omega), r ++ [z], by rw [List.map_append]; rfl, by rw [List.length_append, rl]; rfl, fun y hy => ?_⟩⟩
    rcases List.mem_append.mp hy with e | e
    · exact hr0 y e
    · rw [List.mem_singleton.mp e]; exact hz
  · rintro acc g' ⟨si, r, rfl, rl, hr0⟩
    rw [rng_len] at si rl
    exact hT r g' (by omega) hr0 (si.mono (by omega))
def tDrawnRs (d : Addr) : PSp (Int × Int) := fun ds g Q => ∃ c : Int, ds = [ptrD d] ∧ Sc c g ∧ c + 500 ≤ 1000000 ∧ ∀ (rs : List (List Int)) g', rs.length ≤ 4 → (∀ r ∈ rs, r.length ≤ 5 ∧ ∀ n ∈ r, n.natAbs < 10 ^ 32) → Sc (c + 150) g' → Q (rsD rs) g'
theorem p_drawn_rows (x : Px K d a Bs ns tr) (T : Txt K mg) : FnP P w K mg base (lpF x) 4 "_law_drawn_rows" ["_law_pen_here"] (tDrawnRs d) := by
  have G_law_draw := p_draw (P := P) (w := w) (base := base) x T
  have G_law_drawn_row := p_drawn_row (P := P) (w := w) (base := base) x T
  refine DfP T.d_law_drawn_rows sc_law_drawn_rows (by rintro ds g Q' ⟨_, rfl, _⟩; rfl) fun f cdv A outer s H E hr hg => ⟨_, (vss_one (vs_ret (ve_buiT vc_tuple (by rfl) T.n_tuple (by decide +kernel) (va_cons (VF.ve (vf_lc (own := [("_law_k", 1)]) rfl sc_law_drawn_rows.nd (vi_range1 (by rfl) T.n_range (ve_fn G_law_draw (hr.mono (by first | decide | omega)) hg (by rfl) (va_cons (vv 0) (va_cons ve_int va_nil)))) (blkOk_by (own := [("_law_k", 1)]) (N := N_law_drawn_rows) (sc := defScope s_law_drawn_rows) (by decide +kernel)) (fun _ _ _ _ _ => (vg_name (i := 1) sc_law_drawn_rows.nd rfl (by first | exact Or.inl rfl | exact Or.inr rfl))) (fun _ _ _ _ _ => vts_nil) (fun _ _ _ _ _ => (ve_fn G_law_drawn_row (hr.mono (by first | decide | omega)) hg (by rfl) (va_cons (vv 0) (va_cons ve_int va_nil)))))) va_nil)))), ?_⟩
  rintro ds g Q' ⟨c, rfl, sc, hc, hT⟩
  walk_at "pk0"
  refine ⟨rfl, _, rfl, 5, c, rfl, by decide, by decide, sc, by omega, fun n g1 hn s1 => ⟨_, rfl, by omega, by omega, fun i acc g' => Sc (c + 1 + 31 * i) g' ∧ ∃ rs : List (List Int), acc = rs.map ivD ∧ rs.length = i ∧ ∀ r ∈ rs, r.length ≤ 5 ∧ ∀ n ∈ r, n.natAbs < 10 ^ 32, ⟨s1.mono (by omega), [], rfl, rfl, fun _ h => (nomatch h)⟩, ?_, ?_⟩⟩
  · rintro i dd acc g' hi ⟨si, rs, rfl, rl, hr0⟩
    obtain ⟨il, rfl⟩ := rng_at hi
    refine ⟨rfl, ?_⟩
    walk_at "pk0"
    refine ⟨c + 1 + 31 * i, 5, rfl, by decide, si, by omega, fun r g2 r5 hz s2 => ⟨by rw [List.length_map]; omega, s2.mono (by omega), rs ++ [r], by rw [List.map_append]; rfl, by rw [List.length_append, rl]; rfl, fun y hy => ?_⟩⟩
    rcases List.mem_append.mp hy with e | e
    · exact hr0 y e
    · rw [List.mem_singleton.mp e]; exact ⟨r5, hz⟩
  · rintro acc g' ⟨si, rs, rfl, rl, hr0⟩
    rw [rng_len] at si rl
    exact hT rs g' (by omega) hr0 (si.mono (by omega))
end
end
end K76
set_option Elab.async false
set_option linter.all false
set_option maxRecDepth 100000
set_option maxHeartbeats 4000000
namespace K76
open PySem PySem.Spec PyProof.Rows L2 Cm GxR Pv TL
local macro_rules | `(tactic| walk_at "pk0") => `(tactic| simp only [pSq, pSet, pSetF, pRet, pRetN, pIfS, pDrop, pAsg, pApp, pSetI, pFrz, pPar, pNext, pVar, pC, pOp, pUn, pTest, pAnd, pOr, pNot, pAndV, pOrV, pNotV, pIf, pChain, pNil, pCons, pTup, pLst, pCat, pListF, pCall, pBui, pLook, pSl, pPart, pNoPart, pIsi, pTru, pDct, pRng1, pRng2, pSeq, pYes, addD, subD, modD, divD, powD, mulD, negD, cmpD, eqD, neD, isD, isntD, isNone, ixX, ixDl, ixDt, slX, slDl, slDt, lenX, lenDl, lenDt, tupX, tupDl, tupDt, lstX, lstDl, lstDt, absD, minD, maxD, sumD, seqD, seqDX, Pv.scal, qName, qTup, qCons, qNil, notOwn, noOwns, pwipe, frz, startP, List.map_cons, List.map_nil, List.cons_append, List.nil_append, List.getElem?_cons_zero, List.getElem?_cons_succ, List.set_cons_zero, List.set_cons_succ, List.length_cons, List.length_nil, List.replicate, Option.some.injEq, Sl.val.injEq, Sl.own.injEq, PyData.int.injEq, PyData.bool.injEq, PyData.list.injEq, PyData.tuple.injEq, List.cons.injEq, exists_eq_left', exists_eq_left, exists_eq_right, exists_eq_right', exists_and_left, true_and, and_true, if_true, if_false, decide_eq_true_eq, Bool.not_eq_true', decide_eq_false_iff_not, List.all_cons, List.all_nil, Bool.and_true, Bool.true_and, Nat.reduceAdd, Nat.reduceLT, Nat.reduceLeDiff, Nat.zero_add, Int.reduceSub, Int.reduceAdd, Int.reduceNeg, gSlots, slV, pLstRg, pSqF, pRetF, pMov, Pv.intD, Pv.boolD, Pv.allD, Pv.anyD, Pv.mulT, pNp, pNpS, pZipX, pOrI])
section
variable {P : Program} {w : World} {K : PySem.W.Frag} {mg : Str → Option Value} {base : Heap}
theorem big32 {n : Int} (h : n.natAbs < 10 ^ 32) : n.natAbs < 2 ^ 1000 := Nat.lt_trans h (by decide)
theorem shw_row {r : List Int} (h : ∀ n ∈ r, n.natAbs < 10 ^ 32) : Shw (ivD r) r.length 1 := (shw_tup (b := 0) (k := 0) fun d hd => by
  obtain ⟨n, hn, rfl⟩ := List.mem_map.mp hd
  exact shw_int (big32 (h n hn))).mono (by rw [List.length_map]; omega) (by decide)
theorem shw_rows {rs : List (List Int)} {m : Nat} (h : ∀ r ∈ rs, r.length ≤ m ∧ ∀ n ∈ r, n.natAbs < 10 ^ 32) : Shw (rsD rs) ((m + 1) * rs.length) 2 := (shw_tup (b := m) (k := 1) fun d hd => by
  obtain ⟨r, hr, rfl⟩ := List.mem_map.mp hd
  exact (shw_row (h r hr).2).mono (h r hr).1 (Nat.le_refl _)).mono (by rw [List.length_map]; exact Nat.le_refl _) (by decide)
theorem txR {r : List Int} (hl : r.length ≤ 1000) (h : ∀ n ∈ r, n.natAbs < 10 ^ 32) : TxR r := ⟨hl, fun n hn => Nat.lt_trans (h n hn) (by decide)⟩
theorem txRs {rs : List (List Int)} (hl : rs.length ≤ 1000) (h : ∀ r ∈ rs, r.length ≤ 100 ∧ ∀ n ∈ r, n.natAbs < 10 ^ 32) : TxRs rs := ⟨hl, fun r hr => ⟨(h r hr).1, txR (Nat.le_trans (h r hr).1 (by decide)) (h r hr).2⟩⟩
theorem sqI {i : Nat} (h : i < 701) : CMulW (0 + (i : Int)) (0 + i) := mulB (m := 10) (n := 10) (by omega) (by omega)
theorem rprQ {d : PyData} {Q : PyData → Prop} (R : Rpr d) (h : Q (.str d.shown)) : reprD [d] Q := ⟨R.1, R.2.1, R.2.2.1, R.2.2.2, h⟩
section
variable {d a : Addr} {Bs : List Addr} {ns : List Int} {tr : Prop}
def tManyR (d : Addr) : PSp (Int × Int) := fun ds g Q => ∃ c : Int, ds = [ptrD d] ∧ Sc c g ∧ c + 1500 ≤ 1000000 ∧ ∀ g', Sc (c + 600) g' → Q (.bool true) g'
theorem p_many_right (x : Px K d a Bs ns tr) (T : Txt K mg) : FnP P w K mg base (lpF x) 5 "_law_many_right" ["_law_pen_here"] (tManyR d) := by
  have G_law_draw := p_draw (P := P) (w := w) (base := base) x T
  have G_law_drawn_row := p_drawn_row (P := P) (w := w) (base := base) x T
  have G_law_rows_text := p_rows_text (P := P) (w := w) (base := base) (F := lpF x) T
  have G_read_rows := p_read_rows (P := P) (w := w) (base := base) (F := lpF x) T
  have G_show_rows := p_show_rows (P := P) (w := w) (base := base) (F := lpF x) T
  refine DfP T.d_law_many_right sc_law_many_right (by rintro ds g Q' ⟨_, rfl, _⟩; rfl) fun f cdv A outer s H E hr hg => ⟨_, (vss_cons (vs_set (i := 1) sc_law_many_right.nd rfl (by first | exact Or.inl rfl | exact Or.inr rfl) (ve_buiT vc_tuple (by rfl) T.n_tuple (by decide +kernel) (va_cons (VF.ve (vf_lc (own := [("_law_k", 4)]) rfl sc_law_many_right.nd (vi_range1 (by rfl) T.n_range (ve_fn G_law_draw (hr.mono (by first | decide | omega)) hg (by rfl) (va_cons (vv 0) (va_cons ve_int va_nil)))) (blkOk_by (own := [("_law_k", 4)]) (N := N_law_many_right) (sc := defScope s_law_many_right) (by decide +kernel)) (fun _ _ _ _ _ => (vg_name (i := 4) sc_law_many_right.nd rfl (by first | exact Or.inl rfl | exact Or.inr rfl))) (fun _ _ _ _ _ => vts_nil) (fun _ _ _ _ _ => (ve_fn G_law_drawn_row (hr.mono (by first | decide | omega)) hg (by rfl) (va_cons (vv 0) (va_cons ve_int va_nil)))))) va_nil)))
(vss_cons (vs_set (i := 2) sc_law_many_right.nd rfl (by first | exact Or.inl rfl | exact Or.inr rfl) (ve_fn G_law_rows_text (hr.mono (by first | decide | omega)) hg (by rfl) (va_cons (vv 1) va_nil)))
(vss_cons (vs_set (i := 3) sc_law_many_right.nd rfl (by first | exact Or.inl rfl | exact Or.inr rfl) (ve_fn G_read_rows (hr.mono (by first | decide | omega)) hg (by rfl) (va_cons (vv 2) va_nil)))
(vss_one (vs_ret (ve_and (ve_cmp (vo_eq hr) (ve_repr hr hg (by rfl) T.n_repr (by decide +kernel) (vv 3)) (ve_repr hr hg (by rfl) T.n_repr (by decide +kernel) (vv 1)) (nomark _)) (ve_one (ve_cmp (vo_eq hr) (ve_fn G_show_rows (hr.mono (by first | decide | omega)) hg (by rfl) (va_cons (vv 3) va_nil)) (vv 2) (nomark _))))))))), ?_⟩
  rintro ds g Q' ⟨c, rfl, sc, hc, hT⟩
  walk_at "pk0"
  refine ⟨rfl, _, rfl, 61, c, rfl, by decide, by decide, sc, by omega, fun n g1 hn s1 => ⟨_, rfl, by omega, by omega, fun i acc g' => Sc (c + 1 + 7 * i) g' ∧ ∃ rs : List (List Int), acc = rs.map ivD ∧ rs.length = i ∧ ∀ r ∈ rs, r.length ≤ 1 ∧ ∀ n ∈ r, n.natAbs < 10 ^ 32, ⟨s1.mono (by omega), [], rfl, rfl, fun _ h => (nomatch h)⟩, ?_, ?_⟩⟩
  · rintro i dd acc g' hi ⟨si, rs, rfl, rl, hr0⟩
    obtain ⟨il, rfl⟩ := rng_at hi
    refine ⟨rfl, ?_⟩
    walk_at "pk0"
    refine ⟨c + 1 + 7 * i, 1, rfl, by decide, si, by omega, fun r g2 r5 hz s2 => ⟨by rw [List.length_map]; omega, s2.mono (by omega), rs ++ [r], by rw [List.map_append]; rfl, by rw [List.length_append, rl]; rfl, fun y hy => ?_⟩⟩
    rcases List.mem_append.mp hy with e | e
    · exact hr0 y e
    · rw [List.mem_singleton.mp e]; exact ⟨r5, hz⟩
  · rintro acc g' ⟨si, rs, rfl, rl, hr0⟩
    rw [rng_len] at si rl
    have X1 : TxRs rs := txRs (by omega) fun r hr => ⟨Nat.le_trans (hr0 r hr).1 (by decide), (hr0 r hr).2⟩
    have R1 := (shw_rows (m := 1) hr0).rpr (by omega) (by decide)
    unfold Tl
    walk_at "pk0"
    refine ⟨rs, rfl, X1, ?_⟩
    unfold Tl
    walk_at "pk0"
    refine ⟨rs, rfl, X1, ?_⟩
    unfold Tl
    walk_at "pk0"
    refine rprQ R1 (rprQ R1 ?_)
    show (if _ = _ then _ else _)
    rw [if_pos rfl]
    refine ⟨rs, rfl, X1, ?_⟩
    show Q' (.bool (decide (_ = _))) _
    rw [decide_eq_true rfl]
    exact hT g' (si.mono (by omega))
theorem p_long_right (x : Px K d a Bs ns tr) (T : Txt K mg) : FnP P w K mg base (lpF x) 5 "_law_long_right" ["_law_pen_here"] (tManyR d) := by
  have G_law_draw := p_draw (P := P) (w := w) (base := base) x T
  have G_law_row_text := p_row_text (P := P) (w := w) (base := base) (F := lpF x) T
  have G_law_rows_text := p_rows_text (P := P) (w := w) (base := base) (F := lpF x) T
  have G_read_row := p_read_row (P := P) (w := w) (base := base) (F := lpF x) T
  have G_read_rows := p_read_rows (P := P) (w := w) (base := base) (F := lpF x) T
  have G_show_row := p_show_row (P := P) (w := w) (base := base) (F := lpF x) T
  have G_show_rows := p_show_rows (P := P) (w := w) (base := base) (F := lpF x) T
  refine DfP T.d_law_long_right sc_law_long_right (by rintro ds g Q' ⟨_, rfl, _⟩; rfl) fun f cdv A outer s H E hr hg => ⟨_, (vss_cons (vs_set (i := 1) sc_law_long_right.nd rfl (by first | exact Or.inl rfl | exact Or.inr rfl) (ve_buiT vc_tuple (by rfl) T.n_tuple (by decide +kernel) (va_cons (VF.ve (vf_lc (own := [("_law_k", 3)]) rfl sc_law_long_right.nd (vi_range1 (by rfl) T.n_range (ve_fn G_law_draw (hr.mono (by first | decide | omega)) hg (by rfl) (va_cons (vv 0) (va_cons ve_int va_nil)))) (blkOk_by (own := [("_law_k", 3)]) (N := N_law_long_right) (sc := defScope s_law_long_right) (by decide +kernel)) (fun _ _ _ _ _ => (vg_name (i := 3) sc_law_long_right.nd rfl (by first | exact Or.inl rfl | exact Or.inr rfl))) (fun _ _ _ _ _ => vts_nil) (fun _ _ _ _ _ => (ve_op vo_mod (ve_op vo_mul (vv 3) (vv 3)) ve_int)))) va_nil)))
(vss_cons (vs_set (i := 2) sc_law_long_right.nd rfl (by first | exact Or.inl rfl | exact Or.inr rfl) (ve_buiT vc_tuple (by rfl) T.n_tuple (by decide +kernel) (va_cons (VF.ve (vf_lc (own := [("_law_k", 3)]) rfl sc_law_long_right.nd (vi_range1 (by rfl) T.n_range (ve_fn G_law_draw (hr.mono (by first | decide | omega)) hg (by rfl) (va_cons (vv 0) (va_cons ve_int va_nil)))) (blkOk_by (own := [("_law_k", 3)]) (N := N_law_long_right) (sc := defScope s_law_long_right) (by decide +kernel)) (fun _ _ _ _ _ => (vg_name (i := 3) sc_law_long_right.nd rfl (by first | exact Or.inl rfl | exact Or.inr rfl))) (fun _ _ _ _ _ => vts_nil) (fun _ _ _ _ _ => (ve_op vo_mul (ve_tup (va_cons (ve_op vo_mod (vv 3) ve_int) va_nil)) (ve_op vo_mod (ve_op vo_mod (ve_op vo_mul (vv 3) (vv 3)) ve_int) ve_int))))) va_nil)))
(vss_cons (vs_if (VW.vt (vw_or (vt_cmp (vo_ne hr) (ve_fn G_show_row (hr.mono (by first | decide | omega)) hg (by rfl) (va_cons (vv 1) va_nil)) (ve_fn G_law_row_text (hr.mono (by first | decide | omega)) hg (by rfl) (va_cons (vv 1) va_nil)) (nomark _)) (vw_or1 (vt_cmp (vo_ne hr) (ve_fn G_show_rows (hr.mono (by first | decide | omega)) hg (by rfl) (va_cons (vv 2) va_nil)) (ve_fn G_law_rows_text (hr.mono (by first | decide | omega)) hg (by rfl) (va_cons (vv 2) va_nil)) (nomark _)))))
(vss_one (vs_ret ve_bl))
vss_nil)
(vss_one (vs_ret (ve_and (ve_cmp (vo_eq hr) (ve_repr hr hg (by rfl) T.n_repr (by decide +kernel) (ve_fn G_read_row (hr.mono (by first | decide | omega)) hg (by rfl) (va_cons (ve_fn G_law_row_text (hr.mono (by first | decide | omega)) hg (by rfl) (va_cons (vv 1) va_nil)) va_nil))) (ve_repr hr hg (by rfl) T.n_repr (by decide +kernel) (vv 1)) (nomark _)) (ve_one (ve_cmp (vo_eq hr) (ve_repr hr hg (by rfl) T.n_repr (by decide +kernel) (ve_fn G_read_rows (hr.mono (by first | decide | omega)) hg (by rfl) (va_cons (ve_fn G_law_rows_text (hr.mono (by first | decide | omega)) hg (by rfl) (va_cons (vv 2) va_nil)) va_nil))) (ve_repr hr hg (by rfl) T.n_repr (by decide +kernel) (vv 2)) (nomark _))))))))), ?_⟩
  rintro ds g Q' ⟨c, rfl, sc, hc, hT⟩
  walk_at "pk0"
  refine ⟨rfl, _, rfl, 701, c, rfl, by decide, by decide, sc, by omega, fun n g1 hn s1 => ⟨_, rfl, by omega, by omega, fun i acc g' => g' = g1 ∧ ∃ r : List Int, acc = r.map PyData.int ∧ r.length = i ∧ ∀ n ∈ r, n.natAbs < 10, ⟨rfl, [], rfl, rfl, fun _ h => (nomatch h)⟩, ?_, ?_⟩⟩
  · rintro i dd acc g' hi ⟨rfl, r, rfl, rl, hr0⟩
    obtain ⟨il, rfl⟩ := rng_at hi
    refine ⟨rfl, ?_⟩
    walk_at "pk0"
    refine ⟨sqI (by omega), by decide, by rw [List.length_map]; omega, r ++ [(0 + (i : Int)) * (0 + i) % 10], by rw [List.map_append]; rfl, by rw [List.length_append, rl]; rfl, fun y hy => ?_⟩
    rcases List.mem_append.mp hy with e | e
    · exact hr0 y e
    · rw [List.mem_singleton.mp e]; omega
  · rintro acc g' ⟨rfl, r, rfl, rl, hr0⟩
    rw [rng_len] at rl
    unfold Tl
    walk_at "pk0"
    refine ⟨rfl, _, rfl, 701, c + 1, rfl, by decide, by decide, s1, by omega, fun n2 g2 hn2 s2 => ⟨_, rfl, by omega, by omega, fun i acc g' => g' = g2 ∧ ∃ rs : List (List Int), acc = rs.map ivD ∧ rs.length = i ∧ ∀ r ∈ rs, r.length ≤ 1 ∧ ∀ n ∈ r, n.natAbs < 10, ⟨rfl, [], rfl, rfl, fun _ h => (nomatch h)⟩, ?_, ?_⟩⟩
    · rintro i dd acc g' hi ⟨rfl, rs, rfl, rl, hr1⟩
      obtain ⟨il, rfl⟩ := rng_at hi
      refine ⟨rfl, ?_⟩
      walk_at "pk0"
      have sq : (0 + (i : Int)) * (0 + i) % 7 % 2 = (((i * i) % 7 % 2 : Nat) : Int) := by
        rw [Int.zero_add, show ((i : Int) * i) = ((i * i : Nat) : Int) from (Int.natCast_mul i i).symm]
        omega
      refine ⟨by decide, sqI (by omega), by decide, by decide, i * i % 7 % 2, sq, by omega, by rw [List.length_map]; omega, rs ++ [List.replicate (i * i % 7 % 2) ((0 + (i : Int)) % 10)], by rw [List.map_append, List.map_cons, List.map_nil, ivD, List.map_replicate], by rw [List.length_append, rl]; rfl, fun y hy => ?_⟩
      rcases List.mem_append.mp hy with e | e
      · exact hr1 y e
      · rw [List.mem_singleton.mp e]
        refine ⟨by rw [List.length_replicate]; omega, fun n hn => ?_⟩
        rw [(List.mem_replicate.mp hn).2]
        omega
    · rintro acc g' ⟨rfl, rs, rfl, sl, hr1⟩
      rw [rng_len] at sl
      have X1 : TxR r := txR (by omega) fun n h => Nat.lt_trans (hr0 n h) (by decide)
      have X2 : TxRs rs := txRs (by omega) fun r h => ⟨Nat.le_trans (hr1 r h).1 (by decide), fun n hn => Nat.lt_trans ((hr1 r h).2 n hn) (by decide)⟩
      have R1 := (shw_row (r := r) fun n h => Nat.lt_trans (hr0 n h) (by decide)).rpr (by omega) (by decide)
      have R2 := (shw_rows (rs := rs) (m := 1) fun r h => ⟨(hr1 r h).1, fun n hn => Nat.lt_trans ((hr1 r h).2 n hn) (by decide)⟩).rpr (by omega) (by decide)
      unfold Tl
      walk_at "pk0"
      refine ⟨r, rfl, X1, r, rfl, X1, ?_⟩
      show (if ¬ _ = _ then _ else _)
      rw [if_neg (not_not_intro rfl)]
      refine ⟨rs, rfl, X2, rs, rfl, X2, ?_⟩
      show (if ¬ _ = _ then _ else _)
      rw [if_neg (not_not_intro rfl)]
      unfold Tl
      walk_at "pk0"
      refine ⟨r, rfl, X1, r, rfl, X1, rprQ R1 (rprQ R1 ?_)⟩
      show (if _ = _ then _ else _)
      rw [if_pos rfl]
      refine ⟨rs, rfl, X2, rs, rfl, X2, rprQ R2 (rprQ R2 ?_)⟩
      show Q' (.bool (decide (_ = _))) _
      rw [decide_eq_true rfl]
      exact hT g' (s2.mono (by omega))
end
end
end K76
set_option Elab.async false
set_option linter.all false
set_option maxRecDepth 100000
set_option maxHeartbeats 4000000
namespace K76
open PySem PySem.Spec PyProof.Rows L2 Cm GxR Pv TL
local macro_rules | `(tactic| walk_at "pk0") => `(tactic| simp only [pSq, pSet, pSetF, pRet, pRetN, pIfS, pDrop, pAsg, pApp, pSetI, pFrz, pPar, pNext, pVar, pC, pOp, pUn, pTest, pAnd, pOr, pNot, pAndV, pOrV, pNotV, pIf, pChain, pNil, pCons, pTup, pLst, pCat, pListF, pCall, pBui, pLook, pSl, pPart, pNoPart, pIsi, pTru, pDct, pRng1, pRng2, pSeq, pYes, addD, subD, modD, divD, powD, mulD, negD, cmpD, eqD, neD, isD, isntD, isNone, ixX, ixDl, ixDt, slX, slDl, slDt, lenX, lenDl, lenDt, tupX, tupDl, tupDt, lstX, lstDl, lstDt, absD, minD, maxD, sumD, seqD, seqDX, Pv.scal, qName, qTup, qCons, qNil, notOwn, noOwns, pwipe, frz, startP, List.map_cons, List.map_nil, List.cons_append, List.nil_append, List.getElem?_cons_zero, List.getElem?_cons_succ, List.set_cons_zero, List.set_cons_succ, List.length_cons, List.length_nil, List.replicate, Option.some.injEq, Sl.val.injEq, Sl.own.injEq, PyData.int.injEq, PyData.bool.injEq, PyData.list.injEq, PyData.tuple.injEq, List.cons.injEq, exists_eq_left', exists_eq_left, exists_eq_right, exists_eq_right', exists_and_left, true_and, and_true, if_true, if_false, decide_eq_true_eq, Bool.not_eq_true', decide_eq_false_iff_not, List.all_cons, List.all_nil, Bool.and_true, Bool.true_and, Nat.reduceAdd, Nat.reduceLT, Nat.reduceLeDiff, Nat.zero_add, Int.reduceSub, Int.reduceAdd, Int.reduceNeg, gSlots, slV, pLstRg, pSqF, pRetF, pMov, Pv.intD, Pv.boolD, Pv.allD, Pv.anyD, Pv.mulT, pNp, pNpS, pZipX, pOrI])
section
variable {P : Program} {w : World} {K : PySem.W.Frag} {mg : Str → Option Value} {base : Heap}
def cutI (ns : List Int) (lo hi : Option Int) : List Int := (ns.drop (HT.sIx ns.length 0 lo)).take (HT.sIx ns.length ns.length hi - HT.sIx ns.length 0 lo)
theorem cut_map (ns : List Int) (lo hi : Option Int) : L2.cutV (ns.map V.int) lo hi = (cutI ns lo hi).map V.int := by
  unfold L2.cutV cutI
  rw [List.length_map, List.map_take, List.map_drop]
structure PxI (K : PySem.W.Frag) (Bs : List Addr) where
  d : Addr
  b : Addr
  ms : List Int
  x : Px K d b Bs ms True
def spLaw (K : PySem.W.Frag) : Sp := fun vs H Q _ => ∃ (a : Addr) (ns : List Int), vs = [.ref a] ∧ SqL K H a (ns.map V.int) ∧ ns.length ≤ 63 ∧ ∀ H', Q (.bl true) H'
def rPen4 (K : PySem.W.Frag) : V → Hp → VK → Prop := fun x H Q => ∃ (a : Addr) (ns : List Int), x = .ref a ∧ SqL K H a (ns.map V.int) ∧ ∀ (d b : Addr) (ms : List Int) (H' : Hp), H d = none → H b = none → d ≠ b → Same H H' → H' d = some (.lst [.ref b, .int 0, .int 0]) → H' b = some (.lst (ms.map V.int)) → Q (.ref d) H'
theorem ok_law_pen (T : Txt K mg) : Fn P w K mg base 1 "_law_pen" ["_law_script"] (sp1 (rPen4 K)) := by
  refine T.d_law_pen.ok sc_law_pen len1 fun f cdv A outer s H vs Q E hr hg h => ?_
  obtain ⟨_, rfl, a, ns, rfl, hS, q⟩ := h
  refine ⟨_, (pss_one (ps_ret (pe_lst (pa_cons (pe_slice sl_list (pv 0) po_none (po_some pe_int)) (pa_cons pe_int (pa_cons pe_int pa_nil)))))), ?_⟩
  refine ⟨_, rfl, _, rfl, a, _, rfl, hS, fun p hp => ⟨(by show 3 ≤ sizeLine; decide), fun d hd => ?_⟩⟩
  have nd : d ≠ p := ne_of_none upd_same hd |> fun h => h.symm
  have hd0 : H d = none := by
    rw [upd_ne nd] at hd
    exact hd
  rw [cut_map] at hd ⊢
  refine q d p _ _ hd0 hp nd ?_ upd_same (by rw [upd_ne nd.symm, upd_same])
  intro b o e
  rw [upd_ne (ne_of_none e hd0), upd_ne (ne_of_none e hp)]
  exact e
theorem c_mm : PyData.str (Str.ofString "- ; -") = tx [45, 32, 59, 32, 45] := by rw [tx_str, tl_ofString]; rfl
theorem rowsT_free {rs : List (List Int)} {s : Nat} (h : 111 < s) : s ∉ rowsT rs := by
  unfold rowsT
  split
  · intro e
    simp only [List.mem_cons, List.not_mem_nil, or_false] at e
    omega
  · refine joinL_free (fun e => by
      rcases List.mem_cons.mp e with e | e
      · omega
      rcases List.mem_cons.mp e with e | e
      · omega
      · have := List.mem_singleton.mp e
        omega) fun p hp => ?_
    obtain ⟨n, _, rfl⟩ := List.mem_map.mp hp
    exact rowT_free (by omega)
theorem shw_tx {l : List Nat} {n : Nat} (h : ∀ s, 111 < s → s ∉ l) (hn : l.length ≤ n) : Shw (tx l) n 0 := shw_str (by
  rw [List.all_eq_true]
  intro c hc
  refine decide_eq_true ?_
  have : ¬ 111 < c := fun z => h c z hc
  exact Nat.lt_of_le_of_lt (show c ≤ 111 by omega) (by decide)) hn
theorem shw_rowT {r : List Int} (X : TxR r) (h : r.length ≤ 40) : Shw (tx (rowT r)) 3000 0 := shw_tx (fun s h => rowT_free (by omega)) (by
  have := rowT_len X
  omega)
theorem shw_rowsT {rs : List (List Int)} (X : TxRs rs) (h : rs.length ≤ 4) (h5 : ∀ r ∈ rs, r.length ≤ 5) : Shw (tx (rowsT rs)) 3000 0 := shw_tx (fun s h => rowsT_free h) (by
  unfold rowsT
  split
  · show 4 ≤ _; omega
  · have h1 := joinL_len [32, 59, 32] (rs.map rowT)
    have h2 : (((rs.map rowT).map (·.length)).sum) ≤ rs.length * 331 := by
      rw [List.map_map]
      refine sum_le fun r hr => ?_
      have := rowT_len (X.2 r hr).2
      have := h5 r hr
      show (rowT r).length ≤ _
      omega
    rw [List.length_map] at h1
    simp only [List.length_cons, List.length_nil] at h1
    omega)
theorem ok_law {f : Addr} {fd : FuncData} (T : Txt K mg) (Fu : Fun K "law" "law" s_law f fd) : FnG P w K mg base CX0 6 f fd ["_law_script"] (spLaw K) := by
  have G_law_pen := ok_law_pen (P := P) (w := w) (base := base) T
  refine fng_mk Fu sc_law (fun vs H Q E h => ?_) (fun cdv A outer s H vs Q E hr hg h => ?_)
  · obtain ⟨a, ns, rfl, _⟩ := h
    rfl
  obtain ⟨a0, ns0, rfl, hS, hl, q⟩ := h
  refine ⟨_, PSs.nox (pss_cons (ps_set (i := 1) sc_law.nd rfl (by first | exact Or.inl rfl | exact Or.inr rfl) (pe_fn G_law_pen (hr.mono (by decide)) hg (by rfl) (pa_cons (pv 0) pa_nil))) (pss_ex (ι := PxI K []) fun i => VSs.can (F := lpF i.x) (by
    have G_law_draw := p_draw (P := P) (w := w) (base := base) i.x T
    have G_law_long_right := p_long_right (P := P) (w := w) (base := base) i.x T
    have G_law_many_right := p_many_right (P := P) (w := w) (base := base) i.x T
    have G_law_drawn_row := p_drawn_row (P := P) (w := w) (base := base) i.x T
    have G_law_drawn_rows := p_drawn_rows (P := P) (w := w) (base := base) i.x T
    have G_law_row_text := p_row_text (P := P) (w := w) (base := base) (F := lpF i.x) T
    have G_law_rows_text := p_rows_text (P := P) (w := w) (base := base) (F := lpF i.x) T
    have G_read_row := p_read_row (P := P) (w := w) (base := base) (F := lpF i.x) T
    have G_read_rows := p_read_rows (P := P) (w := w) (base := base) (F := lpF i.x) T
    have G_show_row := p_show_row (P := P) (w := w) (base := base) (F := lpF i.x) T
    have G_show_rows := p_show_rows (P := P) (w := w) (base := base) (F := lpF i.x) T
    exact (vss_cons (vs_if (vt_not (vt_val (ve_fn G_law_long_right (hr.mono (by first | decide | omega)) hg (by rfl) (va_cons (vv 1) va_nil))))
(vss_one (vs_ret ve_bl))
vss_nil)
(vss_cons (vs_if (vt_not (vt_val (ve_fn G_law_many_right (hr.mono (by first | decide | omega)) hg (by rfl) (va_cons (vv 1) va_nil))))
(vss_one (vs_ret ve_bl))
vss_nil)
(vss_cons (vs_for PassesOwn.never rfl (vi_range1 (by rfl) T.n_range ve_int) (vg_name (i := 2) sc_law.nd rfl (by first | exact Or.inl rfl | exact Or.inr rfl))
(vss_cons (vs_set (i := 3) sc_law.nd rfl (by first | exact Or.inl rfl | exact Or.inr rfl) (ve_fn G_law_drawn_row (hr.mono (by first | decide | omega)) hg (by rfl) (va_cons (vv 1) (va_cons (ve_ix (ve_lst (va_cons ve_int (va_cons ve_int (va_cons ve_int (va_cons ve_int va_nil))))) (ve_fn G_law_draw (hr.mono (by first | decide | omega)) hg (by rfl) (va_cons (vv 1) (va_cons ve_int va_nil))) (fun _ _ => rfl)) va_nil))))
(vss_cons (vs_set (i := 4) sc_law.nd rfl (by first | exact Or.inl rfl | exact Or.inr rfl) (ve_fn G_law_drawn_rows (hr.mono (by first | decide | omega)) hg (by rfl) (va_cons (vv 1) va_nil)))
(vss_cons (vs_set (i := 5) sc_law.nd rfl (by first | exact Or.inl rfl | exact Or.inr rfl) (ve_repr hr hg (by rfl) T.n_repr (by decide +kernel) (ve_tup (va_cons (vv 3) (va_cons (vv 4) va_nil)))))
(vss_cons (vs_set (i := 6) sc_law.nd rfl (by first | exact Or.inl rfl | exact Or.inr rfl) (ve_lst (va_cons (ve_fn G_law_row_text (hr.mono (by first | decide | omega)) hg (by rfl) (va_cons (vv 3) va_nil)) (va_cons (ve_fn G_law_rows_text (hr.mono (by first | decide | omega)) hg (by rfl) (va_cons (vv 4) va_nil)) va_nil))))
(vss_cons (vs_for PassesOwn.never rfl (vi_range1 (by rfl) T.n_range ve_int) (vg_name (i := 7) sc_law.nd rfl (by first | exact Or.inl rfl | exact Or.inr rfl))
(vss_cons (vs_if (vt_cmp (vo_ne hr) (ve_repr hr hg (by rfl) T.n_repr (by decide +kernel) (ve_lst (va_cons (ve_fn G_show_row (hr.mono (by first | decide | omega)) hg (by rfl) (va_cons (vv 3) va_nil)) (va_cons (ve_fn G_show_rows (hr.mono (by first | decide | omega)) hg (by rfl) (va_cons (vv 4) va_nil)) va_nil)))) (ve_repr hr hg (by rfl) T.n_repr (by decide +kernel) (vv 6)) (nomark _))
(vss_one (vs_ret ve_bl))
vss_nil)
(vss_one (vs_if (vt_cmp (vo_ne hr) (ve_repr hr hg (by rfl) T.n_repr (by decide +kernel) (ve_tup (va_cons (ve_fn G_read_row (hr.mono (by first | decide | omega)) hg (by rfl) (va_cons (ve_ix (vv 6) ve_int (fun _ _ => rfl)) va_nil)) (va_cons (ve_fn G_read_rows (hr.mono (by first | decide | omega)) hg (by rfl) (va_cons (ve_ix (vv 6) ve_int (fun _ _ => rfl)) va_nil)) va_nil)))) (vv 5) (nomark _))
(vss_one (vs_ret ve_bl))
vss_nil))))
(vss_one (vs_if (vt_cmp (vo_ne hr) (ve_repr hr hg (by rfl) T.n_repr (by decide +kernel) (ve_tup (va_cons (vv 3) (va_cons (vv 4) va_nil)))) (vv 5) (nomark _))
(vss_one (vs_ret ve_bl))
vss_nil))))))))
(vss_one (vs_ret (ve_and (ve_cmp (vo_eq hr) (ve_fn G_show_rows (hr.mono (by first | decide | omega)) hg (by rfl) (va_cons (ve_tup (va_cons (ve_tup va_nil) va_nil)) va_nil)) ve_str (nomark _)) (ve_and (ve_cmp (vo_eq hr) (ve_fn G_read_rows (hr.mono (by first | decide | omega)) hg (by rfl) (va_cons ve_str va_nil)) (ve_tup (va_cons (ve_tup va_nil) va_nil)) (nomark _)) (ve_one (ve_cmp (vo_eq hr) (ve_fn G_read_rows (hr.mono (by first | decide | omega)) hg (by rfl) (va_cons ve_str va_nil)) (ve_tup (va_cons (ve_tup va_nil) (va_cons (ve_tup va_nil) va_nil))) (nomark _))))))))))))), ?_⟩
  refine ⟨_, rfl, _, rfl, a0, ns0, rfl, hS, fun d b ms H1 nd nb db sm hd hb => ?_⟩
  have x : Px K d b [] ms True := ⟨(fun z => nomatch z), fun _ => db.symm, (fun _ z => nomatch z), fun n => absurd trivial n, List.nodup_nil⟩
  have st0 : (lpF x).Ok (0, 0) H1 := ⟨hd, .inl (.inl hb), (fun B hB => nomatch hB), fun _ => ⟨_, hb, fun xs z => by cases z⟩⟩
  refine ⟨⟨d, b, ms, x⟩, (lpF x).S, _, [], [.no, .val (ptrD d), .no, .no, .no, .no, .no, .no], (0, 0), { nx := fun _ _ => False, rt := fun z _ => z = .bool true }, ⟨?_, st0, fun _ h => h, fun b hb => (lpF x).has st0 hb, fun _ h => (nomatch h), Mv.refl _ _⟩, ⟨fun _ _ _ _ _ _ h => h.elim, ?_, fun _ _ _ _ _ _ h => h.elim, fun _ _ _ _ _ _ h => h.elim⟩, ?_⟩
  · exact .no (.val (.ptr d) (.no (.no (.no (.no (.no (.no .nil)))))))
  · rintro v H2 z g m s r rfl
    cases r
    exact q H2
  · walk_at "pk0"
    refine ⟨0, rfl, ⟨by decide, by decide, by decide⟩, by decide, fun g1 s1 => ⟨true, rfl, ?_⟩⟩
    rw [if_neg (show ¬ (true = false) from Bool.noConfusion)]
    unfold Tl
    walk_at "pk0"
    refine ⟨600, rfl, s1.mono (by decide), by decide, fun g2 s2 => ⟨true, rfl, ?_⟩⟩
    rw [if_neg (show ¬ (true = false) from Bool.noConfusion)]
    unfold Tl
    simp only [pSq]
    refine for_ok (rngD 0 4) g2 (fun Q hh => ?_) (fun i ρ g' => Sc (1200 + 500 * i) g' ∧ ∃ o2 o3 o4 o5 o6 o7 : Option PyData, ρ = [.no, .val (ptrD d), sv o2, sv o3, sv o4, sv o5, sv o6, sv o7]) ⟨s2.mono (by decide), none, none, none, none, none, none, rfl⟩ ?_ ?_
    · walk_at "pk0"
      exact ⟨by decide, by decide, hh⟩
    · rintro i dd ρ g' hi ⟨si, o2, o3, o4, o5, o6, o7, rfl⟩
      obtain ⟨il, rfl⟩ := rng_at hi
      refine ⟨by cases o2 <;> rfl, ?_⟩
      walk_at "pk0"
      refine ⟨4, 1200 + 500 * i, rfl, by decide, by decide, si, by omega, fun r g3 hr4 s3 => ?_⟩
      obtain ⟨z, ez, most, rfl, hm⟩ := pickD (ds := [PyData.int 12, .int 12, .int 12, .int 40]) (p := fun z => ∃ m : Nat, z = .int (m : Int) ∧ m ≤ 40) (r := (r : Int)) (by omega) (by show (r : Int) < 4; omega) (by
        intro z hz
        simp only [List.mem_cons, List.not_mem_nil, or_false] at hz
        rcases hz with rfl | rfl | rfl | rfl
        · exact ⟨12, rfl, by decide⟩
        · exact ⟨12, rfl, by decide⟩
        · exact ⟨12, rfl, by decide⟩
        · exact ⟨40, rfl, by decide⟩)
      refine ⟨_, ez, 1200 + 500 * i + 1, most, rfl, hm, s3, by omega, fun rr g4 rl hr4' s4 => ?_⟩
      unfold Tl
      walk_at "pk0"
      refine ⟨1200 + 500 * i + 250, rfl, s4.mono (by omega), by omega, fun rs g5 sl hs5 s5 => ?_⟩
      have X1 : TxR rr := txR (by omega) hr4'
      have X2 : TxRs rs := txRs (by omega) fun r h => ⟨Nat.le_trans (hs5 r h).1 (by decide), (hs5 r h).2⟩
      have S1 := (shw_row hr4').mono (b' := 40) (k' := 2) (by omega) (by decide)
      have S2 := (shw_rows (m := 5) hs5).mono (b' := 40) (k' := 2) (by omega) (by decide)
      have R1 : Rpr (.tuple [ivD rr, rsD rs]) := ((shw_tup (b := 40) (k := 2) fun d hd => by
        simp only [List.mem_cons, List.not_mem_nil, or_false] at hd
        rcases hd with rfl | rfl
        · exact S1
        · exact S2).mono (b' := 100) (k' := 3) (Nat.le_of_lt_succ (by show 41 * 2 < 101; decide)) (by decide)).rpr (by decide) (by decide)
      unfold Tl
      walk_at "pk0"
      have R2 : Rpr (.list [tx (rowT rr), tx (rowsT rs)]) := ((shw_lst (b := 3000) (k := 0) fun d hd => by
        simp only [List.mem_cons, List.not_mem_nil, or_false] at hd
        rcases hd with rfl | rfl
        · exact shw_rowT X1 (by omega)
        · exact shw_rowsT X2 sl fun r h => (hs5 r h).1).mono (b' := 6100) (k' := 3) (Nat.le_of_lt_succ (by show 3001 * 2 < 6101; decide)) (by decide)).rpr (by decide) (by decide)
      refine rprQ R1 ?_
      unfold Tl
      walk_at "pk0"
      refine ⟨rr, rfl, X1, rs, rfl, X2, ?_⟩
      unfold Tl
      simp only [pSq]
      refine for_ok (rngD 0 2) g5 (fun Q hh => ?_) (fun i2 ρ g' => g' = g5 ∧ ∃ o7 : Option PyData, ρ = [.no, .val (ptrD d), .val (.int (0 + (i : Int))), .val (ivD rr), .val (rsD rs), .val (.str (PyData.tuple [ivD rr, rsD rs]).shown), .val (.list [tx (rowT rr), tx (rowsT rs)]), sv o7]) ⟨rfl, o7, rfl⟩ ?_ ?_
      · walk_at "pk0"
        exact ⟨by decide, by decide, hh⟩
      · rintro i2 dd ρ g' hi ⟨rfl, o7, rfl⟩
        refine ⟨by cases o7 <;> rfl, ?_⟩
        walk_at "pk0"
        refine ⟨rr, rfl, X1, rs, rfl, X2, rprQ R2 (rprQ R2 ?_)⟩
        show (if ¬ _ = _ then _ else _)
        rw [if_neg (not_not_intro rfl)]
        unfold Tl
        walk_at "pk0"
        refine ⟨_, rfl, rr, rfl, X1, _, rfl, rs, rfl, X2, rprQ R1 ?_⟩
        show (if ¬ _ = _ then _ else _)
        rw [if_neg (not_not_intro rfl)]
        exact ⟨rfl, some _, rfl⟩
      · rintro ρ g' ⟨rfl, o7, rfl⟩
        unfold Tl
        walk_at "pk0"
        refine rprQ R1 ?_
        show (if ¬ _ = _ then _ else _)
        rw [if_neg (not_not_intro rfl)]
        exact ⟨s5.mono (by omega), some _, some _, some _, some _, some _, o7, rfl⟩
    · rintro ρ g' ⟨si, o2, o3, o4, o5, o6, o7, rfl⟩
      unfold Tl
      walk_at "pk0"
      rw [c_min, c_mm]
      refine ⟨[[]], rfl, txRs (by decide) (fun r h => by
        rw [List.mem_singleton.mp h]
        exact ⟨by decide, fun n h => nomatch h⟩), ?_⟩
      show (if _ = _ then _ else _)
      rw [if_pos (by rfl)]
      refine ⟨[[]], rfl, txRs (by decide) (fun r h => by
        rw [List.mem_singleton.mp h]
        exact ⟨by decide, fun n h => nomatch h⟩), rfl, rfl, ?_⟩
      rw [if_pos (by rfl)]
      refine ⟨[[], []], rfl, txRs (by decide) (fun r h => by
        have : r = [] := by
          simp only [List.mem_cons, List.not_mem_nil, or_false] at h
          rcases h with h | h <;> exact h
        rw [this]
        exact ⟨by decide, fun n h => nomatch h⟩), rfl, rfl, by rfl⟩
end
end K76
set_option Elab.async false
set_option linter.all false
set_option maxRecDepth 100000
set_option maxHeartbeats 4000000
namespace K76
open PySem PySem.Spec PyProof.Rows L2 Cm GxR Pv TL
theorem all_mk {l : PySem.W.OpenLaw} {w : World} {K : PySem.W.Frag} {h : Heap} {mg : Str → Option Value} {fa : Addr} (X : K.In h) (G : h.Ns mainGlobals mg) (hfa : mg "law" = some (.ref fa))
    {f1 : Addr} {od1 an1 : Option Addr} {sl1 : Array (Option Value)} {oc1 kV1 dc1 pm1 cd1 ct1 : Value}
    {f2 : Addr} {od2 an2 : Option Addr} {sl2 : Array (Option Value)} {oc2 kV2 dc2 pm2 cd2 ct2 : Value}
    {f3 : Addr} {od3 an3 : Option Addr} {sl3 : Array (Option Value)} {oc3 kV3 dc3 pm3 cd3 ct3 : Value}
    {f4 : Addr} {od4 an4 : Option Addr} {sl4 : Array (Option Value)} {oc4 kV4 dc4 pm4 cd4 ct4 : Value}
    {f5 : Addr} {od5 an5 : Option Addr} {sl5 : Array (Option Value)} {oc5 kV5 dc5 pm5 cd5 ct5 : Value}
    {f6 : Addr} {od6 an6 : Option Addr} {sl6 : Array (Option Value)} {oc6 kV6 dc6 pm6 cd6 ct6 : Value}
    {f7 : Addr} {od7 an7 : Option Addr} {sl7 : Array (Option Value)} {oc7 kV7 dc7 pm7 cd7 ct7 : Value}
    {f8 : Addr} {od8 an8 : Option Addr} {sl8 : Array (Option Value)} {oc8 kV8 dc8 pm8 cd8 ct8 : Value}
    {f9 : Addr} {od9 an9 : Option Addr} {sl9 : Array (Option Value)} {oc9 kV9 dc9 pm9 cd9 ct9 : Value}
    {f10 : Addr} {od10 an10 : Option Addr} {sl10 : Array (Option Value)} {oc10 kV10 dc10 pm10 cd10 ct10 : Value}
    {f11 : Addr} {od11 an11 : Option Addr} {sl11 : Array (Option Value)} {oc11 kV11 dc11 pm11 cd11 ct11 : Value}
    {f12 : Addr} {od12 an12 : Option Addr} {sl12 : Array (Option Value)} {oc12 kV12 dc12 pm12 cd12 ct12 : Value}
    {f13 : Addr} {od13 an13 : Option Addr} {sl13 : Array (Option Value)} {oc13 kV13 dc13 pm13 cd13 ct13 : Value}
    {f14 : Addr} {od14 an14 : Option Addr} {sl14 : Array (Option Value)} {oc14 kV14 dc14 pm14 cd14 ct14 : Value}
    {f15 : Addr} {od15 an15 : Option Addr} {sl15 : Array (Option Value)} {oc15 kV15 dc15 pm15 cd15 ct15 : Value}
    {f16 : Addr} {od16 an16 : Option Addr} {sl16 : Array (Option Value)} {oc16 kV16 dc16 pm16 cd16 ct16 : Value}
    {f17 : Addr} {od17 an17 : Option Addr} {sl17 : Array (Option Value)} {oc17 kV17 dc17 pm17 cd17 ct17 : Value}
    {f18 : Addr} {od18 an18 : Option Addr} {sl18 : Array (Option Value)} {oc18 kV18 dc18 pm18 cd18 ct18 : Value}
    {f19 : Addr} {od19 an19 : Option Addr} {sl19 : Array (Option Value)} {oc19 kV19 dc19 pm19 cd19 ct19 : Value}
    {tk1 : Tok}
    {tk2 : Tok}
    (a1 : PySem.W.nsIn K mainGlobals "show_number" = some (some (.ref f1))) (l1 : K.lookup f1 = some ⟨oc1, od1, .func (PySem.W.fnOf "show_number" "show_number" (defArgs s_show_number) (defBody s_show_number) (defScope s_show_number) .none kV1 dc1 pm1 an1 cd1 ct1), sl1⟩) (c1 : PySem.W.codeIn K cd1 "show_number" = true) (k1 : PySem.W.keepIn K (.ref f1) = true)
    (a2 : PySem.W.nsIn K mainGlobals "show_row" = some (some (.ref f2))) (l2 : K.lookup f2 = some ⟨oc2, od2, .func (PySem.W.fnOf "show_row" "show_row" (defArgs s_show_row) (defBody s_show_row) (defScope s_show_row) .none kV2 dc2 pm2 an2 cd2 ct2), sl2⟩) (c2 : PySem.W.codeIn K cd2 "show_row" = true) (k2 : PySem.W.keepIn K (.ref f2) = true)
    (a3 : PySem.W.nsIn K mainGlobals "show_rows" = some (some (.ref f3))) (l3 : K.lookup f3 = some ⟨oc3, od3, .func (PySem.W.fnOf "show_rows" "show_rows" (defArgs s_show_rows) (defBody s_show_rows) (defScope s_show_rows) .none kV3 dc3 pm3 an3 cd3 ct3), sl3⟩) (c3 : PySem.W.codeIn K cd3 "show_rows" = true) (k3 : PySem.W.keepIn K (.ref f3) = true)
    (a4 : PySem.W.nsIn K mainGlobals "is_number" = some (some (.ref f4))) (l4 : K.lookup f4 = some ⟨oc4, od4, .func (PySem.W.fnOf "is_number" "is_number" (defArgs s_is_number) (defBody s_is_number) (defScope s_is_number) .none kV4 dc4 pm4 an4 cd4 ct4), sl4⟩) (c4 : PySem.W.codeIn K cd4 "is_number" = true) (k4 : PySem.W.keepIn K (.ref f4) = true)
    (a5 : PySem.W.nsIn K mainGlobals "need" = some (some (.ref f5))) (l5 : K.lookup f5 = some ⟨oc5, od5, .func (PySem.W.fnOf "need" "need" (defArgs s_need) (defBody s_need) (defScope s_need) .none kV5 dc5 pm5 an5 cd5 ct5), sl5⟩) (c5 : PySem.W.codeIn K cd5 "need" = true) (k5 : PySem.W.keepIn K (.ref f5) = true)
    (a6 : PySem.W.nsIn K mainGlobals "read_number" = some (some (.ref f6))) (l6 : K.lookup f6 = some ⟨oc6, od6, .func (PySem.W.fnOf "read_number" "read_number" (defArgs s_read_number) (defBody s_read_number) (defScope s_read_number) .none kV6 dc6 pm6 an6 cd6 ct6), sl6⟩) (c6 : PySem.W.codeIn K cd6 "read_number" = true) (k6 : PySem.W.keepIn K (.ref f6) = true)
    (a7 : PySem.W.nsIn K mainGlobals "read_row" = some (some (.ref f7))) (l7 : K.lookup f7 = some ⟨oc7, od7, .func (PySem.W.fnOf "read_row" "read_row" (defArgs s_read_row) (defBody s_read_row) (defScope s_read_row) .none kV7 dc7 pm7 an7 cd7 ct7), sl7⟩) (c7 : PySem.W.codeIn K cd7 "read_row" = true) (k7 : PySem.W.keepIn K (.ref f7) = true)
    (a8 : PySem.W.nsIn K mainGlobals "read_rows" = some (some (.ref f8))) (l8 : K.lookup f8 = some ⟨oc8, od8, .func (PySem.W.fnOf "read_rows" "read_rows" (defArgs s_read_rows) (defBody s_read_rows) (defScope s_read_rows) .none kV8 dc8 pm8 an8 cd8 ct8), sl8⟩) (c8 : PySem.W.codeIn K cd8 "read_rows" = true) (k8 : PySem.W.keepIn K (.ref f8) = true)
    (a9 : PySem.W.nsIn K mainGlobals "_law_pen" = some (some (.ref f9))) (l9 : K.lookup f9 = some ⟨oc9, od9, .func (PySem.W.fnOf "_law_pen" "_law_pen" (defArgs s_law_pen) (defBody s_law_pen) (defScope s_law_pen) .none kV9 dc9 pm9 an9 cd9 ct9), sl9⟩) (c9 : PySem.W.codeIn K cd9 "_law_pen" = true) (k9 : PySem.W.keepIn K (.ref f9) = true)
    (a10 : PySem.W.nsIn K mainGlobals "_law_draw" = some (some (.ref f10))) (l10 : K.lookup f10 = some ⟨oc10, od10, .func (PySem.W.fnOf "_law_draw" "_law_draw" (defArgs s_law_draw) (defBody s_law_draw) (defScope s_law_draw) .none kV10 dc10 pm10 an10 cd10 ct10), sl10⟩) (c10 : PySem.W.codeIn K cd10 "_law_draw" = true) (k10 : PySem.W.keepIn K (.ref f10) = true)
    (a11 : PySem.W.nsIn K mainGlobals "_law_number" = some (some (.ref f11))) (l11 : K.lookup f11 = some ⟨oc11, od11, .func (PySem.W.fnOf "_law_number" "_law_number" (defArgs s_law_number) (defBody s_law_number) (defScope s_law_number) .none kV11 dc11 pm11 an11 cd11 ct11), sl11⟩) (c11 : PySem.W.codeIn K cd11 "_law_number" = true) (k11 : PySem.W.keepIn K (.ref f11) = true)
    (a12 : PySem.W.nsIn K mainGlobals "_law_drawn_row" = some (some (.ref f12))) (l12 : K.lookup f12 = some ⟨oc12, od12, .func (PySem.W.fnOf "_law_drawn_row" "_law_drawn_row" (defArgs s_law_drawn_row) (defBody s_law_drawn_row) (defScope s_law_drawn_row) .none kV12 dc12 pm12 an12 cd12 ct12), sl12⟩) (c12 : PySem.W.codeIn K cd12 "_law_drawn_row" = true) (k12 : PySem.W.keepIn K (.ref f12) = true)
    (a13 : PySem.W.nsIn K mainGlobals "_law_drawn_rows" = some (some (.ref f13))) (l13 : K.lookup f13 = some ⟨oc13, od13, .func (PySem.W.fnOf "_law_drawn_rows" "_law_drawn_rows" (defArgs s_law_drawn_rows) (defBody s_law_drawn_rows) (defScope s_law_drawn_rows) .none kV13 dc13 pm13 an13 cd13 ct13), sl13⟩) (c13 : PySem.W.codeIn K cd13 "_law_drawn_rows" = true) (k13 : PySem.W.keepIn K (.ref f13) = true)
    (a14 : PySem.W.nsIn K mainGlobals "_law_word_of" = some (some (.ref f14))) (l14 : K.lookup f14 = some ⟨oc14, od14, .func (PySem.W.fnOf "_law_word_of" "_law_word_of" (defArgs s_law_word_of) (defBody s_law_word_of) (defScope s_law_word_of) .none kV14 dc14 pm14 an14 cd14 ct14), sl14⟩) (c14 : PySem.W.codeIn K cd14 "_law_word_of" = true) (k14 : PySem.W.keepIn K (.ref f14) = true)
    (a15 : PySem.W.nsIn K mainGlobals "_law_row_text" = some (some (.ref f15))) (l15 : K.lookup f15 = some ⟨oc15, od15, .func (PySem.W.fnOf "_law_row_text" "_law_row_text" (defArgs s_law_row_text) (defBody s_law_row_text) (defScope s_law_row_text) .none kV15 dc15 pm15 an15 cd15 ct15), sl15⟩) (c15 : PySem.W.codeIn K cd15 "_law_row_text" = true) (k15 : PySem.W.keepIn K (.ref f15) = true)
    (a16 : PySem.W.nsIn K mainGlobals "_law_rows_text" = some (some (.ref f16))) (l16 : K.lookup f16 = some ⟨oc16, od16, .func (PySem.W.fnOf "_law_rows_text" "_law_rows_text" (defArgs s_law_rows_text) (defBody s_law_rows_text) (defScope s_law_rows_text) .none kV16 dc16 pm16 an16 cd16 ct16), sl16⟩) (c16 : PySem.W.codeIn K cd16 "_law_rows_text" = true) (k16 : PySem.W.keepIn K (.ref f16) = true)
    (a17 : PySem.W.nsIn K mainGlobals "_law_many_right" = some (some (.ref f17))) (l17 : K.lookup f17 = some ⟨oc17, od17, .func (PySem.W.fnOf "_law_many_right" "_law_many_right" (defArgs s_law_many_right) (defBody s_law_many_right) (defScope s_law_many_right) .none kV17 dc17 pm17 an17 cd17 ct17), sl17⟩) (c17 : PySem.W.codeIn K cd17 "_law_many_right" = true) (k17 : PySem.W.keepIn K (.ref f17) = true)
    (a18 : PySem.W.nsIn K mainGlobals "_law_long_right" = some (some (.ref f18))) (l18 : K.lookup f18 = some ⟨oc18, od18, .func (PySem.W.fnOf "_law_long_right" "_law_long_right" (defArgs s_law_long_right) (defBody s_law_long_right) (defScope s_law_long_right) .none kV18 dc18 pm18 an18 cd18 ct18), sl18⟩) (c18 : PySem.W.codeIn K cd18 "_law_long_right" = true) (k18 : PySem.W.keepIn K (.ref f18) = true)
    (a19 : PySem.W.nsIn K mainGlobals "law" = some (some (.ref f19))) (l19 : K.lookup f19 = some ⟨oc19, od19, .func (PySem.W.fnOf "law" "law" (defArgs s_law) (defBody s_law) (defScope s_law) .none kV19 dc19 pm19 an19 cd19 ct19), sl19⟩) (c19 : PySem.W.codeIn K cd19 "law" = true) (k19 : PySem.W.keepIn K (.ref f19) = true)
    (z1 : PySem.W.nsIn K mainGlobals "abs" = some none)
    (z2 : PySem.W.nsIn K mainGlobals "all" = some none)
    (z3 : PySem.W.nsIn K mainGlobals "any" = some none)
    (z4 : PySem.W.nsIn K mainGlobals "bool" = some none)
    (z5 : PySem.W.nsIn K mainGlobals "divmod" = some none)
    (z6 : PySem.W.nsIn K mainGlobals "enumerate" = some none)
    (z7 : PySem.W.nsIn K mainGlobals "int" = some none)
    (z8 : PySem.W.nsIn K mainGlobals "isinstance" = some none)
    (z9 : PySem.W.nsIn K mainGlobals "len" = some none)
    (z10 : PySem.W.nsIn K mainGlobals "list" = some none)
    (z11 : PySem.W.nsIn K mainGlobals "max" = some none)
    (z12 : PySem.W.nsIn K mainGlobals "min" = some none)
    (z13 : PySem.W.nsIn K mainGlobals "range" = some none)
    (z14 : PySem.W.nsIn K mainGlobals "repr" = some none)
    (z15 : PySem.W.nsIn K mainGlobals "reversed" = some none)
    (z16 : PySem.W.nsIn K mainGlobals "str" = some none)
    (z17 : PySem.W.nsIn K mainGlobals "tuple" = some none)
    (z18 : PySem.W.nsIn K mainGlobals "zip" = some none)
    (y1 : PySem.W.nsIn K mainGlobals "PIECE" = some (some (.int 64 tk1)))
    (y2 : PySem.W.nsIn K mainGlobals "BEYOND" = some (some (.int 10000000000000000000000000000000000000000000000000000000000000000 tk2))) :
    ∃ fd : FuncData, (∀ (s : Shared) (v : Value), BindsTo s fd ⟨[v], []⟩ [("_law_script", v)]) ∧ ∀ base : Heap, K.In base → base.Ns mainGlobals mg → FnG l.prog w K mg base CX0 6 fa fd ["_law_script"] (spLaw K) := by
  have e := hfa.symm.trans (PySem.W.mg_of X G a19)
  cases e
  have T : Txt K mg := ⟨df_mk (PySem.W.mg_of X G a1) l1 c1 k1 (fun _ _ _ _ _ _ us hl => match us, hl with | [_], _ => rfl),
    df_mk (PySem.W.mg_of X G a2) l2 c2 k2 (fun _ _ _ _ _ _ us hl => match us, hl with | [_], _ => rfl),
    df_mk (PySem.W.mg_of X G a3) l3 c3 k3 (fun _ _ _ _ _ _ us hl => match us, hl with | [_], _ => rfl),
    df_mk (PySem.W.mg_of X G a4) l4 c4 k4 (fun _ _ _ _ _ _ us hl => match us, hl with | [_], _ => rfl),
    df_mk (PySem.W.mg_of X G a5) l5 c5 k5 (fun _ _ _ _ _ _ us hl => match us, hl with | [_], _ => rfl),
    df_mk (PySem.W.mg_of X G a6) l6 c6 k6 (fun _ _ _ _ _ _ us hl => match us, hl with | [_], _ => rfl),
    df_mk (PySem.W.mg_of X G a7) l7 c7 k7 (fun _ _ _ _ _ _ us hl => match us, hl with | [_], _ => rfl),
    df_mk (PySem.W.mg_of X G a8) l8 c8 k8 (fun _ _ _ _ _ _ us hl => match us, hl with | [_], _ => rfl),
    df_mk (PySem.W.mg_of X G a9) l9 c9 k9 (fun _ _ _ _ _ _ us hl => match us, hl with | [_], _ => rfl),
    df_mk (PySem.W.mg_of X G a10) l10 c10 k10 (fun _ _ _ _ _ _ us hl => match us, hl with | [_, _], _ => rfl),
    df_mk (PySem.W.mg_of X G a11) l11 c11 k11 (fun _ _ _ _ _ _ us hl => match us, hl with | [_], _ => rfl),
    df_mk (PySem.W.mg_of X G a12) l12 c12 k12 (fun _ _ _ _ _ _ us hl => match us, hl with | [_, _], _ => rfl),
    df_mk (PySem.W.mg_of X G a13) l13 c13 k13 (fun _ _ _ _ _ _ us hl => match us, hl with | [_], _ => rfl),
    df_mk (PySem.W.mg_of X G a14) l14 c14 k14 (fun _ _ _ _ _ _ us hl => match us, hl with | [_], _ => rfl),
    df_mk (PySem.W.mg_of X G a15) l15 c15 k15 (fun _ _ _ _ _ _ us hl => match us, hl with | [_], _ => rfl),
    df_mk (PySem.W.mg_of X G a16) l16 c16 k16 (fun _ _ _ _ _ _ us hl => match us, hl with | [_], _ => rfl),
    df_mk (PySem.W.mg_of X G a17) l17 c17 k17 (fun _ _ _ _ _ _ us hl => match us, hl with | [_], _ => rfl),
    df_mk (PySem.W.mg_of X G a18) l18 c18 k18 (fun _ _ _ _ _ _ us hl => match us, hl with | [_], _ => rfl),
    df_mk (PySem.W.mg_of X G a19) l19 c19 k19 (fun _ _ _ _ _ _ us hl => match us, hl with | [_], _ => rfl),
    PySem.W.mg_none_of X G z1,
    PySem.W.mg_none_of X G z2,
    PySem.W.mg_none_of X G z3,
    PySem.W.mg_none_of X G z4,
    PySem.W.mg_none_of X G z5,
    PySem.W.mg_none_of X G z6,
    PySem.W.mg_none_of X G z7,
    PySem.W.mg_none_of X G z8,
    PySem.W.mg_none_of X G z9,
    PySem.W.mg_none_of X G z10,
    PySem.W.mg_none_of X G z11,
    PySem.W.mg_none_of X G z12,
    PySem.W.mg_none_of X G z13,
    PySem.W.mg_none_of X G z14,
    PySem.W.mg_none_of X G z15,
    PySem.W.mg_none_of X G z16,
    PySem.W.mg_none_of X G z17,
    PySem.W.mg_none_of X G z18,
    ⟨_, PySem.W.mg_of X G y1⟩,
    ⟨_, PySem.W.mg_of X G y2⟩⟩
  exact ⟨PySem.W.fnOf "law" "law" (defArgs s_law) (defBody s_law) (defScope s_law) .none kV19 dc19 pm19 an19 cd19 ct19, fun s v => .of_eq rfl, fun base _ _ => ok_law T (fun_mk (st := s_law) l19 c19 k19)⟩
end K76
open PySem PySem.W PyProof.Rows
set_option maxRecDepth 100000 in
set_option maxHeartbeats 0 in
theorem PySem.Challenge.cw_commonhouse_k76_rows_as_texts_holds : PySem.Challenge.rw_commonhouse_k76_rows_as_texts.Holds := by
  w_on; o_law; k_head; (case hw => w_witness2)
  k_fill
  refine Cm.walk_g (l := PySem.Challenge.rw_commonhouse_k76_rows_as_texts) (n := 63) (k := 6) (x := "_law_script") (sp := K76.spLaw) rfl (by decide) rfl ⟨rfl, by decide, by decide⟩ (fun w h Y => PySem.W.kIn_of Y) ?F (fun _ _ a ns hl hS => ⟨a, ns, rfl, hS, hl, fun _ => rfl⟩)
  case F =>
    intro w mg fa h KX G hmg
    refine' K76.all_mk KX G hmg ?a1 ?l1 ?c1 ?k1 ?a2 ?l2 ?c2 ?k2 ?a3 ?l3 ?c3 ?k3 ?a4 ?l4 ?c4 ?k4 ?a5 ?l5 ?c5 ?k5 ?a6 ?l6 ?c6 ?k6 ?a7 ?l7 ?c7 ?k7 ?a8 ?l8 ?c8 ?k8 ?a9 ?l9 ?c9 ?k9 ?a10 ?l10 ?c10 ?k10 ?a11 ?l11 ?c11 ?k11 ?a12 ?l12 ?c12 ?k12 ?a13 ?l13 ?c13 ?k13 ?a14 ?l14 ?c14 ?k14 ?a15 ?l15 ?c15 ?k15 ?a16 ?l16 ?c16 ?k16 ?a17 ?l17 ?c17 ?k17 ?a18 ?l18 ?c18 ?k18 ?a19 ?l19 ?c19 ?k19 ?z1 ?z2 ?z3 ?z4 ?z5 ?z6 ?z7 ?z8 ?z9 ?z10 ?z11 ?z12 ?z13 ?z14 ?z15 ?z16 ?z17 ?z18 ?y1 ?y2
    (case a1 => k_is); (case l1 => k_is); (case c1 => k_is); (case k1 => k_is); (case a2 => k_is); (case l2 => k_is)
    (case c2 => k_is); (case k2 => k_is); (case a3 => k_is); (case l3 => k_is); (case c3 => k_is); (case k3 => k_is)
    (case a4 => k_is); (case l4 => k_is); (case c4 => k_is); (case k4 => k_is); (case a5 => k_is); (case l5 => k_is)
    (case c5 => k_is); (case k5 => k_is); (case a6 => k_is); (case l6 => k_is); (case c6 => k_is); (case k6 => k_is)
    (case a7 => k_is); (case l7 => k_is); (case c7 => k_is); (case k7 => k_is); (case a8 => k_is); (case l8 => k_is)
    (case c8 => k_is); (case k8 => k_is); (case a9 => k_is); (case l9 => k_is); (case c9 => k_is); (case k9 => k_is)
    (case a10 => k_is); (case l10 => k_is); (case c10 => k_is); (case k10 => k_is); (case a11 => k_is); (case l11 => k_is)
    (case c11 => k_is); (case k11 => k_is); (case a12 => k_is); (case l12 => k_is); (case c12 => k_is); (case k12 => k_is)
    (case a13 => k_is); (case l13 => k_is); (case c13 => k_is); (case k13 => k_is); (case a14 => k_is); (case l14 => k_is)
    (case c14 => k_is); (case k14 => k_is); (case a15 => k_is); (case l15 => k_is); (case c15 => k_is); (case k15 => k_is)
    (case a16 => k_is); (case l16 => k_is); (case c16 => k_is); (case k16 => k_is); (case a17 => k_is); (case l17 => k_is)
    (case c17 => k_is); (case k17 => k_is); (case a18 => k_is); (case l18 => k_is); (case c18 => k_is); (case k18 => k_is)
    (case a19 => k_is); (case l19 => k_is); (case c19 => k_is); (case k19 => k_is); (case z1 => k_is); (case z2 => k_is)
    (case z3 => k_is); (case z4 => k_is); (case z5 => k_is); (case z6 => k_is); (case z7 => k_is); (case z8 => k_is)
    (case z9 => k_is); (case z10 => k_is); (case z11 => k_is); (case z12 => k_is); (case z13 => k_is); (case z14 => k_is)
    (case z15 => k_is); (case z16 => k_is); (case z17 => k_is); (case z18 => k_is); (case y1 => k_is); (case y2 => k_is)
