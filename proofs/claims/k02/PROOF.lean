import PyProof.Rows.All
import Wide.All
import OpenK.AllK
import Wide.FinOn
import HandS.Base
import HandS.Call
import HandS.List
import HandS.Comp
import HandS.Ends
import HandS.Dict
import HandS.Iter
import HandS.Words
import HandS.Wide
import HandS.IsInst
import HandS.WordsList
import HandS.WordsDict
import PySem.Challenge.RW_commonhouse_k02_primes_told
set_option Elab.async false
set_option linter.all false
set_option maxRecDepth 100000
set_option maxHeartbeats 4000000
namespace Cm
open PySem PySem.Spec PyProof.Rows L2
/-! ### defs by their names -/
/-- the def x of the text stands behind the top by its name -/
def Df (K : PySem.W.Frag) (mg : Str → Option Value) (x : Str) (st : Stmt) (ps : List Str) : Prop :=
  ∃ f fd, Fun K x x st f fd ∧ mg x = some (.ref f) ∧ Binds K fd ps []
theorem df_mk {K : PySem.W.Frag} {mg : Str → Option Value} {x : Str} {st : Stmt} {ps : List Str} {f : Addr} {oc : Value} {od an : Option Addr} {osl : Array (Option Value)} {kV doc pm cdv ct : Value} (hm : mg x = some (.ref f))
    (l : K.lookup f = some ⟨oc, od, .func (PySem.W.fnOf x x (defArgs st) (defBody st) (defScope st) .none kV doc pm an cdv ct), osl⟩) (c : PySem.W.codeIn K cdv x = true) (k : PySem.W.keepIn K (.ref f) = true)
    (h : ∀ (kV doc pm : Value) (an : Option Addr) (cdv ct : Value) (us : List Value), us.length = ps.length → bindArgs (PySem.W.fnOf x x (defArgs st) (defBody st) (defScope st) .none kV doc pm an cdv ct) ⟨us, []⟩ = pure (ps.zip us)) : Df K mg x st ps :=
  ⟨f, _, fun_mk l c k, hm, (fun_mk l c k).binds h⟩
/-! ### a promise that is kept where no repr runs around (the recursion guards are empty) -/
structure FnG (P : Program) (w : World) (K : PySem.W.Frag) (mg : Str → Option Value) (base : Heap) (CX : CXT) (k : Nat) (f : Addr) (fd : FuncData) (ps : List Str) (sp : Sp) : Prop where
  len : ∀ vs H Q E, sp vs H Q E → vs.length = ps.length
  go : ∀ (A : Around) (outer : List Env) (s : Shared) (H : Hp) (args : Args) (us : List Value) (vs : List V) (Q : VK) (E : XK), Room k A → A.guards = some [] → Env0 P w K mg base A outer s H → BindsTo s fd args (ps.zip us) → Vals vs us → sp vs H Q E →
    codeAny (model P w) A (.call (.ref f) args) (CR CX outer P w H s Q E) s
section
variable {P : Program} {w : World} {K : PySem.W.Frag} {mg : Str → Option Value} {base : Heap} {CX : CXT}
/-- a def's body keeps its promise there -/
theorem fng_mk {k : Nat} {f : Addr} {x qual : Str} {st : Stmt} {fd : FuncData} {N ps : List Str} {sp : Sp} (F : Fun K x qual st f fd) (S : FnScope N ps (defScope st))
    (len : ∀ vs H Q E, sp vs H Q E → vs.length = ps.length)
    (body : ∀ (cdv : Value) (A : Around) (outer : List Env) (s : Shared) (H : Hp) (vs : List V) (Q : VK) (E : XK), Room k (A.deeper (envOfC qual (defScope st) s.heap.objs.size f cdv)) → A.guards = some [] → sp vs H Q E →
      ∃ t, PSs (cxOf CX P w K mg base N qual (defScope st) f cdv A outer s H E) (defBody st) t ∧ t { nx := fun _ H' => Q .non H', rt := Q } (start N vs) H) : FnG P w K mg base CX (k + 1) f fd ps sp := by
  obtain ⟨oc, od, kV, doc, pm, an, cdv, ct, osl, hfd, lk, hcd⟩ := F.ex
  subst hfd
  refine ⟨len, fun A outer s H args us vs Q E room gd env bind rel prom => ?_⟩
  have llen := len _ _ _ _ prom
  have inK : K.In s.heap := env.mod.kin.keeps fun b o e => (env.bs b o e).1
  have nolim : s.heap.NoLimit := env.mod.nolimit.keeps fun b o e => (env.bs b o e).1
  have kinds : ∀ y ∈ ps.zip us, (defScope st).names.lookup y.1 = some .local ∨ ((defScope st).names.lookup y.1 = some .cell ∧ ((cellsFrom (s.heap.objs.size + 1) (defScope st).names []).lookup y.1).isSome = true) := by
    rintro ⟨n, v⟩ hy
    rcases S.par n (List.of_mem_zip hy).1 with z | z
    · exact .inl z
    · exact .inr ⟨z, PySem.W.cellsFrom_some _ _ _ (.inl z)⟩
  refine codeAny_call_function room.depth (inK _ _ lk) rfl S.co S.gen rfl (PySem.W.codeRec_of inK hcd) (bind _ _ _ _ ?_)
  refine wpAny_newFunctionEnv_cells S.kind kinds fun fenv hfe s1 ent => ?_
  subst hfe
  refine ⟨nolim.keeps ent.toInCall.keep, codeAny_func ?_⟩
  obtain ⟨t, ht, hq⟩ := body cdv A outer s H vs Q E (room.deeper _) gd prom
  have I0 : Inv (cxOf CX P w K mg base N qual (defScope st) f cdv A outer s H E) [] (start N vs) H s1 := inv_start S room.hd env llen rel ent
  refine wpAny_mono (ht.run [] s1 (start N vs) H _ I0 hq) (fun fl s' out => ?_) fun e s' out => out
  cases fl with
  | ret u =>
    obtain ⟨v, σ', H', J, rv, q⟩ := out
    exact ⟨v, H', J.os, J.bare, J.base, J.hok, rv, q⟩
  | next =>
    obtain ⟨σ', H', J, q⟩ := out
    exact ⟨V.non, H', J.os, J.bare, J.base, J.hok, rfl, q⟩
  | brk =>
    obtain ⟨_, _, _, q⟩ := out
    exact q.elim
  | cont =>
    obtain ⟨_, _, _, q⟩ := out
    exact q.elim
end
/-- the def x keeps the promise sp; no exception leaves it -/
def Fn (P : Program) (w : World) (K : PySem.W.Frag) (mg : Str → Option Value) (base : Heap) (k : Nat) (x : Str) (ps : List Str) (sp : Sp) : Prop :=
  ∃ f fd, FnG P w K mg base CX0 k f fd ps sp ∧ mg x = some (.ref f) ∧ PySem.W.keepIn K (.ref f) = true ∧ Binds K fd ps []
section
variable {P : Program} {w : World} {K : PySem.W.Frag} {mg : Str → Option Value} {base : Heap}
theorem Df.ok {x : Str} {st : Stmt} {ps N : List Str} {k : Nat} {sp : Sp} (D : Df K mg x st ps) (S : FnScope N ps (defScope st)) (len : ∀ vs H Q E, sp vs H Q E → vs.length = ps.length)
    (hbody : ∀ (f : Addr) (cdv : Value) (A : Around) (outer : List Env) (s : Shared) (H : Hp) (vs : List V) (Q : VK) (E : XK), Room k (A.deeper (envOfC x (defScope st) s.heap.objs.size f cdv)) → A.guards = some [] → sp vs H Q E →
      ∃ t, PSs (cxOf CX0 P w K mg base N x (defScope st) f cdv A outer s H E).nox (defBody st) t ∧ t { nx := fun _ H' => Q .non H', rt := Q } (start N vs) H) : Fn P w K mg base (k + 1) x ps sp := by
  obtain ⟨f, fd, F, hm, hb⟩ := D
  refine ⟨f, fd, fng_mk F S len fun cdv A outer s H vs Q E hr hg h => ?_, hm, F.kp, hb⟩
  obtain ⟨t, ht, q⟩ := hbody f cdv A outer s H vs Q E hr hg h
  exact ⟨t, ht.nox, q⟩
end
section
variable {X : Cx} {k : Nat} {x : Str} {ps : List Str} {sp : Sp} {e : Expr} {es : List Expr} {t : TA} {p pos : Pos}
theorem run_g {CX : CXT} {f : Addr} {fd : FuncData} {E : XK} {pins : List (Addr × Obj)} {σ : L2.St} {H : Hp} {s : Shared} {Q : VK} {us : List Value} {vs : List V} (F : FnG X.prog X.w X.K X.mg X.base CX k f fd ps sp) (hr : Room k X.A) (hg : X.A.guards = some [])
    (hb : Binds X.K fd ps []) (hx : Passes CX X E) (I : Inv X pins σ H s) (r : Vals vs us) (h : sp (vs ++ []) H Q E) : wpAny (model X.prog X.w) X.A (call (.ref f) us) (EP X pins σ Q) X.xe s := by
  rw [List.append_nil] at h
  have hl : (us ++ []).length = ps.length := by
    rw [List.append_nil, ← r.length]
    exact F.len _ _ _ _ h
  have hb2 := hb s us I.kIn hl
  rw [List.append_nil] at hb2
  refine wpAny_call (codeAny_mono (F.go X.A X.stack s H ⟨us, []⟩ us vs Q E hr hg I.env0 hb2 r h) fun r s' hq => ?_)
  cases r with
  | error e => exact hx pins σ H s e s' I hq
  | ok fl =>
    cases fl with
    | ret u => exact I.after hq
    | next => exact hq.elim
    | brk => exact hq.elim
    | cont => exact hq.elim
theorem pe_fn (F : Fn X.prog X.w X.K X.mg X.base k x ps sp) (hr : Room k X.A) (hgd : X.A.guards = some []) (hg : Gl X x) (ha : PA X (e :: es) t) (hdb : (x == ("__debug__" : Str)) = false := by decide)
    (he : starEach (e :: es) X.env = (false, eval e X.env) :: starEach es X.env := by rfl) (hpl : (backTo pos (starEach es X.env)).any (·.1) = false := by rfl) : PE X (.Call (.Name x p) (e :: es) [] pos) (tCall sp [] E0 t) := by
  obtain ⟨f, fd, F, hm, hk, hb⟩ := F
  refine ⟨fun pins s σ H Q I h => ?_⟩
  refine wpAny_Call_Name_kw (ld_glob I hg hm ?_ hdb)
  refine PySem.W.callWith_K (h₀ := X.base) I.ok.mod.kin hk (thn (ha.run pos pins s σ H _ I h) fun us s1 out => ?_) he hpl
  obtain ⟨vs, H1, I1, r, q⟩ := out
  exact ⟨I1.kIn, run_g F hr hgd hb pass0 I1 r q⟩
end
/-! ### promises by the number of arguments -/
def sp1 (R : V → Hp → VK → Prop) : Sp := fun vs H Q _ => ∃ a, vs = [a] ∧ R a H Q
def sp2 (R : V → V → Hp → VK → Prop) : Sp := fun vs H Q _ => ∃ a b, vs = [a, b] ∧ R a b H Q
def sp3 (R : V → V → V → Hp → VK → Prop) : Sp := fun vs H Q _ => ∃ a b c, vs = [a, b, c] ∧ R a b c H Q
def sp4 (R : V → V → V → V → Hp → VK → Prop) : Sp := fun vs H Q _ => ∃ a b c d, vs = [a, b, c, d] ∧ R a b c d H Q
theorem len1 {R : V → Hp → VK → Prop} {x : Str} : ∀ vs H Q E, sp1 R vs H Q E → vs.length = [x].length := by
  rintro vs H Q E ⟨a, rfl, _⟩
  rfl
theorem len2 {R : V → V → Hp → VK → Prop} {x y : Str} : ∀ vs H Q E, sp2 R vs H Q E → vs.length = [x, y].length := by
  rintro vs H Q E ⟨a, b, rfl, _⟩
  rfl
theorem len3 {R : V → V → V → Hp → VK → Prop} {x y z : Str} : ∀ vs H Q E, sp3 R vs H Q E → vs.length = [x, y, z].length := by
  rintro vs H Q E ⟨a, b, c, rfl, _⟩
  rfl
theorem len4 {R : V → V → V → V → Hp → VK → Prop} {x y z u : Str} : ∀ vs H Q E, sp4 R vs H Q E → vs.length = [x, y, z, u].length := by
  rintro vs H Q E ⟨a, b, c, d, rfl, _⟩
  rfl
/-! ### heaps -/
/-- all but the object at d is kept -/
def But (d : Addr) (H H' : Hp) : Prop := ∀ b o, b ≠ d → H b = some o → H' b = some o
theorem But.refl (d : Addr) (H : Hp) : But d H H := fun _ _ _ h => h
theorem But.trans {d : Addr} {H H1 H2 : Hp} (a : But d H H1) (b : But d H1 H2) : But d H H2 := fun c o n h => b c o n (a c o n h)
theorem But.upd {d : Addr} {H : Hp} {o : HO} : But d H (L2.upd H d o) := fun b u n h => by
  rw [upd_ne n]
  exact h
theorem But.new {d p : Addr} {H : Hp} {o : HO} (n : H p = none) : But d H (L2.upd H p o) := fun b u _ h => by
  rw [upd_ne (ne_of_none h n)]
  exact h
theorem But.same {d : Addr} {H H1 : Hp} (a : Same H H1) : But d H H1 := fun b o _ h => a b o h
theorem same_new {H : Hp} {p : Addr} {o : HO} (h : H p = none) : Same H (L2.upd H p o) := fun b x e => by
  rw [upd_ne (ne_of_none e h)]
  exact e
theorem sqt_of_same {K : PySem.W.Frag} {H H' : Hp} {a : Addr} {xs : List V} (e : Same H H') (h : SqT K H a xs) : SqT K H' a xs := by
  rcases h with (h | ⟨o, h⟩) | h
  · exact .inl (.inl (e _ _ h))
  · exact .inl (.inr ⟨o, e _ _ h⟩)
  · exact .inr h
/-- abs -/
theorem abs_eq (i : Int) : (if i < 0 then -i else i) = (i.natAbs : Int) := by
  split <;> omega
theorem qNS {c : Prop} [Decidable c] (hc : c) {Q : Bool → Hp → Prop} {H : Hp} (q : Q false H) : Q (!decide c) H := by
  rw [decide_eq_true hc]
  exact q
theorem qN {c : Prop} [Decidable c] (hc : ¬ c) {Q : Bool → Hp → Prop} {H : Hp} (q : Q false H) : Q (decide c) H := by
  rw [decide_eq_false hc]
  exact q
theorem qS {c : Prop} [Decidable c] (hc : c) {Q : VK} {H : Hp} (q : Q (.bl true) H) : Q (.bl (decide c)) H := by
  rw [decide_eq_true hc]
  exact q
theorem iteN {c A B : Prop} [Decidable c] (hc : ¬ c) (h : B) : if decide c = true then A else B := by
  rw [decide_eq_false hc]
  exact iteF h
theorem iteS {c A B : Prop} [Decidable c] (hc : c) (h : A) : if decide c = true then A else B := by
  rw [decide_eq_true hc]
  exact iteT h
/-! ### an if that is not taken -/
theorem if_no {c : TT} {t r : TS} {D : Ends} {σ : L2.St} {H : Hp} (R : Hp → Prop) (h : ∀ Q : Bool → Hp → Prop, (∀ H', R H' → Q false H') → c σ H Q) (k : ∀ H', R H' → r D σ H') : tSeq (tIfS c t tNext) r D σ H := by
  show c σ H _
  exact h _ fun H' q => iteF (k H' q)
/-- the last if of a block that is not taken -/
theorem if_no1 {c : TT} {t : TS} {D : Ends} {σ : L2.St} {H : Hp} (R : Hp → Prop) (h : ∀ Q : Bool → Hp → Prop, (∀ H', R H' → Q false H') → c σ H Q) (k : ∀ H', R H' → D.nx σ H') : tIfS c t tNext D σ H := by
  show c σ H _
  exact h _ fun H' q => iteF (k H' q)
theorem or_no {t u : TT} {σ : L2.St} {H : Hp} {Q : Bool → Hp → Prop} (R : Hp → Prop) (h : ∀ Q : Bool → Hp → Prop, (∀ H', R H' → Q false H') → t σ H Q) (k : ∀ H', R H' → u σ H' Q) : tOr t u σ H Q := by
  show t σ H _
  exact h _ fun H' q => iteF (k H' q)
end Cm

set_option Elab.async false
set_option linter.all false
set_option maxRecDepth 100000
set_option maxHeartbeats 4000000
namespace Cm
open PySem PySem.Spec PyProof.Rows L2
/-! ### the end of a law whose promise is kept where no repr runs around -/
/-- the heap that is tracked at the law's entry: the script alone, where it is none of the module's own objects -/
def scriptH (K : PySem.W.Frag) (a : Addr) (vs : List Value) (ns : List Int) : Hp := fun b =>
  if b = a ∧ K.lookup a = none then some (.frz { cls := .type "list", data := .seq vs.toArray } (.lst (ns.map V.int))) else none
theorem scriptH_some {K : PySem.W.Frag} {a b : Addr} {vs : List Value} {ns : List Int} {u : HO} (h : scriptH K a vs ns b = some u) :
    b = a ∧ K.lookup a = none ∧ u = .frz { cls := .type "list", data := .seq vs.toArray } (.lst (ns.map V.int)) := by
  unfold scriptH at h
  split at h
  · rename_i z
    exact ⟨z.1, z.2, (Option.some.inj h).symm⟩
  · cases h
theorem scriptH_free {K : PySem.W.Frag} {a b : Addr} {vs : List Value} {ns : List Int} (h : b ≠ a ∨ K.lookup a ≠ none) : scriptH K a vs ns b = none := by
  unfold scriptH
  split
  · rename_i z
    rcases h with h | h
    · exact absurd z.1 h
    · exact absurd z.2 h
  · rfl
theorem call_law_g {P : Program} {w : World} {K : PySem.W.Frag} {mg mb : Str → Option Value} {k : Nat} {fa a : Addr} {fd : FuncData} {x : Str} {sp : Sp} {s1 : Shared} {vs : List Value} {ns : List Int}
    (inK : K.In s1.heap) (glob : s1.heap.Ns mainGlobals mg) (blt : s1.heap.Ns builtinsNs mb) (bltEq : ∀ x : Str, x ≠ "__name__" → mb x = bootBuiltins x) (nolim : s1.heap.NoLimit) (nogen : s1.gens = #[])
    (scr : s1.heap.get? a = some { cls := .type "list", data := .seq vs.toArray }) (hns : IntsAre vs ns) (short : ns.length ≤ sizeLine) (room : Room k callerA)
    (F : ∀ base : Heap, K.In base → base.Ns mainGlobals mg → FnG P w K mg base CX0 k fa fd [x] sp) (bind : ∀ (s : Shared) (u : Value), BindsTo s fd ⟨[u], []⟩ [(x, u)])
    (prom : ∀ H : Hp, SqL K H a (ns.map V.int) → sp [.ref a] H (fun v _ => v = .bl true) fun _ _ _ => False) :
    codeAny (model P w) callerA (.call (.ref fa) ⟨[.ref a], []⟩) (fun r s' => r = .ok (.ret (.bool true)) ∧ OldK s1.heap s'.heap ∧ s'.os = s1.os ∧ AllBare s'.gens) s1 := by
  have rel := vals_ints hns
  have vlen := hns.length
  -- what the script's address holds, in the abstract heap
  have hS : SqL K (scriptH K a vs ns) a (ns.map V.int) := by
    cases hk : K.lookup a with
    | none =>
      refine .inl (.inr ⟨{ cls := .type "list", data := .seq vs.toArray }, ?_⟩)
      unfold scriptH
      exact if_pos ⟨rfl, hk⟩
    | some o =>
      have e := inK a o hk
      rw [scr] at e
      cases e
      exact .inr ⟨_, vs.toArray, _, hk, rfl, rfl, rfl, by rw [List.size_toArray, vlen]; exact short, by simpa using rel⟩
  have hok : HOk P w (scriptH K a vs ns) s1.heap := by
    intro b u e
    obtain ⟨rfl, _, rfl⟩ := scriptH_some e
    exact ⟨scr, by rw [List.length_map]; exact short, vs, _, rel, scr⟩
  -- a namespace is no list, so it is not tracked
  have free : ∀ {b : Addr} {o : Obj} {es : Array DictEntry} {ep : Nat}, s1.heap.get? b = some o → o.data = .dict es ep → scriptH K a vs ns b = none := by
    intro b o es ep e d
    by_cases hb : b = a
    · rw [hb, scr] at e
      cases e
      cases (show Data.seq vs.toArray _ = Data.dict es ep from d)
    · exact scriptH_free (.inl hb)
  have nsOf : ∀ {b : Addr} {m : Str → Option Value}, s1.heap.Ns b m → (hidT s1.heap (scriptH K a vs ns)).Ns b m := by
    rintro b m ⟨o, es, ep, e, d, r⟩
    exact ⟨o, es, ep, hidT_get e (free e d), d, r⟩
  have inKb : K.In (hidT s1.heap (scriptH K a vs ns)) := by
    intro b o e
    refine hidT_get (inK b o e) ?_
    by_cases hb : b = a
    · refine scriptH_free (.inr fun z => ?_)
      rw [hb, z] at e
      cases e
    · exact scriptH_free (.inl hb)
  obtain ⟨mc, lim1, lim2⟩ := nolim
  have env : Env0 P w K mg (hidT s1.heap (scriptH K a vs ns)) callerA [] s1 (scriptH K a vs ns) :=
    ⟨rfl, ⟨inKb, nsOf glob, ⟨mb, nsOf blt, bltEq⟩, ⟨mc, nsOf lim1, lim2⟩⟩, fun b o e => of_hidT e, Nat.le_of_eq (hidT_size _ _), trivial, fun b hb => (nomatch (show b ∈ ([] : List Addr) from hb)), hok, .of_eq nogen⟩
  refine codeAny_mono ((F _ inKb (nsOf glob)).go callerA [] s1 _ ⟨[.ref a], []⟩ [.ref a] [.ref a] _ _ room rfl env (bind s1 (.ref a)) (.cons rfl .nil) (prom _ hS)) fun r s' out => ?_
  cases r with
  | error e => exact out.elim
  | ok fl =>
    cases fl with
    | next => exact out.elim
    | brk => exact out.elim
    | cont => exact out.elim
    | ret u =>
      obtain ⟨v, H', os, bare, un, hok', rv, q⟩ := out
      have q' : v = .bl true := q
      subst q'
      obtain rfl : u = Value.bool true := rv
      refine ⟨rfl, OldK.of_keep fun b o e => ?_, os, bare⟩
      cases hb : scriptH K a vs ns b with
      | none => exact un.keep b o e hb (fun z => (nomatch (show b ∈ ([] : List Addr) from z))) (fun z => (nomatch z))
      | some u =>
        obtain ⟨rfl, _, rfl⟩ := scriptH_some hb
        obtain ⟨e2, _⟩ := hok' _ _ (un.frzs _ _ _ hb)
        rw [scr] at e
        cases e
        exact e2
theorem walk_g {l : PySem.W.OpenLaw} {n k : Nat} {q : Program} {loose : List Str} {XP : (Str → Option Value) → Heap → Prop} {YP : World → Heap → Prop} {d : DefRec} {K : Params → PySem.W.Frag} {sp : PySem.W.Frag → Sp} {x : Str}
    (most : l.most = some n) (line : n ≤ sizeLine) (nodef : d.params.defaults = []) (room : Room k callerA) (hY : ∀ (w : World) (h : Heap), YP w h → (K w.params).In h)
    (F : ∀ (w : World) (mg : Str → Option Value) (fa : Addr) (h : Heap), (K w.params).In h → h.Ns mainGlobals mg → mg d.name = some (.ref fa) →
      ∃ fd : FuncData, (∀ (s : Shared) (u : Value), BindsTo s fd ⟨[u], []⟩ [(x, u)]) ∧ ∀ base : Heap, (K w.params).In base → base.Ns mainGlobals mg → FnG l.prog w (K w.params) mg base CX0 k fa fd [x] (sp (K w.params)))
    (prom : ∀ (K : PySem.W.Frag) (H : Hp) (a : Addr) (ns : List Int), ns.length ≤ n → SqL K H a (ns.map V.int) → sp K [.ref a] H (fun v _ => v = .bl true) fun _ _ _ => False) :
    PySem.W.WalkO q loose XP YP l.row.toRowW d [] (fun f vs => PySem.call f vs) := by
  refine Att.attach_call most nodef fun w s0 s1 mg mb fa o pm cd doc a vs ns G Y ho hd hcd hmg hobj hints hlen hg => ?_
  obtain ⟨fd, hb, hF⟩ := F w mg fa _ (hY w _ Y) G.T.g hmg
  exact call_law_g (hY w _ Y) G.T.g G.T.b G.T.builtins G.T.nolimit hg hobj hints (Nat.le_trans hlen line) room hF hb fun H hS => prom _ H a ns hlen hS
/-! ### repr -/
/-- repr of data: None, truths, numbers, texts, lists and tuples of them -/
def rRepr (K : PySem.W.Frag) : List V → Hp → VK → Prop := fun xs H Q => ∃ (a : Addr) (d : PyData), xs = [.ref a] ∧ Dp K H (.ref a) d ∧ d.showable = true ∧ d.hasDict = false ∧ d.depth ≤ 60 ∧ d.shown.length ≤ sizeLine ∧ Q (.str d.shown) H
theorem call_repr {X : Cx} {K : PySem.W.Frag} {k : Nat} (hr : Room k X.A) (hg : X.A.guards = some []) (hK : X.K = K) : CallR X (.builtin "repr") (rRepr K) := by
  subst hK
  intro pins s σ H xs us Q I r h
  obtain ⟨a, d, rfl, hd, sh, nd, dp, sz, q⟩ := h
  obtain ⟨u, rfl, ru⟩ := vals1 r
  obtain ⟨as, rd⟩ := Dp.reads I d _ _ hd ru
  cases ru
  refine repr_of_reads' rd sh (fun z => absurd (nd.symm.trans z) Bool.false_ne_true) hg (by have := hr.units; omega) (fun _ _ e => e) (fun h' u tk keep => ?_) sz
  exact ⟨.str d.shown, H, I.kept keep, ⟨_, rfl⟩, q⟩
end Cm

set_option Elab.async false
set_option linter.all false
set_option maxRecDepth 100000
set_option maxHeartbeats 4000000
namespace Cm
open PySem PySem.Spec PyProof.Rows L2
/-! ### the drawing dict: cells, at, left -/
def penD (a : Addr) (n m : Int) : List (Key × V) := [(Sum.inr "cells", .ref a), (Sum.inr "at", .int n), (Sum.inr "left", .int m)]
theorem kca : ¬ ((Sum.inr ("cells" : Str) : Key) = Sum.inr ("at" : Str)) := by decide +kernel
theorem kcl : ¬ ((Sum.inr ("cells" : Str) : Key) = Sum.inr ("left" : Str)) := by decide +kernel
theorem kal : ¬ ((Sum.inr ("at" : Str) : Key) = Sum.inr ("left" : Str)) := by decide +kernel
theorem kla : ¬ ((Sum.inr ("left" : Str) : Key) = Sum.inr ("at" : Str)) := by decide +kernel
theorem val_cells (a : Addr) (n m : Int) : valV (penD a n m) (Sum.inr "cells" : Key) = some (.ref a) := valV_pos rfl
theorem val_at (a : Addr) (n m : Int) : valV (penD a n m) (Sum.inr "at" : Key) = some (.int n) := (valV_neg kca).trans (valV_pos rfl)
theorem val_left (a : Addr) (n m : Int) : valV (penD a n m) (Sum.inr "left" : Key) = some (.int m) := (valV_neg kcl).trans ((valV_neg kal).trans (valV_pos rfl))
theorem put_at (a : Addr) (n m z : Int) : putK (penD a n m) (Sum.inr "at" : Key) (.int z) = penD a z m := by
  unfold putK
  rw [valV_any, val_at, if_pos (show (some (V.int n)).isSome = true from rfl)]
  unfold penD
  simp only [List.map_cons, List.map_nil, if_neg kca, if_neg kla, if_true]
theorem put_left (a : Addr) (n m z : Int) : putK (penD a n m) (Sum.inr "left" : Key) (.int z) = penD a n z := by
  unfold putK
  rw [valV_any, val_left, if_pos (show (some (V.int m)).isSome = true from rfl)]
  unfold penD
  simp only [List.map_cons, List.map_nil, if_neg kcl, if_neg kal, if_true]
section
variable {K : PySem.W.Frag} {H H' : Hp} {d a : Addr} {n m : Int}
theorem dg_cells (h : H d = some (.dK (penD a n m))) : DGet H d (.str "cells") (some (.ref a)) := by
  have q := DGet.k (k := (Sum.inr "cells" : Key)) h
  rw [val_cells] at q
  exact q
theorem dg_at (h : H d = some (.dK (penD a n m))) : DGet H d (.str "at") (some (.int n)) := by
  have q := DGet.k (k := (Sum.inr "at" : Key)) h
  rw [val_at] at q
  exact q
theorem dg_left (h : H d = some (.dK (penD a n m))) : DGet H d (.str "left") (some (.int m)) := by
  have q := DGet.k (k := (Sum.inr "left" : Key)) h
  rw [val_left] at q
  exact q
theorem dp_at {z : Int} (h : H d = some (.dK (penD a n m))) : DPut H d (.str "at") (.int z) (upd H d (.dK (penD a z m))) := by
  have q := DPut.k (k := (Sum.inr "at" : Key)) (v := .int z) h (small1000 (by unfold penD; simp))
  rw [put_at] at q
  exact q
theorem dp_left {z : Int} (h : H d = some (.dK (penD a n m))) : DPut H d (.str "left") (.int z) (upd H d (.dK (penD a n z))) := by
  have q := DPut.k (k := (Sum.inr "left" : Key)) (v := .int z) h (small1000 (by unfold penD; simp))
  rw [put_left] at q
  exact q
/-- a list that is read stays where a dict alone may change -/
theorem sq_but {xs : List V} {kvs : List (Key × V)} (b : But d H H') (hd : H d = some (.dK kvs)) (h : SqL K H a xs) : SqL K H' a xs := by
  rcases h with (h | ⟨o, h⟩) | h
  · exact .inl (.inl (b _ _ (ne_of h hd (by intro z; cases z)) h))
  · exact .inl (.inr ⟨o, b _ _ (ne_of h hd (by intro z; cases z)) h⟩)
  · exact .inr h
end
/-- a pen at d over the cells ns at a, drawn from at most c times -/
structure Pen (K : PySem.W.Frag) (H : Hp) (d a : Addr) (ns : List Int) (c : Int) : Prop where
  sq : SqL K H a (ns.map V.int)
  dc : ∃ n m : Int, H d = some (.dK (penD a n m)) ∧ 0 ≤ n ∧ n ≤ c ∧ 0 ≤ m
theorem Pen.mono {K : PySem.W.Frag} {H : Hp} {d a : Addr} {ns : List Int} {c c' : Int} (p : Pen K H d a ns c) (h : c ≤ c') : Pen K H d a ns c' := by
  obtain ⟨s, n, m, e, h0, h1, h2⟩ := p
  exact ⟨s, n, m, e, h0, by omega, h2⟩
theorem Pen.same {K : PySem.W.Frag} {H H' : Hp} {d a : Addr} {ns : List Int} {c : Int} (p : Pen K H d a ns c) (h : Same H H') : Pen K H' d a ns c := by
  obtain ⟨s, n, m, e, h0, h1, h2⟩ := p
  exact ⟨h.seq s, n, m, h _ _ e, h0, h1, h2⟩
/-- draw's promise -/
def rDraw (K : PySem.W.Frag) : V → V → Hp → VK → Prop := fun p q H Q => ∃ (d a : Addr) (ns : List Int) (c many : Int), p = .ref d ∧ q = .int many ∧ Pen K H d a ns c ∧ 0 < many ∧ many < 1073741824 ∧ c ≤ 1000000 ∧
  ∀ r H', 0 ≤ r → r < many → Pen K H' d a ns (c + 1) → But d H H' → Q (.int r) H'
theorem cell_at {ns : List Int} {i : Int} (h0 : 0 ≤ i) (h1 : i < ((ns.map V.int).length : Int)) : ∃ z, atI (ns.map V.int) i = some (.int z) := by
  rw [List.length_map] at h1
  have hj : i.toNat < ns.length := by omega
  refine ⟨ns[i.toNat], ?_⟩
  have e : ((i.toNat : Nat) : Int) = i := by omega
  have q : atI (ns.map V.int) ((i.toNat : Nat) : Int) = some (.int ns[i.toNat]) := atI_nat (by rw [List.getElem?_map, List.getElem?_eq_getElem hj]; rfl)
  rw [e] at q
  exact q
theorem pos_of {b : Int} {p : Int} (h : decide (p < b) = true) : p < b := of_decide_eq_true h
theorem npos_of {b : Int} {p : Int} (h : ¬ decide (p < b) = true) : b ≤ p := by
  have := of_decide_eq_false (Bool.eq_false_iff.mpr h)
  omega
theorem eq_yes {i j : Int} (e : decide (V.int i = V.int j) = true) : i = j := V.int.inj (of_decide_eq_true e)
theorem eq_no {i j : Int} (e : ¬ decide (V.int i = V.int j) = true) : i ≠ j := fun z => e (by rw [z]; exact decide_eq_true rfl)
theorem ne_yes {i j : Int} (e : (!decide (V.int i = V.int j)) = true) : i ≠ j := fun z => by
  rw [z, decide_eq_true rfl] at e
  exact Bool.noConfusion e
theorem ne_no {i j : Int} (e : ¬ (!decide (V.int i = V.int j)) = true) : i = j := by
  by_cases h : i = j
  · exact h
  · exact absurd (by rw [decide_eq_false fun z => h (V.int.inj z)]; rfl) e
end Cm

set_option linter.all false
namespace K02
/-- prime by trial -/
def Pri (q : Int) : Prop := 2 ≤ q ∧ ∀ d : Int, 2 ≤ d → d * d ≤ q → ¬ d ∣ q
/-- the product of primes and their powers -/
def prod : List (Int × Int) → Int
  | [] => 1
  | pe :: r => pe.1 ^ pe.2.toNat * prod r
theorem prod_snoc (p e : Int) : ∀ l : List (Int × Int), prod (l ++ [(p, e)]) = prod l * p ^ e.toNat
  | [] => by simp [prod]
  | x :: r => by
    show x.1 ^ x.2.toNat * prod (r ++ [(p, e)]) = x.1 ^ x.2.toNat * prod r * p ^ e.toNat
    rw [prod_snoc p e r, Int.mul_assoc]
theorem prod_append (l r : List (Int × Int)) : prod (l ++ r) = prod l * prod r := by
  induction l with
  | nil => simp [prod]
  | cons x l ih =>
    show x.1 ^ x.2.toNat * prod (l ++ r) = x.1 ^ x.2.toNat * prod l * prod r
    rw [ih, Int.mul_assoc]
/-- rising primes, each often from 1 on, below lim -/
structure Rise (lim : Int) (l : List (Int × Int)) : Prop where
  up : l.Pairwise fun x y => x.1 < y.1
  pr : ∀ x ∈ l, Pri x.1
  of : ∀ x ∈ l, 1 ≤ x.2
  lt : ∀ x ∈ l, x.1 < lim
theorem rise_nil (lim : Int) : Rise lim [] := ⟨List.Pairwise.nil, by simp, by simp, by simp⟩
theorem Rise.mono {lim lim' : Int} {l : List (Int × Int)} (h : Rise lim l) (k : lim ≤ lim') : Rise lim' l := ⟨h.up, h.pr, h.of, fun x hx => by have := h.lt x hx; omega⟩
theorem Rise.snoc {lim p e : Int} {l : List (Int × Int)} (h : Rise lim l) (hp : Pri p) (he : 1 ≤ e) (hl : lim ≤ p) : Rise (p + 1) (l ++ [(p, e)]) := by
  refine ⟨?_, ?_, ?_, ?_⟩
  · rw [List.pairwise_append]
    refine ⟨h.up, by simp, ?_⟩
    intro a ha b hb
    have e := List.mem_singleton.mp hb
    subst e
    have := h.lt a ha
    show a.1 < p
    omega
  · intro x hx
    rcases List.mem_append.mp hx with z | z
    · exact h.pr x z
    · rw [List.mem_singleton.mp z]
      exact hp
  · intro x hx
    rcases List.mem_append.mp hx with z | z
    · exact h.of x z
    · rw [List.mem_singleton.mp z]
      exact he
  · intro x hx
    rcases List.mem_append.mp hx with z | z
    · have := h.lt x z
      omega
    · rw [List.mem_singleton.mp z]
      show p < p + 1
      omega
/-- no number from 2 to below p divides m -/
def Rough (p m : Int) : Prop := ∀ d : Int, 2 ≤ d → d < p → ¬ d ∣ m
theorem rough_dvd {p m k : Int} (h : Rough p m) (hk : k ∣ m) : Rough p k := fun d h1 h2 h3 => h d h1 h2 (Int.dvd_trans h3 hk)
theorem sq_lt {d p : Int} (h : 2 ≤ d) (hd : d * d ≤ p) : d < p := by
  have : d * 2 ≤ d * d := Int.mul_le_mul_of_nonneg_left h (by omega)
  omega
theorem pri_least {p m : Int} (hp : 2 ≤ p) (h : Rough p m) (hd : p ∣ m) : Pri p := ⟨hp, fun d h1 h2 h3 => h d h1 (sq_lt h1 h2) (Int.dvd_trans h3 hd)⟩
theorem pri_rest {p m : Int} (hm : 1 < m) (h : Rough p m) (hs : m < p * p) (hp : 2 ≤ p) : Pri m := by
  refine ⟨by omega, fun d h1 h2 h3 => h d h1 ?_ h3⟩
  by_cases hd : d < p
  · exact hd
  · have : p * p ≤ d * d := Int.mul_le_mul (by omega) (by omega) (by omega) (by omega)
    omega
theorem rough_next {p m : Int} (h : Rough p m) (hd : ¬ p ∣ m) : Rough (p + 1) m := fun d h1 h2 h3 => by
  by_cases e : d = p
  · subst e
    exact hd h3
  · exact h d h1 (by omega) h3
theorem pow_pos' {p : Int} (hp : 0 < p) : ∀ n : Nat, 0 < p ^ n
  | 0 => by simp
  | n + 1 => by
    rw [Int.pow_succ]
    exact Int.mul_pos (pow_pos' hp n) hp
theorem two_pow_le {p : Int} (hp : 2 ≤ p) : ∀ n : Nat, (2 : Int) ^ n ≤ p ^ n
  | 0 => by simp
  | n + 1 => by
    rw [Int.pow_succ, Int.pow_succ]
    exact Int.mul_le_mul (two_pow_le hp n) hp (by omega) (Int.le_of_lt (pow_pos' (by omega) n))
theorem prod_pos : ∀ {l : List (Int × Int)}, (∀ x ∈ l, Pri x.1) → 0 < prod l
  | [], _ => by decide
  | x :: r, h => by
    have h1 : 0 < x.1 := by
      have := (h x (List.mem_cons.mpr (.inl rfl))).1
      omega
    exact Int.mul_pos (pow_pos' h1 _) (prod_pos fun y hy => h y (List.mem_cons.mpr (.inr hy)))
/-- a factor of a number to a million stands at most nineteen times -/
theorem often19 {l : List (Int × Int)} {N : Int} (hN : prod l = N) (hle : N ≤ 1000000) (h : ∀ x ∈ l, Pri x.1) {p e : Int} (hm : (p, e) ∈ l) : e ≤ 19 := by
  obtain ⟨a, b, rfl⟩ := List.append_of_mem hm
  have hp : Pri p := h (p, e) hm
  have ha : 0 < prod a := prod_pos fun x hx => h x (List.mem_append.mpr (.inl hx))
  have hb : 0 < prod b := prod_pos fun x hx => h x (List.mem_append.mpr (.inr (List.mem_cons.mpr (.inr hx))))
  rw [prod_append] at hN
  have e1 : prod ((p, e) :: b) = p ^ e.toNat * prod b := rfl
  rw [e1] at hN
  by_cases he : e ≤ 19
  · exact he
  · have h20 : 20 ≤ e.toNat := by omega
    have h1 : (2 : Int) ^ e.toNat ≤ p ^ e.toNat := two_pow_le hp.1 _
    have h2 : (2 : Int) ^ 20 ≤ 2 ^ e.toNat := by
      have e2 : e.toNat = 20 + (e.toNat - 20) := by omega
      rw [e2, Int.pow_add]
      have : 0 < (2 : Int) ^ (e.toNat - 20) := pow_pos' (by decide) _
      have h3 : (2 : Int) ^ 20 * 1 ≤ 2 ^ 20 * 2 ^ (e.toNat - 20) := Int.mul_le_mul_of_nonneg_left (by omega) (by decide)
      omega
    have e20 : (2 : Int) ^ 20 = 1048576 := by decide
    have h3 : p ^ e.toNat * 1 ≤ p ^ e.toNat * prod b := Int.mul_le_mul_of_nonneg_left (by omega) (by omega)
    have h4 : 1 * (p ^ e.toNat * prod b) ≤ prod a * (p ^ e.toNat * prod b) := Int.mul_le_mul_of_nonneg_right (by omega) (by omega)
    omega
theorem prod_one {l : List (Int × Int)} (h : prod l = 1) (hp : ∀ x ∈ l, Pri x.1) (ho : ∀ x ∈ l, 1 ≤ x.2) : l = [] := by
  cases l with
  | nil => rfl
  | cons x r =>
    exfalso
    have h1 := hp x (List.mem_cons.mpr (.inl rfl))
    have h2 := ho x (List.mem_cons.mpr (.inl rfl))
    have h3 : 0 < prod r := prod_pos fun y hy => hp y (List.mem_cons.mpr (.inr hy))
    have h4 : (2 : Int) ^ x.2.toNat ≤ x.1 ^ x.2.toNat := two_pow_le h1.1 _
    have h5 : (2 : Int) ^ 1 ≤ 2 ^ x.2.toNat := by
      have e2 : x.2.toNat = 1 + (x.2.toNat - 1) := by omega
      rw [e2, Int.pow_add]
      have : 0 < (2 : Int) ^ (x.2.toNat - 1) := pow_pos' (by decide) _
      have h3 : (2 : Int) ^ 1 * 1 ≤ 2 ^ 1 * 2 ^ (x.2.toNat - 1) := Int.mul_le_mul_of_nonneg_left (by omega) (by decide)
      omega
    have e1 : (2 : Int) ^ 1 = 2 := by decide
    have h6 : x.1 ^ x.2.toNat * 1 ≤ x.1 ^ x.2.toNat * prod r := Int.mul_le_mul_of_nonneg_left (by omega) (by omega)
    have h7 : x.1 ^ x.2.toNat * prod r = 1 := h
    omega
end K02

set_option Elab.async false
set_option linter.all false
set_option maxRecDepth 100000
set_option maxHeartbeats 4000000
namespace K02
open PySem PySem.Spec PyProof.Rows L2 Cm
def topS (i : Nat) : Stmt := PySem.Challenge.pw_commonhouse_k02_primes_told.main.body.getD i (.Pass ⟨0, 0, 0, 0⟩)
abbrev s_primes_of : Stmt := topS 1
abbrev N_primes_of : List Str := ["n", "found", "prime", "often"]
theorem sc_primes_of : FnScope N_primes_of ["n"] (defScope s_primes_of) := ⟨rfl, rfl, rfl, by decide +kernel, rfl, by decide +kernel, by decide +kernel⟩
abbrev s_law_pen : Stmt := topS 3
abbrev N_law_pen : List Str := ["_law_script"]
theorem sc_law_pen : FnScope N_law_pen ["_law_script"] (defScope s_law_pen) := ⟨rfl, rfl, rfl, by decide +kernel, rfl, by decide +kernel, by decide +kernel⟩
abbrev s_law_draw : Stmt := topS 4
abbrev N_law_draw : List Str := ["_law_pen_here", "_law_many", "_law_drawn", "_law_at", "_law_cell", "_law_number_here"]
theorem sc_law_draw : FnScope N_law_draw ["_law_pen_here", "_law_many"] (defScope s_law_draw) := ⟨rfl, rfl, rfl, by decide +kernel, rfl, by decide +kernel, by decide +kernel⟩
abbrev s_law_whole : Stmt := topS 5
abbrev N_law_whole : List Str := ["_law_thing"]
theorem sc_law_whole : FnScope N_law_whole ["_law_thing"] (defScope s_law_whole) := ⟨rfl, rfl, rfl, by decide +kernel, rfl, by decide +kernel, by decide +kernel⟩
abbrev s_law_number : Stmt := topS 6
abbrev N_law_number : List Str := ["_law_pen_here", "_law_way", "_law_found", "_law_lap", "_law_by"]
theorem sc_law_number : FnScope N_law_number ["_law_pen_here"] (defScope s_law_number) := ⟨rfl, rfl, rfl, by decide +kernel, rfl, by decide +kernel, by decide +kernel⟩
abbrev s_law_prime : Stmt := topS 7
abbrev N_law_prime : List Str := ["_law_n", "_law_by"]
theorem sc_law_prime : FnScope N_law_prime ["_law_n"] (defScope s_law_prime) := ⟨rfl, rfl, rfl, by decide +kernel, rfl, by decide +kernel, by decide +kernel⟩
abbrev s_law_right : Stmt := topS 8
abbrev N_law_right : List Str := ["_law_n", "_law_told", "_law_come", "_law_ahead", "_law_pair", "_law_prime_here", "_law_often", "_law_lap"]
theorem sc_law_right : FnScope N_law_right ["_law_n", "_law_told"] (defScope s_law_right) := ⟨rfl, rfl, rfl, by decide +kernel, rfl, by decide +kernel, by decide +kernel⟩
abbrev s_law : Stmt := topS 9
abbrev N_law : List Str := ["_law_script", "_law_pen_here", "_law_held", "_law_lap", "_law_n", "_law_told", "_law_one"]
theorem sc_law : FnScope N_law ["_law_script"] (defScope s_law) := ⟨rfl, rfl, rfl, by decide +kernel, rfl, by decide +kernel, by decide +kernel⟩
structure Txt (K : PySem.W.Frag) (mg : Str → Option Value) : Prop where
  d_primes_of : Df K mg "primes_of" s_primes_of ["n"]
  d_law_pen : Df K mg "_law_pen" s_law_pen ["_law_script"]
  d_law_draw : Df K mg "_law_draw" s_law_draw ["_law_pen_here", "_law_many"]
  d_law_whole : Df K mg "_law_whole" s_law_whole ["_law_thing"]
  d_law_number : Df K mg "_law_number" s_law_number ["_law_pen_here"]
  d_law_prime : Df K mg "_law_prime" s_law_prime ["_law_n"]
  d_law_right : Df K mg "_law_right" s_law_right ["_law_n", "_law_told"]
  d_law : Df K mg "law" s_law ["_law_script"]
  n_abs : mg "abs" = none
  n_bool : mg "bool" = none
  n_int : mg "int" = none
  n_isinstance : mg "isinstance" = none
  n_len : mg "len" = none
  n_list : mg "list" = none
  n_range : mg "range" = none
  n_repr : mg "repr" = none
  n_tuple : mg "tuple" = none
section
variable {P : Program} {w : World} {K : PySem.W.Frag} {mg : Str → Option Value} {base : Heap}
/-! ### the pen -/
theorem merge_pen (a : Addr) : mergeK [] (penD a 0 0) = penD a 0 0 := by
  show putK (putK (putK [] (Sum.inr ("cells" : Str) : Key) (.ref a)) (Sum.inr ("at" : Str)) (.int 0)) (Sum.inr ("left" : Str)) (.int 0) = _
  have e1 : putK ([] : List (Key × V)) (Sum.inr ("cells" : Str) : Key) (.ref a) = [(Sum.inr ("cells" : Str), .ref a)] := putK_new _ rfl
  have e2 : putK [((Sum.inr ("cells" : Str) : Key), V.ref a)] (Sum.inr ("at" : Str) : Key) (.int 0) = [(Sum.inr ("cells" : Str), .ref a), (Sum.inr ("at" : Str), .int 0)] := putK_new _ ((valV_neg kca).trans rfl)
  have e3 : putK [((Sum.inr ("cells" : Str) : Key), V.ref a), (Sum.inr ("at" : Str), .int 0)] (Sum.inr ("left" : Str) : Key) (.int 0) = penD a 0 0 := putK_new _ ((valV_neg kcl).trans ((valV_neg kal).trans rfl))
  rw [e1, e2, e3]
def rPen (K : PySem.W.Frag) : V → Hp → VK → Prop := fun x H Q => ∃ (a : Addr) (ns : List Int), x = .ref a ∧ SqL K H a (ns.map V.int) ∧ ∀ d H', H d = none → Same H H' → Pen K H' d a ns 0 → Q (.ref d) H'
theorem ok_law_pen (T : Txt K mg) : Fn P w K mg base 1 "_law_pen" ["_law_script"] (sp1 (rPen K)) := by
  refine T.d_law_pen.ok sc_law_pen len1 fun f cdv A outer s H vs Q E hr hg h => ?_
  obtain ⟨_, rfl, a, ns, rfl, hS, q⟩ := h
  refine ⟨_, (pss_one (ps_ret (pe_disp (pps_cons pe_str (pv 0) (pps_cons pe_str pe_int (pps_cons pe_str pe_int pps_nil))) (by rfl) (by rfl) (fun z => by cases z) (by decide)))), ?_⟩
  intro d hd
  refine ⟨_, rfl, upd_same, penD a 0 0, rfl, (by show 3 ≤ 15; decide), ?_⟩
  rw [merge_pen]
  have e : upd (upd H d (.dK [])) d (.dK (penD a 0 0)) = upd H d (.dK (penD a 0 0)) := upd_upd
  rw [e]
  exact q d _ hd (same_new hd) ⟨(same_new hd).seq hS, 0, 0, upd_same, by decide, by decide, by decide⟩
theorem p629 : (0 : Int) < 2147483629 := by decide
theorem p587 : (0 : Int) < 2147483587 := by decide
theorem p563 : (0 : Int) < 2147483563 := by decide
theorem ok_law_draw (T : Txt K mg) : Fn P w K mg base 1 "_law_draw" ["_law_pen_here", "_law_many"] (sp2 (rDraw K)) := by
  refine T.d_law_draw.ok sc_law_draw len2 fun f cdv A outer s H vs Q E hr hg h => ?_
  obtain ⟨_, _, rfl, d, a, ns, c, many, rfl, rfl, ⟨hS, n, m, hd, n0, n1, m0⟩, p0, p1, hc, q⟩ := h
  have hu := hu_of hr
  refine ⟨_, (pss_cons (ps_if (pt_cmpR op_gt (pe_dget hu (pv 0) pe_str (fun _ _ => rfl)) pe_int (nomark _))
(pss_cons (ps_set (i := 2) sc_law_draw.nd rfl (Or.inl rfl) (pe_op op_mod (pe_dget hu (pv 0) pe_str (fun _ _ => rfl)) (pv 1)))
(pss_cons (ps_dput hu (pv 0) pe_str (pe_op op_fdiv (pe_dget hu (pv 0) pe_str (fun _ _ => rfl)) (pv 1)) rfl)
(pss_one (ps_ret (pv 2)))))
pss_nil)
(pss_cons (ps_set (i := 3) sc_law_draw.nd rfl (Or.inl rfl) (pe_dget hu (pv 0) pe_str (fun _ _ => rfl)))
(pss_cons (ps_dput hu (pv 0) pe_str (pe_op op_add (pv 3) pe_int) rfl)
(pss_cons (ps_set (i := 4) sc_law_draw.nd rfl (Or.inl rfl) (pe_op op_add (pe_op op_add (pe_op op_mul (pe_op op_mul pe_int (pv 3)) (pv 3)) (pe_op op_mul pe_int (pv 3))) pe_int))
(pss_cons (ps_if (pt_cmpR op_gt (pe_callB call_len_seq (by rfl) T.n_len (by decide +kernel) (pa_cons (pe_dget hu (pv 0) pe_str (fun _ _ => rfl)) pa_nil)) pe_int (nomark _))
(pss_cons (ps_set (i := 4) sc_law_draw.nd rfl (Or.inl rfl) (pe_ix ix_list (pe_dget hu (pv 0) pe_str (fun _ _ => rfl)) (pe_op op_mod (pv 3) (pe_callB call_len_seq (by rfl) T.n_len (by decide +kernel) (pa_cons (pe_dget hu (pv 0) pe_str (fun _ _ => rfl)) pa_nil))) (fun _ _ => rfl)))
(pss_one (ps_if (PW.pt (pw_and (pt_cmpR op_lt (pv 3) (pe_callB call_len_seq (by rfl) T.n_len (by decide +kernel) (pa_cons (pe_dget hu (pv 0) pe_str (fun _ _ => rfl)) pa_nil)) (nomark _)) (pw_and1 (pt_cmpR op_ge (pe_callB call_abs (by rfl) T.n_abs (by decide +kernel) (pa_cons (pv 4) pa_nil)) (pe_op op_pow pe_int pe_int) (nomark _)))))
(pss_cons (ps_dput hu (pv 0) pe_str (pe_op op_fdiv (pe_callB call_abs (by rfl) T.n_abs (by decide +kernel) (pa_cons (pv 4) pa_nil)) (pv 1)) rfl)
(pss_one (ps_ret (pe_op op_mod (pe_callB call_abs (by rfl) T.n_abs (by decide +kernel) (pa_cons (pv 4) pa_nil)) (pv 1)))))
pss_nil)))
pss_nil)
(pss_cons (ps_set (i := 5) sc_law_draw.nd rfl (Or.inl rfl) (pe_op op_mod (pe_op op_mul (pe_op op_add (pe_op op_add (pe_op op_mod (pv 4) pe_int) (pe_op op_mul pe_int (pv 3))) pe_int) pe_int) pe_int))
(pss_cons (ps_set (i := 5) sc_law_draw.nd rfl (Or.inl rfl) (pe_op op_mod (pe_op op_add (pe_op op_add (pe_op op_mul (pv 5) (pv 5)) (pe_op op_mul pe_int (pv 5))) (pv 3)) pe_int))
(pss_one (ps_ret (pe_op op_mod (pe_op op_fdiv (pv 5) pe_int) (pv 1))))))))))), ?_⟩
  refine ⟨_, rfl, d, _, rfl, dg_left hd, _, _, rfl, rfl, _, rfl, ite2 (fun e => ?_) (fun e => ?_)⟩
  · have hm : 0 < m := of_decide_eq_true e
    refine ⟨_, rfl, d, _, rfl, dg_left hd, _, rfl, _, _, rfl, rfl, p0, ?_⟩
    refine ⟨_, rfl, d, _, rfl, dg_left hd, _, rfl, _, _, rfl, rfl, ⟨p0, p1⟩, _, rfl, d, _, rfl, dp_left hd, ?_⟩
    refine ⟨_, rfl, ?_⟩
    exact q _ _ (Int.emod_nonneg _ (by omega)) (Int.emod_lt_of_pos _ p0) ⟨sq_but But.upd hd hS, n, m / many, upd_same, n0, by omega, Int.ediv_nonneg m0 (by omega)⟩ But.upd
  · -- at
    refine ⟨_, rfl, d, _, rfl, dg_at hd, ?_⟩
    refine ⟨_, rfl, _, _, rfl, rfl, _, rfl, d, _, rfl, dp_at hd, ?_⟩
    have hd1 : (upd H d (.dK (penD a (n + 1) m))) d = some (.dK (penD a (n + 1) m)) := upd_same
    have hS1 : SqL K (upd H d (.dK (penD a (n + 1) m))) a (ns.map V.int) := sq_but But.upd hd hS
    have hP1 : Pen K (upd H d (.dK (penD a (n + 1) m))) d a ns (c + 1) := ⟨hS1, n + 1, m, hd1, by omega, by omega, m0⟩
    -- cell
    refine ⟨_, rfl, _, _, rfl, rfl, .inl ⟨by decide, by decide⟩, _, rfl, _, _, rfl, rfl, .inr ⟨by omega, by omega⟩, _, rfl, _, _, rfl, rfl, .inl ⟨by decide, by decide⟩, _, _, rfl, rfl, _, _, rfl, rfl, ?_⟩
    -- the end, whatever the cell
    have fin : ∀ (cell : Int), 0 ≤ (((cell % 2147483629 + 40993 * n + 5) * 48271 % 2147483587 * ((cell % 2147483629 + 40993 * n + 5) * 48271 % 2147483587) + 69941 * ((cell % 2147483629 + 40993 * n + 5) * 48271 % 2147483587) + n) % 2147483563 / 32 % many) ∧
        (((cell % 2147483629 + 40993 * n + 5) * 48271 % 2147483587 * ((cell % 2147483629 + 40993 * n + 5) * 48271 % 2147483587) + 69941 * ((cell % 2147483629 + 40993 * n + 5) * 48271 % 2147483587) + n) % 2147483563 / 32 % many) < many := fun cell =>
      ⟨Int.emod_nonneg _ (by omega), Int.emod_lt_of_pos _ p0⟩
    refine ⟨_, rfl, d, _, rfl, dg_cells hd1, a, _, rfl, .inl hS1, _, _, rfl, rfl, _, rfl, ite2 (fun e1 => ?_) (fun e1 => ?_)⟩
    · have hl : (0 : Int) < ((ns.map V.int).length : Int) := of_decide_eq_true e1
      obtain ⟨z, hz⟩ := cell_at (ns := ns) (i := n % ((ns.map V.int).length : Int)) (Int.emod_nonneg _ (by omega)) (Int.emod_lt_of_pos _ hl)
      refine ⟨_, rfl, d, _, rfl, dg_cells hd1, _, rfl, _, rfl, d, _, rfl, dg_cells hd1, a, _, rfl, .inl hS1, _, _, rfl, rfl, hl, a, _, _, _, rfl, rfl, hS1, hz, ?_⟩
      refine ⟨_, rfl, _, rfl, d, _, rfl, dg_cells hd1, a, _, rfl, .inl hS1, _, _, rfl, rfl, _, rfl, ite2 (fun e2 => ?_) (fun e2 => ?_)⟩
      · refine ⟨_, rfl, _, rfl, 10, 18, rfl, rfl, ⟨by decide, by decide, by decide⟩, _, _, rfl, rfl, _, rfl, ite2 (fun e3 => ?_) (fun e3 => ?_)⟩
        · refine ⟨_, rfl, _, rfl, _, rfl, _, _, rfl, rfl, ⟨p0, p1⟩, _, rfl, d, _, rfl, dp_left hd1, ?_⟩
          refine ⟨_, rfl, _, rfl, _, rfl, _, _, rfl, rfl, p0, ?_⟩
          rw [abs_eq]
          refine q _ _ (Int.emod_nonneg _ (by omega)) (Int.emod_lt_of_pos _ p0) ⟨sq_but But.upd hd1 hS1, n + 1, _, upd_same, by omega, by omega, Int.ediv_nonneg (Int.natCast_nonneg _) (by omega)⟩ (But.trans But.upd But.upd)
        · refine ⟨_, rfl, _, _, rfl, rfl, p629, _, rfl, _, _, rfl, rfl, .inl ⟨by decide, by decide⟩, _, _, rfl, rfl, _, _, rfl, rfl, _, _, rfl, rfl, .inr ⟨by decide, by decide⟩, _, _, rfl, rfl, p587, ?_⟩
          refine ⟨_, rfl, _, rfl, _, _, rfl, rfl, .inl ?_, _, rfl, _, _, rfl, rfl, .inl ⟨by decide, by decide⟩, _, _, rfl, rfl, _, rfl, _, _, rfl, rfl, _, _, rfl, rfl, p563, ?_⟩
          · have h1 := Int.emod_nonneg ((z % 2147483629 + 40993 * n + 5) * 48271) (show (2147483587 : Int) ≠ 0 by decide)
            have h2 := Int.emod_lt_of_pos ((z % 2147483629 + 40993 * n + 5) * 48271) (show (0 : Int) < 2147483587 by decide)
            omega
          · refine ⟨_, rfl, _, _, rfl, rfl, ⟨by decide, by decide⟩, _, rfl, _, _, rfl, rfl, p0, ?_⟩
            exact q _ _ (fin z).1 (fin z).2 hP1 But.upd
      · refine ⟨_, rfl, _, _, rfl, rfl, p629, _, rfl, _, _, rfl, rfl, .inl ⟨by decide, by decide⟩, _, _, rfl, rfl, _, _, rfl, rfl, _, _, rfl, rfl, .inr ⟨by decide, by decide⟩, _, _, rfl, rfl, p587, ?_⟩
        refine ⟨_, rfl, _, rfl, _, _, rfl, rfl, .inl ?_, _, rfl, _, _, rfl, rfl, .inl ⟨by decide, by decide⟩, _, _, rfl, rfl, _, rfl, _, _, rfl, rfl, _, _, rfl, rfl, p563, ?_⟩
        · have h1 := Int.emod_nonneg ((z % 2147483629 + 40993 * n + 5) * 48271) (show (2147483587 : Int) ≠ 0 by decide)
          have h2 := Int.emod_lt_of_pos ((z % 2147483629 + 40993 * n + 5) * 48271) (show (0 : Int) < 2147483587 by decide)
          omega
        · refine ⟨_, rfl, _, _, rfl, rfl, ⟨by decide, by decide⟩, _, rfl, _, _, rfl, rfl, p0, ?_⟩
          exact q _ _ (fin z).1 (fin z).2 hP1 But.upd
    · refine ⟨_, rfl, _, _, rfl, rfl, p629, _, rfl, _, _, rfl, rfl, .inl ⟨by decide, by decide⟩, _, _, rfl, rfl, _, _, rfl, rfl, _, _, rfl, rfl, .inr ⟨by decide, by decide⟩, _, _, rfl, rfl, p587, ?_⟩
      refine ⟨_, rfl, _, rfl, _, _, rfl, rfl, .inl ?_, _, rfl, _, _, rfl, rfl, .inl ⟨by decide, by decide⟩, _, _, rfl, rfl, _, rfl, _, _, rfl, rfl, _, _, rfl, rfl, p563, ?_⟩
      · have h1 := Int.emod_nonneg (((70003 * n * n + 19 * n + 11) % 2147483629 + 40993 * n + 5) * 48271) (show (2147483587 : Int) ≠ 0 by decide)
        have h2 := Int.emod_lt_of_pos (((70003 * n * n + 19 * n + 11) % 2147483629 + 40993 * n + 5) * 48271) (show (0 : Int) < 2147483587 by decide)
        omega
      · refine ⟨_, rfl, _, _, rfl, rfl, ⟨by decide, by decide⟩, _, rfl, _, _, rfl, rfl, p0, ?_⟩
        exact q _ _ (fin (70003 * n * n + 19 * n + 11)).1 (fin (70003 * n * n + 19 * n + 11)).2 hP1 But.upd

def rWh : V → Hp → VK → Prop := fun x H Q => ∃ i, x = .int i ∧ Q (.bl true) H
theorem ok_law_whole (T : Txt K mg) : Fn P w K mg base 1 "_law_whole" ["_law_thing"] (sp1 rWh) := by
  refine T.d_law_whole.ok sc_law_whole len1 fun f cdv A outer s H vs Q E hr hg h => ?_
  obtain ⟨_, rfl, i, rfl, q⟩ := h
  refine ⟨_, (pss_one (ps_ret (pe_and (pe_callB call_isi (by rfl) T.n_isinstance (by decide +kernel) (pa_cons (pv 0) (pa_cons (pe_bltn (v := .ty "int") (by rfl) T.n_int (by decide +kernel) rfl) pa_nil))) (pe_one (pe_not (pe_callB call_isi (by rfl) T.n_isinstance (by decide +kernel) (pa_cons (pv 0) (pa_cons (pe_bltn (v := .ty "bool") (by rfl) T.n_bool (by decide +kernel) rfl) pa_nil)))))))), ?_⟩
  refine ⟨_, rfl, _, _, _, _, true, rfl, .ty "int", .base (.int _), kit_ty (by decide +kernel), true, rfl, iteT ?_⟩
  refine ⟨_, rfl, _, _, _, _, false, rfl, .ty "bool", .base (.int _), kit_ty (by decide +kernel), false, rfl, ?_⟩
  exact q

/-! ### told primes on the heap -/
def PL (H : Hp) (D : Addr) (ps : List (Int × Int)) : Prop := ∃ ts : List Addr, H D = some (.lst (ts.map V.ref)) ∧ Paired (fun t (pe : Int × Int) => H t = some (.tup [.int pe.1, .int pe.2])) ts ps
theorem pl_len {H : Hp} {ts : List Addr} {ps : List (Int × Int)} (h : Paired (fun t (pe : Int × Int) => H t = some (.tup [.int pe.1, .int pe.2])) ts ps) : ts.length = ps.length := Paired.length h
theorem paired_snoc {α β : Type} {R : α → β → Prop} {a : α} {b : β} (hr : R a b) : ∀ {l : List α} {m : List β}, Paired R l m → Paired R (l ++ [a]) (m ++ [b])
  | _, _, .nil => .cons hr .nil
  | _, _, .cons h t => .cons h (paired_snoc hr t)
theorem paired_get {α β : Type} {R : α → β → Prop} : ∀ {l : List α} {m : List β} {i : Nat} {a : α}, Paired R l m → l[i]? = some a → ∃ b, m[i]? = some b ∧ R a b
  | _, _, _, _, .nil, e => by simp at e
  | _, _, 0, _, .cons h _, e => by
    have e1 := Option.some.inj e
    subst e1
    exact ⟨_, rfl, h⟩
  | _, _, i + 1, a, .cons _ t, e => paired_get (i := i) (a := a) t e
/-- lists and tuples stay -/
def Stays (H H' : Hp) : Prop := ∀ b xs, (H b = some (.lst xs) → H' b = some (.lst xs)) ∧ (H b = some (.tup xs) → H' b = some (.tup xs))
theorem stays_same {H H' : Hp} (h : Same H H') : Stays H H' := fun b xs => ⟨h b _, h b _⟩
theorem stays_but {H H' : Hp} {d : Addr} {kvs : List (Key × V)} (h : But d H H') (hd : H d = some (.dK kvs)) : Stays H H' := fun b xs =>
  ⟨fun e => h b _ (ne_of e hd (by intro z; cases z)) e, fun e => h b _ (ne_of e hd (by intro z; cases z)) e⟩
theorem PL.stays {H H' : Hp} {D : Addr} {ps : List (Int × Int)} (h : PL H D ps) (s : Stays H H') : PL H' D ps := by
  obtain ⟨ts, h1, h2⟩ := h
  exact ⟨ts, (s _ _).1 h1, Paired.mapP h2 fun t pe e => (s _ _).2 e⟩
theorem PL.other {H : Hp} {D A : Addr} {ps : List (Int × Int)} {xs ys : List V} (h : PL H D ps) (hA : H A = some (.lst xs)) (n : D ≠ A) : PL (upd H A (.lst ys)) D ps := by
  obtain ⟨ts, h1, h2⟩ := h
  refine ⟨ts, by rw [upd_ne n]; exact h1, Paired.mapP h2 fun t pe e => ?_⟩
  rw [upd_ne (ne_of e hA (by intro z; cases z))]
  exact e
theorem PL.app {H : Hp} {D t : Addr} {ps : List (Int × Int)} {p e : Int} {xs : List V} (h : PL H D ps) (ht : H t = none) (hx : H D = some (.lst xs)) : PL (upd (upd H t (.tup [.int p, .int e])) D (.lst (xs ++ [.ref t]))) D (ps ++ [(p, e)]) := by
  obtain ⟨ts, h1, h2⟩ := h
  rw [hx] at h1
  have e1 : xs = ts.map V.ref := by
    injection h1 with h1
    injection h1
  have nD : D ≠ t := ne_of_none hx ht
  refine ⟨ts ++ [t], by rw [upd_same, e1, List.map_append]; rfl, paired_snoc ?_ (Paired.mapP h2 fun b pe z => ?_)⟩
  · rw [upd_ne nD.symm, upd_same]
  · rw [upd_ne (ne_of z hx (by intro z; cases z)), upd_ne (ne_of_none z ht)]
    exact z
/-! ### primes_of -/
theorem sq1000 {p m : Int} (h : p * p ≤ m) (hm : m ≤ 1000000) (hp : 0 ≤ p) : p ≤ 1000 := by
  by_cases h1 : p ≤ 1000
  · exact h1
  · have : (1001 : Int) * 1001 ≤ p * p := Int.mul_le_mul (by omega) (by omega) (by omega) (by omega)
    omega
theorem rest_le {ps : List (Int × Int)} {m n lim : Int} (h : prod ps * m = n) (hr : Rise lim ps) (hm : 1 ≤ m) (hn : n ≤ 1000000) : m ≤ 1000000 := by
  have hp := prod_pos hr.pr
  have : 1 * m ≤ prod ps * m := Int.mul_le_mul_of_nonneg_right (by omega) (by omega)
  omega
def rPrimes : V → Hp → VK → Prop := fun x H Q => ∃ n : Int, x = .int n ∧ 1 ≤ n ∧ n ≤ 1000000 ∧
  ∀ (ps : List (Int × Int)) (D : Addr) (H' : Hp) (lim : Int), prod ps = n → Rise lim ps → ps.length ≤ 1002 → Same H H' → H D = none → PL H' D ps → Q (.ref D) H'
theorem same_app {H H1 : Hp} {D t : Addr} {o u : HO} (s : Same H H1) (hD : H D = none) (ht : H1 t = none) : Same H (upd (upd H1 t o) D u) := fun b z e => by
  rw [upd_ne (ne_of_none e hD), upd_ne (ne_of_none (s b z e) ht)]
  exact s b z e
theorem ok_primes_of (T : Txt K mg) : Fn P w K mg base 1 "primes_of" ["n"] (sp1 rPrimes) := by
  refine T.d_primes_of.ok sc_primes_of len1 fun f cdv A outer s H vs Q E hr hg h => ?_
  obtain ⟨_, rfl, n, rfl, n1, n2, q⟩ := h
  refine ⟨_, (pss_cons (ps_set (i := 1) sc_primes_of.nd rfl (Or.inl rfl) (pe_lst pa_nil))
(pss_cons (ps_set (i := 2) sc_primes_of.nd rfl (Or.inl rfl) pe_int)
(pss_cons (ps_while PassesOwn.never (pt_cmpR op_le (pe_op op_mul (pv 2) (pv 2)) (pv 0) (nomark _))
(pss_cons (ps_set (i := 3) sc_primes_of.nd rfl (Or.inl rfl) pe_int)
(pss_cons (ps_while PassesOwn.never (pt_cmpR op_eq (pe_op op_mod (pv 0) (pv 2)) pe_int (nomark _))
(pss_cons (ps_aug (i := 0) sc_primes_of.nd rfl (.inl rfl) (pv 2) iop_fdiv)
(pss_one (ps_aug (i := 3) sc_primes_of.nd rfl (.inl rfl) pe_int ip_add))))
(pss_cons (ps_if (pt_cmpR op_gt (pv 3) pe_int (nomark _))
(pss_one (ps_expr (pe_bm PySem.F.plainAttrs_list PySem.F.slot_list_append PySem.F.type_list_append mt_append (pv 1) (pa_cons (pe_tup (pa_cons (pv 2) (pa_cons (pv 3) pa_nil))) pa_nil))))
pss_nil)
(pss_one (ps_aug (i := 2) sc_primes_of.nd rfl (.inl rfl) pe_int ip_add))))))
(pss_cons (ps_if (pt_cmpR op_gt (pv 0) pe_int (nomark _))
(pss_one (ps_expr (pe_bm PySem.F.plainAttrs_list PySem.F.slot_list_append PySem.F.type_list_append mt_append (pv 1) (pa_cons (pe_tup (pa_cons (pv 0) (pa_cons pe_int pa_nil))) pa_nil))))
pss_nil)
(pss_one (ps_ret (pv 1))))))), ?_⟩
  refine ⟨Nat.zero_le _, fun D nD => ?_⟩
  -- the outer while
  refine ⟨fun k σ H' => ∃ (m p : Int) (ps : List (Int × Int)) (o3 : Option V), σ = [some (.int m), some (.ref D), some (.int p), o3] ∧ Same H H' ∧ PL H' D ps ∧ prod ps * m = n ∧ Rise p ps ∧ Rough p m ∧ 1 ≤ m ∧ 2 ≤ p ∧ p ≤ 1001 ∧ (ps.length : Int) ≤ p ∧ k = (1002 - p).toNat,
    ⟨_, n, 2, [], none, rfl, same_new nD, ⟨[], upd_same, .nil⟩, by simp [prod], rise_nil _, fun d h1 h2 => by omega, n1, by decide, by decide, by decide, rfl⟩, ?_⟩
  rintro k σ H1 ⟨m, p, ps, o3, rfl, sm, hpl, hn, ri, ro, m1, p2, p3, pl, rfl⟩
  have m6 := rest_le hn ri m1 n2
  refine ⟨_, rfl, _, rfl, _, _, rfl, rfl, .inl ⟨by omega, by omega⟩, _, rfl, _, _, rfl, rfl, _, rfl, ite2 (fun e => ?_) (fun e => ?_)⟩
  · have hsq : p * p ≤ m := of_decide_eq_true e
    have p4 := sq1000 hsq m6 (by omega)
    refine ⟨fun σ' H' => ∃ (m' p' : Int) (ps' : List (Int × Int)) (o3' : Option V), σ' = [some (.int m'), some (.ref D), some (.int p'), o3'] ∧ Same H H' ∧ PL H' D ps' ∧ prod ps' * m' = n ∧ Rise p' ps' ∧ Rough p' m' ∧ 1 ≤ m' ∧ 2 ≤ p' ∧ p' ≤ 1001 ∧ (ps'.length : Int) ≤ p' ∧ (1002 - p').toNat < (1002 - p).toNat, ?_, ?_⟩
    · rintro σ' H' ⟨m', p', ps', o3', rfl, a1, a2, a3, a4, a5, a6, a7, a8, a9, a10⟩
      exact ⟨_, a10, m', p', ps', o3', rfl, a1, a2, a3, a4, a5, a6, a7, a8, a9, rfl⟩
    -- often = 0, the inner while
    refine ⟨fun k σ H' => ∃ (m' : Int) (c : Nat), σ = [some (.int m'), some (.ref D), some (.int p), some (.int (c : Int))] ∧ H' = H1 ∧ 1 ≤ m' ∧ m = p ^ c * m' ∧ k = m'.toNat,
      ⟨_, m, 0, rfl, rfl, m1, by simp, rfl⟩, ?_⟩
    rintro k σ H' ⟨m', c, rfl, rfl, m1', em, rfl⟩
    refine ⟨_, rfl, _, rfl, _, _, rfl, rfl, (show (0 : Int) < p by omega), rfl, _, rfl, ite2 (fun e2 => ?_) (fun e2 => ?_)⟩
    · have hz : m' % p = 0 := V.int.inj (of_decide_eq_true e2)
      have hd := Int.mul_ediv_add_emod m' p
      rw [hz] at hd
      have q1 : 1 ≤ m' / p := by
        have h0 : 0 ≤ m' / p := Int.ediv_nonneg (by omega) (by omega)
        rcases (show m' / p = 0 ∨ 1 ≤ m' / p by omega) with z | z
        · rw [z] at hd
          omega
        · exact z
      have q2 : m' / p < m' := by
        have : 2 * (m' / p) ≤ p * (m' / p) := Int.mul_le_mul_of_nonneg_right p2 (by omega)
        omega
      refine ⟨fun σ' H'' => ∃ (m2 : Int) (c2 : Nat), σ' = [some (.int m2), some (.ref D), some (.int p), some (.int (c2 : Int))] ∧ H'' = H' ∧ 1 ≤ m2 ∧ m = p ^ c2 * m2 ∧ m2.toNat < m'.toNat, ?_, ?_⟩
      · rintro σ' H'' ⟨m2, c2, rfl, rfl, a1, a2, a3⟩
        exact ⟨_, a3, m2, c2, rfl, rfl, a1, a2, rfl⟩
      · refine ⟨_, rfl, _, rfl, m', p, rfl, rfl, ⟨by omega, by omega⟩, ?_⟩
        refine ⟨_, rfl, _, _, rfl, rfl, m' / p, c + 1, rfl, rfl, q1, ?_, by omega⟩
        rw [em, Int.pow_succ, Int.mul_assoc]
        have : p * (m' / p) = m' := by omega
        rw [this]
    · have hz : ¬ p ∣ m' := fun z => e2 (decide_eq_true (congrArg V.int (Int.emod_eq_zero_of_dvd z)))
      have hdm : m' ∣ m := ⟨p ^ c, by rw [em, Int.mul_comm]⟩
      have ro' : Rough (p + 1) m' := rough_next (rough_dvd ro hdm) hz
      refine ⟨_, rfl, _, _, rfl, rfl, _, rfl, ite2 (fun e3 => ?_) (fun e3 => ?_)⟩
      · have hc : (0 : Int) < (c : Int) := of_decide_eq_true e3
        obtain ⟨c', rfl⟩ : ∃ c', c = c' + 1 := ⟨c - 1, by omega⟩
        have hdp : p ∣ m := ⟨p ^ c' * m', by rw [em, Int.pow_succ, Int.mul_comm (p ^ c') p, Int.mul_assoc]⟩
        obtain ⟨ts, hD, hts⟩ := id hpl
        refine ⟨_, rfl, .inl ⟨rfl, _, SqL.of hD⟩, _, rfl, _, rfl, (by show 2 ≤ sizeLine; decide), fun t ht => ?_⟩
        have hD2 : (upd H' t (.tup [.int p, .int ((c' + 1 : Nat) : Int)])) D = some (.lst (ts.map V.ref)) := by
          rw [upd_ne (ne_of_none hD ht)]
          exact hD
        refine ⟨D, _, _, rfl, rfl, hD2, ?_, ?_⟩
        · rw [List.length_map, pl_len hts]
          exact small1000 (by omega)
        · refine ⟨_, rfl, _, _, rfl, rfl, m', p + 1, ps ++ [(p, ((c' + 1 : Nat) : Int))], _, rfl, same_app sm nD ht, hpl.app ht hD, ?_, ri.snoc (pri_least p2 ro hdp) (by omega) (Int.le_refl _), ro', m1', by omega, by omega, ?_, by omega⟩
          · rw [prod_snoc, Int.toNat_natCast, Int.mul_assoc, ← em]
            exact hn
          · have el : (ps ++ [(p, ((c' + 1 : Nat) : Int))]).length = ps.length + 1 := by simp
            rw [el]
            omega
      · have hc : ¬ (0 : Int) < (c : Int) := of_decide_eq_false (Bool.eq_false_iff.mpr e3)
        have hc0 : c = 0 := by omega
        subst hc0
        have em' : m = m' := by simpa using em
        subst em'
        exact ⟨_, rfl, _, _, rfl, rfl, m, p + 1, ps, _, rfl, sm, hpl, hn, ri.mono (by omega), ro', m1, by omega, by omega, by omega, by omega⟩
  · have hsq : ¬ p * p ≤ m := of_decide_eq_false (Bool.eq_false_iff.mpr e)
    refine ⟨_, rfl, _, _, rfl, rfl, _, rfl, ite2 (fun e2 => ?_) (fun e2 => ?_)⟩
    · have hm : 1 < m := of_decide_eq_true e2
      have hpm : p ≤ m := by
        by_cases z : p ≤ m
        · exact z
        · exact absurd (Int.dvd_refl m) (ro m (by omega) (by omega))
      obtain ⟨ts, hD, hts⟩ := id hpl
      refine ⟨_, rfl, .inl ⟨rfl, _, SqL.of hD⟩, _, rfl, (by show 2 ≤ sizeLine; decide), fun t ht => ?_⟩
      have hD2 : (upd H1 t (.tup [.int m, .int 1])) D = some (.lst (ts.map V.ref)) := by
        rw [upd_ne (ne_of_none hD ht)]
        exact hD
      refine ⟨D, _, _, rfl, rfl, hD2, ?_, ?_⟩
      · rw [List.length_map, pl_len hts]
        exact Nat.lt_of_le_of_lt (show ps.length ≤ 1001 by omega) (by decide)
      · refine ⟨_, rfl, ?_⟩
        refine q (ps ++ [(m, 1)]) D _ (m + 1) ?_ (ri.snoc (pri_rest hm ro (by omega) p2) (by decide) hpm) ?_ (same_app sm nD ht) nD (hpl.app ht hD)
        · rw [prod_snoc]
          have : m ^ (1 : Int).toNat = m := by
            rw [show (1 : Int).toNat = 0 + 1 from rfl, Int.pow_succ, Int.pow_zero, Int.one_mul]
          rw [this]
          exact hn
        · have el : (ps ++ [(m, (1 : Int))]).length = ps.length + 1 := by simp
          rw [el]
          omega
    · have hm : ¬ 1 < m := of_decide_eq_false (Bool.eq_false_iff.mpr e2)
      have hm1 : m = 1 := by omega
      subst hm1
      refine ⟨_, rfl, ?_⟩
      exact q ps D _ p (by simpa using hn) ri (by omega) sm nD hpl
/-! ### the law's own prime -/
def rPri : V → Hp → VK → Prop := fun x H Q => ∃ n : Int, x = .int n ∧ Pri n ∧ n ≤ 1000000 ∧ Q (.bl true) H
theorem ok_law_prime (T : Txt K mg) : Fn P w K mg base 1 "_law_prime" ["_law_n"] (sp1 rPri) := by
  refine T.d_law_prime.ok sc_law_prime len1 fun f cdv A outer s H vs Q E hr hg h => ?_
  obtain ⟨_, rfl, n, rfl, hp, n2, q⟩ := h
  refine ⟨_, (pss_cons (ps_set (i := 1) sc_law_prime.nd rfl (Or.inl rfl) pe_int)
(pss_cons (ps_while PassesOwn.never (pt_cmpR op_le (pe_op op_mul (pv 1) (pv 1)) (pv 0) (nomark _))
(pss_cons (ps_if (pt_cmpR op_eq (pe_op op_mod (pv 0) (pv 1)) pe_int (nomark _))
(pss_one (ps_ret pe_bl))
pss_nil)
(pss_one (ps_set (i := 1) sc_law_prime.nd rfl (Or.inl rfl) (pe_op op_add (pv 1) pe_int)))))
(pss_one (ps_ret (pe_cmpR op_gt (pv 0) pe_int (nomark _)))))), ?_⟩
  refine ⟨fun k σ H' => ∃ b : Int, σ = [some (.int n), some (.int b)] ∧ H' = H ∧ 2 ≤ b ∧ b ≤ 1001 ∧ k = (1002 - b).toNat, ⟨_, 2, rfl, rfl, by decide, by decide, rfl⟩, ?_⟩
  rintro k σ H' ⟨b, rfl, rfl, b2, b3, rfl⟩
  refine ⟨_, rfl, _, rfl, _, _, rfl, rfl, .inl ⟨by omega, by omega⟩, _, rfl, _, _, rfl, rfl, _, rfl, ite2 (fun e => ?_) (fun e => ?_)⟩
  · have hsq : b * b ≤ n := of_decide_eq_true e
    have b4 := sq1000 hsq n2 (by omega)
    refine ⟨fun σ' H'' => ∃ b' : Int, σ' = [some (.int n), some (.int b')] ∧ H'' = H' ∧ 2 ≤ b' ∧ b' ≤ 1001 ∧ (1002 - b').toNat < (1002 - b).toNat, ?_, ?_⟩
    · rintro σ' H'' ⟨b', rfl, rfl, a1, a2, a3⟩
      exact ⟨_, a3, b', rfl, rfl, a1, a2, rfl⟩
    · refine ⟨_, rfl, _, rfl, _, _, rfl, rfl, (show (0 : Int) < b by omega), rfl, _, rfl, ?_⟩
      refine iteN (fun z => hp.2 b b2 hsq (Int.dvd_of_emod_eq_zero (V.int.inj z))) ?_
      exact ⟨_, rfl, _, _, rfl, rfl, b + 1, rfl, rfl, by omega, by omega, by omega⟩
  · refine ⟨_, rfl, _, _, rfl, rfl, ?_⟩
    exact qS (Q := Q) (show 1 < n by have := hp.1; omega) q
/-! ### right -/
theorem mem_le {l : List (Int × Int)} {N : Int} (hN : prod l = N) (h : ∀ x ∈ l, Pri x.1) (ho : ∀ x ∈ l, 1 ≤ x.2) {p e : Int} (hm : (p, e) ∈ l) : p ≤ N := by
  obtain ⟨a, b, rfl⟩ := List.append_of_mem hm
  have hp : Pri p := h (p, e) hm
  have he : 1 ≤ e := ho (p, e) hm
  have ha : 0 < prod a := prod_pos fun x hx => h x (List.mem_append.mpr (.inl hx))
  have hb : 0 < prod b := prod_pos fun x hx => h x (List.mem_append.mpr (.inr (List.mem_cons.mpr (.inr hx))))
  rw [prod_append] at hN
  have e1 : prod ((p, e) :: b) = p ^ e.toNat * prod b := rfl
  rw [e1] at hN
  have p0 : 0 < p := by
    have := hp.1
    omega
  have e2 : e.toNat = (e.toNat - 1) + 1 := by omega
  have h1 : 0 < p ^ (e.toNat - 1) := pow_pos' p0 _
  have h2 : 1 * p ≤ p ^ (e.toNat - 1) * p := Int.mul_le_mul_of_nonneg_right (by omega) (by omega)
  have e3 : p ^ e.toNat = p ^ (e.toNat - 1) * p := by
    rw [e2, Int.pow_succ]
    rfl
  rw [← e3] at h2
  have h3 : p ^ e.toNat * 1 ≤ p ^ e.toNat * prod b := Int.mul_le_mul_of_nonneg_left (by omega) (by omega)
  have h4 : 1 * (p ^ e.toNat * prod b) ≤ prod a * (p ^ e.toNat * prod b) := Int.mul_le_mul_of_nonneg_right (by omega) (by omega)
  omega
def rRight : V → V → Hp → VK → Prop := fun x y H Q => ∃ (n : Int) (D : Addr) (ps : List (Int × Int)) (lim : Int), x = .int n ∧ y = .ref D ∧ PL H D ps ∧ prod ps = n ∧ n ≤ 1000000 ∧ Rise lim ps ∧ Q (.bl true) H
theorem ok_law_right (T : Txt K mg) : Fn P w K mg base 2 "_law_right" ["_law_n", "_law_told"] (sp2 rRight) := by
  have G_law_whole := ok_law_whole (P := P) (w := w) (base := base) T
  have G_law_prime := ok_law_prime (P := P) (w := w) (base := base) T
  refine T.d_law_right.ok sc_law_right len2 fun f cdv A outer s H vs Q E hr hg h => ?_
  obtain ⟨_, _, rfl, n, D, ps, lim, rfl, rfl, hpl, hn, n2, ri, q⟩ := h
  obtain ⟨ts, hD, hts⟩ := id hpl
  refine ⟨_, (pss_cons (ps_if (pt_not (pt_val (pe_callB call_isi (by rfl) T.n_isinstance (by decide +kernel) (pa_cons (pv 1) (pa_cons (pe_bltn (v := .ty "list") (by rfl) T.n_list (by decide +kernel) rfl) pa_nil)))))
(pss_one (ps_ret pe_bl))
pss_nil)
(pss_cons (ps_set (i := 2) sc_law_right.nd rfl (Or.inl rfl) pe_int)
(pss_cons (ps_set (i := 3) sc_law_right.nd rfl (Or.inl rfl) pe_int)
(pss_cons (ps_for PassesOwn.never rfl (pi_list (pv 1)) (pg_name (i := 4) sc_law_right.nd rfl (Or.inl rfl))
(pss_cons (ps_if (PW.pt (pw_or (pt_not (pt_val (pe_callB call_isi (by rfl) T.n_isinstance (by decide +kernel) (pa_cons (pv 4) (pa_cons (pe_bltn (v := .ty "tuple") (by rfl) T.n_tuple (by decide +kernel) rfl) pa_nil))))) (pw_or (pt_cmpR op_ne (pe_callB call_len_seq (by rfl) T.n_len (by decide +kernel) (pa_cons (pv 4) pa_nil)) pe_int (nomark _)) (pw_or (pt_not (pt_val (pe_fn G_law_whole (hr.mono (by decide)) hg (by rfl) (pa_cons (pe_ix ix_tup (pv 4) pe_int (fun _ _ => rfl)) pa_nil)))) (pw_or1 (pt_not (pt_val (pe_fn G_law_whole (hr.mono (by decide)) hg (by rfl) (pa_cons (pe_ix ix_tup (pv 4) pe_int (fun _ _ => rfl)) pa_nil)))))))))
(pss_one (ps_ret pe_bl))
pss_nil)
(pss_cons (ps_asg (pv 4) (pg_tup rfl (pgs_cons (pg_name (i := 5) sc_law_right.nd rfl (Or.inl rfl)) (pgs_cons (pg_name (i := 6) sc_law_right.nd rfl (Or.inl rfl)) pgs_nil))))
(pss_cons (ps_if (PW.pt (pw_or (pt_cmpR op_le (pv 5) (pv 3) (nomark _)) (pw_or (pt_cmpR op_lt (pv 6) pe_int (nomark _)) (pw_or (pt_cmpR op_gt (pv 6) pe_int (nomark _)) (pw_or1 (pt_not (pt_val (pe_fn G_law_prime (hr.mono (by decide)) hg (by rfl) (pa_cons (pv 5) pa_nil)))))))))
(pss_one (ps_ret pe_bl))
pss_nil)
(pss_cons (ps_for PassesOwn.never rfl (pi_range1 (by rfl) T.n_range (pa_cons (pv 6) pa_nil)) (pg_name (i := 7) sc_law_right.nd rfl (Or.inl rfl))
(pss_one (ps_set (i := 2) sc_law_right.nd rfl (Or.inl rfl) (pe_op op_mul (pv 2) (pv 5)))))
(pss_one (ps_set (i := 3) sc_law_right.nd rfl (Or.inl rfl) (pv 5))))))))
(pss_one (ps_ret (pe_cmpR op_eq (pv 2) (pv 0) (nomark _)))))))), ?_⟩
  refine ⟨_, rfl, _, _, _, _, true, rfl, .ty "list", .base (.lst hD), kit_ty (by decide +kernel), true, rfl, iteF ?_⟩
  refine ⟨_, rfl, D, rfl, ⟨_, SqL.of hD⟩, for_list (K := K) (a := D) (xs := ts.map V.ref) (fun i σ H' => H' = H ∧ ∃ (ah : Int) (o4 o5 o6 o7 : Option V), σ = [some (.int n), some (.ref D), some (.int (prod (ps.take i))), some (.int ah), o4, o5, o6, o7] ∧ ∀ x ∈ ps.drop i, ah < x.1)
    ⟨rfl, 1, none, none, none, none, rfl, fun x hx => ?_⟩ (fun i σ H' _ h => by rw [h.1]; exact SqL.of hD) ?_ ?_⟩
  · have := (ri.pr x (by simpa using hx)).1
    omega
  · rintro i y σ H' hy ⟨rfl, ah, o4, o5, o6, o7, rfl, hah⟩
    rw [List.getElem?_map] at hy
    cases ht : ts[i]? with
    | none =>
      rw [ht] at hy
      cases hy
    | some t =>
      rw [ht] at hy
      have ey : y = V.ref t := (Option.some.inj hy).symm
      subst ey
      obtain ⟨⟨p, e⟩, hpe, hT⟩ := paired_get hts ht
      have hmem : (p, e) ∈ ps := List.mem_of_getElem? hpe
      have hp : Pri p := ri.pr _ hmem
      have e1 : 1 ≤ e := ri.of _ hmem
      have e19 : e ≤ 19 := often19 hn n2 ri.pr hmem
      have pn : p ≤ 1000000 := by
        have := mem_le hn ri.pr ri.of hmem
        omega
      have hil : i < ps.length := (List.getElem?_eq_some_iff.mp hpe).1
      have edrop : ps.drop i = (p, e) :: ps.drop (i + 1) := by
        rw [List.drop_eq_getElem_cons hil]
        have := (List.getElem?_eq_some_iff.mp hpe).2
        rw [this]
      have hap : ah < p := hah (p, e) (by rw [edrop]; exact List.mem_cons.mpr (.inl rfl))
      have hT' : H' t = some (.tup [.int p, .int e]) := hT
      try dsimp only [gName]
      refine if_no (fun H2 => H2 = H') (fun Q2 q2 => ?_) (fun H2 e2 => ?_)
      · refine ⟨_, rfl, _, _, _, _, true, rfl, .ty "tuple", .base (.tup hT'), kit_ty (by decide +kernel), true, rfl, iteF ?_⟩
        refine ⟨_, rfl, t, _, rfl, .inr (SqT.of hT'), rfl, _, rfl, iteF ?_⟩
        refine ⟨_, rfl, t, _, 0, _, rfl, rfl, SqT.of hT', atI_nat (j := 0) rfl, _, rfl, p, rfl, true, rfl, iteF ?_⟩
        refine ⟨_, rfl, t, _, 1, _, rfl, rfl, SqT.of hT', atI_nat (j := 1) rfl, _, rfl, e, rfl, true, rfl, ?_⟩
        exact q2 _ rfl
      subst e2
      refine ⟨_, rfl, t, _, rfl, SqT.of hT', rfl, _, _, rfl, _, _, rfl, rfl, ?_⟩
      try dsimp only [gName]
      refine if_no (fun H3 => H3 = H2) (fun Q2 q2 => ?_) (fun H3 e2 => ?_)
      · refine ⟨_, rfl, _, rfl, _, _, rfl, rfl, _, rfl, iteN (by omega) ?_⟩
        refine ⟨_, rfl, _, _, rfl, rfl, _, rfl, iteN (by omega) ?_⟩
        refine ⟨_, rfl, _, _, rfl, rfl, _, rfl, iteN (by omega) ?_⟩
        refine ⟨_, rfl, _, rfl, p, rfl, hp, pn, true, rfl, ?_⟩
        exact q2 _ rfl
      subst e2
      refine ⟨_, rfl, e, rfl, by omega, by omega, for_range (lo := 0) (n := e.toNat) (fun j σ H4 => H4 = H3 ∧ ∃ o7', σ = [some (.int n), some (.ref D), some (.int (prod (ps.take i) * p ^ j)), some (.int ah), some (.ref t), some (.int p), some (.int e), o7'])
        ⟨rfl, _, by rw [Int.pow_zero, Int.mul_one]; rfl⟩ ?_ ?_⟩
      · rintro j σ H4 hj ⟨rfl, o7', rfl⟩
        refine ⟨_, rfl, _, rfl, _, _, rfl, rfl, .inr ⟨by have := hp.1; omega, by omega⟩, rfl, some (.int (0 + (j : Int))), ?_⟩
        rw [Int.pow_succ, ← Int.mul_assoc]
        rfl
      · rintro σ H4 ⟨rfl, o7', rfl⟩
        refine ⟨_, rfl, rfl, p, some (.ref t), some (.int p), some (.int e), o7', ?_, fun x hx => ?_⟩
        · have ep : prod (ps.take (i + 1)) = prod (ps.take i) * p ^ e.toNat := by
            rw [List.take_add_one, hpe]
            exact prod_snoc p e _
          rw [ep]
          rfl
        · have up := ri.up
          have esplit : ps = ps.take i ++ (p, e) :: ps.drop (i + 1) := by
            rw [← edrop, List.take_append_drop]
          rw [esplit, List.pairwise_append] at up
          exact (List.pairwise_cons.mp up.2.1).1 x hx
  · rintro σ H' ⟨rfl, ah, o4, o5, o6, o7, rfl, hah⟩
    refine ⟨_, rfl, _, rfl, rfl, ?_⟩
    have hl : ps.take (ts.map V.ref).length = ps := by
      rw [List.length_map, pl_len hts]
      exact List.take_length
    refine qS (Q := Q) (congrArg V.int ?_) q
    rw [hl]
    exact hn
/-! ### numbers -/
theorem cell_mem {ns : List Int} {i : Int} (h0 : 0 ≤ i) (h1 : i < (ns.length : Int)) : ∃ z, z ∈ ns ∧ atI (ns.map V.int) i = some (.int z) := by
  have hj : i.toNat < ns.length := by omega
  refine ⟨ns[i.toNat], List.getElem_mem hj, ?_⟩
  have e : ((i.toNat : Nat) : Int) = i := by omega
  have q : atI (ns.map V.int) ((i.toNat : Nat) : Int) = some (.int ns[i.toNat]) := atI_nat (by rw [List.getElem?_map, List.getElem?_eq_getElem hj]; rfl)
  rw [e] at q
  exact q
theorem pen_at {H : Hp} {d a : Addr} {ns : List Int} {c : Int} (h : Pen K H d a ns c) : ∃ kvs, H d = some (.dK kvs) := by
  obtain ⟨_, n, m, e, _⟩ := h
  exact ⟨_, e⟩
def rNum (K : PySem.W.Frag) : V → Hp → VK → Prop := fun p H Q => ∃ (d a : Addr) (ns : List Int) (c : Int), p = .ref d ∧ Pen K H d a ns c ∧ c + 14 ≤ 1000000 ∧
  ∀ r H', 1 ≤ r → r ≤ 1000000 → Pen K H' d a ns (c + 14) → But d H H' → Q (.int r) H'
theorem ok_law_number (T : Txt K mg) : Fn P w K mg base 2 "_law_number" ["_law_pen_here"] (sp1 (rNum K)) := by
  have G_law_draw := ok_law_draw (P := P) (w := w) (base := base) T
  refine T.d_law_number.ok sc_law_number len1 fun f cdv A outer s H vs Q E hr hg h => ?_
  obtain ⟨_, rfl, d, a, ns, c, rfl, hp, hc, q⟩ := h
  refine ⟨_, (pss_cons (ps_set (i := 1) sc_law_number.nd rfl (Or.inl rfl) (pe_fn G_law_draw (hr.mono (by decide)) hg (by rfl) (pa_cons (pv 0) (pa_cons pe_int pa_nil))))
(pss_cons (ps_if (pt_cmpR op_eq (pv 1) pe_int (nomark _))
(pss_one (ps_ret (pe_op op_add pe_int (pe_fn G_law_draw (hr.mono (by decide)) hg (by rfl) (pa_cons (pv 0) (pa_cons pe_int pa_nil))))))
pss_nil)
(pss_cons (ps_if (pt_cmpR op_eq (pv 1) pe_int (nomark _))
(pss_one (ps_ret (pe_op op_sub (pe_op op_pow pe_int pe_int) (pe_fn G_law_draw (hr.mono (by decide)) hg (by rfl) (pa_cons (pv 0) (pa_cons pe_int pa_nil))))))
pss_nil)
(pss_cons (ps_if (pt_cmpR op_eq (pv 1) pe_int (nomark _))
(pss_one (ps_ret (pe_ix ix_tup (pe_tup (pa_cons pe_int (pa_cons pe_int (pa_cons pe_int (pa_cons pe_int (pa_cons pe_int (pa_cons pe_int (pa_cons pe_int (pa_cons pe_int pa_nil))))))))) (pe_fn G_law_draw (hr.mono (by decide)) hg (by rfl) (pa_cons (pv 0) (pa_cons pe_int pa_nil))) (fun _ _ => rfl))))
pss_nil)
(pss_cons (ps_if (pt_cmpR op_lt (pv 1) pe_int (nomark _))
(pss_cons (ps_set (i := 2) sc_law_number.nd rfl (Or.inl rfl) pe_int)
(pss_cons (ps_for PassesOwn.never rfl (pi_range1 (by rfl) T.n_range (pa_cons pe_int pa_nil)) (pg_name (i := 3) sc_law_number.nd rfl (Or.inl rfl))
(pss_cons (ps_set (i := 4) sc_law_number.nd rfl (Or.inl rfl) (pe_ix ix_tup (pe_tup (pa_cons pe_int (pa_cons pe_int (pa_cons pe_int (pa_cons pe_int (pa_cons pe_int (pa_cons pe_int (pa_cons pe_int (pa_cons pe_int (pa_cons pe_int (pa_cons pe_int (pa_cons pe_int pa_nil)))))))))))) (pe_fn G_law_draw (hr.mono (by decide)) hg (by rfl) (pa_cons (pv 0) (pa_cons pe_int pa_nil))) (fun _ _ => rfl)))
(pss_one (ps_if (pt_cmpR op_le (pe_op op_mul (pv 2) (pv 4)) (pe_op op_pow pe_int pe_int) (nomark _))
(pss_one (ps_set (i := 2) sc_law_number.nd rfl (Or.inl rfl) (pe_op op_mul (pv 2) (pv 4))))
pss_nil))))
(pss_one (ps_ret (pv 2)))))
pss_nil)
(pss_one (ps_ret (pe_op op_add pe_int (pe_fn G_law_draw (hr.mono (by decide)) hg (by rfl) (pa_cons (pv 0) (pa_cons (pe_op op_pow pe_int pe_int) pa_nil))))))))))), ?_⟩
  refine ⟨_, rfl, _, _, rfl, d, a, ns, c, _, rfl, rfl, hp, by decide, by decide, by omega, fun way H1 w0 w1 hp1 b1 => ?_⟩
  refine ⟨_, rfl, rfl, _, rfl, ite2 (fun e1 => ?_) (fun e1 => ?_)⟩
  · refine ⟨_, rfl, _, _, rfl, d, a, ns, _, _, rfl, rfl, hp1, by decide, by decide, by omega, fun x H2 x0 x1 hp2 b2 => ?_⟩
    refine ⟨_, _, rfl, rfl, ?_⟩
    exact q _ _ (by omega) (by omega) (hp2.mono (by omega)) (b1.trans b2)
  refine ⟨_, rfl, rfl, _, rfl, ite2 (fun e2 => ?_) (fun e2 => ?_)⟩
  · refine ⟨10, 6, rfl, rfl, ⟨by decide, by decide, by decide⟩, _, rfl, _, _, rfl, d, a, ns, _, _, rfl, rfl, hp1, by decide, by decide, by omega, fun x H2 x0 x1 hp2 b2 => ?_⟩
    refine ⟨_, _, rfl, rfl, ?_⟩
    have e6 : (10 : Int) ^ (6 : Int).toNat = 1000000 := by decide
    refine q _ _ ?_ ?_ (hp2.mono (by omega)) (b1.trans b2)
    · rw [e6]
      omega
    · rw [e6]
      omega
  refine ⟨_, rfl, rfl, _, rfl, ite2 (fun e3 => ?_) (fun e3 => ?_)⟩
  · refine ⟨(by show 8 ≤ sizeLine; decide), fun t ht => ?_⟩
    have hp2 := hp1.same (same_new (o := .tup [.int 1, .int 999983, .int 994009, .int 524288, .int 531441, .int 510510, .int 720720, .int 2]) ht)
    refine ⟨_, rfl, _, _, rfl, d, a, ns, _, _, rfl, rfl, hp2, by decide, by decide, by omega, fun x H2 x0 x1 hp3 b2 => ?_⟩
    obtain ⟨kvs, hdd⟩ := pen_at hp1
    have nt : t ≠ d := (ne_of_none hdd ht).symm
    have ht2 := b2 t _ nt upd_same
    obtain ⟨z, hz, hat⟩ := cell_mem (ns := [1, 999983, 994009, 524288, 531441, 510510, 720720, 2]) x0 x1
    refine ⟨t, _, _, _, rfl, rfl, SqT.of ht2, hat, ?_⟩
    have hz2 : 1 ≤ z ∧ z ≤ 1000000 := by
      simp only [List.mem_cons, List.not_mem_nil, or_false] at hz
      omega
    exact q _ _ hz2.1 hz2.2 (hp3.mono (by omega)) ((b1.trans (But.new ht)).trans b2)
  refine ⟨_, rfl, _, _, rfl, rfl, _, rfl, ite2 (fun e4 => ?_) (fun e4 => ?_)⟩
  · refine ⟨12, rfl, by decide, by decide, for_range (lo := 0) (n := 12) (fun k σ H' => ∃ (v : Int) (o3 o4 : Option V), σ = [some (.ref d), some (.int way), some (.int v), o3, o4] ∧ 1 ≤ v ∧ v ≤ 1000000 ∧ Pen K H' d a ns (c + 1 + k) ∧ But d H H')
      ⟨1, none, none, rfl, by decide, by decide, by simpa using hp1, b1⟩ ?_ ?_⟩
    · rintro k σ H' hk ⟨v, o3, o4, rfl, v1, v2, hp2, b2⟩
      refine ⟨(by show 11 ≤ sizeLine; decide), fun t ht => ?_⟩
      have hp3 := hp2.same (same_new (o := .tup [.int 2, .int 3, .int 5, .int 7, .int 11, .int 13, .int 31, .int 97, .int 101, .int 499, .int 997]) ht)
      refine ⟨_, rfl, _, _, rfl, d, a, ns, _, _, rfl, rfl, hp3, by decide, by decide, by omega, fun x H2 x0 x1 hp4 b3 => ?_⟩
      obtain ⟨kvs, hdd⟩ := pen_at hp2
      have nt : t ≠ d := (ne_of_none hdd ht).symm
      have ht2 := b3 t _ nt upd_same
      obtain ⟨z, hz, hat⟩ := cell_mem (ns := [2, 3, 5, 7, 11, 13, 31, 97, 101, 499, 997]) x0 x1
      refine ⟨t, _, _, _, rfl, rfl, SqT.of ht2, hat, ?_⟩
      have hz2 : 2 ≤ z ∧ z ≤ 997 := by
        simp only [List.mem_cons, List.not_mem_nil, or_false] at hz
        omega
      have bb : But d H H2 := (b2.trans (But.new ht)).trans b3
      have ec : c + 1 + ((k + 1 : Nat) : Int) = c + 1 + k + 1 := by omega
      refine ⟨_, rfl, _, rfl, _, _, rfl, rfl, .inr ⟨by omega, by omega⟩, 10, 6, rfl, rfl, ⟨by decide, by decide, by decide⟩, _, _, rfl, rfl, _, rfl, ite2 (fun e5 => ?_) (fun e5 => ?_)⟩
      · have hle : v * z ≤ 1000000 := of_decide_eq_true e5
        have hge : 1 * 1 ≤ v * z := Int.mul_le_mul (by omega) (by omega) (by omega) (by omega)
        refine ⟨_, rfl, _, rfl, _, _, rfl, rfl, .inr ⟨by omega, by omega⟩, _, _, _, rfl, by omega, hle, ?_, bb⟩
        rw [ec]
        exact hp4
      · refine ⟨_, _, _, rfl, v1, v2, ?_, bb⟩
        rw [ec]
        exact hp4
    · rintro σ H' ⟨v, o3, o4, rfl, v1, v2, hp2, b2⟩
      refine ⟨_, rfl, ?_⟩
      exact q _ _ v1 v2 (hp2.mono (by omega)) b2
  refine ⟨_, rfl, 10, 6, rfl, rfl, ⟨by decide, by decide, by decide⟩, _, _, rfl, d, a, ns, _, _, rfl, rfl, hp1, by decide, by decide, by omega, fun x H2 x0 x1 hp2 b2 => ?_⟩
  have x12 : x < 1000000 := x1
  refine ⟨_, _, rfl, rfl, ?_⟩
  exact q _ _ (by omega) (by omega) (hp2.mono (by omega)) (b1.trans b2)
/-! ### told primes as texts -/
def tupD (pe : Int × Int) : PyData := .tuple [.int pe.1, .int pe.2]
def listD (ps : List (Int × Int)) : PyData := .list (ps.map tupD)
structure Good (ps : List (Int × Int)) : Prop where
  len : ps.length ≤ 1002
  sm : ∀ x ∈ ps, x.1.natAbs < 2 ^ 100 ∧ x.2.natAbs < 2 ^ 100
theorem good_of {ps : List (Int × Int)} {n lim : Int} (hn : prod ps = n) (n2 : n ≤ 1000000) (ri : Rise lim ps) (hl : ps.length ≤ 1002) : Good ps := by
  refine ⟨hl, ?_⟩
  rintro ⟨p, e⟩ hx
  have h1 := mem_le hn ri.pr ri.of hx
  have h2 := often19 hn n2 ri.pr hx
  have h3 := (ri.pr _ hx).1
  have h4 := ri.of _ hx
  have e100 : (2 : Nat) ^ 100 = 1267650600228229401496703205376 := by decide
  have h5 : 2 ≤ p := h3
  have h6 : 1 ≤ e := h4
  constructor
  · show p.natAbs < 2 ^ 100
    rw [e100]
    omega
  · show e.natAbs < 2 ^ 100
    rw [e100]
    omega
theorem dp_all {H : Hp} : ∀ {ts : List Addr} {ps : List (Int × Int)}, Paired (fun t (pe : Int × Int) => H t = some (.tup [.int pe.1, .int pe.2])) ts ps → DpAll K H (ts.map V.ref) (ps.map tupD)
  | _, _, .nil => .nil
  | _, _, .cons h t => .cons (.tup (SqT.of h) (.cons (.int _) (.cons (.int _) .nil))) (dp_all t)
theorem dp_list {H : Hp} {D : Addr} {ps : List (Int × Int)} (h : PL H D ps) : Dp K H (.ref D) (listD ps) := by
  obtain ⟨ts, h1, h2⟩ := h
  exact .lst (SqL.of h1) (dp_all h2)
theorem log_small {i : Int} (h : i.natAbs < 2 ^ 100) : i.natAbs.log2 < 100 := PySem.Flt.log2_lt_of (by decide) h
theorem show_all : ∀ {ps : List (Int × Int)}, (∀ x ∈ ps, x.1.natAbs < 2 ^ 100 ∧ x.2.natAbs < 2 ^ 100) → PyData.showableAll (ps.map tupD) = true ∧ PyData.hasDictAll (ps.map tupD) = false ∧ PyData.leavesShortAll 101 (ps.map tupD) = true ∧ PyData.bulkAll (ps.map tupD) = 3 * ps.length
  | [], _ => ⟨rfl, rfl, rfl, rfl⟩
  | x :: r, h => by
    obtain ⟨h1, h2, h3, h4⟩ := show_all fun y hy => h y (List.mem_cons.mpr (.inr hy))
    obtain ⟨s1, s2⟩ := h x (List.mem_cons.mpr (.inl rfl))
    have l1 := log_small s1
    have l2 := log_small s2
    have t1 : (PyData.shown (.int x.1)).length ≤ 101 := by
      show (Str.ofString (toString x.1)).length ≤ 101
      rw [PySem.ofString_length]
      exact PySem.int_text_length_le (by decide) l1
    have t2 : (PyData.shown (.int x.2)).length ≤ 101 := by
      show (Str.ofString (toString x.2)).length ≤ 101
      rw [PySem.ofString_length]
      exact PySem.int_text_length_le (by decide) l2
    refine ⟨?_, ?_, ?_, ?_⟩
    · show (PyData.showable (tupD x) && PyData.showableAll (r.map tupD)) = true
      rw [h1, Bool.and_true]
      show (decide (x.1.natAbs.log2 < 1920) && (decide (x.2.natAbs.log2 < 1920) && true)) = true
      rw [decide_eq_true (by omega), decide_eq_true (by omega)]
      rfl
    · show (PyData.hasDict (tupD x) || PyData.hasDictAll (r.map tupD)) = false
      rw [h2]
      rfl
    · show (PyData.leavesShort 101 (tupD x) && PyData.leavesShortAll 101 (r.map tupD)) = true
      rw [h3, Bool.and_true]
      show (decide ((PyData.shown (.int x.1)).length ≤ 101) && (decide ((PyData.shown (.int x.2)).length ≤ 101) && true)) = true
      rw [decide_eq_true t1, decide_eq_true t2]
      rfl
    · show PyData.bulk (tupD x) + 1 + PyData.bulkAll (r.map tupD) = 3 * (r.length + 1)
      rw [h4]
      show 0 + 1 + (0 + 1 + 0) + 1 + 3 * r.length = _
      omega
theorem depth_all : ∀ ps : List (Int × Int), PyData.depthAll (ps.map tupD) ≤ 5
  | [] => by decide
  | x :: r => by
    have := depth_all r
    show max (PyData.depth (tupD x)) (PyData.depthAll (r.map tupD)) ≤ 5
    have h2 : PyData.depth (tupD x) ≤ 5 := by
      show PyData.depth (.tuple [.int x.1, .int x.2]) ≤ 5
      simp [PyData.depth, PyData.depthAll]
    omega
theorem depth_list (ps : List (Int × Int)) : (listD ps).depth ≤ 60 := by
  have := depth_all ps
  have e : (listD ps).depth = PyData.depthAll (ps.map tupD) + 1 := by
    simp [listD, PyData.depth]
  omega
theorem shown_list {ps : List (Int × Int)} (g : Good ps) : (listD ps).shown.length ≤ sizeLine := by
  obtain ⟨h1, h2, h3, h4⟩ := show_all g.sm
  have h := PyData.shown_le_bulk 101 (by decide) (listD ps) h3
  have hb : (listD ps).bulk = 3 * ps.length := h4
  rw [hb] at h
  have := g.len
  refine Nat.le_trans h (Nat.le_trans (show (101 + 2) * (3 * ps.length) + 101 ≤ 103 * 3006 + 101 by omega) (by decide))
def txt (ps : List (Int × Int)) : Str := (listD ps).shown
/-! ### what is held -/
structure HeldOk (H : Hp) (B : Addr) (rs : List Addr) : Prop where
  its : H B = some (.lst (rs.map V.ref))
  each : ∀ r ∈ rs, ∃ (D : Addr) (ps : List (Int × Int)), H r = some (.tup [.str (txt ps), .ref D]) ∧ PL H D ps ∧ D ≠ B ∧ Good ps
theorem HeldOk.stays {H H' : Hp} {B : Addr} {rs : List Addr} (h : HeldOk H B rs) (s : Stays H H') : HeldOk H' B rs := by
  refine ⟨(s _ _).1 h.its, fun r hr => ?_⟩
  obtain ⟨D, ps, h1, h2, h3, h4⟩ := h.each r hr
  exact ⟨D, ps, (s _ _).2 h1, h2.stays s, h3, h4⟩
/-! ### the law -/
def spLaw (K : PySem.W.Frag) : Sp := fun vs H Q _ => ∃ (a : Addr) (ns : List Int), vs = [.ref a] ∧ SqL K H a (ns.map V.int) ∧ ns.length ≤ 63 ∧ ∀ H', Q (.bl true) H'
theorem ok_law {f : Addr} {fd : FuncData} (T : Txt K mg) (F : Fun K "law" "law" s_law f fd) : FnG P w K mg base CX0 4 f fd ["_law_script"] (spLaw K) := by
  have G_law_pen := ok_law_pen (P := P) (w := w) (base := base) T
  have G_law_number := ok_law_number (P := P) (w := w) (base := base) T
  have G_primes_of := ok_primes_of (P := P) (w := w) (base := base) T
  have G_law_right := ok_law_right (P := P) (w := w) (base := base) T
  refine fng_mk F sc_law (fun vs H Q E h => ?_) (fun cdv A outer s H vs Q E hr hg h => ?_)
  · obtain ⟨a, ns, rfl, _⟩ := h
    rfl
  obtain ⟨a, ns, rfl, hS, hl, q⟩ := h
  refine ⟨_, PSs.nox (pss_cons (ps_set (i := 1) sc_law.nd rfl (Or.inl rfl) (pe_fn G_law_pen (hr.mono (by decide)) hg (by rfl) (pa_cons (pv 0) pa_nil)))
(pss_cons (ps_set (i := 2) sc_law.nd rfl (Or.inl rfl) (pe_lst pa_nil))
(pss_cons (ps_for PassesOwn.never rfl (pi_range1 (by rfl) T.n_range (pa_cons pe_int pa_nil)) (pg_name (i := 3) sc_law.nd rfl (Or.inl rfl))
(pss_cons (ps_set (i := 4) sc_law.nd rfl (Or.inl rfl) (pe_fn G_law_number (hr.mono (by decide)) hg (by rfl) (pa_cons (pv 1) pa_nil)))
(pss_cons (ps_set (i := 5) sc_law.nd rfl (Or.inl rfl) (pe_fn G_primes_of (hr.mono (by decide)) hg (by rfl) (pa_cons (pv 4) pa_nil)))
(pss_cons (ps_if (pt_not (pt_val (pe_fn G_law_right (hr.mono (by decide)) hg (by rfl) (pa_cons (pv 4) (pa_cons (pv 5) pa_nil)))))
(pss_one (ps_ret pe_bl))
pss_nil)
(pss_cons (ps_expr (pe_bm PySem.F.plainAttrs_list PySem.F.slot_list_append PySem.F.type_list_append mt_append (pv 2) (pa_cons (pe_tup (pa_cons (pe_callB (call_repr (K := K) hr hg rfl) (by rfl) T.n_repr (by decide +kernel) (pa_cons (pv 5) pa_nil)) (pa_cons (pv 5) pa_nil))) pa_nil)))
(pss_cons (ps_expr (pe_bm PySem.F.plainAttrs_list PySem.F.slot_list_append PySem.F.type_list_append mt_append (pe_fn G_primes_of (hr.mono (by decide)) hg (by rfl) (pa_cons (pv 4) pa_nil)) (pa_cons (pe_tup (pa_cons pe_int (pa_cons pe_int pa_nil))) pa_nil)))
(pss_one (ps_if (pt_not (pt_val (pe_fn G_law_right (hr.mono (by decide)) hg (by rfl) (pa_cons (pv 4) (pa_cons (pe_fn G_primes_of (hr.mono (by decide)) hg (by rfl) (pa_cons (pv 4) pa_nil)) pa_nil)))))
(pss_one (ps_ret pe_bl))
pss_nil))))))))
(pss_one (ps_ret (pe_and (pe_cmpR (op_eqD hr.units) (pe_fn G_primes_of (hr.mono (by decide)) hg (by rfl) (pa_cons pe_int pa_nil)) (pe_lst pa_nil) (nomark _)) (pe_one (pe_cmpR (op_eqD hr.units) (pe_lc (own := [("_law_one", 6), ("_law_told", 5)]) (g := gTup K 2 (gCons (gName 6) (gCons (gName 5) gNil))) rfl sc_law.nd (pi_list (pv 2)) (blkOk_by (own := [("_law_one", 6), ("_law_told", 5)]) (N := N_law) (sc := defScope s_law) (by decide +kernel)) (fun _ _ _ _ _ => (pg_tup rfl (pgs_cons (pg_name (i := 6) sc_law.nd rfl (Or.inl rfl)) (pgs_cons (pg_name (i := 5) sc_law.nd rfl (Or.inl rfl)) pgs_nil)))) (fun _ _ _ _ _ => (pts_one (pt_cmpR op_ne (pe_callB (call_repr (K := K) hr hg rfl) (by rfl) T.n_repr (by decide +kernel) (pa_cons (pv 5) pa_nil)) (pv 6) (nomark _)))) (fun _ _ _ _ _ => (pv 6))) (pe_lst pa_nil) (nomark _))))))))), ?_⟩
  refine ⟨_, rfl, _, rfl, a, ns, rfl, hS, fun d H1 nd sm hp => ?_⟩
  refine ⟨Nat.zero_le _, fun B nB => ?_⟩
  have hp1 := hp.same (same_new (o := .lst []) nB)
  have hab : (∀ H', SqL K H' a (ns.map V.int)) ∨ a ≠ B := by
    rcases hS with (z | ⟨o, z⟩) | z
    · exact .inr (ne_of_none (sm _ _ z) nB)
    · exact .inr (ne_of_none (sm _ _ z) nB)
    · exact .inl fun H' => .inr z
  refine ⟨6, rfl, by decide, by decide, for_range (lo := 0) (n := 6) (fun k σ H' => ∃ (o3 o4 o5 o6 : Option V) (rs : List Addr), σ = [some (.ref a), some (.ref d), some (.ref B), o3, o4, o5, o6] ∧ Pen K H' d a ns (14 * k) ∧ HeldOk H' B rs ∧ rs.length ≤ k)
    ⟨none, none, none, none, [], rfl, by simpa using hp1, ⟨upd_same, by simp⟩, Nat.le_refl _⟩ ?_ ?_⟩
  · rintro k σ H2 hk ⟨o3, o4, o5, o6, rs, rfl, hp2, hh, hrs⟩
    -- the number
    refine ⟨_, rfl, _, rfl, d, a, ns, _, rfl, hp2, by omega, fun n H3 n1 n2 hp3 b3 => ?_⟩
    obtain ⟨kvs, hdd⟩ := pen_at hp2
    have hh3 := hh.stays (stays_but b3 hdd)
    -- its primes
    refine ⟨_, rfl, _, rfl, n, rfl, n1, n2, fun ps D H4 lim pn ri pl s4 nD hpl => ?_⟩
    have hp4 := hp3.same s4
    have hh4 := hh3.stays (stays_same s4)
    have gd := good_of pn n2 ri pl
    have nDB : D ≠ B := (ne_of_none hh3.its nD).symm
    try dsimp only [gName]
    refine if_no (fun H5 => H5 = H4) (fun Q2 q2 => ?_) (fun H5 e5 => ?_)
    · refine ⟨_, rfl, _, rfl, _, _, rfl, n, D, ps, lim, rfl, rfl, hpl, pn, n2, ri, true, rfl, ?_⟩
      exact q2 _ rfl
    subst e5
    -- held.append((repr(told), told))
    refine ⟨_, rfl, .inl ⟨rfl, _, SqL.of hh4.its⟩, _, rfl, D, listD ps, rfl, dp_list hpl, (show_all gd.sm).1, (show_all gd.sm).2.1, depth_list ps, shown_list gd, _, rfl, (by show 2 ≤ sizeLine; decide), fun t ht => ?_⟩
    have hB5 : (upd H5 t (.tup [.str (listD ps).shown, .ref D])) B = some (.lst (rs.map V.ref)) := by
      rw [upd_ne (ne_of_none hh4.its ht)]
      exact hh4.its
    refine ⟨B, _, _, rfl, rfl, hB5, ?_, ?_⟩
    · rw [List.length_map]
      exact small1000 (by omega)
    have sT : Same H5 (upd H5 t (.tup [.str (listD ps).shown, .ref D])) := same_new ht
    have hp6 : Pen K (upd (upd H5 t (.tup [.str (listD ps).shown, .ref D])) B (.lst (rs.map V.ref ++ [.ref t]))) d a ns (14 * k + 14) := by
      obtain ⟨s', n', m', e', r'⟩ := hp4.same sT
      refine ⟨?_, n', m', ?_, r'⟩
      · rcases hab with z | nab
        · exact z _
        rcases s' with (z | ⟨o, z⟩) | z
        · exact .inl (.inl (by rw [upd_ne nab]; exact z))
        · exact .inl (.inr ⟨o, by rw [upd_ne (ne_of z hB5 (by intro z; cases z))]; exact z⟩)
        · exact .inr z
      · rw [upd_ne (ne_of e' hB5 (by intro z; cases z))]
        exact e'
    have hh6 : HeldOk (upd (upd H5 t (.tup [.str (listD ps).shown, .ref D])) B (.lst (rs.map V.ref ++ [.ref t]))) B (rs ++ [t]) := by
      refine ⟨by rw [upd_same, List.map_append]; rfl, fun r hr => ?_⟩
      rcases List.mem_append.mp hr with z | z
      · obtain ⟨D', ps', h1, h2, h3, h4⟩ := (hh4.stays (stays_same sT)).each r z
        exact ⟨D', ps', by rw [upd_ne (ne_of h1 hB5 (by intro z; cases z))]; exact h1, h2.other hB5 h3, h3, h4⟩
      · have ez := List.mem_singleton.mp z
        subst ez
        refine ⟨D, ps, ?_, (hpl.stays (stays_same sT)).other hB5 nDB, nDB, gd⟩
        rw [upd_ne (ne_of_none hh4.its ht).symm, upd_same]
        rfl
    generalize upd (upd H5 t (.tup [.str (listD ps).shown, .ref D])) B (.lst (rs.map V.ref ++ [.ref t])) = H6 at hp6 hh6
    -- another list, changed
    refine ⟨_, rfl, _, rfl, n, rfl, n1, n2, fun ps2 D2 H7 lim2 pn2 ri2 pl2 s7 nD2 hpl2 => ?_⟩
    obtain ⟨ts2, hD2, hts2⟩ := id hpl2
    refine ⟨.inl ⟨rfl, _, SqL.of hD2⟩, (by show 2 ≤ sizeLine; decide), fun t2 ht2 => ?_⟩
    have hD2' : (upd H7 t2 (.tup [.int 0, .int 0])) D2 = some (.lst (ts2.map V.ref)) := by
      rw [upd_ne (ne_of_none hD2 ht2)]
      exact hD2
    refine ⟨D2, _, _, rfl, rfl, hD2', ?_, ?_⟩
    · rw [List.length_map, pl_len hts2]
      exact Nat.lt_of_le_of_lt pl2 (by decide)
    have s8 : Same H6 (upd (upd H7 t2 (.tup [.int 0, .int 0])) D2 (.lst (ts2.map V.ref ++ [.ref t2]))) := same_app s7 nD2 ht2
    have hp8 := hp6.same s8
    have hh8 := hh6.stays (stays_same s8)
    generalize upd (upd H7 t2 (.tup [.int 0, .int 0])) D2 (.lst (ts2.map V.ref ++ [.ref t2])) = H8 at hp8 hh8
    try dsimp only [gName]
    refine if_no1 (fun H9 => Same H8 H9) (fun Q2 q2 => ?_) (fun H9 s9 => ?_)
    · refine ⟨_, rfl, _, rfl, _, rfl, n, rfl, n1, n2, fun ps3 D3 H9 lim3 pn3 ri3 pl3 s9 nD3 hpl3 => ?_⟩
      refine ⟨_, _, rfl, n, D3, ps3, lim3, rfl, rfl, hpl3, pn3, n2, ri3, true, rfl, ?_⟩
      exact q2 _ s9
    · refine ⟨_, _, _, _, rs ++ [t], rfl, ?_, hh8.stays (stays_same s9), by simp; omega⟩
      have ec : (14 : Int) * ((k + 1 : Nat) : Int) = 14 * k + 14 := by omega
      rw [ec]
      exact hp8.same s9
  · rintro σ H2 ⟨o3, o4, o5, o6, rs, rfl, hp2, hh, hrs⟩
    -- primes_of(1) == []
    refine ⟨_, rfl, 1, rfl, by decide, by decide, fun ps D H3 lim pn ri pl s3 nD hpl => ?_⟩
    have hps := prod_one pn ri.pr ri.of
    subst hps
    refine ⟨Nat.zero_le _, fun L nL => ?_⟩
    have hh4 := (hh.stays (stays_same s3)).stays (stays_same (same_new (o := .lst []) nL))
    refine ⟨listD [], .list [], dp_list (hpl.stays (stays_same (same_new nL))), .lst (SqL.of upd_same) .nil, rfl, rfl, true, rfl, iteT ?_⟩
    -- the held ones
    refine ⟨_, rfl, B, rfl, ⟨_, SqL.of hh4.its⟩, fun M nM => lc_list (K := K) (a := B) (xs := rs.map V.ref) (fun i H5 => HeldOk H5 B rs ∧ H5 M = some (.lst []) ∧ M ≠ B) ⟨hh4.stays (stays_same (same_new nM)), upd_same, (ne_of_none hh4.its nM).symm⟩ (fun i H5 _ h5 => SqL.of h5.1.its) ?_ ?_⟩
    · rintro i y H5 hy ⟨hh5, hM, nMB⟩
      rw [List.getElem?_map] at hy
      cases hti : rs[i]? with
      | none =>
        rw [hti] at hy
        cases hy
      | some r =>
        rw [hti] at hy
        have ey : y = V.ref r := (Option.some.inj hy).symm
        subst ey
        obtain ⟨D', ps', h1, h2, h3, h4⟩ := hh5.each r (List.mem_of_getElem? hti)
        refine ⟨r, _, rfl, SqT.of h1, rfl, _, _, rfl, _, _, rfl, rfl, rfl, ?_⟩
        refine ⟨_, rfl, D', listD ps', rfl, dp_list h2, (show_all h4.sm).1, (show_all h4.sm).2.1, depth_list ps', shown_list h4, _, rfl, rfl, _, rfl, ?_⟩
        exact iteNS rfl ⟨hh5, hM, nMB⟩
    · rintro H5 ⟨hh5, hM, nMB⟩
      refine ⟨Nat.zero_le _, fun N nN => ?_⟩
      refine ⟨.list [], .list [], .lst (SqL.of (same_new nN _ _ hM)) .nil, .lst (SqL.of upd_same) .nil, rfl, rfl, ?_⟩
      exact q _
end
theorem all_mk {l : PySem.W.OpenLaw} {w : World} {K : PySem.W.Frag} {h : Heap} {mg : Str → Option Value} {fa : Addr} (X : K.In h) (G : h.Ns mainGlobals mg) (hfa : mg "law" = some (.ref fa))
    {f1 : Addr} {od1 an1 : Option Addr} {sl1 : Array (Option Value)} {oc1 kV1 dc1 pm1 cd1 ct1 : Value}
    {f2 : Addr} {od2 an2 : Option Addr} {sl2 : Array (Option Value)} {oc2 kV2 dc2 pm2 cd2 ct2 : Value}
    {f3 : Addr} {od3 an3 : Option Addr} {sl3 : Array (Option Value)} {oc3 kV3 dc3 pm3 cd3 ct3 : Value}
    {f4 : Addr} {od4 an4 : Option Addr} {sl4 : Array (Option Value)} {oc4 kV4 dc4 pm4 cd4 ct4 : Value}
    {f5 : Addr} {od5 an5 : Option Addr} {sl5 : Array (Option Value)} {oc5 kV5 dc5 pm5 cd5 ct5 : Value}
    {f6 : Addr} {od6 an6 : Option Addr} {sl6 : Array (Option Value)} {oc6 kV6 dc6 pm6 cd6 ct6 : Value}
    {f7 : Addr} {od7 an7 : Option Addr} {sl7 : Array (Option Value)} {oc7 kV7 dc7 pm7 cd7 ct7 : Value}
    {f8 : Addr} {od8 an8 : Option Addr} {sl8 : Array (Option Value)} {oc8 kV8 dc8 pm8 cd8 ct8 : Value}
    (a1 : PySem.W.nsIn K mainGlobals "primes_of" = some (some (.ref f1))) (l1 : K.lookup f1 = some ⟨oc1, od1, .func (PySem.W.fnOf "primes_of" "primes_of" (defArgs s_primes_of) (defBody s_primes_of) (defScope s_primes_of) .none kV1 dc1 pm1 an1 cd1 ct1), sl1⟩) (c1 : PySem.W.codeIn K cd1 "primes_of" = true) (k1 : PySem.W.keepIn K (.ref f1) = true)
    (a2 : PySem.W.nsIn K mainGlobals "_law_pen" = some (some (.ref f2))) (l2 : K.lookup f2 = some ⟨oc2, od2, .func (PySem.W.fnOf "_law_pen" "_law_pen" (defArgs s_law_pen) (defBody s_law_pen) (defScope s_law_pen) .none kV2 dc2 pm2 an2 cd2 ct2), sl2⟩) (c2 : PySem.W.codeIn K cd2 "_law_pen" = true) (k2 : PySem.W.keepIn K (.ref f2) = true)
    (a3 : PySem.W.nsIn K mainGlobals "_law_draw" = some (some (.ref f3))) (l3 : K.lookup f3 = some ⟨oc3, od3, .func (PySem.W.fnOf "_law_draw" "_law_draw" (defArgs s_law_draw) (defBody s_law_draw) (defScope s_law_draw) .none kV3 dc3 pm3 an3 cd3 ct3), sl3⟩) (c3 : PySem.W.codeIn K cd3 "_law_draw" = true) (k3 : PySem.W.keepIn K (.ref f3) = true)
    (a4 : PySem.W.nsIn K mainGlobals "_law_whole" = some (some (.ref f4))) (l4 : K.lookup f4 = some ⟨oc4, od4, .func (PySem.W.fnOf "_law_whole" "_law_whole" (defArgs s_law_whole) (defBody s_law_whole) (defScope s_law_whole) .none kV4 dc4 pm4 an4 cd4 ct4), sl4⟩) (c4 : PySem.W.codeIn K cd4 "_law_whole" = true) (k4 : PySem.W.keepIn K (.ref f4) = true)
    (a5 : PySem.W.nsIn K mainGlobals "_law_number" = some (some (.ref f5))) (l5 : K.lookup f5 = some ⟨oc5, od5, .func (PySem.W.fnOf "_law_number" "_law_number" (defArgs s_law_number) (defBody s_law_number) (defScope s_law_number) .none kV5 dc5 pm5 an5 cd5 ct5), sl5⟩) (c5 : PySem.W.codeIn K cd5 "_law_number" = true) (k5 : PySem.W.keepIn K (.ref f5) = true)
    (a6 : PySem.W.nsIn K mainGlobals "_law_prime" = some (some (.ref f6))) (l6 : K.lookup f6 = some ⟨oc6, od6, .func (PySem.W.fnOf "_law_prime" "_law_prime" (defArgs s_law_prime) (defBody s_law_prime) (defScope s_law_prime) .none kV6 dc6 pm6 an6 cd6 ct6), sl6⟩) (c6 : PySem.W.codeIn K cd6 "_law_prime" = true) (k6 : PySem.W.keepIn K (.ref f6) = true)
    (a7 : PySem.W.nsIn K mainGlobals "_law_right" = some (some (.ref f7))) (l7 : K.lookup f7 = some ⟨oc7, od7, .func (PySem.W.fnOf "_law_right" "_law_right" (defArgs s_law_right) (defBody s_law_right) (defScope s_law_right) .none kV7 dc7 pm7 an7 cd7 ct7), sl7⟩) (c7 : PySem.W.codeIn K cd7 "_law_right" = true) (k7 : PySem.W.keepIn K (.ref f7) = true)
    (a8 : PySem.W.nsIn K mainGlobals "law" = some (some (.ref f8))) (l8 : K.lookup f8 = some ⟨oc8, od8, .func (PySem.W.fnOf "law" "law" (defArgs s_law) (defBody s_law) (defScope s_law) .none kV8 dc8 pm8 an8 cd8 ct8), sl8⟩) (c8 : PySem.W.codeIn K cd8 "law" = true) (k8 : PySem.W.keepIn K (.ref f8) = true)
    (z1 : PySem.W.nsIn K mainGlobals "abs" = some none)
    (z2 : PySem.W.nsIn K mainGlobals "bool" = some none)
    (z3 : PySem.W.nsIn K mainGlobals "int" = some none)
    (z4 : PySem.W.nsIn K mainGlobals "isinstance" = some none)
    (z5 : PySem.W.nsIn K mainGlobals "len" = some none)
    (z6 : PySem.W.nsIn K mainGlobals "list" = some none)
    (z7 : PySem.W.nsIn K mainGlobals "range" = some none)
    (z8 : PySem.W.nsIn K mainGlobals "repr" = some none)
    (z9 : PySem.W.nsIn K mainGlobals "tuple" = some none) :
    ∃ fd : FuncData, (∀ (s : Shared) (v : Value), BindsTo s fd ⟨[v], []⟩ [("_law_script", v)]) ∧ ∀ base : Heap, K.In base → base.Ns mainGlobals mg → FnG l.prog w K mg base CX0 4 fa fd ["_law_script"] (spLaw K) := by
  have e := hfa.symm.trans (PySem.W.mg_of X G a8)
  cases e
  have T : Txt K mg := ⟨df_mk (PySem.W.mg_of X G a1) l1 c1 k1 (fun _ _ _ _ _ _ us hl => match us, hl with | [_], _ => rfl),
    df_mk (PySem.W.mg_of X G a2) l2 c2 k2 (fun _ _ _ _ _ _ us hl => match us, hl with | [_], _ => rfl),
    df_mk (PySem.W.mg_of X G a3) l3 c3 k3 (fun _ _ _ _ _ _ us hl => match us, hl with | [_, _], _ => rfl),
    df_mk (PySem.W.mg_of X G a4) l4 c4 k4 (fun _ _ _ _ _ _ us hl => match us, hl with | [_], _ => rfl),
    df_mk (PySem.W.mg_of X G a5) l5 c5 k5 (fun _ _ _ _ _ _ us hl => match us, hl with | [_], _ => rfl),
    df_mk (PySem.W.mg_of X G a6) l6 c6 k6 (fun _ _ _ _ _ _ us hl => match us, hl with | [_], _ => rfl),
    df_mk (PySem.W.mg_of X G a7) l7 c7 k7 (fun _ _ _ _ _ _ us hl => match us, hl with | [_, _], _ => rfl),
    df_mk (PySem.W.mg_of X G a8) l8 c8 k8 (fun _ _ _ _ _ _ us hl => match us, hl with | [_], _ => rfl),
    PySem.W.mg_none_of X G z1,
    PySem.W.mg_none_of X G z2,
    PySem.W.mg_none_of X G z3,
    PySem.W.mg_none_of X G z4,
    PySem.W.mg_none_of X G z5,
    PySem.W.mg_none_of X G z6,
    PySem.W.mg_none_of X G z7,
    PySem.W.mg_none_of X G z8,
    PySem.W.mg_none_of X G z9⟩
  exact ⟨PySem.W.fnOf "law" "law" (defArgs s_law) (defBody s_law) (defScope s_law) .none kV8 dc8 pm8 an8 cd8 ct8, fun s v => .of_eq rfl, fun base _ _ => ok_law T (fun_mk (st := s_law) l8 c8 k8)⟩
end K02
open PySem PySem.W PyProof.Rows
set_option maxRecDepth 100000 in
set_option maxHeartbeats 0 in
theorem PySem.Challenge.cw_commonhouse_k02_primes_told_holds : PySem.Challenge.rw_commonhouse_k02_primes_told.Holds := by
  w_on; o_law; k_head; (case hw => w_witness2)
  k_fill
  refine Cm.walk_g (l := PySem.Challenge.rw_commonhouse_k02_primes_told) (n := 63) (k := 4) (x := "_law_script") (sp := K02.spLaw) rfl (by decide) rfl ⟨rfl, by decide, by decide⟩ (fun w h Y => PySem.W.kIn_of Y) ?F (fun _ _ a ns hl hS => ⟨a, ns, rfl, hS, hl, fun _ => rfl⟩)
  case F =>
    intro w mg fa h KX G hmg
    refine' K02.all_mk KX G hmg ?a1 ?l1 ?c1 ?k1 ?a2 ?l2 ?c2 ?k2 ?a3 ?l3 ?c3 ?k3 ?a4 ?l4 ?c4 ?k4 ?a5 ?l5 ?c5 ?k5 ?a6 ?l6 ?c6 ?k6 ?a7 ?l7 ?c7 ?k7 ?a8 ?l8 ?c8 ?k8 ?z1 ?z2 ?z3 ?z4 ?z5 ?z6 ?z7 ?z8 ?z9
    (case a1 => k_is); (case l1 => k_is); (case c1 => k_is); (case k1 => k_is); (case a2 => k_is); (case l2 => k_is)
    (case c2 => k_is); (case k2 => k_is); (case a3 => k_is); (case l3 => k_is); (case c3 => k_is); (case k3 => k_is)
    (case a4 => k_is); (case l4 => k_is); (case c4 => k_is); (case k4 => k_is); (case a5 => k_is); (case l5 => k_is)
    (case c5 => k_is); (case k5 => k_is); (case a6 => k_is); (case l6 => k_is); (case c6 => k_is); (case k6 => k_is)
    (case a7 => k_is); (case l7 => k_is); (case c7 => k_is); (case k7 => k_is); (case a8 => k_is); (case l8 => k_is)
    (case c8 => k_is); (case k8 => k_is); (case z1 => k_is); (case z2 => k_is); (case z3 => k_is); (case z4 => k_is)
    (case z5 => k_is); (case z6 => k_is); (case z7 => k_is); (case z8 => k_is); (case z9 => k_is)
