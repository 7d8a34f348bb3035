import PyProof.Rows.All
import Wide.All
import OpenK.AllK
import Wide.FinOn
import HandS.Base
import HandS.Call
import HandS.List
import HandS.Comp
import HandS.Ends
import HandS.Dict
import HandS.Iter
import HandS.Words
import HandS.IsInst
import HandS.TupAny
import HandS.TupLe
import HandS.WordsList
import HandS.TupMul
import HandS.Zip
import HandS.Walk
import HandS.Wide
import HandS.AnyAll
import PyProof.GenCompD
import PyProof.WalksMore
import HandS.EndTab
import HandS.EndOwn
import HandS.SetFor
import HandS.Strs
import HandS.TryOnly
import PySem.Challenge.RW_commonhouse_k07_turns_told
set_option Elab.async false
set_option linter.all false
set_option maxRecDepth 100000
set_option maxHeartbeats 4000000
namespace Cm
open PySem PySem.Spec PyProof.Rows L2
/-! ### defs by their names -/
/-- the def x of the text stands behind the top by its name -/
def Df (K : PySem.W.Frag) (mg : Str → Option Value) (x : Str) (st : Stmt) (ps : List Str) : Prop :=
  ∃ f fd, Fun K x x st f fd ∧ mg x = some (.ref f) ∧ Binds K fd ps []
theorem df_mk {K : PySem.W.Frag} {mg : Str → Option Value} {x : Str} {st : Stmt} {ps : List Str} {f : Addr} {oc : Value} {od an : Option Addr} {osl : Array (Option Value)} {kV doc pm cdv ct : Value} (hm : mg x = some (.ref f))
    (l : K.lookup f = some ⟨oc, od, .func (PySem.W.fnOf x x (defArgs st) (defBody st) (defScope st) .none kV doc pm an cdv ct), osl⟩) (c : PySem.W.codeIn K cdv x = true) (k : PySem.W.keepIn K (.ref f) = true)
    (h : ∀ (kV doc pm : Value) (an : Option Addr) (cdv ct : Value) (us : List Value), us.length = ps.length → bindArgs (PySem.W.fnOf x x (defArgs st) (defBody st) (defScope st) .none kV doc pm an cdv ct) ⟨us, []⟩ = pure (ps.zip us)) : Df K mg x st ps :=
  ⟨f, _, fun_mk l c k, hm, (fun_mk l c k).binds h⟩
/-! ### a promise that is kept where no repr runs around (the recursion guards are empty) -/
structure FnG (P : Program) (w : World) (K : PySem.W.Frag) (mg : Str → Option Value) (base : Heap) (CX : CXT) (k : Nat) (f : Addr) (fd : FuncData) (ps : List Str) (sp : Sp) : Prop where
  len : ∀ vs H Q E, sp vs H Q E → vs.length = ps.length
  go : ∀ (A : Around) (outer : List Env) (s : Shared) (H : Hp) (args : Args) (us : List Value) (vs : List V) (Q : VK) (E : XK), Room k A → A.guards = some [] → Env0 P w K mg base A outer s H → BindsTo s fd args (ps.zip us) → Vals vs us → sp vs H Q E →
    codeAny (model P w) A (.call (.ref f) args) (CR CX outer P w H s Q E) s
section
variable {P : Program} {w : World} {K : PySem.W.Frag} {mg : Str → Option Value} {base : Heap} {CX : CXT}
/-- a def's body keeps its promise there -/
theorem fng_mk {k : Nat} {f : Addr} {x qual : Str} {st : Stmt} {fd : FuncData} {N ps : List Str} {sp : Sp} (F : Fun K x qual st f fd) (S : FnScope N ps (defScope st))
    (len : ∀ vs H Q E, sp vs H Q E → vs.length = ps.length)
    (body : ∀ (cdv : Value) (A : Around) (outer : List Env) (s : Shared) (H : Hp) (vs : List V) (Q : VK) (E : XK), Room k (A.deeper (envOfC qual (defScope st) s.heap.objs.size f cdv)) → A.guards = some [] → sp vs H Q E →
      ∃ t, PSs (cxOf CX P w K mg base N qual (defScope st) f cdv A outer s H E) (defBody st) t ∧ t { nx := fun _ H' => Q .non H', rt := Q } (start N vs) H) : FnG P w K mg base CX (k + 1) f fd ps sp := by
  obtain ⟨oc, od, kV, doc, pm, an, cdv, ct, osl, hfd, lk, hcd⟩ := F.ex
  subst hfd
  refine ⟨len, fun A outer s H args us vs Q E room gd env bind rel prom => ?_⟩
  have llen := len _ _ _ _ prom
  have inK : K.In s.heap := env.mod.kin.keeps fun b o e => (env.bs b o e).1
  have nolim : s.heap.NoLimit := env.mod.nolimit.keeps fun b o e => (env.bs b o e).1
  have kinds : ∀ y ∈ ps.zip us, (defScope st).names.lookup y.1 = some .local ∨ ((defScope st).names.lookup y.1 = some .cell ∧ ((cellsFrom (s.heap.objs.size + 1) (defScope st).names []).lookup y.1).isSome = true) := by
    rintro ⟨n, v⟩ hy
    rcases S.par n (List.of_mem_zip hy).1 with z | z
    · exact .inl z
    · exact .inr ⟨z, PySem.W.cellsFrom_some _ _ _ (.inl z)⟩
  refine codeAny_call_function room.depth (inK _ _ lk) rfl S.co S.gen rfl (PySem.W.codeRec_of inK hcd) (bind _ _ _ _ ?_)
  refine wpAny_newFunctionEnv_cells S.kind kinds fun fenv hfe s1 ent => ?_
  subst hfe
  refine ⟨nolim.keeps ent.toInCall.keep, codeAny_func ?_⟩
  obtain ⟨t, ht, hq⟩ := body cdv A outer s H vs Q E (room.deeper _) gd prom
  have I0 : Inv (cxOf CX P w K mg base N qual (defScope st) f cdv A outer s H E) [] (start N vs) H s1 := inv_start S room.hd env llen rel ent
  refine wpAny_mono (ht.run [] s1 (start N vs) H _ I0 hq) (fun fl s' out => ?_) fun e s' out => out
  cases fl with
  | ret u =>
    obtain ⟨v, σ', H', J, rv, q⟩ := out
    exact ⟨v, H', J.os, J.bare, J.base, J.hok, rv, q⟩
  | next =>
    obtain ⟨σ', H', J, q⟩ := out
    exact ⟨V.non, H', J.os, J.bare, J.base, J.hok, rfl, q⟩
  | brk =>
    obtain ⟨_, _, _, q⟩ := out
    exact q.elim
  | cont =>
    obtain ⟨_, _, _, q⟩ := out
    exact q.elim
end
/-- the def x keeps the promise sp; no exception leaves it -/
def Fn (P : Program) (w : World) (K : PySem.W.Frag) (mg : Str → Option Value) (base : Heap) (k : Nat) (x : Str) (ps : List Str) (sp : Sp) : Prop :=
  ∃ f fd, FnG P w K mg base CX0 k f fd ps sp ∧ mg x = some (.ref f) ∧ PySem.W.keepIn K (.ref f) = true ∧ Binds K fd ps []
section
variable {P : Program} {w : World} {K : PySem.W.Frag} {mg : Str → Option Value} {base : Heap}
theorem Df.ok {x : Str} {st : Stmt} {ps N : List Str} {k : Nat} {sp : Sp} (D : Df K mg x st ps) (S : FnScope N ps (defScope st)) (len : ∀ vs H Q E, sp vs H Q E → vs.length = ps.length)
    (hbody : ∀ (f : Addr) (cdv : Value) (A : Around) (outer : List Env) (s : Shared) (H : Hp) (vs : List V) (Q : VK) (E : XK), Room k (A.deeper (envOfC x (defScope st) s.heap.objs.size f cdv)) → A.guards = some [] → sp vs H Q E →
      ∃ t, PSs (cxOf CX0 P w K mg base N x (defScope st) f cdv A outer s H E).nox (defBody st) t ∧ t { nx := fun _ H' => Q .non H', rt := Q } (start N vs) H) : Fn P w K mg base (k + 1) x ps sp := by
  obtain ⟨f, fd, F, hm, hb⟩ := D
  refine ⟨f, fd, fng_mk F S len fun cdv A outer s H vs Q E hr hg h => ?_, hm, F.kp, hb⟩
  obtain ⟨t, ht, q⟩ := hbody f cdv A outer s H vs Q E hr hg h
  exact ⟨t, ht.nox, q⟩
end
section
variable {X : Cx} {k : Nat} {x : Str} {ps : List Str} {sp : Sp} {e : Expr} {es : List Expr} {t : TA} {p pos : Pos}
theorem run_g {CX : CXT} {f : Addr} {fd : FuncData} {E : XK} {pins : List (Addr × Obj)} {σ : L2.St} {H : Hp} {s : Shared} {Q : VK} {us : List Value} {vs : List V} (F : FnG X.prog X.w X.K X.mg X.base CX k f fd ps sp) (hr : Room k X.A) (hg : X.A.guards = some [])
    (hb : Binds X.K fd ps []) (hx : Passes CX X E) (I : Inv X pins σ H s) (r : Vals vs us) (h : sp (vs ++ []) H Q E) : wpAny (model X.prog X.w) X.A (call (.ref f) us) (EP X pins σ Q) X.xe s := by
  rw [List.append_nil] at h
  have hl : (us ++ []).length = ps.length := by
    rw [List.append_nil, ← r.length]
    exact F.len _ _ _ _ h
  have hb2 := hb s us I.kIn hl
  rw [List.append_nil] at hb2
  refine wpAny_call (codeAny_mono (F.go X.A X.stack s H ⟨us, []⟩ us vs Q E hr hg I.env0 hb2 r h) fun r s' hq => ?_)
  cases r with
  | error e => exact hx pins σ H s e s' I hq
  | ok fl =>
    cases fl with
    | ret u => exact I.after hq
    | next => exact hq.elim
    | brk => exact hq.elim
    | cont => exact hq.elim
theorem pe_fn (F : Fn X.prog X.w X.K X.mg X.base k x ps sp) (hr : Room k X.A) (hgd : X.A.guards = some []) (hg : Gl X x) (ha : PA X (e :: es) t) (hdb : (x == ("__debug__" : Str)) = false := by decide)
    (he : starEach (e :: es) X.env = (false, eval e X.env) :: starEach es X.env := by rfl) (hpl : (backTo pos (starEach es X.env)).any (·.1) = false := by rfl) : PE X (.Call (.Name x p) (e :: es) [] pos) (tCall sp [] E0 t) := by
  obtain ⟨f, fd, F, hm, hk, hb⟩ := F
  refine ⟨fun pins s σ H Q I h => ?_⟩
  refine wpAny_Call_Name_kw (ld_glob I hg hm ?_ hdb)
  refine PySem.W.callWith_K (h₀ := X.base) I.ok.mod.kin hk (thn (ha.run pos pins s σ H _ I h) fun us s1 out => ?_) he hpl
  obtain ⟨vs, H1, I1, r, q⟩ := out
  exact ⟨I1.kIn, run_g F hr hgd hb pass0 I1 r q⟩
end
/-! ### promises by the number of arguments -/
def sp1 (R : V → Hp → VK → Prop) : Sp := fun vs H Q _ => ∃ a, vs = [a] ∧ R a H Q
def sp2 (R : V → V → Hp → VK → Prop) : Sp := fun vs H Q _ => ∃ a b, vs = [a, b] ∧ R a b H Q
def sp3 (R : V → V → V → Hp → VK → Prop) : Sp := fun vs H Q _ => ∃ a b c, vs = [a, b, c] ∧ R a b c H Q
def sp4 (R : V → V → V → V → Hp → VK → Prop) : Sp := fun vs H Q _ => ∃ a b c d, vs = [a, b, c, d] ∧ R a b c d H Q
theorem len1 {R : V → Hp → VK → Prop} {x : Str} : ∀ vs H Q E, sp1 R vs H Q E → vs.length = [x].length := by
  rintro vs H Q E ⟨a, rfl, _⟩
  rfl
theorem len2 {R : V → V → Hp → VK → Prop} {x y : Str} : ∀ vs H Q E, sp2 R vs H Q E → vs.length = [x, y].length := by
  rintro vs H Q E ⟨a, b, rfl, _⟩
  rfl
theorem len3 {R : V → V → V → Hp → VK → Prop} {x y z : Str} : ∀ vs H Q E, sp3 R vs H Q E → vs.length = [x, y, z].length := by
  rintro vs H Q E ⟨a, b, c, rfl, _⟩
  rfl
theorem len4 {R : V → V → V → V → Hp → VK → Prop} {x y z u : Str} : ∀ vs H Q E, sp4 R vs H Q E → vs.length = [x, y, z, u].length := by
  rintro vs H Q E ⟨a, b, c, d, rfl, _⟩
  rfl
/-! ### heaps -/
/-- all but the object at d is kept -/
def But (d : Addr) (H H' : Hp) : Prop := ∀ b o, b ≠ d → H b = some o → H' b = some o
theorem But.refl (d : Addr) (H : Hp) : But d H H := fun _ _ _ h => h
theorem But.trans {d : Addr} {H H1 H2 : Hp} (a : But d H H1) (b : But d H1 H2) : But d H H2 := fun c o n h => b c o n (a c o n h)
theorem But.upd {d : Addr} {H : Hp} {o : HO} : But d H (L2.upd H d o) := fun b u n h => by
  rw [upd_ne n]
  exact h
theorem But.new {d p : Addr} {H : Hp} {o : HO} (n : H p = none) : But d H (L2.upd H p o) := fun b u _ h => by
  rw [upd_ne (ne_of_none h n)]
  exact h
theorem But.same {d : Addr} {H H1 : Hp} (a : Same H H1) : But d H H1 := fun b o _ h => a b o h
theorem same_new {H : Hp} {p : Addr} {o : HO} (h : H p = none) : Same H (L2.upd H p o) := fun b x e => by
  rw [upd_ne (ne_of_none e h)]
  exact e
theorem sqt_of_same {K : PySem.W.Frag} {H H' : Hp} {a : Addr} {xs : List V} (e : Same H H') (h : SqT K H a xs) : SqT K H' a xs := by
  rcases h with (h | ⟨o, h⟩) | h
  · exact .inl (.inl (e _ _ h))
  · exact .inl (.inr ⟨o, e _ _ h⟩)
  · exact .inr h
/-- abs -/
theorem abs_eq (i : Int) : (if i < 0 then -i else i) = (i.natAbs : Int) := by
  split <;> omega
theorem qNS {c : Prop} [Decidable c] (hc : c) {Q : Bool → Hp → Prop} {H : Hp} (q : Q false H) : Q (!decide c) H := by
  rw [decide_eq_true hc]
  exact q
theorem qN {c : Prop} [Decidable c] (hc : ¬ c) {Q : Bool → Hp → Prop} {H : Hp} (q : Q false H) : Q (decide c) H := by
  rw [decide_eq_false hc]
  exact q
theorem qS {c : Prop} [Decidable c] (hc : c) {Q : VK} {H : Hp} (q : Q (.bl true) H) : Q (.bl (decide c)) H := by
  rw [decide_eq_true hc]
  exact q
theorem iteN {c A B : Prop} [Decidable c] (hc : ¬ c) (h : B) : if decide c = true then A else B := by
  rw [decide_eq_false hc]
  exact iteF h
theorem iteS {c A B : Prop} [Decidable c] (hc : c) (h : A) : if decide c = true then A else B := by
  rw [decide_eq_true hc]
  exact iteT h
/-! ### an if that is not taken -/
theorem if_no {c : TT} {t r : TS} {D : Ends} {σ : L2.St} {H : Hp} (R : Hp → Prop) (h : ∀ Q : Bool → Hp → Prop, (∀ H', R H' → Q false H') → c σ H Q) (k : ∀ H', R H' → r D σ H') : tSeq (tIfS c t tNext) r D σ H := by
  show c σ H _
  exact h _ fun H' q => iteF (k H' q)
/-- the last if of a block that is not taken -/
theorem if_no1 {c : TT} {t : TS} {D : Ends} {σ : L2.St} {H : Hp} (R : Hp → Prop) (h : ∀ Q : Bool → Hp → Prop, (∀ H', R H' → Q false H') → c σ H Q) (k : ∀ H', R H' → D.nx σ H') : tIfS c t tNext D σ H := by
  show c σ H _
  exact h _ fun H' q => iteF (k H' q)
theorem or_no {t u : TT} {σ : L2.St} {H : Hp} {Q : Bool → Hp → Prop} (R : Hp → Prop) (h : ∀ Q : Bool → Hp → Prop, (∀ H', R H' → Q false H') → t σ H Q) (k : ∀ H', R H' → u σ H' Q) : tOr t u σ H Q := by
  show t σ H _
  exact h _ fun H' q => iteF (k H' q)
end Cm

set_option Elab.async false
set_option linter.all false
set_option maxRecDepth 100000
set_option maxHeartbeats 4000000
namespace Cm
open PySem PySem.Spec PyProof.Rows L2
/-! ### the end of a law whose promise is kept where no repr runs around -/
/-- the heap that is tracked at the law's entry: the script alone, where it is none of the module's own objects -/
def scriptH (K : PySem.W.Frag) (a : Addr) (vs : List Value) (ns : List Int) : Hp := fun b =>
  if b = a ∧ K.lookup a = none then some (.frz { cls := .type "list", data := .seq vs.toArray } (.lst (ns.map V.int))) else none
theorem scriptH_some {K : PySem.W.Frag} {a b : Addr} {vs : List Value} {ns : List Int} {u : HO} (h : scriptH K a vs ns b = some u) :
    b = a ∧ K.lookup a = none ∧ u = .frz { cls := .type "list", data := .seq vs.toArray } (.lst (ns.map V.int)) := by
  unfold scriptH at h
  split at h
  · rename_i z
    exact ⟨z.1, z.2, (Option.some.inj h).symm⟩
  · cases h
theorem scriptH_free {K : PySem.W.Frag} {a b : Addr} {vs : List Value} {ns : List Int} (h : b ≠ a ∨ K.lookup a ≠ none) : scriptH K a vs ns b = none := by
  unfold scriptH
  split
  · rename_i z
    rcases h with h | h
    · exact absurd z.1 h
    · exact absurd z.2 h
  · rfl
theorem call_law_g {P : Program} {w : World} {K : PySem.W.Frag} {mg mb : Str → Option Value} {k : Nat} {fa a : Addr} {fd : FuncData} {x : Str} {sp : Sp} {s1 : Shared} {vs : List Value} {ns : List Int}
    (inK : K.In s1.heap) (glob : s1.heap.Ns mainGlobals mg) (blt : s1.heap.Ns builtinsNs mb) (bltEq : ∀ x : Str, x ≠ "__name__" → mb x = bootBuiltins x) (nolim : s1.heap.NoLimit) (nogen : s1.gens = #[])
    (scr : s1.heap.get? a = some { cls := .type "list", data := .seq vs.toArray }) (hns : IntsAre vs ns) (short : ns.length ≤ sizeLine) (room : Room k callerA)
    (F : ∀ base : Heap, K.In base → base.Ns mainGlobals mg → FnG P w K mg base CX0 k fa fd [x] sp) (bind : ∀ (s : Shared) (u : Value), BindsTo s fd ⟨[u], []⟩ [(x, u)])
    (prom : ∀ H : Hp, SqL K H a (ns.map V.int) → sp [.ref a] H (fun v _ => v = .bl true) fun _ _ _ => False) :
    codeAny (model P w) callerA (.call (.ref fa) ⟨[.ref a], []⟩) (fun r s' => r = .ok (.ret (.bool true)) ∧ OldK s1.heap s'.heap ∧ s'.os = s1.os ∧ AllBare s'.gens) s1 := by
  have rel := vals_ints hns
  have vlen := hns.length
  -- what the script's address holds, in the abstract heap
  have hS : SqL K (scriptH K a vs ns) a (ns.map V.int) := by
    cases hk : K.lookup a with
    | none =>
      refine .inl (.inr ⟨{ cls := .type "list", data := .seq vs.toArray }, ?_⟩)
      unfold scriptH
      exact if_pos ⟨rfl, hk⟩
    | some o =>
      have e := inK a o hk
      rw [scr] at e
      cases e
      exact .inr ⟨_, vs.toArray, _, hk, rfl, rfl, rfl, by rw [List.size_toArray, vlen]; exact short, by simpa using rel⟩
  have hok : HOk P w (scriptH K a vs ns) s1.heap := by
    intro b u e
    obtain ⟨rfl, _, rfl⟩ := scriptH_some e
    exact ⟨scr, by rw [List.length_map]; exact short, vs, _, rel, scr⟩
  -- a namespace is no list, so it is not tracked
  have free : ∀ {b : Addr} {o : Obj} {es : Array DictEntry} {ep : Nat}, s1.heap.get? b = some o → o.data = .dict es ep → scriptH K a vs ns b = none := by
    intro b o es ep e d
    by_cases hb : b = a
    · rw [hb, scr] at e
      cases e
      cases (show Data.seq vs.toArray _ = Data.dict es ep from d)
    · exact scriptH_free (.inl hb)
  have nsOf : ∀ {b : Addr} {m : Str → Option Value}, s1.heap.Ns b m → (hidT s1.heap (scriptH K a vs ns)).Ns b m := by
    rintro b m ⟨o, es, ep, e, d, r⟩
    exact ⟨o, es, ep, hidT_get e (free e d), d, r⟩
  have inKb : K.In (hidT s1.heap (scriptH K a vs ns)) := by
    intro b o e
    refine hidT_get (inK b o e) ?_
    by_cases hb : b = a
    · refine scriptH_free (.inr fun z => ?_)
      rw [hb, z] at e
      cases e
    · exact scriptH_free (.inl hb)
  obtain ⟨mc, lim1, lim2⟩ := nolim
  have env : Env0 P w K mg (hidT s1.heap (scriptH K a vs ns)) callerA [] s1 (scriptH K a vs ns) :=
    ⟨rfl, ⟨inKb, nsOf glob, ⟨mb, nsOf blt, bltEq⟩, ⟨mc, nsOf lim1, lim2⟩⟩, fun b o e => of_hidT e, Nat.le_of_eq (hidT_size _ _), trivial, fun b hb => (nomatch (show b ∈ ([] : List Addr) from hb)), hok, .of_eq nogen⟩
  refine codeAny_mono ((F _ inKb (nsOf glob)).go callerA [] s1 _ ⟨[.ref a], []⟩ [.ref a] [.ref a] _ _ room rfl env (bind s1 (.ref a)) (.cons rfl .nil) (prom _ hS)) fun r s' out => ?_
  cases r with
  | error e => exact out.elim
  | ok fl =>
    cases fl with
    | next => exact out.elim
    | brk => exact out.elim
    | cont => exact out.elim
    | ret u =>
      obtain ⟨v, H', os, bare, un, hok', rv, q⟩ := out
      have q' : v = .bl true := q
      subst q'
      obtain rfl : u = Value.bool true := rv
      refine ⟨rfl, OldK.of_keep fun b o e => ?_, os, bare⟩
      cases hb : scriptH K a vs ns b with
      | none => exact un.keep b o e hb (fun z => (nomatch (show b ∈ ([] : List Addr) from z))) (fun z => (nomatch z))
      | some u =>
        obtain ⟨rfl, _, rfl⟩ := scriptH_some hb
        obtain ⟨e2, _⟩ := hok' _ _ (un.frzs _ _ _ hb)
        rw [scr] at e
        cases e
        exact e2
theorem walk_g {l : PySem.W.OpenLaw} {n k : Nat} {q : Program} {loose : List Str} {XP : (Str → Option Value) → Heap → Prop} {YP : World → Heap → Prop} {d : DefRec} {K : Params → PySem.W.Frag} {sp : PySem.W.Frag → Sp} {x : Str}
    (most : l.most = some n) (line : n ≤ sizeLine) (nodef : d.params.defaults = []) (room : Room k callerA) (hY : ∀ (w : World) (h : Heap), YP w h → (K w.params).In h)
    (F : ∀ (w : World) (mg : Str → Option Value) (fa : Addr) (h : Heap), (K w.params).In h → h.Ns mainGlobals mg → mg d.name = some (.ref fa) →
      ∃ fd : FuncData, (∀ (s : Shared) (u : Value), BindsTo s fd ⟨[u], []⟩ [(x, u)]) ∧ ∀ base : Heap, (K w.params).In base → base.Ns mainGlobals mg → FnG l.prog w (K w.params) mg base CX0 k fa fd [x] (sp (K w.params)))
    (prom : ∀ (K : PySem.W.Frag) (H : Hp) (a : Addr) (ns : List Int), ns.length ≤ n → SqL K H a (ns.map V.int) → sp K [.ref a] H (fun v _ => v = .bl true) fun _ _ _ => False) :
    PySem.W.WalkO q loose XP YP l.row.toRowW d [] (fun f vs => PySem.call f vs) := by
  refine Att.attach_call most nodef fun w s0 s1 mg mb fa o pm cd doc a vs ns G Y ho hd hcd hmg hobj hints hlen hg => ?_
  obtain ⟨fd, hb, hF⟩ := F w mg fa _ (hY w _ Y) G.T.g hmg
  exact call_law_g (hY w _ Y) G.T.g G.T.b G.T.builtins G.T.nolimit hg hobj hints (Nat.le_trans hlen line) room hF hb fun H hS => prom _ H a ns hlen hS
/-! ### repr -/
/-- repr of data: None, truths, numbers, texts, lists and tuples of them -/
def rRepr (K : PySem.W.Frag) : List V → Hp → VK → Prop := fun xs H Q => ∃ (a : Addr) (d : PyData), xs = [.ref a] ∧ Dp K H (.ref a) d ∧ d.showable = true ∧ d.hasDict = false ∧ d.depth ≤ 60 ∧ d.shown.length ≤ sizeLine ∧ Q (.str d.shown) H
theorem call_repr {X : Cx} {K : PySem.W.Frag} {k : Nat} (hr : Room k X.A) (hg : X.A.guards = some []) (hK : X.K = K) : CallR X (.builtin "repr") (rRepr K) := by
  subst hK
  intro pins s σ H xs us Q I r h
  obtain ⟨a, d, rfl, hd, sh, nd, dp, sz, q⟩ := h
  obtain ⟨u, rfl, ru⟩ := vals1 r
  obtain ⟨as, rd⟩ := Dp.reads I d _ _ hd ru
  cases ru
  refine repr_of_reads' rd sh (fun z => absurd (nd.symm.trans z) Bool.false_ne_true) hg (by have := hr.units; omega) (fun _ _ e => e) (fun h' u tk keep => ?_) sz
  exact ⟨.str d.shown, H, I.kept keep, ⟨_, rfl⟩, q⟩
end Cm

set_option Elab.async false
set_option linter.all false
set_option maxRecDepth 100000
set_option maxHeartbeats 4000000
namespace Cm
open PySem PySem.Spec PyProof.Rows L2
/-! ### kinds of things -/
inductive Kd where
  | non | bl (b : Bool) | int (i : Int) | str (s : Str) | lst | tup (xs : List V) | dct
inductive HasK (H : Hp) : V → Kd → Prop where
  | non : HasK H .non .non
  | bl (b : Bool) : HasK H (.bl b) (.bl b)
  | int (i : Int) : HasK H (.int i) (.int i)
  | str (s : Str) : HasK H (.str s) (.str s)
  | lst {a : Addr} {xs : List V} (h : H a = some (.lst xs)) : HasK H (.ref a) .lst
  | tup {a : Addr} {xs : List V} (h : H a = some (.tup xs)) : HasK H (.ref a) (.tup xs)
  | dct {a : Addr} {kvs : List (Key × V)} (h : H a = some (.dK kvs)) : HasK H (.ref a) .dct
/-- tuples stay, lists stay lists, dicts dicts -/
structure Ext (H H' : Hp) : Prop where
  t : ∀ b xs, H b = some (.tup xs) → H' b = some (.tup xs)
  l : ∀ b xs, H b = some (.lst xs) → ∃ ys, H' b = some (.lst ys)
  d : ∀ b kvs, H b = some (.dK kvs) → ∃ kvs', H' b = some (.dK kvs')
theorem Ext.refl (H : Hp) : Ext H H := ⟨fun _ _ h => h, fun _ _ h => ⟨_, h⟩, fun _ _ h => ⟨_, h⟩⟩
theorem Ext.trans {H H1 H2 : Hp} (a : Ext H H1) (b : Ext H1 H2) : Ext H H2 :=
  ⟨fun x xs h => b.t x xs (a.t x xs h), fun x xs h => let ⟨ys, e⟩ := a.l x xs h; b.l x ys e, fun x xs h => let ⟨ys, e⟩ := a.d x xs h; b.d x ys e⟩
theorem Ext.same {H H' : Hp} (h : Same H H') : Ext H H' := ⟨fun b _ e => h b _ e, fun b _ e => ⟨_, h b _ e⟩, fun b _ e => ⟨_, h b _ e⟩⟩
theorem Ext.lst {H : Hp} {a : Addr} {xs ys : List V} (h : H a = some (.lst xs)) : Ext H (upd H a (.lst ys)) := by
  refine ⟨fun b zs e => ?_, fun b zs e => ?_, fun b zs e => ?_⟩
  · rw [upd_ne (ne_of e h (by intro z; cases z))]
    exact e
  · by_cases hb : b = a
    · exact ⟨ys, by rw [hb, upd_same]⟩
    · exact ⟨zs, by rw [upd_ne hb]; exact e⟩
  · exact ⟨zs, by rw [upd_ne (ne_of e h (by intro z; cases z))]; exact e⟩
theorem HasK.ext {H H' : Hp} {v : V} {k : Kd} (h : HasK H v k) (e : Ext H H') : HasK H' v k := by
  cases h with
  | non => exact .non
  | bl b => exact .bl b
  | int i => exact .int i
  | str s => exact .str s
  | lst h => obtain ⟨ys, q⟩ := e.l _ _ h; exact .lst q
  | tup h => exact .tup (e.t _ _ h)
  | dct h => obtain ⟨ys, q⟩ := e.d _ _ h; exact .dct q
def tyK : Kd → String
  | .non => "NoneType" | .bl _ => "bool" | .int _ => "int" | .str _ => "str" | .lst => "list" | .tup _ => "tuple" | .dct => "dict"
theorem HasK.ty {K : PySem.W.Frag} {H : Hp} {v : V} {k : Kd} (h : HasK H v k) : TyX K H v (.type (tyK k)) := by
  cases h with
  | non => exact .base .non
  | bl b => exact .base (.bl b)
  | int i => exact .base (.int i)
  | str s => exact .base (.str s)
  | lst h => exact .base (.lst h)
  | tup h => exact .base (.tup h)
  | dct h => exact .base (.dK h)
def isTupK : Kd → Bool
  | .tup _ => true | _ => false
def isIntK : Kd → Bool
  | .int _ => true | .bl _ => true | _ => false
def isBoolK : Kd → Bool
  | .bl _ => true | _ => false
def isStrK : Kd → Bool
  | .str _ => true | _ => false
def wholeK : Kd → Bool
  | .int _ => true | _ => false
theorem kit_tup : ∀ k : Kd, kitB (tyK k) "tuple" = some (isTupK k)
  | .non => (by decide +kernel : kitB "NoneType" "tuple" = some false)
  | .bl _ => (by decide +kernel : kitB "bool" "tuple" = some false)
  | .int _ => (by decide +kernel : kitB "int" "tuple" = some false)
  | .str _ => (by decide +kernel : kitB "str" "tuple" = some false)
  | .lst => (by decide +kernel : kitB "list" "tuple" = some false)
  | .tup _ => (by decide +kernel : kitB "tuple" "tuple" = some true)
  | .dct => (by decide +kernel : kitB "dict" "tuple" = some false)
theorem kit_int : ∀ k : Kd, kitB (tyK k) "int" = some (isIntK k)
  | .non => (by decide +kernel : kitB "NoneType" "int" = some false)
  | .bl _ => (by decide +kernel : kitB "bool" "int" = some true)
  | .int _ => (by decide +kernel : kitB "int" "int" = some true)
  | .str _ => (by decide +kernel : kitB "str" "int" = some false)
  | .lst => (by decide +kernel : kitB "list" "int" = some false)
  | .tup _ => (by decide +kernel : kitB "tuple" "int" = some false)
  | .dct => (by decide +kernel : kitB "dict" "int" = some false)
theorem kit_bool : ∀ k : Kd, kitB (tyK k) "bool" = some (isBoolK k)
  | .non => (by decide +kernel : kitB "NoneType" "bool" = some false)
  | .bl _ => (by decide +kernel : kitB "bool" "bool" = some true)
  | .int _ => (by decide +kernel : kitB "int" "bool" = some false)
  | .str _ => (by decide +kernel : kitB "str" "bool" = some false)
  | .lst => (by decide +kernel : kitB "list" "bool" = some false)
  | .tup _ => (by decide +kernel : kitB "tuple" "bool" = some false)
  | .dct => (by decide +kernel : kitB "dict" "bool" = some false)
theorem kit_str : ∀ k : Kd, kitB (tyK k) "str" = some (isStrK k)
  | .non => (by decide +kernel : kitB "NoneType" "str" = some false)
  | .bl _ => (by decide +kernel : kitB "bool" "str" = some false)
  | .int _ => (by decide +kernel : kitB "int" "str" = some false)
  | .str _ => (by decide +kernel : kitB "str" "str" = some true)
  | .lst => (by decide +kernel : kitB "list" "str" = some false)
  | .tup _ => (by decide +kernel : kitB "tuple" "str" = some false)
  | .dct => (by decide +kernel : kitB "dict" "str" = some false)
section
variable {X : Cx} {K : PySem.W.Frag}
/-! ### the rules of the layer over a named K (so that they serve within a comprehension too) -/
theorem isi_K (hK : X.K = K) : CallR X (.builtin "isinstance") (rIsi K) := by
  subst hK
  exact call_isi
def rLenK (K : PySem.W.Frag) : List V → Hp → VK → Prop := fun xs H Q => ∃ p ys, xs = [.ref p] ∧ (SqL K H p ys ∨ SqT K H p ys) ∧ Q (.int ys.length) H
theorem len_K (hK : X.K = K) : CallR X (.builtin "len") (rLenK K) := by
  subst hK
  exact call_len_seq
theorem sl_K (hK : X.K = K) : SlR X (rSlA K) := by
  subst hK
  exact sl_tupA
theorem cat_K (hK : X.K = K) : OpR X (binaryOp .Add) (rCatA K) := by
  subst hK
  exact op_catA
theorem ixT_K (hK : X.K = K) : IxR X (rIxT K) := by
  subst hK
  exact ix_tup
theorem ixL_K (hK : X.K = K) : IxR X (rIxL K) := by
  subst hK
  exact ix_list
def rTupOf (K : PySem.W.Frag) : List V → Hp → VK → Prop := fun xs H Q => ∃ p ys, xs = [.ref p] ∧ ((SqL K H p ys ∧ ∀ l, H l = none → Q (.ref l) (upd H l (.tup ys))) ∨ (SqT K H p ys ∧ Q (.ref p) H))
/-! ### x == 'text', whatever x is -/
def eqK : Kd → Str → Bool
  | .str w, s => decide (w = s)
  | _, _ => false
theorem dict_eq_declines_text (l : Addr) (es : Array DictEntry) (n : Nat) (dd : Option Addr) (sl : Array (Option Value)) (b : Str) (u : Tok) :
    Meets (Builtin.«dict.__eq__» ⟨[.ref l, .str b u], []⟩) (fun _ R s => s.heap.get? l = some { cls := .type "dict", dict := dd, data := .dict es n, slots := sl } ∧ R (.ok (.ret .notImplemented)) s) :=
  .of_wp fun prog w A R s h => by obtain ⟨hp, g, d, tk, os⟩ := s; obtain ⟨hl, h⟩ := h; have f1 := F.sub_str_dict; wp_walk using AutoSeq1.wpAny_loadPart' hl; exact ⟨_, rfl, h⟩
theorem str_eq_declines_dict (b : Str) (u : Tok) (l : Addr) (c : Value) (es : Array DictEntry) (n : Nat) (dd : Option Addr) (sl : Array (Option Value)) :
    Meets (Builtin.«str.__eq__» ⟨[.str b u, .ref l], []⟩) (fun _ R s => s.heap.get? l = some { cls := c, dict := dd, data := .dict es n, slots := sl } ∧ R (.ok (.ret .notImplemented)) s) :=
  .of_wp fun prog w A R s h => by obtain ⟨hp, g, d, tk, os⟩ := s; obtain ⟨hl, h⟩ := h; wp_walk using AutoSeq1.wpAny_loadPart' hl, wpAny_load hl; exact ⟨_, rfl, h⟩
theorem rc_dict_str {A : Around} {s : Shared} {l : Addr} {o : Obj} {es : Array DictEntry} {n : Nat} (b : Str) (u : Tok) (ho : s.heap.get? l = some o) (hc : o.cls = .type "dict") (hd : o.data = .dict es n) (hu : A.units < cLine) : SeqAt.RcAt A s (.ref l) (.str b u) false := fun prog w E Q h => by
  obtain ⟨cls, dd, data, sl⟩ := o
  simp only at hc hd
  subst hc hd
  exact SeqAt.rc_eq_decline_or (k := false) ⟨_, ho, rfl⟩ (typeIs_str s b u) (by decide) F.sub_str_dict F.slot_dict_eq F.slot_str_eq_refl
    (fun _ hq => call_meets F.slot_dict_eq ⟨_, ho, rfl⟩ F.entry_dict_eq (F.args_dict_eq_2 _ _) (dict_eq_declines_text l es n dd sl b u) ⟨ho, hq⟩)
    (fun _ hq => call_meets F.slot_str_eq_refl (typeIs_str s b u) F.entry_str_eq (F.args_str_eq_2 _ _) (str_eq_declines_dict b u l (.type "dict") es n dd sl) ⟨ho, hq⟩)
    (fun _ hq => wpAny_pure hq) (.inr hu) h
def rEqK : R2 := fun x y H Q => ∃ k s, HasK H x k ∧ y = .str s ∧ Q (.bl (eqK k s)) H
theorem op_eqK {k : Nat} (hr : Room k X.A) : OpR X (compareOp .Eq) rEqK := by
  intro pins s σ H x y v u Q I rx ry h
  obtain ⟨kd, w, hk, rfl, q⟩ := h
  have hu := hr.units0
  cases hk with
  | non => exact op_eq pins s σ H _ _ v u Q I rx ry ⟨rfl, by simpa [eqK] using q⟩
  | bl b => exact op_eq pins s σ H _ _ v u Q I rx ry ⟨rfl, by simpa [eqK] using q⟩
  | int i => exact op_eq pins s σ H _ _ v u Q I rx ry ⟨rfl, by simpa [eqK] using q⟩
  | str z => exact op_eq pins s σ H _ _ v u Q I rx ry ⟨rfl, by simpa [eqK] using q⟩
  | lst h =>
    cases rx
    obtain ⟨t, rfl⟩ := ry
    obtain ⟨its, r, p, _⟩ := I.list (SqL.of h)
    exact SeqAt.RcAt.list_str w t p.isList hu _ _ _ _ ⟨.bl false, H, I, rfl, q⟩
  | tup h =>
    cases rx
    obtain ⟨t, rfl⟩ := ry
    obtain ⟨its, r, p, _⟩ := I.tuple (SqT.of h)
    exact SeqAt.RcAt.tuple_str w t p hu _ _ _ _ ⟨.bl false, H, I, rfl, q⟩
  | @dct a kvs h =>
    cases rx
    obtain ⟨t, rfl⟩ := ry
    obtain ⟨_, _, vs, _, o, es, ep, h1, h2, h3, _⟩ := (show ObjOk X.prog X.w H s.heap a (.dK kvs) from I.hok a _ h)
    exact rc_dict_str w t h1 h2.1 h3 hu _ _ _ _ ⟨.bl false, H, I, rfl, q⟩
/-! ### t == () -/
def rEqE : R2 := fun x y H Q => ∃ a b xs, x = .ref a ∧ y = .ref b ∧ H a = some (.tup xs) ∧ H b = some (.tup []) ∧ Q (.bl xs.isEmpty) H
theorem op_eqE {k : Nat} (hr : Room k X.A) : OpR X (compareOp .Eq) rEqE := by
  intro pins s σ H x y v u Q I rx ry h
  obtain ⟨a, b, xs, rfl, rfl, ha, hb, q⟩ := h
  cases rx
  cases ry
  obtain ⟨its, r1, p1, _⟩ := I.tuple (SqT.of ha)
  obtain ⟨its2, r2, p2, _⟩ := I.tuple (SqT.of hb)
  cases r2
  refine SeqAt.eq_tupleAt (e := fun _ => true) p1 p2 hr.units0 (fun j h1 h2 => absurd h2 (by simp)) ?_
  have hl := r1.length
  have e : ((List.range (min its.toArray.size ([] : List Value).toArray.size)).all (fun _ => true) && its.toArray.size == ([] : List Value).toArray.size) = xs.isEmpty := by
    cases xs with
    | nil =>
      cases r1
      rfl
    | cons x t =>
      cases r1
      simp
  rw [e]
  exact ⟨.bl _, H, I, rfl, q⟩
end
/-! ### t[::-1] -/
section
variable {prog : Program} {w : World} {A : Around} {E : Value → Shared → Prop} {s : Shared}
theorem back_applied {sl : Addr} {vk : Value} {n : Nat} {Q : Int × Int × Nat → Shared → Prop} (hs : s.heap.IsSliceOf sl .none .none vk) (pk : IsPart vk (some (-1))) (h : Q ((n : Int) - 1, -1, n) s) :
    wpAny (model prog w) A (Builtin.Slice.sliceApplied (.ref sl) (pure (n : Int))) Q E s := by
  obtain ⟨os, hos, hcs, hds⟩ := _root_.id hs
  unfold Builtin.Slice.sliceApplied Builtin.Slice.sliceFields
  refine wpAny_bind (wpAny_bind (wpAny_field hos hds (x := .none) rfl (wpAny_bind (wpAny_field hos hds (x := .none) rfl (wpAny_bind (wpAny_field hos hds (x := vk) rfl (wpAny_pure ?_)))))))
  refine wpAny_bind (HT.slicePart_ pk ?_)
  show wpAny _ _ (if ((-1 : Int) == 0) = true then _ else _) _ _ s
  rw [if_neg (by decide)]
  refine wpAny_bind (slicePart_none (wpAny_bind (slicePart_none (wpAny_bind (wpAny_pure ?_)))))
  have e1 : Builtin.Slice.sliceAdjust none none (-1) (n : Int) = ((n : Int) - 1, -1) := rfl
  have e2 : Builtin.Slice.slicePlaces ((n : Int) - 1) (-1) (-1) = n := by
    unfold Builtin.Slice.slicePlaces
    have h1 : ¬ ((-1 : Int) > 0) := by omega
    simp only [h1, if_false]
    split
    · rw [show (- (-1 : Int)) = 1 from rfl, Int.ediv_one]
      omega
    · omega
  show wpAny _ _ (pure ((Builtin.Slice.sliceAdjust none none (-1) (n : Int)).1, (-1 : Int), Builtin.Slice.slicePlaces (Builtin.Slice.sliceAdjust none none (-1) (n : Int)).1 (Builtin.Slice.sliceAdjust none none (-1) (n : Int)).2 (-1))) _ _ s
  rw [e1]
  show wpAny _ _ (pure ((n : Int) - 1, (-1 : Int), Builtin.Slice.slicePlaces ((n : Int) - 1) (-1) (-1))) _ _ s
  rw [e2]
  exact wpAny_pure h
theorem fm_some {α β : Type} {f : α → Option β} {g : α → β} : ∀ {l : List α}, (∀ a ∈ l, f a = some (g a)) → l.filterMap f = l.map g
  | [], _ => rfl
  | a :: r, h => by
    rw [List.filterMap_cons, h a (List.mem_cons.mpr (.inl rfl))]
    show g a :: r.filterMap f = g a :: r.map g
    rw [fm_some fun x hx => h x (List.mem_cons.mpr (.inr hx))]
theorem back_pick (xs : Array Value) : ((List.range xs.size).filterMap fun (m : Nat) => xs[(((xs.size : Int) - 1) + (m : Int) * (-1)).toNat]?).toArray = xs.toList.reverse.toArray := by
  congr 1
  have e : ((List.range xs.size).filterMap fun (m : Nat) => xs[(((xs.size : Int) - 1) + (m : Int) * (-1)).toNat]?) = (List.range xs.size).map (fun m => (xs.toList[xs.size - 1 - m]?).getD .none) := by
    refine fm_some fun m hm => ?_
    have hlt := List.mem_range.mp hm
    have e1 : (((xs.size : Int) - 1) + (m : Int) * (-1)).toNat = xs.size - 1 - m := by omega
    rw [e1, ← Array.getElem?_toList, List.getElem?_eq_getElem (by rw [Array.length_toList]; omega)]
    rfl
  rw [e]
  refine List.ext_getElem (by simp) fun i h1 h2 => ?_
  have h3 : i < xs.size := by simpa using h1
  rw [List.getElem_map, List.getElem_range, List.getElem_reverse, List.getElem?_eq_getElem (by rw [Array.length_toList]; omega)]
  simp
theorem tup_back {t sl : Addr} {items : Array Value} {vk : Value} {Q : Value → Shared → Prop} (ht : IsTup s.heap t items) (hs : s.heap.IsSliceOf sl .none .none vk) (pk : IsPart vk (some (-1)))
    (h : Q (.ref s.heap.objs.size) { s with heap := s.heap.push { cls := .type "tuple", data := .seq items.toList.reverse.toArray } }) (hsz : items.size ≤ sizeLine) : wpAny (model prog w) A (getItem (.ref t) (.ref sl)) Q E s := by
  have fits : sizeOk (.seq items.toList.reverse.toArray) := by
    show items.toList.reverse.toArray.size ≤ sizeLine
    rw [List.size_toArray, List.length_reverse, Array.length_toList]
    exact hsz
  obtain ⟨os, hos, hcs, hds⟩ := _root_.id hs
  have hTs : s.TypeIs (.ref sl) "slice" := ⟨os, hos, hcs⟩
  unfold getItem
  try with_reducible refine wpAny_holding ?_
  first | refine wpAny_bind (wpAny_pure ?_) | skip
  refine wpAny_bind (wpAny_sequenceKey ht.typeIs (by decide) ?_)
  refine wpAny_bind (wpAny_callSpecial?_slot (name := Str.ofString "__getitem__") ht.typeIs PyProof.Rows.slot_tuple_getitem (wpAny_call_entry PyProof.Rows.slot_tuple_getitem ht.typeIs entry_tuple_getitem ?_ (args_tuple_getitem _ _)))
  show wpAny _ _ (Builtin.Tuple.tupleItemsOf (.ref t) >>= _) _ _ s
  refine wpAny_bind (tupleItemsOf_ ht (wpAny_bind (wpAny_typeOf hTs ?_)))
  rw [if_pos (by decide)]
  refine wpAny_bind (back_applied (n := items.size) hs pk ?_)
  have hno : ¬ ((((items.size : Int) - 1) == 0 && (-1 : Int) == 1 && items.size == items.size) = true) := by simp
  show wpAny _ _ (if (((items.size : Int) - 1) == 0 && (-1 : Int) == 1 && items.size == items.size) = true then _ else _) _ _ s
  rw [if_neg hno, back_pick]
  first
    | exact wpAny_bind (m := Builtin.Tuple.tupleExact _) (wpAny_newObj_type (wpAny_pure ⟨_, rfl, wpAny_pure h⟩) fits)
    | exact wpAny_bind (m := Builtin.Tuple.tupleExact _) (wpAny_newObj_type (wpAny_bind (wpAny_pure (wpAny_pure ⟨_, rfl, wpAny_pure h⟩))) fits)
    | exact wpAny_bind (wpAny_bind (m := Builtin.Tuple.tupleExact _) (wpAny_newObj_type (wpAny_pure (wpAny_pure ⟨_, rfl, wpAny_pure h⟩)) fits))
    | exact wpAny_bind (wpAny_bind (m := Builtin.Tuple.tupleExact _) (wpAny_newObj_type (wpAny_pure ⟨_, rfl, wpAny_pure h⟩) fits))
end
section
variable {X : Cx}
def tRevT (K : PySem.W.Frag) (te : TE) : TE := fun σ H Q => te σ H fun x H1 => ∃ a xs, x = .ref a ∧ SqT K H1 a xs ∧ ∀ p, H1 p = none → Q (.ref p) (upd H1 p (.tup xs.reverse))
theorem pe_revT {e : Expr} {te : TE} {k : Nat} {p1 p2 p3 pos : Pos} (he : PE X e te) : PE X (.Subscript e (.Slice none none (some (.UnaryOp .USub (.Constant (.int 1) k p1) p2)) p3) pos) (tRevT X.K te) := by
  refine ⟨fun pins s σ H Q I h => Subscript_ (thn (he.run pins s σ H _ I h) fun v s1 out => ?_)⟩
  obtain ⟨x, H1, I1, r1, a, xs, rfl, hx, q⟩ := out
  cases r1
  have part : PO X (some (.UnaryOp .USub (.Constant (.int 1) k p1) p2)) (tPart (tUn (rU fun i => .int (-i)) (tC (.int 1)))) := po_some (pe_un un_neg pe_int)
  refine wpAny_Slice ?_
  rw [evalPart_none]
  refine wpAny_pure (wpAny_pure ?_)
  refine thn (part.run pins s1 σ H1 (fun o H4 => o = some (-1) ∧ H4 = H1) I1 ⟨1, rfl, -1, rfl, rfl, rfl⟩) fun vk s4 out => ?_
  obtain ⟨o, H4, I4, pk, rfl, rfl⟩ := out
  have I5 : Inv X pins σ H4 { s4 with heap := s4.heap.push { cls := .type "slice", data := .fields #[.none, .none, vk] } } := I4.kept (t' := s4.toks) fun b ob z => Heap.get?_push_of_some _ z
  obtain ⟨its, r, ht, hz⟩ := I5.tuple hx
  have hlen := r.length
  show wpAny (model X.prog X.w) X.A (subscriptTail e (.Slice none none (some (.UnaryOp .USub (.Constant (.int 1) k p1) p2)) p3) (.ref a) (.ref s4.heap.objs.size)) (EP X pins σ Q) X.xe { s4 with heap := s4.heap.push { cls := .type "slice", data := .fields #[.none, .none, vk] } }
  refine tail_any (ops := [.ref a, .ref s4.heap.objs.size]) ht.typeIs PyProof.Rows.slot_tuple_getitem.lookup ?_ (by with_unfolding_all rfl)
  refine tup_back ht (Heap.IsSliceOf.new _ .none .none vk) pk ?_ (by rw [List.size_toArray]; omega)
  refine ⟨.ref _, _, I5.laid (t' := s4.toks) (o := .tup xs.reverse) (fun b ob z => Heap.get?_push_of_some _ z) (Nat.le_refl _) ?_, rfl, q _ (I5.hok.fresh (Nat.le_refl _))⟩
  exact ⟨by rw [List.length_reverse]; exact hz, _, r.reverse, _, Heap.get?_push_size _ rfl, rfl, 0, rfl⟩
end
section
end
end Cm

set_option Elab.async false
set_option linter.all false
set_option maxRecDepth 100000
set_option maxHeartbeats 4000000
namespace Cm
open PySem PySem.Spec PyProof.Rows L2
/-! ### the drawing list: left, seed, count -/
def LP (H : Hp) (p : Addr) : Prop := ∃ x y z : Int, H p = some (.lst [.int x, .int y, .int z])
theorem LP.same {H H' : Hp} {p : Addr} (h : LP H p) (s : Same H H') : LP H' p := by
  obtain ⟨x, y, z, e⟩ := h
  exact ⟨x, y, z, s _ _ e⟩
theorem LP.but {H H' : Hp} {p q : Addr} (h : LP H p) (s : But q H H') (n : p ≠ q) : LP H' p := by
  obtain ⟨x, y, z, e⟩ := h
  exact ⟨x, y, z, s _ _ n e⟩
def rPenL (K : PySem.W.Frag) : V → V → Hp → VK → Prop := fun x y H Q => ∃ (a : Addr) (ns : List Int) (k : Int), x = .ref a ∧ y = .int k ∧ SqL K H a (ns.map V.int) ∧ 0 ≤ k ∧ ∀ p H', H p = none → Same H H' → LP H' p → Q (.ref p) H'
def rDrawL : V → V → Hp → VK → Prop := fun a b H Q => ∃ (p : Addr) (many : Int), a = .ref p ∧ b = .int many ∧ LP H p ∧ 0 < many ∧ many < 1073741824 ∧ ∀ r H', 0 ≤ r → r < many → LP H' p → But p H H' → Ext H H' → Q (.int r) H'
theorem cellL {ns : List Int} {i : Int} (h0 : 0 ≤ i) (h1 : i < ((ns.map V.int).length : Int)) : ∃ z, atI (ns.map V.int) i = some (.int z) := by
  rw [List.length_map] at h1
  have hj : i.toNat < ns.length := by omega
  refine ⟨ns[i.toNat], ?_⟩
  have e : ((i.toNat : Nat) : Int) = i := by omega
  have q : atI (ns.map V.int) ((i.toNat : Nat) : Int) = some (.int ns[i.toNat]) := atI_nat (by rw [List.getElem?_map, List.getElem?_eq_getElem hj]; rfl)
  rw [e] at q
  exact q
theorem eq_yes {i j : Int} (e : decide (V.int i = V.int j) = true) : i = j := V.int.inj (of_decide_eq_true e)
theorem eq_no {i j : Int} (e : ¬ decide (V.int i = V.int j) = true) : i ≠ j := fun z => e (by rw [z]; exact decide_eq_true rfl)
theorem ne_yes {i j : Int} (e : (!decide (V.int i = V.int j)) = true) : i ≠ j := fun z => by
  rw [z, decide_eq_true rfl] at e
  exact Bool.noConfusion e
theorem ne_no {i j : Int} (e : ¬ (!decide (V.int i = V.int j)) = true) : i = j := by
  by_cases h : i = j
  · exact h
  · exact absurd (by rw [decide_eq_false fun z => h (V.int.inj z)]; rfl) e
theorem q587 : (0 : Int) < 2147483587 := by decide
theorem q647 : (0 : Int) < 2147483647 := by decide
theorem q629 : (0 : Int) < 2147483629 := by decide
theorem q521 : (0 : Int) < 65521 := by decide
theorem p15 : (0 : Int) < 10 ^ (15 : Int).toNat := by decide
end Cm

set_option Elab.async false
set_option linter.all false
set_option maxRecDepth 100000
set_option maxHeartbeats 4000000
namespace Cm
open PySem PySem.Spec PyProof.Rows L2
/-! ### what a step is, by kinds -/
def numK (many : Int) : Kd → Bool
  | .int i => decide (0 ≤ i) && decide (i < many)
  | _ => false
def unlikeK (many : Int) : Kd → Kd → Bool
  | .int i, .int j => (decide (0 ≤ i) && decide (i < many)) && ((decide (0 ≤ j) && decide (j < many)) && !decide (V.int i = V.int j))
  | _, _ => false
def addK (many : Int) : List Kd → Bool
  | [a, b, c] => unlikeK many a b && wholeK c
  | _ => false
def swapK (many : Int) : List Kd → Bool
  | [a, b] => unlikeK many a b
  | _ => false
def turnK (many : Int) : List Kd → Bool
  | [a] => numK many a
  | _ => false
def stepK (many : Int) : List Kd → Bool
  | [] => false
  | k :: r => if eqK k "add" = true then addK many r else if eqK k "swap" = true then swapK many r else if eqK k "turn" = true then turnK many r else false
def stepO (many : Int) : Option (List Kd) → Bool
  | none => false
  | some ks => stepK many ks
/-- the kinds of a tuple's items; none of what is no tuple -/
def KsOf (H : Hp) (v : V) : Option (List Kd) → Prop
  | none => ∃ k, HasK H v k ∧ isTupK k = false
  | some ks => ∃ a xs, v = .ref a ∧ H a = some (.tup xs) ∧ Paired (HasK H) xs ks
theorem KsOf.ext {H H' : Hp} {v : V} : ∀ {o : Option (List Kd)}, KsOf H v o → Ext H H' → KsOf H' v o
  | none, ⟨k, h1, h2⟩, e => ⟨k, h1.ext e, h2⟩
  | some ks, ⟨a, xs, h1, h2, h3⟩, e => ⟨a, xs, h1, e.t _ _ h2, Paired.mapP h3 fun _ _ z => z.ext e⟩
/-- a tuple of at most n things of known kinds -/
def TK (n : Nat) (H : Hp) (v : V) : Prop := ∃ a xs, v = .ref a ∧ H a = some (.tup xs) ∧ xs.length ≤ n ∧ ∀ x ∈ xs, ∃ k, HasK H x k
theorem TK.ext {n : Nat} {H H' : Hp} {v : V} (h : TK n H v) (e : Ext H H') : TK n H' v := by
  obtain ⟨a, xs, h1, h2, h3, h4⟩ := h
  exact ⟨a, xs, h1, e.t _ _ h2, h3, fun x hx => let ⟨k, q⟩ := h4 x hx; ⟨k, q.ext e⟩⟩
/-- a thing of known kind, a tuple of such things -/
def Gd (H : Hp) (v : V) : Prop := ∃ o, KsOf H v o
theorem Gd.ext {H H' : Hp} {v : V} (h : Gd H v) (e : Ext H H') : Gd H' v := let ⟨o, q⟩ := h; ⟨o, q.ext e⟩
theorem kinds_of {H : Hp} : ∀ {xs : List V}, (∀ x ∈ xs, ∃ k, HasK H x k) → ∃ ks, Paired (HasK H) xs ks
  | [], _ => ⟨[], .nil⟩
  | x :: r, h => by
    obtain ⟨k, hk⟩ := h x (List.mem_cons.mpr (.inl rfl))
    obtain ⟨ks, hks⟩ := kinds_of fun y hy => h y (List.mem_cons.mpr (.inr hy))
    exact ⟨k :: ks, .cons hk hks⟩
theorem TK.gd {n : Nat} {H : Hp} {v : V} (h : TK n H v) : Gd H v := by
  obtain ⟨a, xs, h1, h2, _, h4⟩ := h
  obtain ⟨ks, hks⟩ := kinds_of h4
  exact ⟨some ks, a, xs, h1, h2, hks⟩
theorem HasK.gd {H : Hp} {v : V} {k : Kd} (h : HasK H v k) (hk : isTupK k = false) : Gd H v := ⟨none, k, h, hk⟩
/-! ### slices and sums of such tuples -/
theorem cut_mem {xs : List V} {lo hi : Option Int} {x : V} (h : x ∈ cutV xs lo hi) : x ∈ xs := List.mem_of_mem_drop (List.mem_of_mem_take h)
theorem sl_TK {K : PySem.W.Frag} {n : Nat} {H : Hp} {v : V} {lo hi : Option Int} {Q : VK} (h : TK n H v) (q : ∀ v' H', Same H H' → TK n H' v' → Q v' H') : rSlA K v lo hi H Q := by
  obtain ⟨a, xs, rfl, h2, h3, h4⟩ := id h
  refine ⟨a, xs, rfl, SqT.of h2, fun _ => q _ _ (Same.refl H) h, fun _ p hp => q _ _ (same_new hp) ⟨p, _, rfl, upd_same, Nat.le_trans (cutV_length _ _ _) h3, fun x hx => ?_⟩⟩
  obtain ⟨k, hk⟩ := h4 x (cut_mem hx)
  exact ⟨k, hk.ext (Ext.same (same_new hp))⟩
theorem cat_TK {K : PySem.W.Frag} {n m : Nat} {H : Hp} {v u : V} {Q : VK} (h : TK n H v) (h' : TK m H u) (hs : n + m ≤ 1000) (q : ∀ v' H', Same H H' → TK (n + m) H' v' → Q v' H') : rCatA K v u H Q := by
  obtain ⟨a, xs, rfl, h2, h3, h4⟩ := id h
  obtain ⟨b, ys, rfl, k2, k3, k4⟩ := id h'
  have up1 : TK (n + m) H (.ref a) := ⟨a, xs, rfl, h2, by omega, h4⟩
  have up2 : TK (n + m) H (.ref b) := ⟨b, ys, rfl, k2, by omega, k4⟩
  refine ⟨a, b, xs, ys, rfl, rfl, SqT.of h2, SqT.of k2, Nat.le_of_lt (small1000 (by omega)), fun _ => q _ _ (Same.refl H) up2, fun _ _ => q _ _ (Same.refl H) up1, fun _ _ p hp => q _ _ (same_new hp) ⟨p, _, rfl, upd_same, ?_, fun x hx => ?_⟩⟩
  · rw [List.length_append]
    omega
  · rcases List.mem_append.mp hx with z | z
    · obtain ⟨k, hk⟩ := h4 x z
      exact ⟨k, hk.ext (Ext.same (same_new hp))⟩
    · obtain ⟨k, hk⟩ := k4 x z
      exact ⟨k, hk.ext (Ext.same (same_new hp))⟩
theorem one_TK {H : Hp} {p : Addr} {x : V} {k : Kd} (hp : H p = none) (hk : HasK H x k) : TK 1 (upd H p (.tup [x])) (.ref p) :=
  ⟨p, [x], rfl, upd_same, Nat.le_refl _, fun y hy => ⟨k, by rw [List.mem_singleton.mp hy]; exact hk.ext (Ext.same (same_new hp))⟩⟩
/-! ### a step by kinds: what isn't whole makes none -/
theorem not_whole_num {many : Int} {k : Kd} (h : wholeK k = false) : numK many k = false := by cases k <;> first | rfl | exact absurd h (by simp [wholeK])
theorem not_whole_l {many : Int} {k k' : Kd} (h : wholeK k = false) : unlikeK many k k' = false := by cases k <;> first | rfl | exact absurd h (by simp [wholeK])
theorem not_whole_r {many : Int} {k k' : Kd} (h : wholeK k' = false) : unlikeK many k k' = false := by
  cases k <;> cases k' <;> first | rfl | exact absurd h (by simp [wholeK])
theorem step_not_whole {many : Int} {k0 : Kd} {r : List Kd} {k : Kd} (hm : k ∈ r) (h : wholeK k = false) : stepK many (k0 :: r) = false := by
  have ha : addK many r = false := by
    rcases r with _ | ⟨a, _ | ⟨b, _ | ⟨c, _ | ⟨d, r⟩⟩⟩⟩ <;> first | rfl | skip
    show (unlikeK many a b && wholeK c) = false
    rcases List.mem_cons.mp hm with rfl | hm
    · rw [not_whole_l h]
      rfl
    rcases List.mem_cons.mp hm with rfl | hm
    · rw [not_whole_r h]
      rfl
    rw [List.mem_singleton.mp hm] at h
    rw [h, Bool.and_false]
  have hs : swapK many r = false := by
    rcases r with _ | ⟨a, _ | ⟨b, _ | ⟨c, r⟩⟩⟩ <;> first | rfl | skip
    show unlikeK many a b = false
    rcases List.mem_cons.mp hm with rfl | hm
    · exact not_whole_l h
    rw [List.mem_singleton.mp hm] at h
    exact not_whole_r h
  have ht : turnK many r = false := by
    rcases r with _ | ⟨a, _ | ⟨b, r⟩⟩ <;> first | rfl | skip
    show numK many a = false
    rw [List.mem_singleton.mp hm] at h
    exact not_whole_num h
  show (if eqK k0 "add" = true then addK many r else if eqK k0 "swap" = true then swapK many r else if eqK k0 "turn" = true then turnK many r else false) = false
  rw [ha, hs, ht]
  split
  · rfl
  · split
    · rfl
    · split <;> rfl
theorem step_not_str {many : Int} {k0 : Kd} {r : List Kd} (h : isStrK k0 = false) : stepK many (k0 :: r) = false := by
  have e : ∀ s, eqK k0 s = false := fun s => by cases k0 <;> first | rfl | exact absurd h (by simp [isStrK])
  show (if eqK k0 "add" = true then addK many r else if eqK k0 "swap" = true then swapK many r else if eqK k0 "turn" = true then turnK many r else false) = false
  rw [e, e, e]
  rfl
theorem whole_int {k : Kd} (h : wholeK k = true) : ∃ i, k = .int i := by
  cases k <;> first | exact ⟨_, rfl⟩ | exact absurd h (by simp [wholeK])
theorem all_ints {H : Hp} : ∀ {xs : List V} {ks : List Kd}, Paired (HasK H) xs ks → (∀ k ∈ ks, wholeK k = true) → ∃ ns : List Int, xs = ns.map V.int ∧ ks = ns.map Kd.int
  | _, _, .nil, _ => ⟨[], rfl, rfl⟩
  | _, _, .cons h t, hw => by
    obtain ⟨i, rfl⟩ := whole_int (hw _ (List.mem_cons.mpr (.inl rfl)))
    obtain ⟨ns, rfl, rfl⟩ := all_ints t fun k hk => hw k (List.mem_cons.mpr (.inr hk))
    cases h
    exact ⟨i :: ns, rfl, rfl⟩
end Cm

set_option Elab.async false
set_option linter.all false
set_option maxRecDepth 100000
set_option maxHeartbeats 4000000
namespace Cm
open PySem PySem.Spec PyProof.Rows L2
/-! ### (z,) * n -/
theorem tuple_mul1 (l : Addr) (items : Array Value) (n : Nat) (dd : Option Addr) (sl : Array (Option Value)) (u : Tok) :
    Meets (Builtin.«tuple.__mul__» ⟨[.ref l, .int 1 u], []⟩) (fun _ R s => s.heap.get? l = some { cls := .type "tuple", dict := dd, data := .seq items n, slots := sl } ∧ R (.ok (.ret (Value.ref l))) s) :=
  .of_wp fun P0 w0 A0 R0 s0 pre => by
    obtain ⟨hp0, g0, d0, tk0, os0⟩ := s0
    obtain ⟨hat, post⟩ := pre
    have f1 := AutoSeq1.idx_int
    wp_walk using wpAny_loadPart' hat
    exact ⟨_, rfl, post⟩
theorem tuple_mul0 (l : Addr) (items : Array Value) (n : Nat) (dd : Option Addr) (sl : Array (Option Value)) (u : Tok) (hi : items.isEmpty = false) :
    Meets (Builtin.«tuple.__mul__» ⟨[.ref l, .int 0 u], []⟩) (fun _ R s => s.heap.get? l = some { cls := .type "tuple", dict := dd, data := .seq items n, slots := sl } ∧
      R (.ok (.ret (Value.ref s.heap.objs.size))) { s with heap := s.heap.push { cls := Value.type "tuple", data := Data.seq #[] }, toks := s.toks }) :=
  .of_wp fun P0 w0 A0 R0 s0 pre => by
    obtain ⟨hp0, g0, d0, tk0, os0⟩ := s0
    obtain ⟨hat, post⟩ := pre
    have f1 := AutoSeq1.idx_int
    wp_walk using wpAny_loadPart' hat
    have c1 : (items.isEmpty || (0 : Int) == 1) = false := by rw [hi]; rfl
    have c2 : (decide ((0 : Int) ≤ 0) || items.isEmpty) = true := by rw [hi]; rfl
    exact ⟨_, rfl, post⟩
def rRepN : R2 := fun x y H Q => ∃ (l : Addr) (z : V) (n : Nat), x = .ref l ∧ y = .int n ∧ H l = some (.tup [z]) ∧ n ≤ 1000 ∧ ∀ p H', Same H H' → H' p = some (.tup (List.replicate n z)) → Q (.ref p) H'
theorem rep_flat (z : V) : ∀ n : Nat, (List.replicate n [z]).flatten = List.replicate n z
  | 0 => rfl
  | n + 1 => by
    rw [List.replicate_succ, List.flatten_cons, rep_flat z n]
    rfl
theorem op_repN {X : Cx} : OpR X (binaryOp .Mult) rRepN := by
  intro pins s σ H x y v u Q I rx ry h
  obtain ⟨l, z, n, rfl, rfl, hl, hn, q⟩ := h
  match n, hn, q, ry with
  | 0, hn, q, ry =>
    cases rx
    obtain ⟨t, rfl⟩ := ry
    obtain ⟨its, r, ⟨⟨cls, dd, data, sl⟩, ho, hc, n, hd⟩, hs⟩ := I.tuple (SqT.of hl)
    simp only at hc hd
    subst hc hd
    have hi : its.toArray.isEmpty = false := by
      cases r
      rfl
    refine wpAny_binaryOp_repeat_ref (T := "tuple") (U := "int") (by decide) ⟨_, ho, rfl⟩ (fun s' => typeIs_int s' _ t) noFill_tuple_mul F.fills_int_mul F.slot_int_rmul repeat_tuple F.slot_int_index.lookup
      (call_meets F.slot_int_rmul (typeIs_int s _ t) F.entry_int_rmul (F.args_int_rmul_2 _ _) (int_rmul_tuple _ t l its.toArray n dd sl)
        ⟨ho, rfl, ⟨_, ho, rfl⟩, call_meets F.slot_tuple_mul ⟨_, ho, rfl⟩ F.entry_tuple_mul (F.args_tuple_mul_2 _ _) (tuple_mul0 l its.toArray n dd sl t hi) ⟨ho, ?_⟩⟩)
    refine ⟨.ref s.heap.objs.size, _, I.laid (t' := s.toks) (o := .tup []) (fun b ob q => Heap.get?_push_of_some _ q) (Nat.le_refl _) ?_, rfl, q _ _ (same_new (I.hok.fresh (Nat.le_refl _))) upd_same⟩
    exact ⟨Nat.zero_le _, [], .nil, IsTup.new _ _⟩
  | 1, hn, q, ry =>
    cases rx
    obtain ⟨t, rfl⟩ := ry
    obtain ⟨its, r, ⟨⟨cls, dd, data, sl⟩, ho, hc, n, hd⟩, hs⟩ := I.tuple (SqT.of hl)
    simp only at hc hd
    subst hc hd
    refine wpAny_binaryOp_repeat_ref (T := "tuple") (U := "int") (by decide) ⟨_, ho, rfl⟩ (fun s' => typeIs_int s' _ t) noFill_tuple_mul F.fills_int_mul F.slot_int_rmul repeat_tuple F.slot_int_index.lookup
      (call_meets F.slot_int_rmul (typeIs_int s _ t) F.entry_int_rmul (F.args_int_rmul_2 _ _) (int_rmul_tuple _ t l its.toArray n dd sl)
        ⟨ho, rfl, ⟨_, ho, rfl⟩, call_meets F.slot_tuple_mul ⟨_, ho, rfl⟩ F.entry_tuple_mul (F.args_tuple_mul_2 _ _) (tuple_mul1 l its.toArray n dd sl t) ⟨ho, ?_⟩⟩)
    exact ⟨.ref l, H, I, rfl, q _ _ (Same.refl H) hl⟩
  | n + 2, hn, q, ry =>
    refine op_repT pins s σ H _ _ v u Q I rx ry ⟨l, _, [z], rfl, rfl, SqT.of hl, by simp, by omega, by omega, by simp, fun p hp => ?_⟩
    refine q p _ (same_new hp) ?_
    rw [upd_same, show (((n + 2 : Nat) : Int)).toNat = n + 2 from rfl, rep_flat]
theorem walk_zipT {K : PySem.W.Frag} {a b : Addr} {xs ys : List V} {n : Nat} (hn : n = min xs.length ys.length) : Walk (RZ.ItzT K a b) n (fun H => SqT K H a xs ∧ SqT K H b ys) (YPair (fun i => xs[i]?) (fun i => ys[i]?)) := by
  subst hn
  constructor
  · intro i G hi g
    exact ⟨xs, ys, _, _, g.1, g.2, List.getElem?_eq_getElem (Nat.lt_of_lt_of_le hi (Nat.min_le_left _ _)), List.getElem?_eq_getElem (Nat.lt_of_lt_of_le hi (Nat.min_le_right _ _))⟩
  · intro G g
    refine ⟨xs, ys, g.1, g.2, ?_⟩
    omega
  · rintro i G v G' _ g ⟨t, p, r, e1, e2, e3, e4, e5⟩
    exact ⟨t, p, r, e1, e2, e3, e4 _ g.1, e5 _ g.2⟩
end Cm

set_option Elab.async false
set_option linter.all false
set_option maxRecDepth 100000
set_option maxHeartbeats 4000000
namespace Cm
open PySem PySem.Spec PyProof.Rows L2
/-! ### rows and steps, as numbers -/
abbrev Rs := List (List Int)
inductive St3 where
  | add (i j : Nat) (z : Int) | swap (i j : Nat) | turn (i : Nat)
def St3.vals : St3 → List V
  | .add i j z => [.str "add", .int i, .int j, .int z]
  | .swap i j => [.str "swap", .int i, .int j]
  | .turn i => [.str "turn", .int i]
def St3.ok (m : Nat) : St3 → Prop
  | .add i j z => i < m ∧ j < m ∧ i ≠ j ∧ z.natAbs < 2 ^ 100
  | .swap i j => i < m ∧ j < m ∧ i ≠ j
  | .turn i => i < m
def St3.back : St3 → St3
  | .add i j z => .add i j (-z)
  | .swap i j => .swap i j
  | .turn i => .turn i
theorem back_ok {m : Nat} : ∀ {st : St3}, st.ok m → st.back.ok m
  | .add i j z, ⟨h1, h2, h3, h4⟩ => ⟨h1, h2, h3, by rw [Int.natAbs_neg]; exact h4⟩
  | .swap _ _, h => h
  | .turn _, h => h
def row (rs : Rs) (i : Nat) : List Int := rs[i]?.getD []
def St3.run : St3 → Rs → Rs
  | .add i j z, rs => rs.set i (List.zipWith (fun x y => x + z * y) (row rs i) (row rs j))
  | .swap i j, rs => (rs.set i (row rs j)).set j (row rs i)
  | .turn i, rs => rs.set i ((row rs i).map fun x => -x)
structure RB (m w b : Nat) (rs : Rs) : Prop where
  len : rs.length = m
  wide : ∀ r ∈ rs, r.length = w
  small : ∀ r ∈ rs, ∀ x ∈ r, x.natAbs < 2 ^ b
theorem row_at {rs : Rs} {i : Nat} (h : i < rs.length) : rs[i]? = some (row rs i) := by
  unfold row
  rw [List.getElem?_eq_getElem h]
  rfl
theorem row_mem {rs : Rs} {i : Nat} (h : i < rs.length) : row rs i ∈ rs := List.mem_of_getElem? (row_at h)
theorem RB.mono {m w b c : Nat} {rs : Rs} (h : RB m w b rs) (hb : b ≤ c) : RB m w c rs :=
  ⟨h.len, h.wide, fun r hr x hx => Nat.lt_of_lt_of_le (h.small r hr x hx) (Nat.pow_le_pow_right (by decide) hb)⟩
theorem mem_set {rs : Rs} {i : Nat} {r x : List Int} (h : x ∈ rs.set i r) : x ∈ rs ∨ x = r := by
  rcases List.mem_or_eq_of_mem_set h with z | z
  · exact .inl z
  · exact .inr z
theorem RB.set {m w b : Nat} {rs : Rs} {i : Nat} {r : List Int} (h : RB m w b rs) (h1 : r.length = w) (h2 : ∀ x ∈ r, x.natAbs < 2 ^ b) : RB m w b (rs.set i r) :=
  ⟨by rw [List.length_set]; exact h.len, fun x hx => by
    rcases mem_set hx with z | z
    · exact h.wide x z
    · rw [z]; exact h1, fun x hx => by
    rcases mem_set hx with z | z
    · exact h.small x z
    · rw [z]; exact h2⟩
theorem mem_zipWith {f : Int → Int → Int} : ∀ {xs ys : List Int} {z : Int}, z ∈ List.zipWith f xs ys → ∃ x y, x ∈ xs ∧ y ∈ ys ∧ z = f x y
  | [], _, _, h => by simp at h
  | _ :: _, [], _, h => by simp at h
  | x :: xs, y :: ys, z, h => by
    rw [List.zipWith_cons_cons] at h
    rcases List.mem_cons.mp h with e | e
    · exact ⟨x, y, List.mem_cons.mpr (.inl rfl), List.mem_cons.mpr (.inl rfl), e⟩
    · obtain ⟨a, c, h1, h2, h3⟩ := mem_zipWith e
      exact ⟨a, c, List.mem_cons.mpr (.inr h1), List.mem_cons.mpr (.inr h2), h3⟩
theorem add_small {b : Nat} {x y z : Int} (hx : x.natAbs < 2 ^ b) (hy : y.natAbs < 2 ^ b) (hz : z.natAbs < 2 ^ 100) : (x + z * y).natAbs < 2 ^ (b + 101) := by
  have h1 : (x + z * y).natAbs ≤ x.natAbs + z.natAbs * y.natAbs := by
    rw [← Int.natAbs_mul]
    exact Int.natAbs_add_le _ _
  have h2 : z.natAbs * y.natAbs ≤ 2 ^ 100 * 2 ^ b := Nat.mul_le_mul (Nat.le_of_lt hz) (Nat.le_of_lt hy)
  have e : 2 ^ (b + 101) = 2 ^ 101 * 2 ^ b := by rw [Nat.pow_add, Nat.mul_comm]
  rw [e]
  have h3 : (2 : Nat) ^ 101 * 2 ^ b = 2 ^ 100 * 2 ^ b + 2 ^ 100 * 2 ^ b := by
    rw [show (2 : Nat) ^ 101 = 2 ^ 100 + 2 ^ 100 from by decide, Nat.add_mul]
  have h4 : 2 ^ b ≤ 2 ^ 100 * 2 ^ b := Nat.le_mul_of_pos_left _ (by decide)
  omega
theorem run_RB {m w b : Nat} {rs : Rs} : ∀ {st : St3}, st.ok m → RB m w b rs → RB m w (b + 101) (st.run rs)
  | .add i j z, ⟨h1, h2, h3, h4⟩, h => by
    have li : i < rs.length := by rw [h.len]; exact h1
    have lj : j < rs.length := by rw [h.len]; exact h2
    refine (h.mono (by omega)).set ?_ fun x hx => ?_
    · rw [List.length_zipWith, h.wide _ (row_mem li), h.wide _ (row_mem lj), Nat.min_self]
    · obtain ⟨p, q, hp, hq, rfl⟩ := mem_zipWith hx
      exact add_small (h.small _ (row_mem li) p hp) (h.small _ (row_mem lj) q hq) h4
  | .swap i j, ⟨h1, h2, h3⟩, h => by
    have li : i < rs.length := by rw [h.len]; exact h1
    have lj : j < rs.length := by rw [h.len]; exact h2
    have hm := h.mono (c := b + 101) (by omega)
    exact (hm.set (hm.wide _ (row_mem lj)) (hm.small _ (row_mem lj))).set (hm.wide _ (row_mem li)) (hm.small _ (row_mem li))
  | .turn i, h1, h => by
    have li : i < rs.length := by rw [h.len]; exact h1
    have hm := h.mono (c := b + 101) (by omega)
    refine hm.set (by rw [List.length_map]; exact hm.wide _ (row_mem li)) fun x hx => ?_
    obtain ⟨y, hy, rfl⟩ := List.mem_map.mp hx
    rw [Int.natAbs_neg]
    exact hm.small _ (row_mem li) y hy
theorem row_set_same {rs : Rs} {i : Nat} {r : List Int} (h : i < rs.length) : row (rs.set i r) i = r := by
  unfold row
  rw [List.getElem?_set_self h]
  rfl
theorem row_set_ne {rs : Rs} {i j : Nat} {r : List Int} (h : i ≠ j) : row (rs.set i r) j = row rs j := by
  unfold row
  rw [List.getElem?_set_ne h]
theorem set_row {rs : Rs} {i : Nat} (h : i < rs.length) : rs.set i (row rs i) = rs := by
  refine List.ext_getElem? fun k => ?_
  by_cases hk : i = k
  · subst hk
    rw [List.getElem?_set_self h, row_at h]
  · rw [List.getElem?_set_ne hk]
theorem zip_back {z : Int} : ∀ {xs ys : List Int}, xs.length = ys.length → List.zipWith (fun x y => x + -z * y) (List.zipWith (fun x y => x + z * y) xs ys) ys = xs
  | [], [], _ => rfl
  | x :: xs, y :: ys, h => by
    rw [List.zipWith_cons_cons, List.zipWith_cons_cons, zip_back (Nat.succ.inj h)]
    congr 1
    rw [Int.neg_mul]
    omega
theorem neg_back : ∀ xs : List Int, (xs.map fun x => -x).map (fun x => -x) = xs
  | [] => rfl
  | x :: xs => by
    rw [List.map_cons, List.map_cons, neg_back xs, Int.neg_neg]
theorem run_back {m w b : Nat} {rs : Rs} : ∀ {st : St3}, st.ok m → RB m w b rs → st.back.run (st.run rs) = rs
  | .add i j z, ⟨h1, h2, h3, h4⟩, h => by
    have li : i < rs.length := by rw [h.len]; exact h1
    have lj : j < rs.length := by rw [h.len]; exact h2
    show (rs.set i _).set i (List.zipWith (fun x y => x + -z * y) (row (rs.set i _) i) (row (rs.set i _) j)) = rs
    rw [row_set_same li, row_set_ne h3, zip_back (by rw [h.wide _ (row_mem li), h.wide _ (row_mem lj)]), List.set_set, set_row li]
  | .swap i j, ⟨h1, h2, h3⟩, h => by
    have li : i < rs.length := by rw [h.len]; exact h1
    have lj : j < rs.length := by rw [h.len]; exact h2
    show (((rs.set i (row rs j)).set j (row rs i)).set i (row ((rs.set i (row rs j)).set j (row rs i)) j)).set j (row ((rs.set i (row rs j)).set j (row rs i)) i) = rs
    have e1 : row ((rs.set i (row rs j)).set j (row rs i)) j = row rs i := row_set_same (by rw [List.length_set]; exact lj)
    have e2 : row ((rs.set i (row rs j)).set j (row rs i)) i = row rs j := by
      rw [row_set_ne (Ne.symm h3), row_set_same li]
    rw [e1, e2, List.set_comm _ _ (Ne.symm h3), List.set_set, List.set_set, set_row li, set_row lj]
  | .turn i, h1, h => by
    have li : i < rs.length := by rw [h.len]; exact h1
    show (rs.set i _).set i ((row (rs.set i _) i).map fun x => -x) = rs
    rw [row_set_same li, neg_back, List.set_set, set_row li]
theorem mulW_small {i j : Int} (hi : i.natAbs < 2 ^ 2000) (hj : j.natAbs < 2 ^ 2000) : CMulW i j := by
  show i.natAbs.log2 + j.natAbs.log2 < 1000000
  have l : ∀ n : Nat, n < 2 ^ 2000 → n.log2 < 2001 := fun n h => by
    by_cases hn : n = 0
    · subst hn; decide
    · exact Nat.lt_succ_of_lt ((Nat.log2_lt hn).mpr h)
  have := l _ hi
  have := l _ hj
  omega
/-! ### the way back, step by step -/
inductive Undo (m w : Nat) : List St3 → Rs → Rs → Prop where
  | nil {r : Rs} : Undo m w [] r r
  | cons {b : St3} {bs : List St3} {cur r0 : Rs} {k : Nat} : b.ok m → RB m w k cur → k ≤ 1000 → Undo m w bs (b.run cur) r0 → Undo m w (b :: bs) cur r0
/-! ### as data -/
def rowD (r : List Int) : PyData := .tuple (r.map .int)
def rowsD (rs : Rs) : PyData := .tuple (rs.map rowD)
def St3.data : St3 → PyData
  | .add i j z => .tuple [.str "add", .int i, .int j, .int z]
  | .swap i j => .tuple [.str "swap", .int i, .int j]
  | .turn i => .tuple [.str "turn", .int i]
theorem lay_ints : ∀ r : List Int, PyData.canLayAll0 (r.map .int) = true
  | [] => rfl
  | x :: r => by
    show (PyData.canLay0 (.int x) && PyData.canLayAll0 (r.map .int)) = true
    rw [lay_ints r]
    rfl
theorem lay_rows : ∀ rs : Rs, PyData.canLayAll0 (rs.map rowD) = true
  | [] => rfl
  | x :: r => by
    show (PyData.canLayAll0 (x.map .int) && PyData.canLayAll0 (r.map rowD)) = true
    rw [lay_rows r, lay_ints x]
    rfl
theorem depth_ints : ∀ r : List Int, PyData.depthAll (r.map .int) ≤ 1
  | [] => by decide
  | x :: r => by
    have := depth_ints r
    show max (PyData.depth (.int x)) (PyData.depthAll (r.map .int)) ≤ 1
    have h2 : PyData.depth (.int x) ≤ 1 := by simp [PyData.depth]
    omega
theorem depth_row (r : List Int) : (rowD r).depth ≤ 2 := by
  have := depth_ints r
  have e : (rowD r).depth = PyData.depthAll (r.map .int) + 1 := by simp [rowD, PyData.depth]
  omega
theorem depth_rowsA : ∀ rs : Rs, PyData.depthAll (rs.map rowD) ≤ 2
  | [] => by decide
  | x :: r => by
    have h1 := depth_rowsA r
    have h2 := depth_row x
    show max (PyData.depth (rowD x)) (PyData.depthAll (r.map rowD)) ≤ 2
    omega
theorem depth_rows (rs : Rs) : (rowsD rs).depth ≤ 3 := by
  have := depth_rowsA rs
  have e : (rowsD rs).depth = PyData.depthAll (rs.map rowD) + 1 := by simp [rowsD, PyData.depth]
  omega
theorem shaped_rows (rs : Rs) : SeqAt.shaped (rowsD rs) = true := by
  have := depth_rows rs
  show (PyData.canLayAll0 (rs.map rowD) && decide ((rowsD rs).depth ≤ 64)) = true
  rw [lay_rows, decide_eq_true (by omega)]
  rfl
theorem eqv_rows (rs : Rs) : PyData.eqv (rowsD rs) (rowsD rs) = true := SeqAt.eqv_refl _ (SeqAt.canLay_of_shaped (shaped_rows rs))
theorem shaped_list (rs : Rs) : SeqAt.shaped (.list (rs.map rowD)) = true := by
  have := depth_rowsA rs
  have e : (PyData.list (rs.map rowD)).depth = PyData.depthAll (rs.map rowD) + 1 := by simp [PyData.depth]
  show (PyData.canLayAll0 (rs.map rowD) && decide ((PyData.list (rs.map rowD)).depth ≤ 64)) = true
  rw [lay_rows, decide_eq_true (by omega)]
  rfl
theorem log_big {i : Int} (h : i.natAbs < 2 ^ 1000) : i.natAbs.log2 < 1000 := PySem.Flt.log2_lt_of (by decide) h
theorem int_text {i : Int} (h : i.natAbs < 2 ^ 1000) : (PyData.shown (.int i)).length ≤ 1001 := by
  show (Str.ofString (toString i)).length ≤ 1001
  rw [PySem.ofString_length]
  exact PySem.int_text_length_le (by decide) (log_big h)
theorem show_ints : ∀ {r : List Int}, (∀ x ∈ r, x.natAbs < 2 ^ 1000) → PyData.showableAll (r.map .int) = true ∧ PyData.hasDictAll (r.map .int) = false ∧ PyData.leavesShortAll 1001 (r.map .int) = true ∧ PyData.bulkAll (r.map .int) = r.length
  | [], _ => ⟨rfl, rfl, rfl, rfl⟩
  | x :: r, h => by
    obtain ⟨h1, h2, h3, h4⟩ := show_ints fun y hy => h y (List.mem_cons.mpr (.inr hy))
    have s1 := h x (List.mem_cons.mpr (.inl rfl))
    have l1 := log_big s1
    refine ⟨?_, ?_, ?_, ?_⟩
    · show (decide (x.natAbs.log2 < 1920) && PyData.showableAll (r.map .int)) = true
      rw [h1, decide_eq_true (by omega)]
      rfl
    · show (PyData.hasDict (.int x) || PyData.hasDictAll (r.map .int)) = false
      rw [h2]
      rfl
    · show (decide ((PyData.shown (.int x)).length ≤ 1001) && PyData.leavesShortAll 1001 (r.map .int)) = true
      rw [h3, decide_eq_true (int_text s1)]
      rfl
    · show PyData.bulk (.int x) + 1 + PyData.bulkAll (r.map .int) = r.length + 1
      rw [h4]
      show 0 + 1 + r.length = _
      omega
theorem show_rows {w : Nat} : ∀ {rs : Rs}, (∀ r ∈ rs, r.length = w ∧ ∀ x ∈ r, x.natAbs < 2 ^ 1000) → PyData.showableAll (rs.map rowD) = true ∧ PyData.hasDictAll (rs.map rowD) = false ∧ PyData.leavesShortAll 1001 (rs.map rowD) = true ∧ PyData.bulkAll (rs.map rowD) = (w + 1) * rs.length
  | [], _ => ⟨rfl, rfl, rfl, rfl⟩
  | x :: r, h => by
    obtain ⟨h1, h2, h3, h4⟩ := show_rows fun y hy => h y (List.mem_cons.mpr (.inr hy))
    obtain ⟨hw, s1⟩ := h x (List.mem_cons.mpr (.inl rfl))
    obtain ⟨i1, i2, i3, i4⟩ := show_ints s1
    refine ⟨?_, ?_, ?_, ?_⟩
    · show (PyData.showableAll (x.map .int) && PyData.showableAll (r.map rowD)) = true
      rw [h1, i1]
      rfl
    · show (PyData.hasDictAll (x.map .int) || PyData.hasDictAll (r.map rowD)) = false
      rw [h2, i2]
      rfl
    · show (PyData.leavesShortAll 1001 (x.map .int) && PyData.leavesShortAll 1001 (r.map rowD)) = true
      rw [h3, i3]
      rfl
    · show PyData.bulkAll (x.map .int) + 1 + PyData.bulkAll (r.map rowD) = (w + 1) * (r.length + 1)
      rw [h4, i4, hw, Nat.mul_add, Nat.mul_one]
      omega
theorem show_pair {w m k b : Nat} {rs : Rs} {st : St3} (h : RB m w b rs) (hb : b ≤ 1000) (hm : m ≤ 14) (hw : w ≤ 12) (hs : st.ok k) (hk : k ≤ 14) :
    (PyData.tuple [rowsD rs, st.data]).showable = true ∧ (PyData.tuple [rowsD rs, st.data]).hasDict = false ∧ (PyData.tuple [rowsD rs, st.data]).depth ≤ 60 ∧ (PyData.tuple [rowsD rs, st.data]).shown.length ≤ sizeLine := by
  have hr := h.mono hb
  obtain ⟨h1, h2, h3, h4⟩ := show_rows (rs := rs) (w := w) fun r z => ⟨hr.wide r z, hr.small r z⟩
  have hst : st.data.showable = true ∧ st.data.hasDict = false ∧ st.data.depth ≤ 2 ∧ PyData.leavesShort 1001 st.data = true ∧ st.data.bulk ≤ 8 := by
    have nb : ∀ i : Nat, i < k → ((i : Int)).natAbs < 2 ^ 1000 := fun i hi => Nat.lt_of_lt_of_le (show i < 2 ^ 4 by have : (2 : Nat) ^ 4 = 16 := rfl; omega) (Nat.pow_le_pow_right (by decide) (by decide))
    have sd : ∀ i : Int, i.natAbs < 2 ^ 1000 → decide (i.natAbs.log2 < 1920) = true := fun i hi => decide_eq_true (Nat.lt_trans (log_big hi) (by decide))
    have td : ∀ i : Int, i.natAbs < 2 ^ 1000 → decide ((PyData.shown (.int i)).length ≤ 1001) = true := fun i hi => decide_eq_true (int_text hi)
    cases st with
    | add i j z =>
      obtain ⟨o1, o2, o3, o4⟩ := hs
      have oz : z.natAbs < 2 ^ 1000 := Nat.lt_trans o4 (Nat.pow_lt_pow_right (by decide) (by decide))
      refine ⟨?_, rfl, by simp [St3.data, PyData.depth, PyData.depthAll], ?_, ?_⟩
      · show (PyData.showable (.str "add") && (decide (((i : Nat) : Int).natAbs.log2 < 1920) && (decide (((j : Nat) : Int).natAbs.log2 < 1920) && (decide (z.natAbs.log2 < 1920) && true)))) = true
        rw [sd _ (nb i o1), sd _ (nb j o2), sd _ oz]
        rfl
      · show (PyData.leavesShort 1001 (.str "add") && (decide ((PyData.shown (.int i)).length ≤ 1001) && (decide ((PyData.shown (.int j)).length ≤ 1001) && (decide ((PyData.shown (.int z)).length ≤ 1001) && true)))) = true
        rw [td _ (nb i o1), td _ (nb j o2), td _ oz]
        decide +kernel
      · exact (by decide +kernel : PyData.bulk (.str "add") + 1 + (0 + 1 + (0 + 1 + (0 + 1 + 0))) ≤ 8)
    | swap i j =>
      obtain ⟨o1, o2, o3⟩ := hs
      refine ⟨?_, rfl, by simp [St3.data, PyData.depth, PyData.depthAll], ?_, ?_⟩
      · show (PyData.showable (.str "swap") && (decide (((i : Nat) : Int).natAbs.log2 < 1920) && (decide (((j : Nat) : Int).natAbs.log2 < 1920) && true))) = true
        rw [sd _ (nb i o1), sd _ (nb j o2)]
        rfl
      · show (PyData.leavesShort 1001 (.str "swap") && (decide ((PyData.shown (.int i)).length ≤ 1001) && (decide ((PyData.shown (.int j)).length ≤ 1001) && true))) = true
        rw [td _ (nb i o1), td _ (nb j o2)]
        decide +kernel
      · exact (by decide +kernel : PyData.bulk (.str "swap") + 1 + (0 + 1 + (0 + 1 + 0)) ≤ 8)
    | turn i =>
      refine ⟨?_, rfl, by simp [St3.data, PyData.depth, PyData.depthAll], ?_, ?_⟩
      · show (PyData.showable (.str "turn") && (decide (((i : Nat) : Int).natAbs.log2 < 1920) && true)) = true
        rw [sd _ (nb i hs)]
        rfl
      · show (PyData.leavesShort 1001 (.str "turn") && (decide ((PyData.shown (.int i)).length ≤ 1001) && true)) = true
        rw [td _ (nb i hs)]
        decide +kernel
      · exact (by decide +kernel : PyData.bulk (.str "turn") + 1 + (0 + 1 + 0) ≤ 8)
  obtain ⟨s1, s2, s3, s4, s5⟩ := hst
  have hd := depth_rows rs
  refine ⟨?_, ?_, ?_, ?_⟩
  · show (PyData.showableAll (rs.map rowD) && (st.data.showable && true)) = true
    rw [h1, s1]
    rfl
  · show (PyData.hasDictAll (rs.map rowD) || (st.data.hasDict || false)) = false
    rw [h2, s2]
    rfl
  · have e : (PyData.tuple [rowsD rs, st.data]).depth = max (rowsD rs).depth (max st.data.depth 0) + 1 := by simp [PyData.depth, PyData.depthAll]
    omega
  · have hl : PyData.leavesShort 1001 (.tuple [rowsD rs, st.data]) = true := by
      show (PyData.leavesShortAll 1001 (rs.map rowD) && (PyData.leavesShort 1001 st.data && true)) = true
      rw [h3, s4]
      rfl
    have hb2 := PyData.shown_le_bulk 1001 (by decide) _ hl
    have e : (PyData.tuple [rowsD rs, st.data]).bulk = (w + 1) * rs.length + 1 + (st.data.bulk + 1 + 0) := by
      show PyData.bulkAll (rs.map rowD) + 1 + (st.data.bulk + 1 + 0) = _
      rw [h4]
    rw [e] at hb2
    have hp : (w + 1) * rs.length ≤ 13 * 14 := Nat.mul_le_mul (by omega) (by rw [h.len]; exact hm)
    refine Nat.le_trans hb2 (Nat.le_trans (show (1001 + 2) * ((w + 1) * rs.length + 1 + (st.data.bulk + 1 + 0)) + 1001 ≤ (1001 + 2) * 200 + 1001 from Nat.add_le_add_right (Nat.mul_le_mul_left _ (by omega)) _) (by decide))
/-! ### on the heap -/
def TI (H : Hp) (v : V) (ns : List Int) : Prop := ∃ a, v = .ref a ∧ H a = some (.tup (ns.map V.int))
theorem TI.ext {H H' : Hp} {v : V} {ns : List Int} (h : TI H v ns) (e : Ext H H') : TI H' v ns := let ⟨a, h1, h2⟩ := h; ⟨a, h1, e.t _ _ h2⟩
def TT (H : Hp) (v : V) (rs : Rs) : Prop := ∃ a xs, v = .ref a ∧ H a = some (.tup xs) ∧ Paired (TI H) xs rs
theorem TT.ext {H H' : Hp} {v : V} {rs : Rs} (h : TT H v rs) (e : Ext H H') : TT H' v rs := let ⟨a, xs, h1, h2, h3⟩ := h; ⟨a, xs, h1, e.t _ _ h2, Paired.mapP h3 fun _ _ z => z.ext e⟩
def SV (H : Hp) (v : V) (st : St3) : Prop := ∃ a, v = .ref a ∧ H a = some (.tup st.vals)
theorem SV.ext {H H' : Hp} {v : V} {st : St3} (h : SV H v st) (e : Ext H H') : SV H' v st := let ⟨a, h1, h2⟩ := h; ⟨a, h1, e.t _ _ h2⟩
theorem dp_ints {K : PySem.W.Frag} {H : Hp} : ∀ ns : List Int, DpAll K H (ns.map V.int) (ns.map .int)
  | [] => .nil
  | x :: r => .cons (.int x) (dp_ints r)
theorem TI.dp {K : PySem.W.Frag} {H : Hp} {v : V} {ns : List Int} (h : TI H v ns) : Dp K H v (rowD ns) := by
  obtain ⟨a, rfl, h2⟩ := h
  exact .tup (SqT.of h2) (dp_ints ns)
theorem dp_rows {K : PySem.W.Frag} {H : Hp} : ∀ {xs : List V} {rs : Rs}, Paired (TI H) xs rs → DpAll K H xs (rs.map rowD)
  | _, _, .nil => .nil
  | _, _, .cons h t => .cons h.dp (dp_rows t)
theorem TT.dp {K : PySem.W.Frag} {H : Hp} {v : V} {rs : Rs} (h : TT H v rs) : Dp K H v (rowsD rs) := by
  obtain ⟨a, xs, rfl, h2, h3⟩ := h
  exact .tup (SqT.of h2) (dp_rows h3)
theorem SV.dp {K : PySem.W.Frag} {H : Hp} {v : V} : ∀ {st : St3}, SV H v st → Dp K H v st.data
  | .add i j z, ⟨a, e, h⟩ => by
    subst e
    exact .tup (SqT.of h) (.cons (.str _) (.cons (.int _) (.cons (.int _) (.cons (.int _) .nil))))
  | .swap i j, ⟨a, e, h⟩ => by
    subst e
    exact .tup (SqT.of h) (.cons (.str _) (.cons (.int _) (.cons (.int _) .nil)))
  | .turn i, ⟨a, e, h⟩ => by
    subst e
    exact .tup (SqT.of h) (.cons (.str _) (.cons (.int _) .nil))
theorem paired_app {α β : Type} {R : α → β → Prop} : ∀ {l : List α} {m : List β} {a : α} {b : β}, Paired R l m → R a b → Paired R (l ++ [a]) (m ++ [b])
  | _, _, _, _, .nil, h => .cons h .nil
  | _, _, _, _, .cons h t, q => .cons h (paired_app t q)
theorem paired_set {α β : Type} {R : α → β → Prop} : ∀ {l : List α} {m : List β} {i : Nat} {a : α} {b : β}, Paired R l m → R a b → Paired R (l.set i a) (m.set i b)
  | _, _, _, _, _, .nil, _ => .nil
  | _, _, 0, _, _, .cons _ t, q => .cons q t
  | _, _, i + 1, _, _, .cons h t, q => .cons h (paired_set (i := i) t q)
theorem paired_look {α β : Type} {R : α → β → Prop} : ∀ {l : List α} {m : List β} {i : Nat} {b : β}, Paired R l m → m[i]? = some b → ∃ a, l[i]? = some a ∧ R a b
  | _, _, _, _, .nil, e => by simp at e
  | _, _, 0, _, .cons h _, e => by
    have e1 := Option.some.inj e
    subst e1
    exact ⟨_, rfl, h⟩
  | _, _, i + 1, _, .cons _ t, e => paired_look (i := i) t e
/-! ### over a named K -/
section
variable {X : Cx} {K : PySem.W.Frag}
theorem tupOf_K (hK : X.K = K) : CallR X (.type "tuple") (rTupOf K) := by
  subst hK
  exact call_tuple_of
def rListOf (K : PySem.W.Frag) : List V → Hp → VK → Prop := fun xs H Q => ∃ p ys, xs = [.ref p] ∧ (SqL K H p ys ∨ SqT K H p ys) ∧ ∀ l, H l = none → Q (.ref l) (upd H l (.lst ys))
theorem listOf_K (hK : X.K = K) : CallR X (.type "list") (rListOf K) := by
  subst hK
  exact call_list_of
def rNeK (K : PySem.W.Frag) : R2 := fun x y H Q => ∃ d e, Dp K H x d ∧ Dp K H y e ∧ SeqAt.shaped d = true ∧ SeqAt.shaped e = true ∧ Q (.bl (!PyData.eqv d e)) H
theorem neD_K {k : Nat} (hr : Room k X.A) (hK : X.K = K) : OpR X (compareOp .NotEq) (rNeK K) := by
  subst hK
  exact op_neD hr.units
end
theorem ix_nat {n i : Nat} (h : i < n) : ixN n (i : Int) = some i := by
  unfold ixN
  rw [if_pos (by omega), if_pos (by omega), Int.toNat_natCast]
theorem take_app {l : List Int} {k : Nat} {v : Int} (h : l[k]? = some v) : (l.take k).map V.int ++ [V.int v] = (l.take (k + 1)).map V.int := by
  rw [List.take_succ, h, List.map_append]
  rfl
theorem int_at {l : List Int} {k : Nat} {x : V} (h : (l.map V.int)[k]? = some x) : ∃ v, x = .int v ∧ l[k]? = some v := by
  rw [List.getElem?_map] at h
  cases hk : l[k]? with
  | none =>
    rw [hk] at h
    cases h
  | some v =>
    rw [hk] at h
    exact ⟨v, (Option.some.inj h).symm, rfl⟩
theorem fresh_same {H H' : Hp} {D : Addr} {o : HO} (s : Same H H') (n : H D = none) : Same H (upd H' D o) := fun b u e => by
  rw [upd_ne (ne_of_none e n)]
  exact s b u e
/-- the i-th row, by its place -/
theorem row_look {H : Hp} {xs : List V} {rs : Rs} {i : Nat} (h : Paired (TI H) xs rs) (hi : i < rs.length) : ∃ p, xs[i]? = some (.ref p) ∧ H p = some (.tup ((row rs i).map V.int)) := by
  obtain ⟨v, h1, p, rfl, h2⟩ := paired_look h (row_at hi)
  exact ⟨p, h1, h2⟩
theorem zip_at {f : Int → Int → Int} {xs ys : List Int} {k : Nat} {x y : Int} (hx : xs[k]? = some x) (hy : ys[k]? = some y) : (List.zipWith f xs ys)[k]? = some (f x y) := by
  rw [List.getElem?_zipWith, hx, hy]
theorem len_small {l : List Int} {k w : Nat} (h : l.length = w) (hw : w ≤ 12) : ((l.take k).map V.int).length < sizeLine := by
  rw [List.length_map, List.length_take]
  exact small1000 (by omega)
def St3.kinds : St3 → List Kd
  | .add i j z => [.str "add", .int i, .int j, .int z]
  | .swap i j => [.str "swap", .int i, .int j]
  | .turn i => [.str "turn", .int i]
theorem kinds_at {H : Hp} {a : Addr} : ∀ {st : St3}, H a = some (.tup st.vals) → KsOf H (.ref a) (some st.kinds)
  | .add i j z, h => ⟨a, _, rfl, h, .cons (.str _) (.cons (.int _) (.cons (.int _) (.cons (.int _) .nil)))⟩
  | .swap i j, h => ⟨a, _, rfl, h, .cons (.str _) (.cons (.int _) (.cons (.int _) .nil))⟩
  | .turn i, h => ⟨a, _, rfl, h, .cons (.str _) (.cons (.int _) .nil)⟩
theorem unlike_yes {m i j : Nat} (h1 : i < m) (h2 : j < m) (h3 : i ≠ j) : unlikeK m (.int i) (.int j) = true := by
  show ((decide ((0 : Int) ≤ i) && decide ((i : Int) < m)) && ((decide ((0 : Int) ≤ j) && decide ((j : Int) < m)) && !decide (V.int i = V.int j))) = true
  rw [decide_eq_true (by omega), decide_eq_true (by omega), decide_eq_true (by omega), decide_eq_true (by omega), decide_eq_false (fun e => h3 (by have := V.int.inj e; omega))]
  rfl
theorem kinds_ok {m : Nat} : ∀ {st : St3}, st.ok m → stepO m (some st.kinds) = true
  | .add i j z, ⟨h1, h2, h3, _⟩ => by
    show (unlikeK m (.int i) (.int j) && true) = true
    rw [unlike_yes h1 h2 h3]
    rfl
  | .swap i j, ⟨h1, h2, h3⟩ => by
    show unlikeK m (.int i) (.int j) = true
    exact unlike_yes h1 h2 h3
  | .turn i, h => by
    have h : i < m := h
    show (decide ((0 : Int) ≤ i) && decide ((i : Int) < m)) = true
    rw [decide_eq_true (by omega), decide_eq_true (by omega)]
    rfl
def St3.word : St3 → Str
  | .add _ _ _ => "add"
  | .swap _ _ => "swap"
  | .turn _ => "turn"
theorem word_at (st : St3) : st.vals[0]? = some (.str st.word) := by cases st <;> rfl
theorem back_word (st : St3) : st.back.word = st.word := by cases st <;> rfl
theorem paired_first {α β : Type} {R : α → β → Prop} : ∀ {l : List α} {m : List β} {i : Nat} {a : α}, Paired R l m → l[i]? = some a → ∃ b, m[i]? = some b ∧ R a b
  | _, _, _, _, .nil, e => by simp at e
  | _, _, 0, _, .cons h _, e => by
    have e1 := Option.some.inj e
    subst e1
    exact ⟨_, rfl, h⟩
  | _, _, i + 1, a, .cons _ t, e => paired_first (i := i) (a := a) t e
theorem cut1 (x : V) (r : List V) : HT.sIx (x :: r).length 0 (some 1) = 1 := by
  have := HT.sIx_nat (x :: r).length 0 1
  rw [show ((1 : Nat) : Int) = 1 from rfl] at this
  rw [this, List.length_cons]
  omega
theorem cutR (x : V) (r : List V) : cutV (x :: r) (some 1) none = r := by
  unfold cutV
  rw [cut1, HT.sIx_none]
  show (r.take ((x :: r).length - 1)) = r
  rw [List.length_cons, Nat.add_sub_cancel]
  exact List.take_length
theorem sl_rest {K : PySem.W.Frag} {H : Hp} {a : Addr} {x : V} {r : List V} {Q : VK} {σ : L2.St} (h : H a = some (.tup (x :: r))) (q : ∀ p H', Same H H' → H' p = some (.tup r) → Q (.ref p) H') : tNoPart σ H (fun u H3 => rSlA K (.ref a) (some 1) u H3 Q) := by
  refine ⟨a, _, rfl, SqT.of h, fun z => ?_, fun _ p hp => q p _ (same_new hp) (by rw [upd_same, cutR])⟩
  have := z.1
  rw [cut1] at this
  exact absurd this (by decide)
/-! ### lists of lists, apart from D -/
def LI (D : Addr) (H : Hp) (v : V) (ns : List Int) : Prop := ∃ a, v = .ref a ∧ a ≠ D ∧ H a = some (.lst (ns.map V.int))
theorem LI.same {D : Addr} {H H' : Hp} {v : V} {ns : List Int} (h : LI D H v ns) (s : Same H H') : LI D H' v ns := let ⟨a, h1, h2, h3⟩ := h; ⟨a, h1, h2, s _ _ h3⟩
theorem LI.put {D : Addr} {H : Hp} {v : V} {ns : List Int} {o : HO} (h : LI D H v ns) : LI D (upd H D o) v ns := by
  obtain ⟨a, h1, h2, h3⟩ := h
  exact ⟨a, h1, h2, by rw [upd_ne h2]; exact h3⟩
theorem take_row {rs : Rs} {k : Nat} {r : List Int} (h : rs[k]? = some r) : rs.take (k + 1) = rs.take k ++ [r] := by
  rw [List.take_succ, h]
  rfl
/-! ### drawn rows -/
theorem but_fresh {p D : Addr} {H H' : Hp} {o : HO} (b : But p H H') (n : H D = none) : But p H (upd H' D o) := fun c u hc e => by
  rw [upd_ne (ne_of_none e n)]
  exact b c u hc e
theorem ext_fresh {D : Addr} {H H' : Hp} {o : HO} (x : Ext H H') (n : H D = none) : Ext H (upd H' D o) := by
  refine ⟨fun b xs e => ?_, fun b xs e => ?_, fun b xs e => ?_⟩
  · rw [upd_ne (ne_of_none e n)]
    exact x.t b xs e
  · rw [upd_ne (ne_of_none e n)]
    exact x.l b xs e
  · rw [upd_ne (ne_of_none e n)]
    exact x.d b xs e
theorem LP.put {H : Hp} {p D : Addr} {o : HO} (h : LP H p) (n : D ≠ p) : LP (upd H D o) p := by
  obtain ⟨x, y, z, e⟩ := h
  exact ⟨x, y, z, by rw [upd_ne (Ne.symm n)]; exact e⟩
theorem lp_ne {H : Hp} {p D : Addr} (h : LP H p) (n : H D = none) : D ≠ p := by
  obtain ⟨x, y, z, e⟩ := h
  exact (ne_of_none e n).symm
theorem RB.app {k w b : Nat} {rs : Rs} {r : List Int} (h : RB k w b rs) (h1 : r.length = w) (h2 : ∀ x ∈ r, x.natAbs < 2 ^ b) : RB (k + 1) w b (rs ++ [r]) :=
  ⟨by rw [List.length_append, h.len]; rfl, fun x hx => by
    rcases List.mem_append.mp hx with z | z
    · exact h.wide x z
    · rw [List.mem_singleton.mp z]; exact h1, fun x hx => by
    rcases List.mem_append.mp hx with z | z
    · exact h.small x z
    · rw [List.mem_singleton.mp z]; exact h2⟩
theorem eqv_nil (rs : Rs) : PyData.eqv (.list (rs.map rowD)) (.list []) = decide (rs = []) := by
  cases rs with
  | nil => rfl
  | cons x r => rfl
theorem mul_small {k : Nat} {c x : Int} (c0 : -2 ≤ c) (c1 : c ≤ 2) (h : x.natAbs < 2 ^ (30 + k)) : (c * x).natAbs < 2 ^ (30 + (k + 1)) := by
  rw [Int.natAbs_mul, show 30 + (k + 1) = (30 + k) + 1 from rfl, Nat.pow_succ, Nat.mul_comm]
  have hc : c.natAbs ≤ 2 := by omega
  have h1 : x.natAbs * c.natAbs ≤ x.natAbs * 2 := Nat.mul_le_mul_left _ hc
  omega
theorem app_ints {ns : List Int} {z : Int} : ns.map V.int ++ [V.int z] = (ns ++ [z]).map V.int := by
  rw [List.map_append]
  rfl
theorem paired_cat {α β : Type} {R : α → β → Prop} : ∀ {l l' : List α} {m m' : List β}, Paired R l m → Paired R l' m' → Paired R (l ++ l') (m ++ m')
  | _, _, _, _, .nil, q => q
  | _, _, _, _, .cons h t, q => .cons h (paired_cat t q)
theorem cat_rows {K : PySem.W.Frag} {H : Hp} {v u : V} {rs rs' : Rs} {Q : VK} (h : TT H v rs) (h' : TT H u rs') (hs : rs.length + rs'.length ≤ 1000) (q : ∀ v' H', Same H H' → TT H' v' (rs ++ rs') → Q v' H') : rCatA K v u H Q := by
  obtain ⟨a, xs, rfl, h2, h3⟩ := id h
  obtain ⟨b, ys, rfl, g2, g3⟩ := id h'
  have l1 : xs.length = rs.length := Paired.length h3
  have l2 : ys.length = rs'.length := Paired.length g3
  refine ⟨a, b, xs, ys, rfl, rfl, SqT.of h2, SqT.of g2, Nat.le_of_lt (small1000 (by omega)), fun e => ?_, fun _ e => ?_, fun _ _ p hp => ?_⟩
  · have er : rs = [] := List.eq_nil_of_length_eq_zero (by rw [← l1, e]; rfl)
    subst er
    exact q _ _ (Same.refl H) h'
  · have er : rs' = [] := List.eq_nil_of_length_eq_zero (by rw [← l2, e]; rfl)
    subst er
    rw [List.append_nil] at q
    exact q _ _ (Same.refl H) h
  · have x := Ext.same (same_new (o := .tup (xs ++ ys)) hp)
    exact q _ _ (same_new hp) ⟨p, _, rfl, upd_same, paired_cat (Paired.mapP h3 fun _ _ z => z.ext x) (Paired.mapP g3 fun _ _ z => z.ext x)⟩
theorem but_free {p D : Addr} {H H' : Hp} (b : But p H H') (l : LP H' p) (n : H' D = none) : H D = none := by
  cases e : H D with
  | none => rfl
  | some o =>
    rw [b D o (lp_ne l n) e] at n
    cases n
theorem drop_at {bs : List St3} {i : Nat} {b : St3} (h : bs[i]? = some b) : bs.drop i = b :: bs.drop (i + 1) := by
  obtain ⟨hi, e⟩ := List.getElem?_eq_some_iff.mp h
  rw [List.drop_eq_getElem_cons hi, e]
end Cm

set_option Elab.async false
set_option linter.all false
set_option maxRecDepth 100000
set_option maxHeartbeats 4000000
namespace Cm
open PySem PySem.Spec PyProof.Rows L2
/-! ### what is run within a generator expression: by the heap alone, whatever frames are around -/
/-- a value of the kind k, in every heap that keeps h -/
def KnV (K : PySem.W.Frag) (h : Heap) (u : Value) (k : Kd) : Prop :=
  ∃ Ph : Heap → Prop, PySem.W.KitX K u (.type (tyK k)) Ph ∧ (∀ h' : Heap, (∀ b o, h.get? b = some o → h'.get? b = some o) → Ph h') ∧ u ≠ .builtin "__main__.__loader__#opaque"
theorem KnV.keeps {K : PySem.W.Frag} {h h' : Heap} {u : Value} {k : Kd} (a : KnV K h u k) (kp : ∀ b o, h.get? b = some o → h'.get? b = some o) : KnV K h' u k := by
  obtain ⟨Ph, Z, hp, ne⟩ := a
  exact ⟨Ph, Z, fun h2 k2 => hp h2 fun b o e => k2 b o (kp b o e), ne⟩
theorem knv_of {K : PySem.W.Frag} {P : Program} {w : World} {H : Hp} {h : Heap} {v : V} {u : Value} {k : Kd} (hok : HOk P w H h) (hk : HasK H v k) (r : RelV v u) : KnV K h u k := by
  cases hk with
  | non =>
    cases r
    exact ⟨_, PySem.W.kitx_none, fun _ _ => True.intro, nofun⟩
  | bl b =>
    cases r
    exact ⟨_, PySem.W.kitx_bool, fun _ _ => True.intro, nofun⟩
  | int i =>
    obtain ⟨t, rfl⟩ := r
    exact ⟨_, PySem.W.kitx_int, fun _ _ => True.intro, nofun⟩
  | str x =>
    obtain ⟨t, rfl⟩ := r
    exact ⟨_, PySem.W.kitx_str, fun _ _ => True.intro, nofun⟩
  | @lst a xs e =>
    cases r
    obtain ⟨_, _, n, _, h1⟩ := hok a _ e
    exact ⟨_, PySem.W.kitx_list, fun h' kp => ⟨_, kp _ _ h1, rfl⟩, nofun⟩
  | @tup a xs e =>
    cases r
    obtain ⟨_, _, _, o, h1, h2, _⟩ := hok a _ e
    exact ⟨_, PySem.W.kitx_tuple, fun h' kp => ⟨o, kp _ _ h1, h2⟩, nofun⟩
  | @dct a kvs e =>
    cases r
    obtain ⟨_, _, vs, _, o, es, ep, h1, h2, _⟩ := hok a _ e
    exact ⟨_, PySem.W.kitx_dict, fun h' kp => ⟨o, kp _ _ h1, h2.1⟩, nofun⟩
section
variable {prog : Program} {w : World} {K : PySem.W.Frag} {mg : Str → Option Value} {base : Heap}
/-- isinstance(x, T): x a local name, T a built-in type -/
theorem raw_isi {A : Around} {E : Value → Shared → Prop} {s : Shared} {env : Env} {x Ts : Str} {T : String} {m : Str → Option Value} {u : Value} {k : Kd} {b : Bool} {Q : Value → Shared → Prop} {p1 p2 p3 p4 : Pos}
    (M : Mod K mg base) (kp : ∀ c o, base.get? c = some o → s.heap.get? c = some o) (kd : env.scope.kind = .function) (gl : env.globals = mainGlobals) (bl : env.builtins = builtinsNs)
    (k1 : env.kindOf "isinstance" = some .globalImplicit) (m1 : mg "isinstance" = none) (k2 : env.kindOf Ts = some .globalImplicit) (m2 : mg Ts = none) (hT : bootBuiltins Ts = some (.type T)) (nT : Ts ≠ "__name__") (dT : (Ts == ("__debug__" : Str)) = false)
    (kx : env.kindOf x = some .local) (dx : (x == ("__debug__" : Str)) = false) (hn : s.heap.Ns env.locals m) (hx : m x = some u) (kn : KnV K s.heap u k) (e : kitB (tyK k) T = some b) (q : ∀ tk, Q (.bool b) { s with toks := tk }) :
    wpAny (model prog w) A (eval (.Call (.Name "isinstance" p1) [.Name x p2, .Name Ts p3] [] p4) env) Q E s := by
  obtain ⟨mb, h1, h2⟩ := M.blt
  have hg : s.heap.Ns env.globals mg := by
    rw [gl]
    exact M.glob.keeps kp
  have hb : s.heap.Ns env.builtins mb := by
    rw [bl]
    exact h1.keeps kp
  obtain ⟨Ph, Z, hp, ne⟩ := kn
  refine wpAny_Call_Name_kw (Calls.Name_function_global kd k1 (Calls.loadGlobal_builtin hg m1 hb ((h2 _ (by decide)).trans (show bootBuiltins "isinstance" = some (.builtin "isinstance") by decide +kernel)) ?_))
  refine PyProof.Rows.callWith_builtin1 (args_cons (wpAny_Name (wpAny_loadName_local kd kx hn hx ?_) dx) rfl) rfl rfl
  refine args_cons (Calls.Name_function_global kd k2 (Calls.loadGlobal_builtin hg m2 hb ((h2 _ nT).trans hT) ?_) dT) rfl
  refine args_nil ?_
  exact PySem.W.kia_one Z (M.kin.keeps kp) (hp _ fun _ _ z => z) (kit_ty e) ne q
/-- is_whole(x) within such a block: x a local name there -/
theorem raw_whole {A : Around} {E : Value → Shared → Prop} {s : Shared} {env : Env} {f : Addr} {fd : FuncData} {st : Stmt} {x : Str} {m : Str → Option Value} {u : Value} {k : Kd} {Q : Value → Shared → Prop} {q1 q2 q3 a1 a2 a3 a4 b1 b2 b3 b4 c1 c2 c3 : Pos}
    (F : Fun K "is_whole" "is_whole" st f fd) (S : FnScope ["thing"] ["thing"] (defScope st)) (hm : mg "is_whole" = some (.ref f)) (hbd : Binds K fd ["thing"] [])
    (body : defBody st = [.Return (some (.BoolOp .And [.Call (.Name "isinstance" a1) [.Name "thing" a2, .Name "int" a3] [] a4, .UnaryOp .Not (.Call (.Name "isinstance" b1) [.Name "thing" b2, .Name "bool" b3] [] b4) c1] c2)) c3])
    (i1 : (defScope st).names.lookup ("isinstance" : Str) = some .globalImplicit) (i2 : (defScope st).names.lookup ("int" : Str) = some .globalImplicit) (i3 : (defScope st).names.lookup ("bool" : Str) = some .globalImplicit) (i4 : (defScope st).names.lookup ("thing" : Str) = some .local)
    (m1 : mg "isinstance" = none) (m2 : mg "int" = none) (m3 : mg "bool" = none)
    (M : Mod K mg base) (kp : ∀ c o, base.get? c = some o → s.heap.get? c = some o) (dep : A.depth < recursionLimit)
    (kd : env.scope.kind = .function) (gl : env.globals = mainGlobals) (k0 : env.kindOf "is_whole" = some .globalImplicit)
    (kx : env.kindOf x = some .local) (dx : (x == ("__debug__" : Str)) = false) (hn : s.heap.Ns env.locals m) (hx : m x = some u) (kn : KnV K s.heap u k) (q : ∀ s', Keeps s s' → Q (.bool (wholeK k)) s') :
    wpAny (model prog w) A (eval (.Call (.Name "is_whole" q1) [.Name x q2] [] q3) env) Q E s := by
  have hg : s.heap.Ns env.globals mg := by
    rw [gl]
    exact M.glob.keeps kp
  have inK : K.In s.heap := M.kin.keeps kp
  refine wpAny_Call_Name_kw (Calls.Name_function_global kd k0 (Calls.loadGlobal_global hg hm ?_))
  refine PySem.W.callWith_K (h₀ := base) M.kin F.kp (args_cons (wpAny_Name (wpAny_loadName_local kd kx hn hx (args_nil ⟨inK, ?_⟩)) dx) rfl) rfl rfl
  obtain ⟨oc, od, kV, doc, pm, an, cdv, ct, osl, hfd, lk, hcd⟩ := F.ex
  subst hfd
  have bind := hbd s [u] inK rfl
  refine wpAny_call ?_
  have kinds : ∀ y ∈ (["thing"] : List Str).zip [u], (defScope st).names.lookup y.1 = some .local ∨ ((defScope st).names.lookup y.1 = some .cell ∧ ((cellsFrom (s.heap.objs.size + 1) (defScope st).names []).lookup y.1).isSome = true) := by
    intro y hy
    rcases List.mem_singleton.mp hy with rfl
    exact .inl i4
  refine codeAny_call_function dep (inK _ _ lk) rfl S.co S.gen rfl (PySem.W.codeRec_of inK hcd) (bind _ _ _ _ ?_)
  refine wpAny_newFunctionEnv_cells S.kind kinds fun fenv hfe s1 ent => ?_
  subst hfe
  refine ⟨(M.nolimit.keeps kp).keeps ent.toInCall.keep, codeAny_func ?_⟩
  obtain ⟨h1, tk1, es1, kp1⟩ := ent.done
  have kp2 : ∀ c o, base.get? c = some o → s1.heap.get? c = some o := fun c o z => ent.toInCall.keep c o (kp c o z)
  have kn1 := kn.keeps ent.toInCall.keep
  have ns1 := ent.toInCall.ns
  have hx1 : bindL (newEnv (defScope st) s.heap.objs.size mainGlobals (cellsFrom (s.heap.objs.size + 1) (defScope st).names []) ("is_whole" ++ ".<locals>.") (some f) cdv none builtinsNs).kindOf ((["thing"] : List Str).zip [u]) (fun _ => none) "thing" = some u := by
    have e : (newEnv (defScope st) s.heap.objs.size mainGlobals (cellsFrom (s.heap.objs.size + 1) (defScope st).names []) ("is_whole" ++ ".<locals>.") (some f) cdv none builtinsNs).kindOf "thing" = some .local := i4
    simp [bindL, e]
  show wpAny (model prog w) _ (execs (defBody st) _) _ _ s1
  rw [body]
  refine wpAny_execs_cons (wpAny_Return_some (BoolOp_and (raw_isi M kp2 S.kind rfl rfl i1 m1 i2 m2 (by decide +kernel) (by decide) rfl i4 rfl ns1 hx1 kn1 (kit_int k) fun tk => ?_)))
  refine wpAny_truthy_bool ?_
  have fin : ∀ tk : Nat, Keeps s { s1 with toks := tk } := fun tk => by
    subst es1
    exact ⟨h1, tk, rfl, kp1⟩
  cases hi : isIntK k with
  | false =>
    have ez : wholeK k = false := by
      cases k <;> first | rfl | exact absurd hi (by simp [isIntK])
    have := q _ (fin tk)
    rw [ez] at this
    exact this
  | true =>
    refine BoolOp_one (UnaryOp_ (raw_isi (s := { s1 with toks := tk }) M kp2 S.kind rfl rfl i1 m1 i3 m3 (by decide +kernel) (by decide) rfl i4 rfl ns1 hx1 kn1 (kit_bool k) fun tk2 => ?_))
    refine not_of (wpAny_truthy_bool ?_)
    have ez : wholeK k = !isBoolK k := by
      cases k <;> first | rfl | exact absurd hi (by simp [isIntK])
    have := q _ (fin tk2)
    rw [ez] at this
    exact this
end
end Cm

set_option Elab.async false
set_option linter.all false
set_option maxRecDepth 100000
set_option maxHeartbeats 4000000
namespace Cm
open PySem PySem.Spec PyProof.Rows L2 GxR
/-! ### all(test for x in t), t a tuple, the test may call defs that leave the heap as it is -/
/-- a raw value of the kind k: its type in the heap h, its number where it is one -/
def ValK (K : PySem.W.Frag) (h : Heap) (u : Value) (k : Kd) : Prop := KnV K h u k ∧ ∀ i, k = .int i → ∃ t, u = .int i t
theorem valk_of {K : PySem.W.Frag} {P : Program} {w : World} {H : Hp} {h h2 : Heap} {B : Addr} {ps : Array Value} {v : V} {u : Value} {k : Kd} (hok : HOk P w H h) (hB : H B = some (.tbl ps)) (kp : ∀ b o, b ≠ B → h.get? b = some o → h2.get? b = some o) (hk : HasK H v k) (r : RelV v u) : ValK K h2 u k := by
  have apart : ∀ a o, H a = some o → (∀ q, o ≠ .tbl q) → a ≠ B := fun a o e n z => by
    rw [z, hB] at e
    exact n ps (Option.some.inj e).symm
  cases hk with
  | non =>
    cases r
    exact ⟨⟨_, PySem.W.kitx_none, fun _ _ => True.intro, nofun⟩, nofun⟩
  | bl b =>
    cases r
    exact ⟨⟨_, PySem.W.kitx_bool, fun _ _ => True.intro, nofun⟩, nofun⟩
  | int i =>
    obtain ⟨t, rfl⟩ := r
    exact ⟨⟨_, PySem.W.kitx_int, fun _ _ => True.intro, nofun⟩, fun j e => by cases e; exact ⟨t, rfl⟩⟩
  | str x =>
    obtain ⟨t, rfl⟩ := r
    exact ⟨⟨_, PySem.W.kitx_str, fun _ _ => True.intro, nofun⟩, nofun⟩
  | @lst a xs e =>
    cases r
    have na := apart a _ e nofun
    obtain ⟨_, _, n, _, h1⟩ := hok a _ e
    exact ⟨⟨_, PySem.W.kitx_list, fun h' kp' => ⟨_, kp' _ _ (kp _ _ na h1), rfl⟩, nofun⟩, nofun⟩
  | @tup a xs e =>
    cases r
    have na := apart a _ e nofun
    obtain ⟨_, _, _, o, h1, h2, _⟩ := hok a _ e
    exact ⟨⟨_, PySem.W.kitx_tuple, fun h' kp' => ⟨o, kp' _ _ (kp _ _ na h1), h2⟩, nofun⟩, nofun⟩
  | @dct a kvs e =>
    cases r
    have na := apart a _ e nofun
    obtain ⟨_, _, vs, _, o, es, ep, h1, h2, _⟩ := hok a _ e
    exact ⟨⟨_, PySem.W.kitx_dict, fun h' kp' => ⟨o, kp' _ _ (kp _ _ na h1), h2.1⟩, nofun⟩, nofun⟩
theorem pair_at {α β : Type} {R : α → β → Prop} : ∀ {l : List α} {m : List β} {i : Nat} {a : α}, Paired R l m → l[i]? = some a → ∃ b, m[i]? = some b ∧ R a b
  | _, _, _, _, .nil, e => by simp at e
  | _, _, 0, _, .cons h _, e => by
    have e1 := Option.some.inj e
    subst e1
    exact ⟨_, rfl, h⟩
  | _, _, i + 1, a, .cons _ t, e => pair_at (i := i) (a := a) t e
/-- the element keeps its word at each value of a known kind -/
def EltT (prog : Program) (w : World) (K : PySem.W.Frag) (base : Heap) (D : Nat) (scope : Scope) (x : Str) (elt : Expr) (pb : Kd → Bool) : Prop :=
  ∀ (env : Env) (A' : Around) (E' : Value → Shared → Prop) (k : Kd) (u : Value) (s : Shared) (m : Str → Option Value), env.scope = scope → env.globals = mainGlobals → A'.depth ≤ D → (∀ b o, base.get? b = some o → s.heap.get? b = some o) →
    s.heap.Ns env.locals m → m x = some u → ValK K s.heap u k → wpAny (model prog w) A' (eval elt env) (fun y s' => y = .bool (pb k) ∧ Keeps s s') E' s
section
variable {X : Cx} {pins : List (Addr × Obj)} {σ : L2.St} {H : Hp} {s : Shared}
/-- the generator g, ready to be walked in s5; bs: what it gives -/
def ReadyB (X : Cx) (pins : List (Addr × Obj)) (σ : L2.St) (H1 : Hp) (B : Addr) (bs : List Bool) (g : Addr) (s5 : Shared) : Prop :=
  ∃ (fp wr : List Addr) (G : Array GenState → Array GenState → Prop) (F : Nat → Value → Prop) (St : Nat → Shared → Prop),
    WalksS X.prog X.w X.A.in1 g fp wr G bs.length F St ∧ St 0 s5 ∧ TruthOf X.prog X.w X.A.in1 F (fun j => bs[j]?.getD false) ∧ ∀ s', Moved wr G s5 s' → ∃ H2, Tabbed B H1 H2 ∧ Inv X pins σ H2 s'
theorem gen_tup {c B : Addr} {elt iter : Expr} {x : Str} {px gpos : Pos} {scope : Scope} {pb : Kd → Bool} {te : TE} {k : Nat} {Q' : Value → Shared → Prop} {R : List Kd → Hp → Prop}
    (hr : Room k X.A) (TB : TabB X.base X.mg c B) (hcode : X.env.code = .ref c) (S : GenS X.env scope x) (hi : PE X iter te) (hel : Mod X.K X.mg X.base → EltT X.prog X.w X.K X.base (X.A.depth + 1) scope x elt pb)
    (hs : ∀ v, genFold iter X.env v = pure v) (I : Inv X pins σ H s) (h : te σ H fun v H1 => ∃ a xs ks, v = .ref a ∧ SqT X.K H1 a xs ∧ Paired (HasK H1) xs ks ∧ TabG H1 B ∧ R ks H1)
    (hQ : ∀ ks H1 g s5, R ks H1 → ReadyB X pins σ H1 B (ks.map pb) g s5 → Q' (.ref g) s5) :
    wpAny (model X.prog X.w) X.A (eval (.GeneratorExp elt [⟨.Name x px, iter, [], 0⟩] scope gpos) X.env) Q' X.xe s := by
  refine wpAny_GeneratorExp_walksQD hr.hd S.co (closure_ok S.free) S.cell S.dot S.loc S.kind hr.depth ?_ hs
  refine thn (hi.run pins s σ H _ I h) fun xv s1 ⟨v, H1, I1, r1, q1⟩ => ?_
  obtain ⟨a, xs, ks, rfl, hT, hks, ⟨ps, hB, ht⟩, q1⟩ := q1
  cases r1
  obtain ⟨its, rv, hit, hz⟩ := I1.tuple hT
  refine wpAny_pyIter_tuple hit ?_
  have hBs : s1.heap.get? B = some { cls := .none, data := .fields ps } := I1.hok B _ hB
  have hBl : B < s1.heap.objs.size := Heap.lt_size hBs
  have hal : a < s1.heap.objs.size := by
    obtain ⟨o, ho, _⟩ := id hit
    exact Heap.lt_size ho
  have haB : a ≠ B := fun z => by
    obtain ⟨o, ho, hc, n, hd⟩ := id hit
    rw [z, hBs] at ho
    cases ho
    cases hd
  have hlen : ks.length = its.length := by rw [← Paired.length hks, rv.length]
  have itObj : (s1.heap.push { cls := .type "tuple_iterator", data := .fields #[.ref a, .int 0 0] }).IsTupleIter s1.heap.objs.size a 0 := ⟨_, Heap.get?_push_size _ rfl, rfl, rfl⟩
  have itTup : (s1.heap.push { cls := .type "tuple_iterator", data := .fields #[.ref a, .int 0 0] }).IsTuple a its.toArray := by
    obtain ⟨o, ho, hc, n, hd⟩ := id hit
    exact ⟨o, Heap.get?_push_of_some _ ho, hc, n, hd⟩
  have grow : ∀ b o, s1.heap.get? b = some o → (s1.heap.push { cls := .type "tuple_iterator", data := .fields #[.ref a, .int 0 0] }).get? b = some o := fun b o e => Heap.get?_push_of_some _ e
  have hsize : (s1.heap.push { cls := .type "tuple_iterator", data := .fields #[.ref a, .int 0 0] }).objs.size = s1.heap.objs.size + 1 := Heap.size_push ..
  have lim : (s1.heap.push { cls := .type "tuple_iterator", data := .fields #[.ref a, .int 0 0] }).NoLimit := I1.nolimit.push _
  have gMain : (s1.heap.push { cls := .type "tuple_iterator", data := .fields #[.ref a, .int 0 0] }).Ns mainGlobals X.mg := (I1.mod.glob.keeps I1.bk).push _
  generalize s1.heap.push { cls := .type "tuple_iterator", data := .fields #[.ref a, .int 0 0] } = h2 at *
  have hB2 := grow _ _ hBs
  have cd : PySem.W.CodeHd h2 c B := TB.code.keeps fun b u e => grow b u (I1.bk b u e)
  refine ⟨lim, thn (Q := fun code s3 => ∃ (h3 : Heap) (tk : Nat) (ps2 : Array Value), s3 = { s1 with heap := h3, toks := tk } ∧ Heap.ExtBut B h2 h3 ∧ h2.objs.size ≤ h3.objs.size ∧ h3.get? B = some { cls := .none, data := .fields ps2 } ∧ (∃ more, ps2 = ps ++ more) ∧ TriplesOk ps2.toList) ?_ fun code s3 out => ?_⟩
  · cases hf : codeAmong gpos ps.toList with
    | some cv => exact wpAny_genexprCode_hit hcode (cd.code hB2 ht) hf ⟨h2, s1.toks, ps, rfl, Heap.ExtBut.refl _ _, Nat.le_refl _, hB2, ⟨#[], by simp⟩, ht⟩
    | none =>
      refine wpAny_genexprCodeX hcode (cd.code hB2 ht) (cd.tab hB2) hf fun c2 h3 tk ext ge lt isc _ tab _ => ?_
      have htr : TriplesOk (ps ++ #[rawInt gpos.line, rawInt gpos.col, .ref c2]).toList := by
        obtain ⟨_, _, _, _, _, _, _, _, _, _, _, _, _, _, _, _, _, _, _, z, _⟩ := isc
        exact z
      exact ⟨h3, tk, _, rfl, ext, Nat.le_trans ge (Nat.le_of_lt lt), tab.2, ⟨_, rfl⟩, htr⟩
  obtain ⟨h3, tk, ps2, rfl, ext, hle, hB3, ⟨more, hmore⟩, ht3⟩ := out
  obtain ⟨bm, ob, e1, e2, e3, e4, e5, e6, e7, e8⟩ := TB.bm
  have sB : cStatics ≠ B := fun z => by
    obtain ⟨_, hns, _⟩ := I1.nolimit
    obtain ⟨o', es, ep, ho, hd, _⟩ := hns
    rw [z, hBs] at ho
    cases ho
    cases hd
  have sl : cStatics < s1.heap.objs.size := let ⟨_, hns, _⟩ := I1.nolimit; hns.lt
  have keep3 : ∀ b u, b ≠ B → s1.heap.get? b = some u → h3.get? b = some u := fun b u hb e => ext b u hb (grow b u e)
  have lt3 : s1.heap.objs.size < h3.objs.size := by omega
  refine wpAny_builtinsFor (m := X.mg) (by rw [I1.ok.glob]; exact gMain.extBut ext TB.gP) e1 e2 (keep3 _ _ e4 (I1.bk _ _ e5)) e6 e7 e8 ?_
  refine ⟨s1.heap.objs.size, [s1.heap.objs.size, a], [s1.heap.objs.size], its.toArray.size, fun i v => its.toArray[i]? = some v, _, (fun _ => true), (fun i y => ∃ kk, ks[i]? = some kk ∧ y = .bool (pb kk)), rfl, fun A' hA => Walks.tuple hA s1.heap.objs.size a (Nat.ne_of_lt hal) its.toArray, ?_, ?_, lim.extBut ext sB, ?_, ?_, ?_⟩
  · refine ⟨itObj.extBut ext (Ne.symm (Nat.ne_of_lt hBl)), ?_⟩
    obtain ⟨o, ho, hc, n, hd⟩ := id itTup
    exact ⟨o, ext _ _ haB ho, hc, n, hd⟩
  · intro b hb
    rcases List.mem_cons.mp hb with z | z
    · rw [z]
      exact lt3
    · rw [List.mem_singleton.mp z]
      exact Nat.lt_trans hal lt3
  · intro z
    exact Nat.ne_of_lt sl (List.mem_singleton.mp z)
  · intro href hh
    have kept : ∀ (t : Shared), (∀ b ∈ List.range h3.objs.size, b ∉ [s1.heap.objs.size] → ∀ o, href.get? b = some o → t.heap.get? b = some o) → ∀ b o, b ≠ B → s1.heap.get? b = some o → t.heap.get? b = some o := fun t hk b o hb e => by
      have hl := Heap.lt_size e
      exact hk b (List.mem_range.mpr (Nat.lt_trans hl lt3)) (fun z => Nat.ne_of_lt hl (List.mem_singleton.mp z)) o (hh b o (keep3 b o hb e))
    refine ⟨fun A' E' i v t m2 hA hD hU hP hn hm hk => ?_, fun A' E' i v t m2 hA hD hU hP hp hn hm hk => ?_⟩
    · simp only [List.forIn_nil]
      exact wpAny_pure ⟨rfl, keeps_refl _⟩
    · have hP2 : its[i]? = some v := by simpa using hP
      obtain ⟨hil, _⟩ := List.getElem?_eq_some_iff.mp hP2
      have hix : i < xs.length := by rw [rv.length]; exact hil
      obtain ⟨u2, hu2, ru2⟩ := rv.get (List.getElem?_eq_getElem hix)
      rw [hP2] at hu2
      obtain rfl : v = u2 := Option.some.inj hu2
      obtain ⟨kk, hkk, hask⟩ : ∃ kk, ks[i]? = some kk ∧ HasK H1 xs[i] kk := pair_at hks (List.getElem?_eq_getElem hix)
      have inBase : ∀ b o, X.base.get? b = some o → t.heap.get? b = some o := fun b o e => by
        refine kept t hk b o (fun z => ?_) (I1.bk b o e)
        have := (I1.bs b o e).2
        rw [z, hB] at this
        cases this
      exact wpAny_mono (hel I1.mod _ A' E' kk v t m2 rfl I1.ok.glob hD inBase hn hm (valk_of I1.hok hB (kept t hk) hask ru2)) (fun y s3 r => ⟨⟨kk, hkk, r.1⟩, r.2⟩) fun _ _ e => e
  · intro g h5 tk5 gs hgb hag hsz5 hk5 W5 hat
    have eb : (ks.map pb).length = its.toArray.size := by
      rw [List.length_map, hlen, List.size_toArray]
    simp only [GxR.passing_true, List.length_range] at W5
    refine hQ ks H1 g _ q1 ⟨_, _, _, _, _, by rw [eb]; exact W5.in4_1, hat, ?_, fun s' hm => ?_⟩
    · rintro j y sj Qj Ej ⟨i, hij, kk, hkk, rfl⟩ hQj
      obtain ⟨hj, ej⟩ := List.getElem?_eq_some_iff.mp hij
      rw [List.getElem_range] at ej
      subst ej
      have e9 : (ks.map pb)[j]?.getD false = pb kk := by
        rw [List.getElem?_map, hkk]
        rfl
      refine wpAny_truthy_bool ?_
      rw [← e9]
      exact hQj
    · have off : ∀ b u, s1.heap.get? b = some u → b ∉ h3.objs.size :: [s1.heap.objs.size] := fun b u e hb => by
        have hl := Heap.lt_size e
        rcases List.mem_cons.mp hb with z | z
        · exact Nat.ne_of_lt (Nat.lt_trans hl lt3) z
        · exact Nat.ne_of_lt hl (List.mem_singleton.mp z)
      have J := inv_tab (more := more) (h' := s'.heap) (g' := s'.gens) (d' := s'.drawn) (t' := s'.toks) I1 hB (fun b u hb e => hm.heap b u (off b u e) (hk5 b u (keep3 b u hb e)))
        (by rw [← hmore]; exact hm.heap B _ (off B _ hBs) (hk5 B _ hB3)) (AllBare.movedS (I1.bare.push hgb) hm)
      rw [sh_eta s1 s' hm.os] at J
      exact ⟨upd H1 B (.tbl (ps ++ more)), ⟨⟨ps ++ more, upd_same, by rw [← hmore]; exact ht3⟩, fun b hb => upd_ne hb⟩, J⟩
/-- all(test for x in e), e a tuple of things of known kinds; the def's table may have grown behind it -/
def tAllT (K : PySem.W.Frag) (B : Addr) (pb : Kd → Bool) (te : TE) : TE := fun σ H Q => te σ H fun v H1 => ∃ a xs ks, v = .ref a ∧ SqT K H1 a xs ∧ Paired (HasK H1) xs ks ∧ TabG H1 B ∧ ∀ H2, Tabbed B H1 H2 → Q (.bl (ks.all pb)) H2
theorem all_bools (bs : List Bool) : (List.range bs.length).all (fun j => bs[j]?.getD false) = bs.all id := by
  rw [Bool.eq_iff_iff, List.all_eq_true, List.all_eq_true]
  constructor
  · intro h b hb
    obtain ⟨j, hj, rfl⟩ := List.getElem_of_mem hb
    have := h j (List.mem_range.mpr hj)
    rw [List.getElem?_eq_getElem hj] at this
    exact this
  · intro h j hj
    have hj2 := List.mem_range.mp hj
    rw [List.getElem?_eq_getElem hj2]
    exact h _ (List.getElem_mem hj2)
theorem pe_allT {c B : Addr} {elt iter : Expr} {x : Str} {px p pos gpos : Pos} {scope : Scope} {pb : Kd → Bool} {te : TE} {k : Nat}
    (hr : Room k X.A) (hg : Gl X "all") (hm : X.mg "all" = none) (TB : TabB X.base X.mg c B) (hcode : X.env.code = .ref c) (S : GenS X.env scope x) (hi : PE X iter te) (hel : Mod X.K X.mg X.base → EltT X.prog X.w X.K X.base (X.A.depth + 1) scope x elt pb)
    (hs : ∀ v, genFold iter X.env v = pure v)
    (he : starEach [.GeneratorExp elt [⟨.Name x px, iter, [], 0⟩] scope gpos] X.env = (false, eval (.GeneratorExp elt [⟨.Name x px, iter, [], 0⟩] scope gpos) X.env) :: starEach [] X.env := by rfl) :
    PE X (.Call (.Name "all" p) [.GeneratorExp elt [⟨.Name x px, iter, [], 0⟩] scope gpos] [] pos) (tAllT X.K B pb te) := by
  refine ⟨fun pins s σ H Q I h => wpAny_Call_Name_kw (ld_blt I hg hm (show bootBuiltins "all" = some (.builtin "all") by decide +kernel) ?_)⟩
  refine PyProof.Rows.callWith_builtin1 (args_cons (gen_tup (R := fun ks H1 => ∀ H2, Tabbed B H1 H2 → Q (.bl (ks.all pb)) H2) hr TB hcode S hi hel hs I h fun ks H1 g s5 hR hG => ?_) he) he rfl
  obtain ⟨fps, wrs, Gr, Fv, Sv, Wk, at0, tru, later⟩ := hG
  refine args_nil ?_
  refine call_all_walkS (Wk.self 0 _ _ _ at0 ⟨g, fps, wrs, Gr, _, Fv, Sv, _, rfl, Wk, at0, tru, fun sN mvd => ?_⟩)
  obtain ⟨H2, grown, J⟩ := later sN mvd
  refine ⟨.bl _, H2, J, rfl, ?_⟩
  have e : (List.range (ks.map pb).length).all (fun j => (ks.map pb)[j]?.getD false) = ks.all pb := by
    rw [all_bools, List.all_map]
    rfl
  rw [e]
  exact hR H2 grown
end
end Cm

set_option Elab.async false
set_option linter.all false
set_option maxRecDepth 100000
set_option maxHeartbeats 4000000
namespace Cm
open PySem PySem.Spec PyProof.Rows L2 GxR
/-! ### elements: is_whole(x) and x >= n -/
/-- what the text says of is_whole -/
structure WholeT (K : PySem.W.Frag) (mg : Str → Option Value) (f : Addr) (fd : FuncData) (st : Stmt) (a1 a2 a3 a4 b1 b2 b3 b4 c1 c2 c3 : Pos) : Prop where
  fn : Fun K "is_whole" "is_whole" st f fd
  sc : FnScope ["thing"] ["thing"] (defScope st)
  at_ : mg "is_whole" = some (.ref f)
  bd : Binds K fd ["thing"] []
  body : defBody st = [.Return (some (.BoolOp .And [.Call (.Name "isinstance" a1) [.Name "thing" a2, .Name "int" a3] [] a4, .UnaryOp .Not (.Call (.Name "isinstance" b1) [.Name "thing" b2, .Name "bool" b3] [] b4) c1] c2)) c3]
  i1 : (defScope st).names.lookup ("isinstance" : Str) = some .globalImplicit
  i2 : (defScope st).names.lookup ("int" : Str) = some .globalImplicit
  i3 : (defScope st).names.lookup ("bool" : Str) = some .globalImplicit
  i4 : (defScope st).names.lookup ("thing" : Str) = some .local
  m1 : mg "isinstance" = none
  m2 : mg "int" = none
  m3 : mg "bool" = none
def geK (n : Int) : Kd → Bool
  | .int i => decide (n ≤ i)
  | _ => false
section
variable {prog : Program} {w : World} {K : PySem.W.Frag} {mg : Str → Option Value} {base : Heap} {f : Addr} {fd : FuncData} {st : Stmt} {a1 a2 a3 a4 b1 b2 b3 b4 c1 c2 c3 : Pos}
theorem elt_whole {D : Nat} {scope : Scope} {x : Str} {q1 q2 q3 : Pos} (W : WholeT K mg f fd st a1 a2 a3 a4 b1 b2 b3 b4 c1 c2 c3) (M : Mod K mg base) (dep : D < recursionLimit) (kd : scope.kind = .function)
    (k0 : scope.names.lookup ("is_whole" : Str) = some .globalImplicit) (kx : scope.names.lookup x = some .local) (dx : (x == ("__debug__" : Str)) = false) :
    EltT prog w K base D scope x (.Call (.Name "is_whole" q1) [.Name x q2] [] q3) wholeK := by
  intro env A' E' k u s m hs hg hD kp hn hx hv
  subst hs
  exact raw_whole W.fn W.sc W.at_ W.bd W.body W.i1 W.i2 W.i3 W.i4 W.m1 W.m2 W.m3 M kp (Nat.lt_of_le_of_lt hD dep) kd hg k0 kx dx hn hx hv.1 fun s' kk => ⟨rfl, kk⟩
theorem elt_ge {D : Nat} {scope : Scope} {x : Str} {n : Int} {j : Nat} {q1 q2 q3 p1 p2 p3 p4 : Pos} (W : WholeT K mg f fd st a1 a2 a3 a4 b1 b2 b3 b4 c1 c2 c3) (M : Mod K mg base) (dep : D < recursionLimit) (kd : scope.kind = .function)
    (k0 : scope.names.lookup ("is_whole" : Str) = some .globalImplicit) (kx : scope.names.lookup x = some .local) (dx : (x == ("__debug__" : Str)) = false) :
    EltT prog w K base D scope x (.BoolOp .And [.Call (.Name "is_whole" q1) [.Name x q2] [] q3, .Compare (.Name x p1) [.GtE] [.Constant (.int n) j p2] p3] p4) (fun k => wholeK k && geK n k) := by
  intro env A' E' k u s m hs hg hD kp hn hx hv
  subst hs
  refine BoolOp_and (raw_whole W.fn W.sc W.at_ W.bd W.body W.i1 W.i2 W.i3 W.i4 W.m1 W.m2 W.m3 M kp (Nat.lt_of_le_of_lt hD dep) kd hg k0 kx dx hn hx hv.1 fun s' kk => wpAny_truthy_bool ?_)
  cases hw : wholeK k with
  | false =>
    refine ⟨?_, kk⟩
    show Value.bool false = Value.bool (wholeK k && geK n k)
    rw [hw]
    rfl
  | true =>
    obtain ⟨i, rfl⟩ := whole_int hw
    obtain ⟨t, rfl⟩ := hv.2 i rfl
    obtain ⟨h', tk, rfl, kept⟩ := kk
    refine BoolOp_one (wpAny_Compare1 (wpAny_Name (wpAny_loadName_local kd kx (hn.keeps kept) hx ?_) dx) (by rfl))
    refine wpAny_Constant_int ?_
    exact PyProof.Rows.ge_int ⟨rfl, h', _, rfl, kept⟩
end
end Cm

set_option Elab.async false
set_option linter.all false
set_option maxRecDepth 100000
set_option maxHeartbeats 4000000
namespace Cm
open PySem PySem.Spec PyProof.Rows L2 GxR
/-! ### zip of two tuples, walked by a generator expression -/
def ZipAt (z TI TO i1 i2 a b : Addr) (xs ys : Array Value) (f : Value) (i : Nat) (h : Heap) : Prop :=
  IsZip h z TI TO f ∧ IsPair h TI (.ref i1) (.ref i2) ∧ (∃ x y, IsPair h TO x y) ∧ h.IsTupleIter i1 a i ∧ h.IsTupleIter i2 b i ∧ h.IsTuple a xs ∧ h.IsTuple b ys
theorem walksU_zipT {prog : Program} {w : World} {A : Around} {z TI TO i1 i2 a b : Addr} {xs ys : Array Value} (hh : A.handled = none) (D : ZipApart z TI TO i1 i2 a b) :
    WalksU prog w A z [z, TI, TO, i1, i2, a, b] [z, TI, TO, i1, i2] (min xs.size ys.size) (fun i vals => ∃ u v, xs[i]? = some u ∧ ys[i]? = some v ∧ vals = #[u, v]) (ZipAt z TI TO i1 i2 a b xs ys .none)
      (fun i T h => ZipAt z TI TO i1 i2 a b xs ys (rawInt T) (i + 1) h ∧ T ∉ [z, TI, TO, i1, i2]) where
  sub := fun c hc => by
    simp only [List.mem_cons, List.not_mem_nil, or_false] at hc ⊢
    rcases hc with q | q | q | q | q <;> simp [q]
  frame := fun i h h' st k => by
    obtain ⟨h1, h2, ⟨x, y, h3⟩, h4, h5, h6, h7⟩ := st
    exact ⟨k z (by simp) _ h1, k TI (by simp) _ h2, ⟨x, y, k TO (by simp) _ h3⟩, h4.at fun o q => k i1 (by simp) o q, h5.at fun o q => k i2 (by simp) o q, h6.at fun o q => k a (by simp) o q, h7.at fun o q => k b (by simp) o q⟩
  item := fun i s Q E hi st hQ => by
    obtain ⟨h1, h2, ⟨x, y, h3⟩, h4, h5, h6, h7⟩ := st
    have hx : i < xs.size := by omega
    have hy : i < ys.size := by omega
    have l1 := Heap.lt_size h1
    have l2 := Heap.lt_size h2
    have l3 := Heap.lt_size h3
    have l4 : i1 < s.heap.objs.size := let ⟨_, q, _⟩ := h4; Heap.lt_size q
    have l5 : i2 < s.heap.objs.size := let ⟨_, q, _⟩ := h5; Heap.lt_size q
    refine RZ.pyNext_zipT_item D h1 h2 h3 h4 h5 h6 h7 (Array.getElem?_eq_getElem hx) (Array.getElem?_eq_getElem hy) fun h' z1 z2 z3 z4 z5 z6 z7 => ?_
    refine hQ _ #[xs[i], ys[i]] h' s.toks ⟨_, _, Array.getElem?_eq_getElem hx, Array.getElem?_eq_getElem hy, rfl⟩ ⟨_, z5, rfl, _, rfl⟩ ⟨⟨z1, z7 _ _ D.TIz D.TITO D.TIi1 D.TIi2 h2, ⟨_, _, z2⟩, z3, z4, h6.at fun o q => z7 _ _ D.l1z D.l1TO D.l1i1 D.l1i2 q, h7.at fun o q => z7 _ _ D.l2z D.l2TO D.l2i1 D.l2i2 q⟩, ?_⟩ fun c o hc e => ?_
    · intro m
      simp only [List.mem_cons, List.not_mem_nil, or_false] at m
      rcases m with q | q | q | q | q
      · exact Nat.ne_of_lt l1 q.symm
      · exact Nat.ne_of_lt l2 q.symm
      · exact Nat.ne_of_lt l3 q.symm
      · exact Nat.ne_of_lt l4 q.symm
      · exact Nat.ne_of_lt l5 q.symm
    · simp only [List.mem_cons, List.not_mem_nil, or_false, not_or] at hc
      exact z7 c o hc.1 hc.2.2.1 hc.2.2.2.1 hc.2.2.2.2 e
  go := fun elts k pos i T s Q E m hQ => by
    obtain ⟨⟨h1, h2, ⟨x, y, h3⟩, h4, h5, h6, h7⟩, nT⟩ := m
    refine wpAny_letOwnedTupleGo_zip h1 fun h' z1 sb => ?_
    have k : ∀ c o, c ≠ z → s.heap.get? c = some o → h'.get? c = some o := fun c o hc e => (sb.2 c hc).trans e
    refine hQ h' ⟨z1, k _ _ D.TIz h2, ⟨x, y, k _ _ D.TOz h3⟩, h4.at fun o q => k _ _ D.i1z q, h5.at fun o q => k _ _ D.i2z q, h6.at fun o q => k _ _ D.l1z q, h7.at fun o q => k _ _ D.l2z q⟩ fun c o hc e => k c o (fun q => hc (by simp [q])) e
  apart := fun i T h m => m.2
  done := fun s Q E st hQ => by
    obtain ⟨h1, h2, ⟨x, y, h3⟩, h4, h5, h6, h7⟩ := st
    refine RZ.pyNext_zipT_end hh D h1 h2 h3 h4 h5 h6 h7 ?_ fun h' z7 => hQ h' s.toks fun c o hc e => ?_
    · by_cases hl : xs.size ≤ ys.size
      · exact .inl (by rw [Nat.min_eq_left hl]; simp)
      · exact .inr (by rw [Nat.min_eq_right (by omega)]; simp)
    · simp only [List.mem_cons, List.not_mem_nil, or_false, not_or] at hc
      exact z7 c o hc.1 hc.2.2.1 hc.2.2.2.1 hc.2.2.2.2 e
  self := fun i s Q E st h => wpAny_pyIter_zip st.1 h
/-- the generator expression's own scope: two names -/
structure GenS2 (env : Env) (scope : Scope) (xa xb : Str) : Prop where
  kind : scope.kind = .function
  co : scope.isCoroutine = false
  cell : ∀ y ∈ scope.names, y.2 ≠ .cell
  dot : scope.names.lookup (".0" : Str) = some NameKind.local
  la : scope.names.lookup xa = some .local
  lb : scope.names.lookup xb = some .local
  ab : xa ≠ xb
  free : ∀ y ∈ scope.names, y.2 = .free → ∃ c, env.cells.lookup y.1 = some c
/-- the element keeps its word at each two values of known kinds -/
def EltZ (prog : Program) (w : World) (K : PySem.W.Frag) (base : Heap) (D : Nat) (scope : Scope) (xa xb : Str) (elt : Expr) (pb : Kd → Int → Bool) : Prop :=
  ∀ (env : Env) (A' : Around) (E' : Value → Shared → Prop) (ka : Kd) (kb : Int) (ua ub : Value) (s : Shared) (m : Str → Option Value), env.scope = scope → env.globals = mainGlobals → A'.depth ≤ D → (∀ b o, base.get? b = some o → s.heap.get? b = some o) →
    s.heap.Ns env.locals m → m xa = some ua → m xb = some ub → ValK K s.heap ua ka → (∃ t, ub = .int kb t) → wpAny (model prog w) A' (eval elt env) (fun y s' => y = .bool (pb ka kb) ∧ Keeps s s') E' s
section
variable {X : Cx} {pins : List (Addr × Obj)} {σ : L2.St} {H : Hp} {s : Shared}
theorem gen_zip {c B : Addr} {elt e1 e2 : Expr} {xa xb : Str} {px py pt pz pc gpos : Pos} {kt : Nat} {scope : Scope} {pb : Kd → Int → Bool} {ta : TA} {k : Nat} {Q' : Value → Shared → Prop} {R : List Kd → List Int → Hp → Prop}
    (hr : Room k X.A) (TB : TabB X.base X.mg c B) (hcode : X.env.code = .ref c) (S : GenS2 X.env scope xa xb) (hgz : Gl X "zip") (hmz : X.mg "zip" = none) (hi : PA X [e1, e2] ta) (hel : Mod X.K X.mg X.base → EltZ X.prog X.w X.K X.base (X.A.depth + 1) scope xa xb elt pb)
    (hst : starEach [e1, e2] X.env = (false, eval e1 X.env) :: starEach [e2] X.env) (hpl : (backTo pc (starEach [e2] X.env)).any (·.1) = false)
    (hs : ∀ v, genFold (.Call (.Name "zip" pz) [e1, e2] [] pc) X.env v = pure v) (I : Inv X pins σ H s)
    (h : ta σ H fun vs H1 => ∃ a b xs ks, ∃ ls : List Int, vs = [.ref a, .ref b] ∧ SqT X.K H1 a xs ∧ SqT X.K H1 b (ls.map V.int) ∧ Paired (HasK H1) xs ks ∧ TabG H1 B ∧ R ks ls H1)
    (hQ : ∀ ks ls H1 g s5, R ks ls H1 → ReadyB X pins σ H1 B (List.zipWith pb ks ls) g s5 → Q' (.ref g) s5) :
    wpAny (model X.prog X.w) X.A (eval (.GeneratorExp elt [⟨.Tuple [.Name xa px, .Name xb py] kt pt, .Call (.Name "zip" pz) [e1, e2] [] pc, [], 0⟩] scope gpos) X.env) Q' X.xe s := by
  refine wpAny_GeneratorExp_walksQTD hr.hd S.co (closure_ok S.free) S.cell S.dot S.la S.lb S.ab S.kind hr.depth ?_ hs
  refine wpAny_Call_Name_kw (ld_blt I hgz hmz PyProof.Rows.boot_zip (PyProof.Rows.callWith_type1 (thn (hi.run pc pins s σ H _ I h) fun us s1 out => ?_) hst hpl))
  obtain ⟨vs, H1, I1, r1, a, b, xs, ks, ls, rfl, hTa, hTb, hks, ⟨ps, hB, ht⟩, q1⟩ := out
  obtain ⟨u1, u2, rfl, ra, rb⟩ := vals2 r1
  cases ra
  cases rb
  obtain ⟨ia, rva, hita, hza⟩ := I1.tuple hTa
  obtain ⟨ib, rvb, hitb, hzb⟩ := I1.tuple hTb
  have hBs : s1.heap.get? B = some { cls := .none, data := .fields ps } := I1.hok B _ hB
  have hBl : B < s1.heap.objs.size := Heap.lt_size hBs
  have inH : ∀ {d : Addr} {it : List Value}, IsTup s1.heap d it.toArray → d < s1.heap.objs.size ∧ d ≠ B := fun {d it} q => by
    obtain ⟨o, ho, hc, n, hd⟩ := q
    refine ⟨Heap.lt_size ho, fun z => ?_⟩
    rw [z, hBs] at ho
    cases ho
    cases hd
  have la := inH hita
  have lb := inH hitb
  refine RZ.call_zipT (show s1.heap.IsTuple a ia.toArray from hita) (show s1.heap.IsTuple b ib.toArray from hitb) fun h2 z1 z2 z3 z4 z5 hsize grow => ?_
  have D := PySem.W.ktu_apart s1.heap.objs.size a b la.1 lb.1
  refine wpAny_pyIter_zip z1 ?_
  have lim : h2.NoLimit := I1.nolimit.keeps grow
  have gMain : h2.Ns mainGlobals X.mg := (I1.mod.glob.keeps I1.bk).keeps grow
  have hB2 := grow _ _ hBs
  have cd : PySem.W.CodeHd h2 c B := TB.code.keeps fun b u e => grow b u (I1.bk b u e)
  refine ⟨lim, thn (Q := fun code s3 => ∃ (h3 : Heap) (tk : Nat) (ps2 : Array Value), s3 = { s1 with heap := h3, toks := tk } ∧ Heap.ExtBut B h2 h3 ∧ h2.objs.size ≤ h3.objs.size ∧ h3.get? B = some { cls := .none, data := .fields ps2 } ∧ (∃ more, ps2 = ps ++ more) ∧ TriplesOk ps2.toList) ?_ fun code s3 out => ?_⟩
  · cases hf : codeAmong gpos ps.toList with
    | some cv => exact wpAny_genexprCode_hit hcode (cd.code hB2 ht) hf ⟨h2, s1.toks, ps, rfl, Heap.ExtBut.refl _ _, Nat.le_refl _, hB2, ⟨#[], by simp⟩, ht⟩
    | none =>
      refine wpAny_genexprCodeX hcode (cd.code hB2 ht) (cd.tab hB2) hf fun c2 h3 tk ext ge lt isc _ tab _ => ?_
      have htr : TriplesOk (ps ++ #[rawInt gpos.line, rawInt gpos.col, .ref c2]).toList := by
        obtain ⟨_, _, _, _, _, _, _, _, _, _, _, _, _, _, _, _, _, _, _, z, _⟩ := isc
        exact z
      exact ⟨h3, tk, _, rfl, ext, Nat.le_trans ge (Nat.le_of_lt lt), tab.2, ⟨_, rfl⟩, htr⟩
  obtain ⟨h3, tk, ps2, rfl, ext, hle, hB3, ⟨more, hmore⟩, ht3⟩ := out
  obtain ⟨bm, ob, e1', e2', e3, e4, e5, e6, e7, e8⟩ := TB.bm
  have sB : cStatics ≠ B := fun z => by
    obtain ⟨_, hns, _⟩ := I1.nolimit
    obtain ⟨o', es, ep, ho, hd, _⟩ := hns
    rw [z, hBs] at ho
    cases ho
    cases hd
  have sl : cStatics < s1.heap.objs.size := let ⟨_, hns, _⟩ := I1.nolimit; hns.lt
  have keep3 : ∀ b u, b ≠ B → s1.heap.get? b = some u → h3.get? b = some u := fun b u hb e => ext b u hb (grow b u e)
  have size3 : s1.heap.objs.size + 5 ≤ h3.objs.size := by omega
  have lt3 : s1.heap.objs.size < h3.objs.size := by omega
  have wrOff : ∀ d, d < s1.heap.objs.size → d ∉ ([s1.heap.objs.size + 4, s1.heap.objs.size + 2, s1.heap.objs.size + 3, s1.heap.objs.size, s1.heap.objs.size + 1] : List Nat) := fun d hd m => by
    simp only [List.mem_cons, List.not_mem_nil, or_false] at m
    omega
  have newOff : ∀ d : Nat, s1.heap.objs.size ≤ d → d ≠ B := fun d hd z => Nat.lt_irrefl _ (Nat.lt_of_lt_of_le hBl (z ▸ hd))
  refine wpAny_builtinsFor (m := X.mg) (by rw [I1.ok.glob]; exact gMain.extBut ext TB.gP) e1' e2' (keep3 _ _ e4 (I1.bk _ _ e5)) e6 e7 e8 ?_
  refine ⟨s1.heap.objs.size + 4, _, [s1.heap.objs.size + 4, s1.heap.objs.size + 2, s1.heap.objs.size + 3, s1.heap.objs.size, s1.heap.objs.size + 1], min ia.toArray.size ib.toArray.size, _, _, _, (fun _ => true), (fun i y => ∃ ka kb, ks[i]? = some ka ∧ ls[i]? = some kb ∧ y = .bool (pb ka kb)), rfl, fun A' hA => walksU_zipT (xs := ia.toArray) (ys := ib.toArray) hA D, ?_, ?_, ?_, lim.extBut ext sB, ?_, ?_, ?_⟩
  · rintro i vals ⟨u, v, _, _, rfl⟩
    exact ⟨u, v, rfl⟩
  · have k3 : ∀ d o, d ≠ B → h2.get? d = some o → h3.get? d = some o := fun d o hd e => ext d o hd e
    refine ⟨k3 _ _ (newOff _ (by omega)) z1, k3 _ _ (newOff _ (by omega)) z2, ⟨_, _, k3 _ _ (newOff _ (by omega)) z3⟩, z4.at fun o q => k3 _ _ (newOff _ (Nat.le_refl _)) q, z5.at fun o q => k3 _ _ (newOff _ (by omega)) q, ?_, ?_⟩
    · obtain ⟨o, ho, r⟩ := id hita
      exact ⟨o, keep3 _ _ la.2 ho, r⟩
    · obtain ⟨o, ho, r⟩ := id hitb
      exact ⟨o, keep3 _ _ lb.2 ho, r⟩
  · intro d hd
    have la1 : a < s1.heap.objs.size := la.1
    have lb1 : b < s1.heap.objs.size := lb.1
    simp only [List.mem_cons, List.not_mem_nil, or_false] at hd
    show d < h3.objs.size
    rcases hd with q | q | q | q | q | q | q
    · rw [q]; exact Nat.lt_of_lt_of_le (by omega) size3
    · rw [q]; exact Nat.lt_of_lt_of_le (by omega) size3
    · rw [q]; exact Nat.lt_of_lt_of_le (by omega) size3
    · rw [q]; exact lt3
    · rw [q]; exact Nat.lt_of_lt_of_le (by omega) size3
    · rw [q]; exact Nat.lt_trans la1 lt3
    · rw [q]; exact Nat.lt_trans lb1 lt3
  · exact wrOff _ sl
  · intro href hh
    have kept : ∀ (t : Shared), (∀ d ∈ List.range h3.objs.size, d ∉ ([s1.heap.objs.size + 4, s1.heap.objs.size + 2, s1.heap.objs.size + 3, s1.heap.objs.size, s1.heap.objs.size + 1] : List Nat) → ∀ o, href.get? d = some o → t.heap.get? d = some o) → ∀ d o, d ≠ B → s1.heap.get? d = some o → t.heap.get? d = some o := fun t hk d o hb e => by
      have hl := Heap.lt_size e
      exact hk d (List.mem_range.mpr (Nat.lt_trans hl lt3)) (wrOff d hl) o (hh d o (keep3 d o hb e))
    refine ⟨fun A' E' i va vb t m2 hA hD hU hP hn hma hmb hk => ?_, fun A' E' i va vb t m2 hA hD hU hP hp hn hma hmb hk => ?_⟩
    · simp only [List.forIn_nil]
      exact wpAny_pure ⟨rfl, keeps_refl _⟩
    · obtain ⟨ua, ub, hua, hub, ev⟩ := hP
      obtain ⟨rfl, rfl⟩ : va = ua ∧ vb = ub := by
        have e9 := congrArg Array.toList ev
        simp at e9
        exact e9
      have find : ∀ {zs : List V} {it : List Value} {kk : List Kd} {u : Value}, Vals zs it → Paired (HasK H1) zs kk → it.toArray[i]? = some u → ∃ q, kk[i]? = some q ∧ ValK X.K t.heap u q := by
        intro zs it kk u rv hkk hu
        have hu2 : it[i]? = some u := by simpa using hu
        obtain ⟨hil, _⟩ := List.getElem?_eq_some_iff.mp hu2
        have hix : i < zs.length := by rw [rv.length]; exact hil
        obtain ⟨w2, hw2, rw2⟩ := rv.get (List.getElem?_eq_getElem hix)
        rw [hu2] at hw2
        obtain rfl : u = w2 := Option.some.inj hw2
        obtain ⟨q, hq, hask⟩ := pair_at hkk (List.getElem?_eq_getElem hix)
        exact ⟨q, hq, valk_of I1.hok hB (kept t hk) hask rw2⟩
      obtain ⟨ka, hka, vka⟩ := find rva hks hua
      obtain ⟨kb, hkb, vkb⟩ : ∃ q, ls[i]? = some q ∧ ∃ t, vb = .int q t := by
        have hu2 : ib[i]? = some vb := by simpa using hub
        obtain ⟨hil, _⟩ := List.getElem?_eq_some_iff.mp hu2
        have hix : i < ls.length := by
          have := rvb.length
          rw [List.length_map] at this
          omega
        have hl2 : (ls.map V.int)[i]? = some (.int ls[i]) := by rw [List.getElem?_map, List.getElem?_eq_getElem hix]; rfl
        obtain ⟨w2, hw2, rw2⟩ := rvb.get hl2
        rw [hu2] at hw2
        obtain rfl : vb = w2 := Option.some.inj hw2
        exact ⟨ls[i], List.getElem?_eq_getElem hix, rw2⟩
      have inBase : ∀ d o, X.base.get? d = some o → t.heap.get? d = some o := fun d o e => by
        refine kept t hk d o (fun z => ?_) (I1.bk d o e)
        have := (I1.bs d o e).2
        rw [z, hB] at this
        cases this
      exact wpAny_mono (hel I1.mod _ A' E' ka kb va vb t m2 rfl I1.ok.glob hD inBase hn hma hmb vka vkb) (fun y s3 r => ⟨⟨ka, kb, hka, hkb, r.1⟩, r.2⟩) fun _ _ e => e
  · intro g h5 tk5 gs hgb hag hsz5 hk5 W5 hat
    have eb : (List.zipWith pb ks ls).length = min ia.toArray.size ib.toArray.size := by
      have l2 := rvb.length
      rw [List.length_map] at l2
      rw [List.length_zipWith, ← Paired.length hks, rva.length, l2, List.size_toArray, List.size_toArray]
    simp only [GxR.passing_true, List.length_range] at W5
    refine hQ ks ls H1 g _ q1 ⟨_, _, _, _, _, by rw [eb]; exact W5.in4_1, hat, ?_, fun s' hm => ?_⟩
    · rintro j y sj Qj Ej ⟨i, hij, ka, kb, hka, hkb, rfl⟩ hQj
      obtain ⟨hj, ej⟩ := List.getElem?_eq_some_iff.mp hij
      rw [List.getElem_range] at ej
      subst ej
      have e9 : (List.zipWith pb ks ls)[j]?.getD false = pb ka kb := by
        rw [List.getElem?_zipWith, hka, hkb]
        rfl
      refine wpAny_truthy_bool ?_
      rw [← e9]
      exact hQj
    · have off : ∀ d u, s1.heap.get? d = some u → d ∉ h3.objs.size :: [s1.heap.objs.size + 4, s1.heap.objs.size + 2, s1.heap.objs.size + 3, s1.heap.objs.size, s1.heap.objs.size + 1] := fun d u e hb => by
        have hl := Heap.lt_size e
        rcases List.mem_cons.mp hb with z | z
        · exact Nat.ne_of_lt (Nat.lt_trans hl lt3) z
        · exact wrOff d hl z
      have J := inv_tab (more := more) (h' := s'.heap) (g' := s'.gens) (d' := s'.drawn) (t' := s'.toks) I1 hB (fun b u hb e => hm.heap b u (off b u e) (hk5 b u (keep3 b u hb e)))
        (by rw [← hmore]; exact hm.heap B _ (off B _ hBs) (hk5 B _ hB3)) (AllBare.movedS (I1.bare.push hgb) hm)
      rw [sh_eta s1 s' hm.os] at J
      exact ⟨upd H1 B (.tbl (ps ++ more)), ⟨⟨ps ++ more, upd_same, by rw [← hmore]; exact ht3⟩, fun b hb => upd_ne hb⟩, J⟩
/-- all(test for x, y in zip(e1, e2)), of two tuples of things of known kinds -/
def tAllZ (K : PySem.W.Frag) (B : Addr) (pb : Kd → Int → Bool) (ta : TA) : TE := fun σ H Q => ta σ H fun vs H1 => ∃ a b xs ks, ∃ ls : List Int, vs = [.ref a, .ref b] ∧ SqT K H1 a xs ∧ SqT K H1 b (ls.map V.int) ∧ Paired (HasK H1) xs ks ∧ TabG H1 B ∧ ∀ H2, Tabbed B H1 H2 → Q (.bl ((List.zipWith pb ks ls).all id)) H2
theorem pe_allZ {c B : Addr} {elt e1 e2 : Expr} {xa xb : Str} {px py pt pz pc p pos gpos : Pos} {kt : Nat} {scope : Scope} {pb : Kd → Int → Bool} {ta : TA} {k : Nat}
    (hr : Room k X.A) (hg : Gl X "all") (hm : X.mg "all" = none) (TB : TabB X.base X.mg c B) (hcode : X.env.code = .ref c) (S : GenS2 X.env scope xa xb) (hgz : Gl X "zip") (hmz : X.mg "zip" = none) (hi : PA X [e1, e2] ta) (hel : Mod X.K X.mg X.base → EltZ X.prog X.w X.K X.base (X.A.depth + 1) scope xa xb elt pb)
    (hs : ∀ v, genFold (.Call (.Name "zip" pz) [e1, e2] [] pc) X.env v = pure v)
    (hst : starEach [e1, e2] X.env = (false, eval e1 X.env) :: starEach [e2] X.env := by rfl) (hpl : (backTo pc (starEach [e2] X.env)).any (·.1) = false := by rfl)
    (he : starEach [.GeneratorExp elt [⟨.Tuple [.Name xa px, .Name xb py] kt pt, .Call (.Name "zip" pz) [e1, e2] [] pc, [], 0⟩] scope gpos] X.env = (false, eval (.GeneratorExp elt [⟨.Tuple [.Name xa px, .Name xb py] kt pt, .Call (.Name "zip" pz) [e1, e2] [] pc, [], 0⟩] scope gpos) X.env) :: starEach [] X.env := by rfl) :
    PE X (.Call (.Name "all" p) [.GeneratorExp elt [⟨.Tuple [.Name xa px, .Name xb py] kt pt, .Call (.Name "zip" pz) [e1, e2] [] pc, [], 0⟩] scope gpos] [] pos) (tAllZ X.K B pb ta) := by
  refine ⟨fun pins s σ H Q I h => wpAny_Call_Name_kw (ld_blt I hg hm (show bootBuiltins "all" = some (.builtin "all") by decide +kernel) ?_)⟩
  refine PyProof.Rows.callWith_builtin1 (args_cons (gen_zip (R := fun ks ls H1 => ∀ H2, Tabbed B H1 H2 → Q (.bl ((List.zipWith pb ks ls).all id)) H2) hr TB hcode S hgz hmz hi hel hst hpl hs I h fun ks ls H1 g s5 hR hG => ?_) he) he rfl
  obtain ⟨fps, wrs, Gr, Fv, Sv, Wk, at0, tru, later⟩ := hG
  refine args_nil ?_
  refine call_all_walkS (Wk.self 0 _ _ _ at0 ⟨g, fps, wrs, Gr, _, Fv, Sv, _, rfl, Wk, at0, tru, fun sN mvd => ?_⟩)
  obtain ⟨H2, grown, J⟩ := later sN mvd
  refine ⟨.bl _, H2, J, rfl, ?_⟩
  rw [all_bools]
  exact hR H2 grown
end
/-! ### is_whole(x) and 0 <= x < y -/
def ltK : Kd → Int → Bool
  | .int i, j => decide (0 ≤ i) && decide (i < j)
  | _, _ => false
section
variable {prog : Program} {w : World} {K : PySem.W.Frag} {mg : Str → Option Value} {base : Heap} {f : Addr} {fd : FuncData} {st : Stmt} {a1 a2 a3 a4 b1 b2 b3 b4 c1 c2 c3 : Pos}
theorem elt_lim {D : Nat} {scope : Scope} {xa xb : Str} {j : Nat} {q1 q2 q3 p1 p2 p3 p4 p5 : Pos} (W : WholeT K mg f fd st a1 a2 a3 a4 b1 b2 b3 b4 c1 c2 c3) (M : Mod K mg base) (dep : D < recursionLimit) (kd : scope.kind = .function)
    (k0 : scope.names.lookup ("is_whole" : Str) = some .globalImplicit) (ka : scope.names.lookup xa = some .local) (da : (xa == ("__debug__" : Str)) = false) (kb : scope.names.lookup xb = some .local) (db : (xb == ("__debug__" : Str)) = false) :
    EltZ prog w K base D scope xa xb (.BoolOp .And [.Call (.Name "is_whole" q1) [.Name xa q2] [] q3, .Compare (.Constant (.int 0) j p1) [.LtE, .Lt] [.Name xa p2, .Name xb p3] p4] p5) (fun k l => wholeK k && ltK k l) := by
  intro env A' E' k l u v s m hs hg hD kp hn hx hy hv hl
  subst hs
  refine BoolOp_and (raw_whole W.fn W.sc W.at_ W.bd W.body W.i1 W.i2 W.i3 W.i4 W.m1 W.m2 W.m3 M kp (Nat.lt_of_le_of_lt hD dep) kd hg k0 ka da hn hx hv.1 fun s' kk => wpAny_truthy_bool ?_)
  cases hw : wholeK k with
  | false =>
    refine ⟨?_, kk⟩
    show Value.bool false = Value.bool (wholeK k && _)
    rw [hw]
    rfl
  | true =>
    obtain ⟨i, rfl⟩ := whole_int hw
    obtain ⟨t, rfl⟩ := hv.2 i rfl
    obtain ⟨t2, rfl⟩ := hl
    obtain ⟨h', tk, rfl, kept⟩ := kk
    refine BoolOp_one (Compare_chain (wpAny_Constant_int (chain_link (wpAny_Name (wpAny_loadName_local kd ka (hn.keeps kept) hx (PyProof.Rows.le_int (wpAny_truthy_bool ?_))) da))) (by with_unfolding_all rfl))
    by_cases h0 : 0 ≤ i
    · rw [if_pos (decide_eq_true h0)]
      refine chain_last (wpAny_Name (wpAny_loadName_local kd kb (hn.keeps kept) hy (PyProof.Rows.lt_int ⟨?_, h', _, rfl, kept⟩)) db)
      show Value.bool _ = Value.bool (true && (decide (0 ≤ i) && decide (i < l)))
      rw [decide_eq_true h0]
      rfl
    · rw [if_neg (by rw [decide_eq_false h0]; exact Bool.false_ne_true)]
      refine ⟨?_, h', _, rfl, kept⟩
      show Value.bool _ = Value.bool (true && (decide (0 ≤ i) && decide (i < l)))
      rw [decide_eq_false h0]
      rfl
end
end Cm

set_option Elab.async false
set_option linter.all false
set_option maxRecDepth 100000
set_option maxHeartbeats 4000000
namespace Cm
open PySem PySem.Spec PyProof.Rows L2 GxR
/-! ### defs whose code object is known (they hold generator expressions) -/
/-- the def x stands by its name, its code object at c -/
def DfC (K : PySem.W.Frag) (mg : Str → Option Value) (x : Str) (st : Stmt) (ps : List Str) (c : Addr) : Prop :=
  ∃ f fd, Fun K x x st f fd ∧ mg x = some (.ref f) ∧ Binds K fd ps [] ∧ fd.code = .ref c
section
variable {P : Program} {w : World} {K : PySem.W.Frag} {mg : Str → Option Value} {base : Heap} {CX : CXT}
theorem fngc_mk {k : Nat} {f c : Addr} {x qual : Str} {st : Stmt} {fd : FuncData} {N ps : List Str} {sp : Sp} (F : Fun K x qual st f fd) (hc : fd.code = .ref c) (S : FnScope N ps (defScope st))
    (len : ∀ vs H Q E, sp vs H Q E → vs.length = ps.length)
    (body : ∀ (A : Around) (outer : List Env) (s : Shared) (H : Hp) (vs : List V) (Q : VK) (E : XK), Room k (A.deeper (envOfC qual (defScope st) s.heap.objs.size f (.ref c))) → A.guards = some [] → sp vs H Q E →
      ∃ t, PSs (cxOf CX P w K mg base N qual (defScope st) f (.ref c) A outer s H E) (defBody st) t ∧ t { nx := fun _ H' => Q .non H', rt := Q } (start N vs) H) : FnG P w K mg base CX (k + 1) f fd ps sp := by
  have F2 := F
  obtain ⟨oc, od, kV, doc, pm, an, cdv, ct, osl, hfd, lk, hcd⟩ := F.ex
  have ec : cdv = .ref c := by
    rw [hfd] at hc
    exact hc
  subst ec
  subst hfd
  refine ⟨len, fun A outer s H args us vs Q E room gd env bind rel prom => ?_⟩
  have llen := len _ _ _ _ prom
  have inK : K.In s.heap := env.mod.kin.keeps fun b o e => (env.bs b o e).1
  have nolim : s.heap.NoLimit := env.mod.nolimit.keeps fun b o e => (env.bs b o e).1
  have kinds : ∀ y ∈ ps.zip us, (defScope st).names.lookup y.1 = some .local ∨ ((defScope st).names.lookup y.1 = some .cell ∧ ((cellsFrom (s.heap.objs.size + 1) (defScope st).names []).lookup y.1).isSome = true) := by
    rintro ⟨n, v⟩ hy
    rcases S.par n (List.of_mem_zip hy).1 with z | z
    · exact .inl z
    · exact .inr ⟨z, PySem.W.cellsFrom_some _ _ _ (.inl z)⟩
  refine codeAny_call_function room.depth (inK _ _ lk) rfl S.co S.gen rfl (PySem.W.codeRec_of inK hcd) (bind _ _ _ _ ?_)
  refine wpAny_newFunctionEnv_cells S.kind kinds fun fenv hfe s1 ent => ?_
  subst hfe
  refine ⟨nolim.keeps ent.toInCall.keep, codeAny_func ?_⟩
  obtain ⟨t, ht, hq⟩ := body A outer s H vs Q E (room.deeper _) gd prom
  have I0 : Inv (cxOf CX P w K mg base N qual (defScope st) f (.ref c) A outer s H E) [] (start N vs) H s1 := inv_start S room.hd env llen rel ent
  refine wpAny_mono (ht.run [] s1 (start N vs) H _ I0 hq) (fun fl s' out => ?_) fun e s' out => out
  cases fl with
  | ret u =>
    obtain ⟨v, σ', H', J, rv, q⟩ := out
    exact ⟨v, H', J.os, J.bare, J.base, J.hok, rv, q⟩
  | next =>
    obtain ⟨σ', H', J, q⟩ := out
    exact ⟨V.non, H', J.os, J.bare, J.base, J.hok, rfl, q⟩
  | brk =>
    obtain ⟨_, _, _, q⟩ := out
    exact q.elim
  | cont =>
    obtain ⟨_, _, _, q⟩ := out
    exact q.elim
theorem DfC.ok {x : Str} {st : Stmt} {ps N : List Str} {k : Nat} {sp : Sp} {c : Addr} (D : DfC K mg x st ps c) (S : FnScope N ps (defScope st)) (len : ∀ vs H Q E, sp vs H Q E → vs.length = ps.length)
    (hbody : ∀ (f : Addr) (A : Around) (outer : List Env) (s : Shared) (H : Hp) (vs : List V) (Q : VK) (E : XK), Room k (A.deeper (envOfC x (defScope st) s.heap.objs.size f (.ref c))) → A.guards = some [] → sp vs H Q E →
      ∃ t, PSs (cxOf CX0 P w K mg base N x (defScope st) f (.ref c) A outer s H E).nox (defBody st) t ∧ t { nx := fun _ H' => Q .non H', rt := Q } (start N vs) H) : Fn P w K mg base (k + 1) x ps sp := by
  obtain ⟨f, fd, F, hm, hb, hc⟩ := D
  refine ⟨f, fd, fngc_mk F hc S len fun A outer s H vs Q E hr hg h => ?_, hm, F.kp, hb⟩
  obtain ⟨t, ht, q⟩ := hbody f A outer s H vs Q E hr hg h
  exact ⟨t, ht.nox, q⟩
end
theorem dfc_mk {K : PySem.W.Frag} {mg : Str → Option Value} {x : Str} {st : Stmt} {ps : List Str} {f c : Addr} {oc : Value} {od an : Option Addr} {osl : Array (Option Value)} {kV doc pm ct : Value} (hm : mg x = some (.ref f))
    (l : K.lookup f = some ⟨oc, od, .func (PySem.W.fnOf x x (defArgs st) (defBody st) (defScope st) .none kV doc pm an (.ref c) ct), osl⟩) (cI : PySem.W.codeIn K (.ref c) x = true) (k : PySem.W.keepIn K (.ref f) = true)
    (h : ∀ (kV doc pm : Value) (an : Option Addr) (cdv ct : Value) (us : List Value), us.length = ps.length → bindArgs (PySem.W.fnOf x x (defArgs st) (defBody st) (defScope st) .none kV doc pm an cdv ct) ⟨us, []⟩ = pure (ps.zip us)) : DfC K mg x st ps c :=
  ⟨f, _, fun_mk l cI k, hm, (fun_mk l cI k).binds h, rfl⟩
end Cm

set_option Elab.async false
set_option linter.all false
set_option maxRecDepth 100000
set_option maxHeartbeats 4000000
namespace Cm
open PySem PySem.Spec PyProof.Rows L2 GxR
/-! ### the end of a law some of whose defs have tables of code objects (generator expressions) -/
/-- the script and the empty tables at ts -/
def scriptT (K : PySem.W.Frag) (a : Addr) (vs : List Value) (ns : List Int) (ts : List Addr) : Hp := fun b => if b ∈ ts then some (.tbl #[]) else scriptH K a vs ns b
theorem scriptT_in {K : PySem.W.Frag} {a b : Addr} {vs : List Value} {ns : List Int} {ts : List Addr} (h : b ∈ ts) : scriptT K a vs ns ts b = some (.tbl #[]) := if_pos h
theorem scriptT_out {K : PySem.W.Frag} {a b : Addr} {vs : List Value} {ns : List Int} {ts : List Addr} (h : b ∉ ts) : scriptT K a vs ns ts b = scriptH K a vs ns b := if_neg h
theorem call_law_gt {P : Program} {w : World} {K : PySem.W.Frag} {mg mb : Str → Option Value} {k : Nat} {fa a : Addr} {fd : FuncData} {x : Str} {sp : Sp} {s1 : Shared} {vs : List Value} {ns : List Int} {cs : List (Addr × Addr)}
    (inK : K.In s1.heap) (glob : s1.heap.Ns mainGlobals mg) (blt : s1.heap.Ns builtinsNs mb) (bltEq : ∀ x : Str, x ≠ "__name__" → mb x = bootBuiltins x) (nolim : s1.heap.NoLimit) (nogen : s1.gens = #[])
    (tabs : ∀ p ∈ cs, s1.heap.get? p.2 = some { cls := .none, data := .fields #[] }) (offK : ∀ p ∈ cs, K.lookup p.2 = none) (codes : ∀ p ∈ cs, PySem.W.CodeHd s1.heap p.1 p.2)
    (bmain : ∃ (bm : Addr) (ob : Obj), mg "__builtins__" = some (.ref bm) ∧ bm ≠ builtinsNs ∧ s1.heap.get? bm = some ob ∧ ob.cls = .type "module" ∧ ob.dict = some builtinsNs ∧ ob.data = .plain)
    (scr : s1.heap.get? a = some { cls := .type "list", data := .seq vs.toArray }) (hns : IntsAre vs ns) (short : ns.length ≤ sizeLine) (room : Room k callerA)
    (F : ∀ base : Heap, K.In base → base.Ns mainGlobals mg → (∀ p ∈ cs, TabB base mg p.1 p.2) → FnG P w K mg base CX0 k fa fd [x] sp) (bind : ∀ (s : Shared) (u : Value), BindsTo s fd ⟨[u], []⟩ [(x, u)])
    (prom : ∀ H : Hp, (∀ p ∈ cs, H p.2 = some (.tbl #[])) → SqL K H a (ns.map V.int) → sp [.ref a] H (fun v _ => v = .bl true) fun _ _ _ => False) :
    codeAny (model P w) callerA (.call (.ref fa) ⟨[.ref a], []⟩) (fun r s' => r = .ok (.ret (.bool true)) ∧ OldK s1.heap s'.heap ∧ s'.os = s1.os ∧ AllBare s'.gens) s1 := by
  have rel := vals_ints hns
  have vlen := hns.length
  obtain ⟨ts, ets⟩ : ∃ ts, ts = cs.map (·.2) := ⟨_, rfl⟩
  have inT : ∀ p ∈ cs, p.2 ∈ ts := fun p hp => by
    rw [ets]
    exact List.mem_map.mpr ⟨p, hp, rfl⟩
  have ofT : ∀ b ∈ ts, ∃ p ∈ cs, p.2 = b := fun b hb => by
    rw [ets] at hb
    exact List.mem_map.mp hb
  have tabAt : ∀ b ∈ ts, s1.heap.get? b = some { cls := .none, data := .fields #[] } := fun b hb => by
    obtain ⟨p, hp, rfl⟩ := ofT b hb
    exact tabs p hp
  have aOut : a ∉ ts := fun z => by
    have q := tabAt a z
    rw [scr] at q
    cases q
  obtain ⟨H0, eH⟩ : ∃ H0, H0 = scriptT K a vs ns ts := ⟨_, rfl⟩
  have atT : ∀ b ∈ ts, H0 b = some (.tbl #[]) := fun b hb => by
    rw [eH]
    exact scriptT_in hb
  have outT : ∀ b, b ∉ ts → H0 b = scriptH K a vs ns b := fun b hb => by
    rw [eH]
    exact scriptT_out hb
  have hS : SqL K H0 a (ns.map V.int) := by
    cases hk : K.lookup a with
    | none =>
      refine .inl (.inr ⟨{ cls := .type "list", data := .seq vs.toArray }, ?_⟩)
      rw [outT a aOut]
      unfold scriptH
      exact if_pos ⟨rfl, hk⟩
    | some o =>
      have e := inK a o hk
      rw [scr] at e
      cases e
      exact .inr ⟨_, vs.toArray, _, hk, rfl, rfl, rfl, by rw [List.size_toArray, vlen]; exact short, by simpa using rel⟩
  have hok : HOk P w H0 s1.heap := by
    intro b u e
    by_cases hb : b ∈ ts
    · rw [atT b hb] at e
      cases e
      exact tabAt b hb
    · rw [outT b hb] at e
      obtain ⟨rfl, _, rfl⟩ := scriptH_some e
      exact ⟨scr, by rw [List.length_map]; exact short, vs, _, rel, scr⟩
  -- what is neither a list's nor an empty table's object is not tracked
  have free : ∀ {b : Addr} {o : Obj}, s1.heap.get? b = some o → (∀ us n, o.data ≠ .seq us n) → o.data ≠ .fields #[] → H0 b = none := by
    intro b o e d1 d2
    by_cases hb : b ∈ ts
    · rw [tabAt b hb] at e
      cases e
      exact absurd rfl d2
    · rw [outT b hb]
      by_cases hba : b = a
      · rw [hba, scr] at e
        cases e
        exact absurd rfl (d1 _ _)
      · exact scriptH_free (.inl hba)
  have nsOf : ∀ {b : Addr} {m : Str → Option Value}, s1.heap.Ns b m → (hidT s1.heap H0).Ns b m := by
    rintro b m ⟨o, es, ep, e, d, r⟩
    exact ⟨o, es, ep, hidT_get e (free e (fun us n z => by rw [d] at z; cases z) fun z => by rw [d] at z; cases z), d, r⟩
  have inKb : K.In (hidT s1.heap H0) := by
    intro b o e
    refine hidT_get (inK b o e) ?_
    have hb : b ∉ ts := fun z => by
      obtain ⟨p, hp, rfl⟩ := ofT b z
      rw [offK p hp] at e
      cases e
    rw [outT b hb]
    by_cases hba : b = a
    · refine scriptH_free (.inr fun z => ?_)
      rw [hba, z] at e
      cases e
    · exact scriptH_free (.inl hba)
  obtain ⟨mc, lim1, lim2⟩ := nolim
  have TB : ∀ p ∈ cs, TabB (hidT s1.heap H0) mg p.1 p.2 := by
    intro p hp
    have hTp := tabs p hp
    refine ⟨?_, ?_, fun z => ?_⟩
    · obtain ⟨o, us, f1, f2, f3, f4, f5, f6, f7, e1, r1, r2, r3, rest⟩ := codes p hp
      refine ⟨o, us, f1, f2, f3, f4, f5, f6, f7, hidT_get e1 (free e1 (fun us n z => by rw [r2] at z; cases z) fun z => ?_), r1, r2, r3, rest⟩
      rw [r2] at z
      cases z
      simp at r3
    · obtain ⟨bm, ob, c1, c2, c3, c4, c5, c6⟩ := bmain
      refine ⟨bm, ob, c1, c2, fun z => ?_, fun z => ?_, hidT_get c3 (free c3 (fun us n z => by rw [c6] at z; cases z) fun z => by rw [c6] at z; cases z), c4, c5, c6⟩
      · obtain ⟨o, es, ep, e, d, _⟩ := glob
        rw [z, e] at c3
        cases c3
        rw [d] at c6
        cases c6
      · rw [z, hTp] at c3
        cases c3
        cases c6
    · obtain ⟨o, es, ep, e, d, _⟩ := glob
      rw [z, hTp] at e
      cases e
      cases d
  have env : Env0 P w K mg (hidT s1.heap H0) callerA [] s1 H0 :=
    ⟨rfl, ⟨inKb, nsOf glob, ⟨mb, nsOf blt, bltEq⟩, ⟨mc, nsOf lim1, lim2⟩⟩, fun b o e => of_hidT e, Nat.le_of_eq (hidT_size _ _), trivial, fun b hb => (nomatch (show b ∈ ([] : List Addr) from hb)), hok, .of_eq nogen⟩
  refine codeAny_mono ((F _ inKb (nsOf glob) TB).go callerA [] s1 _ ⟨[.ref a], []⟩ [.ref a] [.ref a] _ _ room rfl env (bind s1 (.ref a)) (.cons rfl .nil) (prom _ (fun p hp => atT _ (inT p hp)) hS)) fun r s' out => ?_
  cases r with
  | error e => exact out.elim
  | ok fl =>
    cases fl with
    | next => exact out.elim
    | brk => exact out.elim
    | cont => exact out.elim
    | ret u =>
      obtain ⟨v, H', os, bare, un, hok', rv, q⟩ := out
      have q' : v = .bl true := q
      subst q'
      obtain rfl : u = Value.bool true := rv
      have still : ∀ b o, b ∉ ts → s1.heap.get? b = some o → s'.heap.get? b = some o := fun b o hb e => by
        cases hz : H0 b with
        | none => exact un.keep b o e hz (fun z => (nomatch (show b ∈ ([] : List Addr) from z))) (fun z => (nomatch z))
        | some u =>
          have hz2 := hz
          rw [outT b hb] at hz2
          obtain ⟨rfl, _, rfl⟩ := scriptH_some hz2
          obtain ⟨e2, _⟩ := hok' _ _ (un.frzs _ _ _ hz)
          rw [scr] at e
          cases e
          exact e2
      refine ⟨rfl, ⟨fun b o e => ?_, fun b o e => ?_⟩, os, bare⟩
      · by_cases hb : b ∈ ts
        · obtain ⟨p, hp, rfl⟩ := ofT b hb
          obtain ⟨more, hmore⟩ := un.tbls _ _ (atT _ hb)
          have hm2 : s'.heap.get? p.2 = some { cls := .none, data := .fields (#[] ++ more) } := hok' _ _ hmore
          rw [tabs p hp] at e
          cases e
          exact .inr (.inl ⟨((codes p hp).tab (tabs p hp)).isCodeTable, rfl, #[], more, rfl, hm2⟩)
        · exact .inl (still b o hb e)
      · by_cases hb : b ∈ ts
        · obtain ⟨more, hmore⟩ := un.tbls _ _ (atT _ hb)
          exact ⟨_, hok' _ _ hmore⟩
        · exact ⟨o, still b o hb e⟩
/-- what is known of such a law at the heap where it begins -/
def LawAtG (l : PySem.W.OpenLaw) (w : World) (K : PySem.W.Frag) (k n : Nat) (x : Str) (mg : Str → Option Value) (fa : Addr) (h : Heap) : Prop :=
  ∃ (fd : FuncData) (cs : List (Addr × Addr)) (sp : Sp), (∀ p ∈ cs, h.get? p.2 = some { cls := .none, data := .fields #[] }) ∧ (∀ p ∈ cs, K.lookup p.2 = none) ∧ (∀ p ∈ cs, PySem.W.CodeHd h p.1 p.2) ∧ (∀ (s : Shared) (u : Value), BindsTo s fd ⟨[u], []⟩ [(x, u)]) ∧
    (∀ (H : Hp) (a : Addr) (ns : List Int), ns.length ≤ n → (∀ p ∈ cs, H p.2 = some (.tbl #[])) → SqL K H a (ns.map V.int) → sp [.ref a] H (fun v _ => v = .bl true) fun _ _ _ => False) ∧
    ∀ base : Heap, K.In base → base.Ns mainGlobals mg → (∀ p ∈ cs, TabB base mg p.1 p.2) → FnG l.prog w K mg base CX0 k fa fd [x] sp
theorem own_tab {q : Program} {loose : List Str} {XP : (Str → Option Value) → Heap → Prop} {w : World} {s0 : Shared} {mg mb : Str → Option Value} {K : PySem.W.Frag} {h : Heap} (tab : ∀ e ∈ recsOf q, ∃ (a : Addr) (o : Obj) (fd : FuncData) (c P : Addr), mg e.name = some (.ref a) ∧ h.get? a = some o ∧ o.data = .func fd ∧ fd.code = .ref c ∧ h.IsCode c P #[] ∧ h.TableAt c P #[]) (KX : K.In h) (nm : Str) (f : Addr)
    (hrec : ((recsOf q).any fun e => e.name == nm) = true) (hm : mg nm = some (.ref f)) : LamX.OwnTab K f h := by
  intro c P o1 fd1 e dd vs1 sl k1 k2 k3 k4 k5
  obtain ⟨dL, hmem, hn1⟩ := List.any_eq_true.mp hrec
  obtain ⟨a', o', fd', c', P', g1, g2, g3, g4, g5, g6⟩ := tab dL hmem
  rw [beq_iff_eq.mp hn1, hm] at g1
  cases g1
  have e1 := KX _ _ k1
  rw [g2] at e1
  cases e1
  rw [g3] at k2
  cases k2
  rw [g4] at k3
  cases k3
  obtain ⟨⟨oc, vc, r1, _, r3, r4⟩, hP⟩ := g6
  have e2 := KX _ _ k4
  rw [r1] at e2
  cases e2
  cases r3
  rw [k5] at r4
  cases r4
  exact hP
theorem walk_gt {l : PySem.W.OpenLaw} {n k : Nat} {q : Program} {loose : List Str} {XP : (Str → Option Value) → Heap → Prop} {YP : World → Heap → Prop} {d : DefRec} {K : Params → PySem.W.Frag} {x : Str}
    (most : l.most = some n) (line : n ≤ sizeLine) (nodef : d.params.defaults = []) (room : Room k callerA) (hY : ∀ (w : World) (h : Heap), YP w h → (K w.params).In h)
    (F : ∀ (w : World) (mg : Str → Option Value) (fa : Addr) (h : Heap), YP w h → (K w.params).In h → h.Ns mainGlobals mg → mg d.name = some (.ref fa) → (∀ (nm : Str) (f : Addr), ((recsOf q).any fun e => e.name == nm) = true → mg nm = some (.ref f) → LamX.OwnTab (K w.params) f h) → LawAtG l w (K w.params) k n x mg fa h) :
    PySem.W.WalkO q loose XP YP l.row.toRowW d [] (fun f vs => PySem.call f vs) := by
  refine Att.attach_call most nodef fun w s0 s1 mg mb fa o pm cd doc a vs ns G Y ho hd hcd hmg hobj hints hlen hg => ?_
  obtain ⟨fd, cs, sp, t1, t2, t3, hb, hsp, hF⟩ := F w mg fa _ Y (hY w _ Y) G.T.g hmg (fun nm f => own_tab (q := q) (loose := loose) (XP := XP) (w := w) (s0 := s0) (mb := mb) G.T.tab (hY w _ Y) nm f)
  exact call_law_gt (hY w _ Y) G.T.g G.T.b G.T.builtins G.T.nolimit hg t1 t2 t3 G.T.bmain hobj hints (Nat.le_trans hlen line) room hF hb fun H hH hS => hsp H a ns hlen hH hS
theorem hd_parts {K : PySem.W.Frag} {c B : Addr} (e : PySem.W.codeHdIn K c B = true) : ∃ (k : Value) (dd : Option Addr) (vs : Array Value) (sl : Array (Option Value)), K.lookup c = some ⟨k, dd, .fields vs, sl⟩ ∧ vs[11]? = some (.ref B) := by
  unfold PySem.W.codeHdIn at e
  split at e
  · rename_i vs sl hk
    simp only [Bool.and_eq_true] at e
    obtain ⟨⟨⟨⟨⟨e1, _⟩, _⟩, _⟩, _⟩, _⟩ := e
    split at e1
    · rename_i B' h11
      have : B' = B := beq_iff_eq.mp e1
      rw [this] at h11
      exact ⟨_, _, _, _, hk, h11⟩
    · cases e1
  · cases e
theorem tab_of {K : PySem.W.Frag} {h : Heap} {f c B : Addr} {o : Obj} {fd : FuncData} (own : LamX.OwnTab K f h) (l : K.lookup f = some o) (hd : o.data = .func fd) (t : PySem.W.codeHdIn K c B = true) (hc : fd.code = .ref c := by rfl) : h.get? B = some { cls := .none, data := .fields #[] } := by
  obtain ⟨k, dd, vs, sl, hk, h11⟩ := hd_parts t
  exact own c B o fd k dd vs sl l hd hc hk h11
end Cm

set_option Elab.async false
set_option linter.all false
set_option maxRecDepth 100000
set_option maxHeartbeats 4000000
namespace Cm
open PySem PySem.Spec PyProof.Rows L2
/-! ### the drawing dict: cells, at, left -/
def penD (a : Addr) (n m : Int) : List (Key × V) := [(Sum.inr "cells", .ref a), (Sum.inr "at", .int n), (Sum.inr "left", .int m)]
theorem kca : ¬ ((Sum.inr ("cells" : Str) : Key) = Sum.inr ("at" : Str)) := by decide +kernel
theorem kcl : ¬ ((Sum.inr ("cells" : Str) : Key) = Sum.inr ("left" : Str)) := by decide +kernel
theorem kal : ¬ ((Sum.inr ("at" : Str) : Key) = Sum.inr ("left" : Str)) := by decide +kernel
theorem kla : ¬ ((Sum.inr ("left" : Str) : Key) = Sum.inr ("at" : Str)) := by decide +kernel
theorem val_cells (a : Addr) (n m : Int) : valV (penD a n m) (Sum.inr "cells" : Key) = some (.ref a) := valV_pos rfl
theorem val_at (a : Addr) (n m : Int) : valV (penD a n m) (Sum.inr "at" : Key) = some (.int n) := (valV_neg kca).trans (valV_pos rfl)
theorem val_left (a : Addr) (n m : Int) : valV (penD a n m) (Sum.inr "left" : Key) = some (.int m) := (valV_neg kcl).trans ((valV_neg kal).trans (valV_pos rfl))
theorem put_at (a : Addr) (n m z : Int) : putK (penD a n m) (Sum.inr "at" : Key) (.int z) = penD a z m := by
  unfold putK
  rw [valV_any, val_at, if_pos (show (some (V.int n)).isSome = true from rfl)]
  unfold penD
  simp only [List.map_cons, List.map_nil, if_neg kca, if_neg kla, if_true]
theorem put_left (a : Addr) (n m z : Int) : putK (penD a n m) (Sum.inr "left" : Key) (.int z) = penD a n z := by
  unfold putK
  rw [valV_any, val_left, if_pos (show (some (V.int m)).isSome = true from rfl)]
  unfold penD
  simp only [List.map_cons, List.map_nil, if_neg kcl, if_neg kal, if_true]
section
variable {K : PySem.W.Frag} {H H' : Hp} {d a : Addr} {n m : Int}
theorem dg_cells (h : H d = some (.dK (penD a n m))) : DGet H d (.str "cells") (some (.ref a)) := by
  have q := DGet.k (k := (Sum.inr "cells" : Key)) h
  rw [val_cells] at q
  exact q
theorem dg_at (h : H d = some (.dK (penD a n m))) : DGet H d (.str "at") (some (.int n)) := by
  have q := DGet.k (k := (Sum.inr "at" : Key)) h
  rw [val_at] at q
  exact q
theorem dg_left (h : H d = some (.dK (penD a n m))) : DGet H d (.str "left") (some (.int m)) := by
  have q := DGet.k (k := (Sum.inr "left" : Key)) h
  rw [val_left] at q
  exact q
theorem dp_at {z : Int} (h : H d = some (.dK (penD a n m))) : DPut H d (.str "at") (.int z) (upd H d (.dK (penD a z m))) := by
  have q := DPut.k (k := (Sum.inr "at" : Key)) (v := .int z) h (small1000 (by unfold penD; simp))
  rw [put_at] at q
  exact q
theorem dp_left {z : Int} (h : H d = some (.dK (penD a n m))) : DPut H d (.str "left") (.int z) (upd H d (.dK (penD a n z))) := by
  have q := DPut.k (k := (Sum.inr "left" : Key)) (v := .int z) h (small1000 (by unfold penD; simp))
  rw [put_left] at q
  exact q
/-- a list that is read stays where a dict alone may change -/
theorem sq_but {xs : List V} {kvs : List (Key × V)} (b : But d H H') (hd : H d = some (.dK kvs)) (h : SqL K H a xs) : SqL K H' a xs := by
  rcases h with (h | ⟨o, h⟩) | h
  · exact .inl (.inl (b _ _ (ne_of h hd (by intro z; cases z)) h))
  · exact .inl (.inr ⟨o, b _ _ (ne_of h hd (by intro z; cases z)) h⟩)
  · exact .inr h
end
/-- a pen at d over the cells ns at a, drawn from at most c times -/
structure Pen (K : PySem.W.Frag) (H : Hp) (d a : Addr) (ns : List Int) (c : Int) : Prop where
  sq : SqL K H a (ns.map V.int)
  dc : ∃ n m : Int, H d = some (.dK (penD a n m)) ∧ 0 ≤ n ∧ n ≤ c ∧ 0 ≤ m
theorem Pen.mono {K : PySem.W.Frag} {H : Hp} {d a : Addr} {ns : List Int} {c c' : Int} (p : Pen K H d a ns c) (h : c ≤ c') : Pen K H d a ns c' := by
  obtain ⟨s, n, m, e, h0, h1, h2⟩ := p
  exact ⟨s, n, m, e, h0, by omega, h2⟩
theorem Pen.same {K : PySem.W.Frag} {H H' : Hp} {d a : Addr} {ns : List Int} {c : Int} (p : Pen K H d a ns c) (h : Same H H') : Pen K H' d a ns c := by
  obtain ⟨s, n, m, e, h0, h1, h2⟩ := p
  exact ⟨h.seq s, n, m, h _ _ e, h0, h1, h2⟩
/-- draw's promise -/
def rDraw (K : PySem.W.Frag) : V → V → Hp → VK → Prop := fun p q H Q => ∃ (d a : Addr) (ns : List Int) (c many : Int), p = .ref d ∧ q = .int many ∧ Pen K H d a ns c ∧ 0 < many ∧ many < 1073741824 ∧ c ≤ 1000000 ∧
  ∀ r H', 0 ≤ r → r < many → Pen K H' d a ns (c + 1) → But d H H' → Q (.int r) H'
theorem cell_at {ns : List Int} {i : Int} (h0 : 0 ≤ i) (h1 : i < ((ns.map V.int).length : Int)) : ∃ z, atI (ns.map V.int) i = some (.int z) := by
  rw [List.length_map] at h1
  have hj : i.toNat < ns.length := by omega
  refine ⟨ns[i.toNat], ?_⟩
  have e : ((i.toNat : Nat) : Int) = i := by omega
  have q : atI (ns.map V.int) ((i.toNat : Nat) : Int) = some (.int ns[i.toNat]) := atI_nat (by rw [List.getElem?_map, List.getElem?_eq_getElem hj]; rfl)
  rw [e] at q
  exact q
theorem pos_of {b : Int} {p : Int} (h : decide (p < b) = true) : p < b := of_decide_eq_true h
theorem npos_of {b : Int} {p : Int} (h : ¬ decide (p < b) = true) : b ≤ p := by
  have := of_decide_eq_false (Bool.eq_false_iff.mpr h)
  omega
end Cm

set_option Elab.async false
set_option linter.all false
set_option maxRecDepth 100000
set_option maxHeartbeats 4000000
namespace Cm
open PySem PySem.Spec PyProof.Rows L2
/-! ### xs == [] of a list of whatever things -/
def rEqLE : R2 := fun x y H Q => ∃ a b xs, x = .ref a ∧ y = .ref b ∧ H a = some (.lst xs) ∧ H b = some (.lst []) ∧ Q (.bl xs.isEmpty) H
theorem op_eqLE {X : Cx} {k : Nat} (hr : Room k X.A) : OpR X (compareOp .Eq) rEqLE := by
  intro pins s σ H x y v u Q I rx ry h
  obtain ⟨a, b, xs, rfl, rfl, ha, hb, q⟩ := h
  cases rx
  cases ry
  obtain ⟨its, r1, p1, _⟩ := I.list (SqL.of ha)
  obtain ⟨its2, r2, p2, _⟩ := I.list (SqL.of hb)
  cases r2
  cases xs with
  | nil =>
    cases r1
    exact SeqAt.eq_listAt (e := fun _ => true) p1.isList p2.isList rfl hr.units0 (fun j h1 h2 => absurd h2 (by simp)) ⟨.bl _, H, I, rfl, q⟩
  | cons x t =>
    cases r1
    exact SeqAt.eq_list_lengthsAt p1.isList p2.isList rfl hr.units0 ⟨.bl _, H, I, rfl, q⟩
section
variable {X : Cx} {K : PySem.W.Frag} {tg l : Expr} {tl : TE}
theorem piT_K (hK : X.K = K) (hl : PE X l tl) : PI X tg l (iTup K tl) := by
  subst hK
  exact pi_tup hl
theorem piL_K (hK : X.K = K) (hl : PE X l tl) : PI X tg l (iList K tl) := by
  subst hK
  exact pi_list hl
end
/-- a def's statement that is never come to -/
theorem ps_dead {X : Cx} {st : Stmt} : PS X st (fun _ _ _ => False) := ⟨fun _ _ _ _ _ _ h => h.elim⟩
end Cm

set_option Elab.async false
set_option linter.all false
set_option maxRecDepth 100000
set_option maxHeartbeats 4000000
namespace SL
open PySem PySem.Spec PyProof.Rows L2
/-- an empty set, as it is made -/
abbrev S0 (w : World) : Obj := { cls := .type "set", dict := none, data := .set #[] 0 (.fresh 0 0 (!w.params.followText "set-order")) }
section
variable {P : Program} {w : World} {A : Around} {E : Value → Shared → Prop} {s : Shared}
set_option maxHeartbeats 8000000 in
/-- set(xs), xs a list of ints -/
theorem set_of_ints {l : Addr} {items : Array Value} (ns : List Int) {R : Value → Shared → Prop} (calm : A.handled = none) (isl : s.heap.IsList l items) (isI : IntsAre items.toList ns) (few : ns.length + 1 < scanBound)
    (k : ∀ (g : Heap) (tk c : Nat), SetR w g s.heap.objs.size (fun j => decide (j ∈ ns)) c → c ≤ ns.length → (∀ b o, s.heap.get? b = some o → g.get? b = some o) → R (.ref s.heap.objs.size) { s with heap := g, toks := tk }) :
    wpAny (model P w) A (call (.type "set") [.ref l]) R E s := by
  have size : items.size = ns.length := (Array.length_toList (xs := items)).symm.trans (IntsAre.length isI)
  obtain ⟨m, r, mro⟩ := F.called_set.mro
  have made := F.called_set.made
  have sub := F.called_set.sub
  have notT := F.called_set.notType
  have can := F.called_set.canCreate
  have tc := F.typeCall_set_1 (.ref l)
  refine wpAny_call (codeAny_of_tree ?_)
  show wpAny _ _ (callAny (.type "set") ⟨[.ref l], []⟩) _ _ s
  refine wpAny_pure ⟨Code.quiet_builtin _ (by decide +kernel), codeAny_builtin F.entry_type_call ?_⟩
  rw [Around.under_plain (weight_type_call_type "set" [.ref l] []) rfl]
  repeat any_goals first | assumption | wp_step
  refine codeAny_mono (code_set_led1 (.ref l) (E := E) (Q₁ := fun obj t => obj = .ref s.heap.objs.size ∧ t = { s with heap := s.heap.push (S0 w) }) ⟨rfl, rfl⟩) fun res t ok => ?_
  match res, ok with
  | .error e, ok => exact ok
  | .ok (.ret obj), ok =>
    obtain ⟨rfl, rfl⟩ := ok
    have at0 : (s.heap.push (S0 w)).get? s.heap.objs.size = some (S0 w) := Heap.get?_push_size _ rfl
    have ty0 : Shared.TypeIs { s with heap := s.heap.push (S0 w) } (.ref s.heap.objs.size) "set" := ⟨_, at0, rfl⟩
    have li := F.called_set.init.lookup
    have bi := F.called_set.init.bind (.ref s.heap.objs.size)
    repeat any_goals first | assumption | wp_step
    refine codeAny_mono (codeAny_call_builtin (R := wants (fun v t => v = .none ∧ ∃ g tk c, t = { s with heap := g, toks := tk } ∧ SetR w g s.heap.objs.size (fun j => decide (j ∈ ns)) c ∧ c ≤ ns.length ∧ (∀ b o, s.heap.get? b = some o → g.get? b = some o)) E)
      F.called_set.init.plain F.entry_set_init (check_set_init_1 ty0 ?_)) fun res2 t2 ok2 => ?_
    · obtain ⟨⟨ocls, odict, odata, oslots⟩, hol, hcl, nl, hdl⟩ := isl
      simp only at hcl hdl
      subst hcl hdl
      have hol' : (s.heap.push (S0 w)).get? l = some { cls := .type "list", dict := odict, data := .seq items nl, slots := oslots } := Heap.get?_push_of_some _ hol
      have nS := F.sub_list_set
      have nF := F.sub_list_frozenset
      have nD : (Value.type "list" == Value.type "dict") = false := by decide
      have isl1 : (s.heap.push (S0 w)).IsList l items := ⟨_, hol', rfl, nl, rfl⟩
      have lt : l < s.heap.objs.size := Heap.lt_size hol
      have z1 : (s.heap.push (S0 w)).objs.size = s.heap.objs.size + 1 := Heap.size_push ..
      unfold Builtin.«set.__init__» noKeywords Builtin.Frozenset.updateFrom
      generalize ePI : pyIter = PI
      wp_walk
      subst ePI
      refine wpAny_pyIter_list isl1 (wpAny_bind (wpAny_runValue ?_))
      have calm3 : A.in1.in1.in1.handled = none := by simp [calm]
      have neI : l ≠ (s.heap.push (S0 w)).objs.size := by
        rw [z1]
        exact Nat.ne_of_lt (Nat.lt_succ_of_lt lt)
      have apart : s.heap.objs.size ∉ [(s.heap.push (S0 w)).objs.size, l] := by
        rw [z1]
        simp only [List.mem_cons, List.not_mem_nil, or_false, not_or]
        exact ⟨Nat.ne_of_lt (Nat.lt_succ_self _), Nat.ne_of_gt lt⟩
      have vals : ∀ (i : Nat) (v : Value), items[i]? = some v → ∃ j t, ns[i]? = some j ∧ v = .int j t := by
        intro i v hv
        have hi : i < ns.length := size ▸ (Array.getElem?_eq_some_iff.mp hv).1
        obtain ⟨t, e⟩ := PyProof.Rows.IntsAre.int_at isI i v (by rw [Array.getElem?_toList]; exact hv)
        refine ⟨ns[i], t, List.getElem?_eq_getElem hi, ?_⟩
        rw [e, List.getD_eq_getElem?_getD, List.getElem?_eq_getElem hi]
        rfl
      refine set_update_ints ((Walks.list calm3 _ l neI items).toS) s.heap.objs.size apart ns size few vals (items.size - 0) 0 _ (by omega) (Nat.zero_le _) ⟨⟨_, Heap.get?_push_size _ rfl, rfl, rfl⟩, isl1.push _⟩
        ⟨0, Nat.le_refl 0, setR_new_at (Heap.get?_push_of_some _ at0)⟩ ?_
      rintro ⟨g, gg, dd, tk, oo⟩ c mv hc hS
      have e1 : gg = s.gens := mv.gens
      have e2 : dd = s.drawn := mv.drawn
      have e3 : oo = s.os := mv.os
      subst e1 e2 e3
      show wpAny _ _ _ _ _ _
      refine wpAny_pure ?_
      show wpAny _ _ (ret Value.none) _ _ _
      refine wpAny_pure ⟨rfl, g, tk, c, rfl, hS, size ▸ hc, fun b o e => ?_⟩
      have lb : b < s.heap.objs.size := Heap.lt_size e
      refine mv.heap b o ?_ (Heap.get?_push_of_some _ (Heap.get?_push_of_some _ e))
      rw [z1]
      simp only [List.mem_cons, List.not_mem_nil, or_false, not_or]
      exact ⟨Nat.ne_of_lt lb, Nat.ne_of_lt (Nat.lt_succ_of_lt lb)⟩
    · match res2, ok2 with
      | .error e, ok2 => exact ok2
      | .ok (.ret v), ok2 =>
        obtain ⟨rfl, g, tk, c, rfl, hS, hc, kp⟩ := ok2
        repeat any_goals first | assumption | wp_step
        exact k _ _ _ hS hc kp
      | .ok .next, ok2 => exact ok2.elim
      | .ok .brk, ok2 => exact ok2.elim
      | .ok .cont, ok2 => exact ok2.elim
  | .ok .next, ok => exact ok.elim
  | .ok .brk, ok => exact ok.elim
  | .ok .cont, ok => exact ok.elim
end
end SL

set_option Elab.async false
set_option linter.all false
set_option maxRecDepth 100000
set_option maxHeartbeats 4000000
namespace SL
open PySem PySem.Spec PyProof.Rows L2
section
variable {X : Cx}
def tSortedSet (K : PySem.W.Frag) (te : TE) : TE := fun σ H Q => te σ H fun x H1 => ∃ (l : Addr) (ns : List Int), x = .ref l ∧ SqL K H1 l (ns.map V.int) ∧ ns.length ≤ 1000 ∧ (∀ u : List Int, u.Nodup → (∀ j ∈ u, j ∈ ns) → u.length < 64) ∧
  ∀ (u : List Int) (p : Addr), u.Nodup → (∀ j ∈ u, j ∈ ns) → u.length < 64 → H1 p = none → Q (.ref p) (upd H1 p (.lst (u.map V.int)))
/-- sorted(set(xs)), xs a list of ints, fewer than 64 unlike ones -/
theorem pe_sortedSet {a : Expr} {ta : TE} {p p2 q pos : Pos} (hc : X.calm = true) (hg : Gl X "sorted") (hm : X.mg "sorted" = none) (hg2 : Gl X "set") (hm2 : X.mg "set" = none) (ha : PE X a ta)
    (na : starEach [a] X.env = (false, eval a X.env) :: starEach [] X.env := by rfl) : PE X (.Call (.Name "sorted" p) [.Call (.Name "set" p2) [a] [] q] [] pos) (tSortedSet X.K ta) := by
  refine ⟨fun pins s σ H Q I h => Call_ (ld_blt I hg hm PyProof.Rows.boot_sorted ?_)⟩
  refine PyProof.Rows.callWith_builtin1 (PyProof.Rows.args_cons (Call_ (ld_blt I hg2 hm2 PyProof.Rows.boot_set ?_)) rfl) rfl rfl
  refine PyProof.Rows.callWith_type1 (PyProof.Rows.args_cons (thn (ha.run pins s σ H _ I h) fun v s1 ⟨x, H1, I1, r1, q1⟩ => PyProof.Rows.args_nil ?_) na) na rfl
  obtain ⟨l, ns, rfl, sq, len, few, q1⟩ := q1
  cases r1
  obtain ⟨its, r, pl, _⟩ := I1.list sq
  refine set_of_ints ns (I1.ok.hd hc) pl.isList (by simpa using r.ints) (by unfold scanBound; omega) fun g tk c hS hcn kp => PyProof.Rows.args_nil ?_
  have h64 : c < 64 := by
    obtain ⟨o, es, ep, t, ho, hex, hd, gd, nd, hm3, hb, hf, hn, _⟩ := hS
    have := few (es.toList.map keyOf) nd fun j hj => of_decide_eq_true ((hm3 j).mpr hj)
    rw [List.length_map, Array.length_toList, hn] at this
    exact this
  refine sorted_set (s := { s1 with heap := g, toks := tk }) hS (I1.ok.hd hc) h64 fun t p0 out cc u k gg oo hp hgt hi hs hmem hl => ?_
  have kall : ∀ b o, s1.heap.get? b = some o → t.heap.get? b = some o := fun b o e => k b o (kp b o e)
  obtain ⟨o0, _, _, _, ho0, _⟩ := hS
  have hlt : s1.heap.objs.size < g.objs.size := Heap.lt_size ho0
  have hp1 : s1.heap.objs.size ≤ p0 := Nat.le_trans (Nat.le_of_lt hlt) hp
  have fr : H1 p0 = none := I1.hok.fresh hp1
  have hlen : (u.map V.int).length ≤ sizeLine := by
    rw [List.length_map, hl, sizeLine_eq]
    omega
  have J : Inv X pins σ (upd H1 p0 (.lst (u.map V.int))) { s1 with heap := t.heap, gens := t.gens, drawn := t.drawn, toks := t.toks } := I1.call (ch := []) (Un.laid kall hp1 fr) (I1.hok.laid kall hp1 ⟨hlen, out.toList, cc, vals_of_ints hi, hgt⟩) (by rw [gg]; exact I1.bare) (fun _ z => nomatch z)
  have et : t = { s1 with heap := t.heap, gens := t.gens, drawn := t.drawn, toks := t.toks } := by
    cases t
    cases s1
    cases oo
    rfl
  rw [et]
  exact ⟨.ref p0, _, J, rfl, q1 u p0 (hs.imp fun h => Int.ne_of_lt h) (fun j hj => of_decide_eq_true ((hmem j).mp hj)) (by omega) fr⟩
end
end SL

set_option linter.all false
namespace K01
theorem fmod_abs_lt (a b : Int) (h : b ≠ 0) : (a.fmod b).natAbs < b.natAbs := by
  have h1 := Int.emod_nonneg a h
  have h2 : a % b < (b.natAbs : Int) := Int.emod_lt a h
  have h3 : ¬ b ∣ a → a % b ≠ 0 := fun n z => n (Int.dvd_of_emod_eq_zero z)
  rw [Int.fmod_eq_emod]
  split
  · omega
  · rename_i c
    have c1 : ¬ 0 ≤ b := fun z => c (.inl z)
    have c2 := h3 fun z => c (.inr z)
    omega
theorem gcd_fmod (a b : Int) : Int.gcd b (a.fmod b) = Int.gcd a b := by
  have e := Int.fmod_add_mul_fdiv a b
  have h : Int.gcd b (a.fmod b + b * a.fdiv b) = Int.gcd b (a.fmod b) := by
    rw [Int.gcd_add_mul_left_right]
  rw [← h, e, Int.gcd_comm]
/-- what holds between two turns of both's loop, A and B the numbers without their signs -/
structure Bo (A B m r x l : Int) : Prop where
  a0 : 0 ≤ A
  m0 : 0 ≤ m
  r0 : 0 ≤ r
  em : ∃ y, m = x * A + y * B
  er : ∃ z, r = l * A + z * B
  g : Int.gcd m r = Int.gcd A B
  bd : (l.natAbs : Int) * m + (x.natAbs : Int) * r ≤ B
  bx : (x.natAbs : Int) ≤ B + 1
  bl : (l.natAbs : Int) ≤ B + 1
  mA : m ≤ A + B
  rB : r ≤ B
theorem bo_start {A B : Int} (hA : 0 ≤ A) (hB : 0 ≤ B) : Bo A B A B 1 0 :=
  ⟨hA, hA, hB, ⟨0, by grind⟩, ⟨1, by grind⟩, rfl, by simp, by simp; omega, by simp; omega, by omega, by omega⟩
theorem abs_step (x q l : Int) (hq : 0 ≤ q) : ((x - q * l).natAbs : Int) ≤ x.natAbs + q * l.natAbs := by
  have h1 : ((q * l).natAbs : Int) = q * l.natAbs := by
    rw [Int.natAbs_mul, Int.natCast_mul, Int.natAbs_of_nonneg hq]
  rw [← h1]
  generalize q * l = p
  omega
theorem bo_step {A B m r x l : Int} (h : Bo A B m r x l) (hr : r ≠ 0) : Bo A B r (m % r) l (x - m / r * l) := by
  obtain ⟨a0, m0, r0, ⟨y, em⟩, ⟨z, er⟩, g, bd, bx, bl, mA, rB⟩ := h
  have rp : 0 < r := by omega
  have e1 := Int.mul_ediv_add_emod m r
  have q0 : 0 ≤ m / r := Int.ediv_nonneg m0 r0
  have n0 := Int.emod_nonneg m hr
  have n1 := Int.emod_lt_of_pos m rp
  have ab := abs_step x (m / r) l q0
  generalize m / r = q at *
  have eg : Int.gcd r (m % r) = Int.gcd m r := by
    rw [Int.gcd_comm m r, ← e1, Int.gcd_mul_left_add_right]
    rw [e1]
  generalize m % r = n at *
  obtain ⟨L, hL⟩ : ∃ L, (x - q * l).natAbs = L := ⟨_, rfl⟩
  rw [hL] at ab
  have key : (L : Int) * r + (l.natAbs : Int) * n ≤ B := by
    have t : (L : Int) * r ≤ ((x.natAbs : Int) + q * l.natAbs) * r := Int.mul_le_mul_of_nonneg_right ab r0
    have t2 : ((x.natAbs : Int) + q * l.natAbs) * r + (l.natAbs : Int) * n = (l.natAbs : Int) * m + (x.natAbs : Int) * r := by
      rw [← e1]
      generalize (x.natAbs : Int) = X
      generalize (l.natAbs : Int) = M
      grind
    omega
  have L0 : (0 : Int) ≤ (L : Int) := Int.natCast_nonneg _
  have key2 : (L : Int) ≤ B := by
    have t : (L : Int) * 1 ≤ (L : Int) * r := Int.mul_le_mul_of_nonneg_left (by omega) L0
    have t2 : (0 : Int) ≤ (l.natAbs : Int) * n := Int.mul_nonneg (Int.natCast_nonneg _) n0
    omega
  exact ⟨a0, r0, n0, ⟨z, er⟩, ⟨y - q * z, by grind⟩, eg.trans g, by rw [hL]; exact key, bl, by rw [hL]; omega, by omega, by omega⟩
theorem bo_end {a b m x l : Int} (h : Bo (a.natAbs : Int) (b.natAbs : Int) m 0 x l) : m = (Int.gcd a b : Int) ∧
    (if a < 0 then -x else x) * a + (if b = 0 then 0 else (m - (if a < 0 then -x else x) * a).fdiv b) * b = m := by
  obtain ⟨a0, m0, r0, ⟨y, em⟩, ⟨z, er⟩, g, bd, bx, bl, mA, rB⟩ := h
  have e1 : m = (Int.gcd a b : Int) := by
    have g2 : Int.gcd (a.natAbs : Int) (b.natAbs : Int) = Int.gcd a b := by simp [Int.gcd]
    rw [Int.gcd_zero_right, g2] at g
    omega
  refine ⟨e1, ?_⟩
  have e2 : (if a < 0 then -x else x) * a = x * (a.natAbs : Int) := by
    split
    · have : (a.natAbs : Int) = -a := by omega
      rw [this]
      grind
    · have : (a.natAbs : Int) = a := by omega
      rw [this]
  rw [e2]
  split
  · rename_i hb
    subst hb
    simp at em
    omega
  · rename_i hb
    have e3 : m - x * (a.natAbs : Int) = y * (b.natAbs : Int) := by omega
    rw [e3]
    have e4 : ∃ k, y * (b.natAbs : Int) = b * k := by
      by_cases hs : b < 0
      · exact ⟨-y, by have : (b.natAbs : Int) = -b := by omega
                      rw [this]; grind⟩
      · exact ⟨y, by have : (b.natAbs : Int) = b := by omega
                     rw [this]; grind⟩
    obtain ⟨k, hk⟩ := e4
    rw [hk, Int.mul_fdiv_cancel_left _ hb]
    grind
theorem bo_bounds {a b m x l : Int} (h : Bo (a.natAbs : Int) (b.natAbs : Int) m 0 x l) (ha : a.natAbs < 2 ^ 200) (hb : b.natAbs < 2 ^ 200) (x2 y2 : Int) (hx : x2 = if a < 0 then -x else x) (he : b ≠ 0 → y2 * b = m - x2 * a) (h0 : b = 0 → y2 = 0) :
    x2.natAbs < 2 ^ 202 ∧ y2.natAbs < 2 ^ 410 := by
  obtain ⟨a0, m0, r0, _, _, g, bd, bx, bl, mA, rB⟩ := h
  have hx2 : x2.natAbs = x.natAbs := by
    rw [hx]
    split <;> omega
  have e202 : (2 : Nat) ^ 202 = 4 * 2 ^ 200 := by decide
  have q1 : x2.natAbs < 2 ^ 202 := by
    rw [e202]
    omega
  refine ⟨q1, ?_⟩
  by_cases hz : b = 0
  · rw [h0 hz]
    decide
  · have e1 := he hz
    have e2 : (y2 * b).natAbs = (m - x2 * a).natAbs := by rw [e1]
    rw [Int.natAbs_mul] at e2
    have e3 : (m - x2 * a).natAbs ≤ m.natAbs + (x2 * a).natAbs := by
      generalize x2 * a = t
      omega
    rw [Int.natAbs_mul] at e3
    have e4 : y2.natAbs * 1 ≤ y2.natAbs * b.natAbs := Nat.mul_le_mul_left _ (by omega)
    have e5 : x2.natAbs * a.natAbs ≤ 2 ^ 202 * 2 ^ 200 := Nat.mul_le_mul (Nat.le_of_lt q1) (Nat.le_of_lt ha)
    have e6 : (2 : Nat) ^ 202 * 2 ^ 200 + 2 ^ 202 < 2 ^ 410 := by decide
    have e7 : m.natAbs ≤ 2 ^ 202 := by
      rw [e202]
      omega
    generalize x2.natAbs * a.natAbs = u at *
    generalize y2.natAbs * b.natAbs = v at *
    omega
theorem lcm_law {i j : Int} : ((if i = 0 ∨ j = 0 then 0 else (i.natAbs : Int) / ((Int.gcd i j : Nat) : Int) * (j.natAbs : Int)) * ((Int.gcd i j : Nat) : Int)) = ((i * j).natAbs : Int) := by
  split
  · rename_i h
    rcases h with h | h
    · subst h
      simp
    · subst h
      simp
  · have h : ((Int.gcd i j : Nat) : Int) ∣ (i.natAbs : Int) := Int.natCast_dvd_natCast.mpr (Nat.gcd_dvd_left _ _)
    have e := Int.ediv_mul_cancel h
    rw [Int.natAbs_mul, Int.natCast_mul]
    generalize (i.natAbs : Int) / ((Int.gcd i j : Nat) : Int) = q at *
    rw [← e]
    grind
end K01

set_option linter.all false
namespace K05
open PySem PySem.Spec PyProof.Rows L2 Cm
/-- a thing of a house -/
def Tg (hs ts : List Int) : Prop := Paired (fun h t : Int => 0 ≤ t ∧ t < h) hs ts
/-- what is left, each number by its round -/
def leftI (hs ws : List Int) : List Int := List.zipWith (fun w h => w % h) ws hs
def PL (hs as bs : List Int) : List Int := leftI hs (List.zipWith (fun x y => x + y) as bs)
def MI (hs as bs : List Int) : List Int := leftI hs (List.zipWith (fun x y => x - y) as bs)
def TM (hs : List Int) (m : Int) (as : List Int) : List Int := leftI hs (as.map fun x => m * x)
def Z (hs : List Int) : List Int := List.replicate hs.length 0
def RH (hs : List Int) : Prop := hs.length ≤ 6 ∧ ∀ x ∈ hs, 1 ≤ x ∧ x ≤ 1000000
theorem mem_in {a h : Int} (p : 0 < h) : 0 ≤ a % h ∧ a % h < h := ⟨Int.emod_nonneg _ (by omega), Int.emod_lt_of_pos _ p⟩
theorem tg_left : ∀ {hs ws : List Int}, (∀ x ∈ hs, 0 < x) → ws.length = hs.length → Tg hs (leftI hs ws)
  | [], [], _, _ => .nil
  | h :: hs, w :: ws, p, l => .cons (mem_in (p h (by simp))) (tg_left (fun x hx => p x (List.mem_cons_of_mem _ hx)) (by simpa using l))
  | [], _ :: _, _, l => by simp at l
  | _ :: _, [], _, l => by simp at l
theorem Tg.len {hs ts : List Int} (h : Tg hs ts) : ts.length = hs.length := (Paired.length h).symm
theorem Tg.pos : ∀ {hs ts : List Int}, Tg hs ts → ∀ x ∈ hs, 0 < x
  | _, _, .nil, x, hx => by simp at hx
  | _, _, .cons h t, x, hx => by
    rcases List.mem_cons.mp hx with rfl | hx
    · omega
    · exact Tg.pos t x hx
theorem tg_pl {hs as bs : List Int} (a : Tg hs as) (b : Tg hs bs) : Tg hs (PL hs as bs) := tg_left a.pos (by rw [List.length_zipWith, a.len, b.len, Nat.min_self])
theorem tg_mi {hs as bs : List Int} (a : Tg hs as) (b : Tg hs bs) : Tg hs (MI hs as bs) := tg_left a.pos (by rw [List.length_zipWith, a.len, b.len, Nat.min_self])
theorem tg_tm {hs as : List Int} (m : Int) (a : Tg hs as) : Tg hs (TM hs m as) := tg_left a.pos (by rw [List.length_map, a.len])
theorem tg_z : ∀ {hs as : List Int}, Tg hs as → Tg hs (Z hs)
  | _, _, .nil => .nil
  | _, _, .cons h t => .cons ⟨Int.le_refl _, by omega⟩ (tg_z t)
theorem pl_comm {hs : List Int} : ∀ as bs : List Int, PL hs as bs = PL hs bs as := by
  intro as bs
  unfold PL
  rw [List.zipWith_comm]
  congr 1
  congr 1
  funext x y
  exact Int.add_comm _ _
theorem pl_assoc : ∀ {hs as bs cs : List Int}, Tg hs as → Tg hs bs → Tg hs cs → PL hs (PL hs as bs) cs = PL hs as (PL hs bs cs)
  | _, _, _, _, .nil, .nil, .nil => rfl
  | _, _, _, _, .cons (a := h) (b := a) _ ta, .cons (b := b) _ tb, .cons (b := c) _ tc => by
    have ih := pl_assoc ta tb tc
    show (((a + b) % h + c) % h) :: PL _ (PL _ _ _) _ = ((a + (b + c) % h) % h) :: PL _ _ (PL _ _ _)
    rw [ih, Int.emod_add_emod, Int.add_emod_emod, Int.add_assoc]
theorem pl_mi : ∀ {hs as bs : List Int}, Tg hs as → Tg hs bs → PL hs (MI hs as bs) bs = as
  | _, _, _, .nil, .nil => rfl
  | _, _, _, .cons (a := h) (b := a) ha ta, .cons (b := b) _ tb => by
    have ih := pl_mi ta tb
    show (((a - b) % h + b) % h) :: PL _ (MI _ _ _) _ = _
    rw [ih, Int.emod_add_emod, Int.sub_add_cancel, Int.emod_eq_of_lt ha.1 ha.2]
theorem mi_turn : ∀ {hs as bs : List Int}, Tg hs as → Tg hs bs → MI hs bs as = MI hs (Z hs) (MI hs as bs)
  | _, _, _, .nil, .nil => rfl
  | _, _, _, .cons (a := h) (b := a) ha ta, .cons (b := b) _ tb => by
    have ih := mi_turn ta tb
    show ((b - a) % h) :: MI _ _ _ = ((0 - (a - b) % h) % h) :: MI _ (Z _) (MI _ _ _)
    rw [← ih]
    congr 1
    rw [Int.sub_emod 0, Int.emod_emod_of_dvd _ (Int.dvd_refl h), ← Int.sub_emod]
    congr 1
    omega
theorem pl_z : ∀ {hs as : List Int}, Tg hs as → PL hs as (Z hs) = as
  | _, _, .nil => rfl
  | _, _, .cons (a := h) (b := a) ha ta => by
    have ih := pl_z ta
    show ((a + 0) % h) :: PL _ _ (Z _) = _
    rw [ih, Int.add_zero, Int.emod_eq_of_lt ha.1 ha.2]
theorem mi_self : ∀ {hs as : List Int}, Tg hs as → MI hs as as = Z hs
  | _, _, .nil => rfl
  | _, _, .cons (a := h) (b := a) ha ta => by
    have ih := mi_self ta
    show ((a - a) % h) :: MI _ _ _ = 0 :: Z _
    rw [ih, Int.sub_self, Int.zero_emod]
theorem tm_add : ∀ {hs as : List Int} (m k : Int), Tg hs as → PL hs (TM hs m as) (TM hs k as) = TM hs (m + k) as
  | _, _, m, k, .nil => rfl
  | _, _, m, k, .cons (a := h) (b := a) ha ta => by
    have ih := tm_add m k ta
    show ((m * a % h + k * a % h) % h) :: PL _ (TM _ _ _) (TM _ _ _) = ((m + k) * a % h) :: TM _ _ _
    rw [ih, ← Int.add_emod, Int.add_mul]
theorem tm_tm : ∀ {hs as : List Int} (m k : Int), Tg hs as → TM hs k (TM hs m as) = TM hs (m * k) as
  | _, _, m, k, .nil => rfl
  | _, _, m, k, .cons (a := h) (b := a) ha ta => by
    have ih := tm_tm m k ta
    show (k * (m * a % h) % h) :: TM _ _ (TM _ _ _) = (m * k * a % h) :: TM _ _ _
    rw [ih, Int.mul_emod, Int.emod_emod_of_dvd _ (Int.dvd_refl h), ← Int.mul_emod, Int.mul_comm m k, Int.mul_assoc]
theorem tm_pl : ∀ {hs as bs : List Int} (m : Int), Tg hs as → Tg hs bs → TM hs m (PL hs as bs) = PL hs (TM hs m as) (TM hs m bs)
  | _, _, _, m, .nil, .nil => rfl
  | _, _, _, m, .cons (a := h) (b := a) ha ta, .cons (b := b) _ tb => by
    have ih := tm_pl m ta tb
    show (m * ((a + b) % h) % h) :: TM _ _ (PL _ _ _) = ((m * a % h + m * b % h) % h) :: PL _ (TM _ _ _) (TM _ _ _)
    rw [ih, ← Int.add_emod, Int.mul_emod, Int.emod_emod_of_dvd _ (Int.dvd_refl h), ← Int.mul_emod, Int.mul_add]
theorem tm_neg : ∀ {hs as : List Int} (m : Int), Tg hs as → TM hs (0 - m) as = MI hs (Z hs) (TM hs m as)
  | _, _, m, .nil => rfl
  | _, _, m, .cons (a := h) (b := a) ha ta => by
    have ih := tm_neg m ta
    show ((0 - m) * a % h) :: TM _ _ _ = ((0 - m * a % h) % h) :: MI _ (Z _) (TM _ _ _)
    rw [ih]
    congr 1
    rw [Int.sub_emod 0 (m * a % h), Int.emod_emod_of_dvd _ (Int.dvd_refl h), ← Int.sub_emod, Int.sub_mul, Int.zero_mul]
theorem tm_one : ∀ {hs as : List Int}, Tg hs as → TM hs 1 as = as
  | _, _, .nil => rfl
  | _, _, .cons (a := h) (b := a) ha ta => by
    have ih := tm_one ta
    show (1 * a % h) :: TM _ _ _ = _
    rw [ih, Int.one_mul, Int.emod_eq_of_lt ha.1 ha.2]
theorem tm_zero : ∀ {hs as : List Int}, Tg hs as → TM hs 0 as = Z hs
  | _, _, .nil => rfl
  | _, _, .cons (a := h) (b := a) ha ta => by
    have ih := tm_zero ta
    show (0 * a % h) :: TM _ _ _ = 0 :: Z _
    rw [ih, Int.zero_mul, Int.zero_emod]
end K05

set_option linter.all false
namespace K07
open K05
/-! ### common multiples and turns -/
def cml (i j : Int) : Int := if i = 0 ∨ j = 0 then 0 else (i.natAbs : Int) / ((Int.gcd i j : Nat) : Int) * (j.natAbs : Int)
theorem cml_lcm {i j : Int} (hi : 0 < i) (hj : 0 < j) : cml i j = ((Nat.lcm i.natAbs j.natAbs : Nat) : Int) := by
  unfold cml
  rw [if_neg (by omega)]
  have e : Int.gcd i j = Nat.gcd i.natAbs j.natAbs := rfl
  rw [e]
  have d : Nat.gcd i.natAbs j.natAbs ∣ i.natAbs := Nat.gcd_dvd_left _ _
  have q : Nat.lcm i.natAbs j.natAbs = i.natAbs / Nat.gcd i.natAbs j.natAbs * j.natAbs := by
    unfold Nat.lcm
    exact (Nat.div_mul_right_comm d _).symm
  rw [q, Int.natCast_mul, Int.natCast_ediv]
theorem cml_pos {i j : Int} (hi : 0 < i) (hj : 0 < j) : 0 < cml i j := by
  rw [cml_lcm hi hj]
  have := Nat.lcm_pos (m := i.natAbs) (n := j.natAbs) (by omega) (by omega)
  omega
theorem cml_l {i j : Int} (hi : 0 < i) (hj : 0 < j) : i ∣ cml i j := by
  rw [cml_lcm hi hj, ← Int.natAbs_dvd, Int.natCast_dvd_natCast]
  exact Nat.dvd_lcm_left _ _
theorem cml_r {i j : Int} (hi : 0 < i) (hj : 0 < j) : j ∣ cml i j := by
  rw [cml_lcm hi hj, ← Int.natAbs_dvd, Int.natCast_dvd_natCast]
  exact Nat.dvd_lcm_right _ _
theorem cml_min {i j x : Int} (hi : 0 < i) (hj : 0 < j) (a : i ∣ x) (b : j ∣ x) : cml i j ∣ x := by
  rw [cml_lcm hi hj, ← Int.dvd_natAbs, Int.natCast_dvd_natCast]
  exact Nat.lcm_dvd (Int.natAbs_dvd_natAbs.mpr a) (Int.natAbs_dvd_natAbs.mpr b)
theorem cml_le {i j : Int} (hi : 0 < i) (hj : 0 < j) : cml i j ≤ i * j := by
  have h : cml i j ∣ i * j := cml_min hi hj (Int.dvd_mul_right _ _) (Int.dvd_mul_left _ _)
  exact Int.le_of_dvd (Int.mul_pos hi hj) h
/-- one round's share of a thing's turn -/
def tn (t h : Int) : Int := h / ((Int.gcd t h : Nat) : Int)
theorem gcd_posR {t h : Int} (hh : 0 < h) : 0 < ((Int.gcd t h : Nat) : Int) := by
  have : 0 < Int.gcd t h := Nat.gcd_pos_of_pos_right _ (by omega)
  omega
theorem tn_mul {t h : Int} (hh : 0 < h) : tn t h * ((Int.gcd t h : Nat) : Int) = h := Int.ediv_mul_cancel (Int.gcd_dvd_right _ _)
theorem tn_pos {t h : Int} (hh : 0 < h) : 0 < tn t h := by
  have g := gcd_posR (t := t) hh
  have e := tn_mul (t := t) hh
  by_cases z : 0 < tn t h
  · exact z
  · have : tn t h * ((Int.gcd t h : Nat) : Int) ≤ 0 := Int.mul_nonpos_of_nonpos_of_nonneg (by omega) (by omega)
    omega
theorem tn_le {t h : Int} (hh : 0 < h) : tn t h ≤ h := Int.ediv_le_self _ (by omega)
theorem tn_dvd_h {t h : Int} (hh : 0 < h) : tn t h ∣ h := ⟨_, (tn_mul hh).symm⟩
/-- so many times t is nought by the round h just where the share divides so many -/
theorem tn_iff {t h m : Int} (hh : 0 < h) : h ∣ m * t ↔ tn t h ∣ m := by
  have g := gcd_posR (t := t) hh
  have e := tn_mul (t := t) hh
  have e2 : t / ((Int.gcd t h : Nat) : Int) * ((Int.gcd t h : Nat) : Int) = t := Int.ediv_mul_cancel (Int.gcd_dvd_left _ _)
  have co : Int.gcd (t / ((Int.gcd t h : Nat) : Int)) (tn t h) = 1 := by
    unfold tn
    exact Int.gcd_ediv_gcd_ediv_gcd (by omega)
  constructor
  · intro d
    have d2 : tn t h * ((Int.gcd t h : Nat) : Int) ∣ m * (t / ((Int.gcd t h : Nat) : Int)) * ((Int.gcd t h : Nat) : Int) := by
      rw [e, Int.mul_assoc, e2]
      exact d
    have d3 : tn t h ∣ m * (t / ((Int.gcd t h : Nat) : Int)) := Int.dvd_of_mul_dvd_mul_right (by omega) d2
    have d4 := Int.natAbs_dvd_natAbs.mpr d3
    rw [Int.natAbs_mul] at d4
    have co2 : Nat.Coprime (tn t h).natAbs (t / ((Int.gcd t h : Nat) : Int)).natAbs := by
      rw [Nat.coprime_iff_gcd_eq_one, Nat.gcd_comm]
      exact co
    exact Int.natAbs_dvd_natAbs.mp (co2.dvd_of_dvd_mul_right d4)
  · rintro ⟨k, rfl⟩
    refine ⟨k * (t / ((Int.gcd t h : Nat) : Int)), ?_⟩
    have : tn t h * k * t = tn t h * k * (t / ((Int.gcd t h : Nat) : Int) * ((Int.gcd t h : Nat) : Int)) := by rw [e2]
    calc tn t h * k * t = tn t h * k * (t / ((Int.gcd t h : Nat) : Int) * ((Int.gcd t h : Nat) : Int)) := this
      _ = tn t h * ((Int.gcd t h : Nat) : Int) * (k * (t / ((Int.gcd t h : Nat) : Int))) := by ac_rfl
      _ = h * (k * (t / ((Int.gcd t h : Nat) : Int))) := by rw [e]
/-! ### all common multiples -/
def lcmL (l : List Int) : Int := l.foldl cml 1
theorem lcm_snoc (l : List Int) (x : Int) : lcmL (l ++ [x]) = cml (lcmL l) x := by
  unfold lcmL
  rw [List.foldl_append]
  rfl
theorem fold_all : ∀ (l : List Int) {acc : Int}, 0 < acc → (∀ x ∈ l, 0 < x) → 0 < l.foldl cml acc ∧ acc ∣ l.foldl cml acc ∧ (∀ x ∈ l, x ∣ l.foldl cml acc) ∧ ∀ m, acc ∣ m → (∀ x ∈ l, x ∣ m) → l.foldl cml acc ∣ m
  | [], acc, h, _ => ⟨h, Int.dvd_refl _, fun x hx => by simp at hx, fun m a _ => a⟩
  | x :: r, acc, h, hp => by
    have hx := hp x (by simp)
    have q := fold_all r (cml_pos h hx) fun y hy => hp y (List.mem_cons_of_mem _ hy)
    refine ⟨q.1, Int.dvd_trans (cml_l h hx) q.2.1, fun y hy => ?_, fun m a b => q.2.2.2 m (cml_min h hx a (b x (by simp))) fun y hy => b y (List.mem_cons_of_mem _ hy)⟩
    rcases List.mem_cons.mp hy with rfl | hy
    · exact Int.dvd_trans (cml_r h hx) q.2.1
    · exact q.2.2.1 y hy
theorem lcm_pos {l : List Int} (h : ∀ x ∈ l, 0 < x) : 0 < lcmL l := (fold_all l (by decide) h).1
theorem lcm_each {l : List Int} (h : ∀ x ∈ l, 0 < x) : ∀ x ∈ l, x ∣ lcmL l := (fold_all l (by decide) h).2.2.1
theorem lcm_min {l : List Int} (h : ∀ x ∈ l, 0 < x) {m : Int} (d : ∀ x ∈ l, x ∣ m) : lcmL l ∣ m := (fold_all l (by decide) h).2.2.2 m (Int.one_dvd _) d
theorem fold_le : ∀ (l : List Int) {acc : Int}, 0 < acc → (∀ x ∈ l, 0 < x ∧ x ≤ 1000000) → l.foldl cml acc ≤ acc * 1000000 ^ l.length
  | [], acc, h, _ => by simp
  | x :: r, acc, h, hp => by
    have hx := hp x (by simp)
    have q := fold_le r (cml_pos h hx.1) fun y hy => hp y (List.mem_cons_of_mem _ hy)
    have c := cml_le h hx.1
    have p : (0 : Int) ≤ 1000000 ^ r.length := Int.pow_nonneg (by decide)
    have c2 : cml acc x ≤ acc * 1000000 := Int.le_trans c (Int.mul_le_mul_of_nonneg_left hx.2 (by omega))
    have c3 : cml acc x * 1000000 ^ r.length ≤ acc * 1000000 * 1000000 ^ r.length := Int.mul_le_mul_of_nonneg_right c2 p
    rw [List.length_cons, Int.pow_succ, Int.mul_comm (1000000 ^ r.length), ← Int.mul_assoc]
    exact Int.le_trans q c3
theorem lcm_lt {l : List Int} (h : ∀ x ∈ l, 0 < x ∧ x ≤ 1000000) (hl : l.length ≤ 6) : (lcmL l).natAbs < 2 ^ 120 := by
  have q := fold_le l (acc := 1) (by decide) h
  have p := lcm_pos fun x hx => (h x hx).1
  have e : lcmL l = l.foldl cml 1 := rfl
  have m : (1000000 : Int) ^ l.length ≤ 1000000 ^ 6 := by
    rcases (show l.length = 0 ∨ l.length = 1 ∨ l.length = 2 ∨ l.length = 3 ∨ l.length = 4 ∨ l.length = 5 ∨ l.length = 6 by omega) with z | z | z | z | z | z | z <;> rw [z] <;> decide
  have d : (1000000 : Int) ^ 6 = 1000000000000000000000000000000000000 := by decide
  have d2 : (2 : Nat) ^ 120 = 1329227995784915872903807060280344576 := by decide
  rw [d2]
  omega
/-! ### turns -/
def sh (hs ts : List Int) : List Int := List.zipWith (fun t h => tn t h) ts hs
def TR (hs ts : List Int) : Int := lcmL (sh hs ts)
def noB (hs ts : List Int) (m : Int) : Bool := (List.zipWith (fun t h => decide (m * t % h = 0)) ts hs).all id
theorem sh_all : ∀ {hs ts : List Int} {p : Int → Prop}, (∀ x ∈ hs, 0 < x) → (∀ t h, h ∈ hs → p (tn t h)) → ∀ x ∈ sh hs ts, p x
  | [], _, p, _, _, x, hx => by simp [sh] at hx
  | _ :: _, [], p, _, _, x, hx => by simp [sh] at hx
  | h :: hs, t :: ts, p, pos, f, x, hx => by
    rcases List.mem_cons.mp (show x ∈ tn t h :: sh hs ts from hx) with rfl | hx
    · exact f t h (by simp)
    · exact sh_all (fun y hy => pos y (List.mem_cons_of_mem _ hy)) (fun t h hh => f t h (List.mem_cons_of_mem _ hh)) x hx
theorem no_iff : ∀ {hs ts : List Int} (m : Int), (∀ x ∈ hs, 0 < x) → (noB hs ts m = true ↔ ∀ x ∈ sh hs ts, x ∣ m)
  | [], _, m, _ => by simp [noB, sh]
  | _ :: _, [], m, _ => by simp [noB, sh]
  | h :: hs, t :: ts, m, pos => by
    have ih := no_iff (hs := hs) (ts := ts) m fun y hy => pos y (List.mem_cons_of_mem _ hy)
    have ph := pos h (by simp)
    show (decide (m * t % h = 0) && noB hs ts m) = true ↔ ∀ x ∈ tn t h :: sh hs ts, x ∣ m
    rw [Bool.and_eq_true, ih, decide_eq_true_eq, ← Int.dvd_iff_emod_eq_zero, tn_iff ph]
    simp
theorem sh_pos {hs ts : List Int} (pos : ∀ x ∈ hs, 0 < x) : ∀ x ∈ sh hs ts, 0 < x := sh_all pos fun t h hh => tn_pos (pos h hh)
theorem tr_pos {hs ts : List Int} (pos : ∀ x ∈ hs, 0 < x) : 0 < TR hs ts := lcm_pos (sh_pos pos)
theorem tr_no {hs ts : List Int} (pos : ∀ x ∈ hs, 0 < x) : noB hs ts (TR hs ts) = true := (no_iff _ pos).mpr (lcm_each (sh_pos pos))
theorem tr_last {hs ts : List Int} (pos : ∀ x ∈ hs, 0 < x) : TR hs ts ∣ lcmL hs := lcm_min (sh_pos pos) (sh_all pos fun t h hh => Int.dvd_trans (tn_dvd_h (pos h hh)) (lcm_each pos h hh))
theorem no_less {n b : Int} (hn : 0 < n) (hb : 2 ≤ b) (d : b ∣ n) : ¬ n ∣ n / b := by
  intro e
  obtain ⟨k, rfl⟩ := d
  have kp : 0 < k := by
    by_cases z : 0 < k
    · exact z
    · have : b * k ≤ 0 := Int.mul_nonpos_of_nonneg_of_nonpos (by omega) (by omega)
      omega
  rw [Int.mul_ediv_cancel_left _ (by omega)] at e
  have l := Int.le_of_dvd kp e
  have : 2 * k ≤ b * k := Int.mul_le_mul_of_nonneg_right hb (by omega)
  omega
theorem tr_least {hs ts : List Int} {b : Int} (pos : ∀ x ∈ hs, 0 < x) (hb : 2 ≤ b) (d : b ∣ TR hs ts) : noB hs ts (TR hs ts / b) = false := by
  cases e : noB hs ts (TR hs ts / b) with
  | false => rfl
  | true => exact absurd (lcm_min (sh_pos pos) ((no_iff _ pos).mp e)) (no_less (tr_pos pos) hb d)
theorem last_least {hs : List Int} {b : Int} (pos : ∀ x ∈ hs, 0 < x) (hb : 2 ≤ b) (d : b ∣ lcmL hs) : ∃ x ∈ hs, ¬ x ∣ lcmL hs / b := by
  refine Classical.byContradiction fun n => no_less (lcm_pos pos) hb d (lcm_min pos fun x hx => ?_)
  refine Classical.byContradiction fun z => n ⟨x, hx, z⟩
/-! ### few unlike divisors -/
def fct : Nat → Int
  | 0 => 1
  | n + 1 => ((n : Int) + 2) * fct n
theorem fct_pos : ∀ n, 1 ≤ fct n
  | 0 => Int.le_refl _
  | n + 1 => by
    have h := fct_pos n
    have : 1 * 1 ≤ ((n : Int) + 2) * fct n := Int.mul_le_mul (by omega) h (by decide) (by omega)
    show 1 ≤ ((n : Int) + 2) * fct n
    omega
theorem fct_big : ∀ n, fct 9 ≤ fct (9 + n)
  | 0 => Int.le_refl _
  | n + 1 => by
    have h := fct_big n
    have p := fct_pos (9 + n)
    have : 1 * fct (9 + n) ≤ (((9 + n : Nat) : Int) + 2) * fct (9 + n) := Int.mul_le_mul_of_nonneg_right (by omega) (by omega)
    show fct 9 ≤ (((9 + n : Nat) : Int) + 2) * fct (9 + n)
    omega
def Dn : List Int → Prop
  | [] => True
  | x :: r => (r.length : Int) + 2 ≤ x ∧ Dn r
def pd : List Int → Int
  | [] => 1
  | x :: r => x * pd r
theorem dn_prod : ∀ {ds : List Int}, Dn ds → fct ds.length ≤ pd ds
  | [], _ => Int.le_refl _
  | x :: r, h => by
    have q := dn_prod h.2
    have p := fct_pos r.length
    show ((r.length : Int) + 2) * fct r.length ≤ x * pd r
    exact Int.mul_le_mul h.1 q (by omega) (by have := h.1; omega)
theorem dn_few {ds : List Int} {left one : Int} (h : Dn ds) (l : 1 ≤ left) (e : pd ds * left ≤ one) (o : one ≤ 1000000) : ds.length ≤ 8 := by
  by_cases z : ds.length ≤ 8
  · exact z
  · obtain ⟨n, hn⟩ : ∃ n, ds.length = 9 + n := ⟨ds.length - 9, by omega⟩
    have q := dn_prod h
    have b := fct_big n
    have d : fct 9 = 3628800 := by decide
    rw [hn] at q
    have : pd ds * 1 ≤ pd ds * left := Int.mul_le_mul_of_nonneg_left l (by omega)
    omega
theorem nodup_len : ∀ {l m : List Int}, l.Nodup → (∀ x ∈ l, x ∈ m) → l.length ≤ m.length
  | [], _, _, _ => Nat.zero_le _
  | x :: r, m, nd, s => by
    have hx := s x (by simp)
    have h1 : (m.erase x).length = m.length - 1 := List.length_erase_of_mem hx
    have h2 : 0 < m.length := List.length_pos_of_mem hx
    have nd2 := List.nodup_cons.mp nd
    have ih := nodup_len (l := r) (m := m.erase x) nd2.2 fun y hy => by
      have ny : y ≠ x := by
        rintro rfl
        exact nd2.1 hy
      exact (List.mem_erase_of_ne ny).mpr (s y (List.mem_cons_of_mem _ hy))
    rw [List.length_cons]
    omega
end K07

set_option Elab.async false
set_option linter.all false
set_option maxRecDepth 100000
set_option maxHeartbeats 4000000
namespace K07
open PySem PySem.Spec PyProof.Rows L2 Cm GxR K01 K05
def topS (i : Nat) : Stmt := PySem.Challenge.pw_commonhouse_k07_turns_told.main.body.getD i (.Pass ⟨0, 0, 0, 0⟩)
abbrev s_is_whole : Stmt := topS 4
abbrev N_is_whole : List Str := ["thing"]
theorem sc_is_whole : FnScope N_is_whole ["thing"] (defScope s_is_whole) := ⟨rfl, rfl, rfl, by decide +kernel, rfl, by decide +kernel, by decide +kernel⟩
abbrev s_common_measure : Stmt := topS 5
abbrev N_common_measure : List Str := ["a", "b"]
theorem sc_common_measure : FnScope N_common_measure ["a", "b"] (defScope s_common_measure) := ⟨rfl, rfl, rfl, by decide +kernel, rfl, by decide +kernel, by decide +kernel⟩
abbrev s_common_multiple : Stmt := topS 6
abbrev N_common_multiple : List Str := ["a", "b"]
theorem sc_common_multiple : FnScope N_common_multiple ["a", "b"] (defScope s_common_multiple) := ⟨rfl, rfl, rfl, by decide +kernel, rfl, by decide +kernel, by decide +kernel⟩
abbrev s_is_thing : Stmt := topS 8
abbrev N_is_thing : List Str := ["house", "thing", "number", "limit"]
theorem sc_is_thing : FnScope N_is_thing ["house", "thing"] (defScope s_is_thing) := ⟨rfl, rfl, rfl, by decide +kernel, rfl, by decide +kernel, by decide +kernel⟩
abbrev s_need_thing : Stmt := topS 9
abbrev N_need_thing : List Str := ["house", "thing"]
theorem sc_need_thing : FnScope N_need_thing ["house", "thing"] (defScope s_need_thing) := ⟨rfl, rfl, rfl, by decide +kernel, rfl, by decide +kernel, by decide +kernel⟩
abbrev s_turn : Stmt := topS 11
abbrev N_turn : List Str := ["house", "a", "least", "number", "limit"]
theorem sc_turn : FnScope N_turn ["house", "a"] (defScope s_turn) := ⟨rfl, rfl, rfl, by decide +kernel, rfl, by decide +kernel, by decide +kernel⟩
abbrev s_last_turn : Stmt := topS 12
abbrev N_last_turn : List Str := ["house", "least", "limit"]
theorem sc_last_turn : FnScope N_last_turn ["house"] (defScope s_last_turn) := ⟨rfl, rfl, rfl, by decide +kernel, rfl, by decide +kernel, by decide +kernel⟩
abbrev s_law_pen : Stmt := topS 14
abbrev N_law_pen : List Str := ["_law_script"]
theorem sc_law_pen : FnScope N_law_pen ["_law_script"] (defScope s_law_pen) := ⟨rfl, rfl, rfl, by decide +kernel, rfl, by decide +kernel, by decide +kernel⟩
abbrev s_law_draw : Stmt := topS 15
abbrev N_law_draw : List Str := ["_law_pen_here", "_law_many", "_law_drawn", "_law_at", "_law_cell", "_law_number"]
theorem sc_law_draw : FnScope N_law_draw ["_law_pen_here", "_law_many"] (defScope s_law_draw) := ⟨rfl, rfl, rfl, by decide +kernel, rfl, by decide +kernel, by decide +kernel⟩
abbrev s_law_round : Stmt := topS 16
abbrev N_law_round : List Str := ["_law_pen_here", "_law_way"]
theorem sc_law_round : FnScope N_law_round ["_law_pen_here"] (defScope s_law_round) := ⟨rfl, rfl, rfl, by decide +kernel, rfl, by decide +kernel, by decide +kernel⟩
abbrev s_law_house : Stmt := topS 17
abbrev N_law_house : List Str := ["_law_pen_here", "_law_k"]
theorem sc_law_house : FnScope N_law_house ["_law_pen_here"] (defScope s_law_house) := ⟨rfl, rfl, rfl, by decide +kernel, rfl, by decide +kernel, by decide +kernel⟩
abbrev s_law_thing : Stmt := topS 18
abbrev N_law_thing : List Str := ["_law_pen_here", "_law_house_here", "_law_found", "_law_one", "_law_way", "_law_number"]
theorem sc_law_thing : FnScope N_law_thing ["_law_pen_here", "_law_house_here"] (defScope s_law_thing) := ⟨rfl, rfl, rfl, by decide +kernel, rfl, by decide +kernel, by decide +kernel⟩
abbrev s_law_whole : Stmt := topS 19
abbrev N_law_whole : List Str := ["_law_thing_here"]
theorem sc_law_whole : FnScope N_law_whole ["_law_thing_here"] (defScope s_law_whole) := ⟨rfl, rfl, rfl, by decide +kernel, rfl, by decide +kernel, by decide +kernel⟩
abbrev s_law_primes : Stmt := topS 20
abbrev N_law_primes : List Str := ["_law_house_here", "_law_found", "_law_one", "_law_left", "_law_by"]
theorem sc_law_primes : FnScope N_law_primes ["_law_house_here"] (defScope s_law_primes) := ⟨rfl, rfl, rfl, by decide +kernel, rfl, by decide +kernel, by decide +kernel⟩
abbrev s_law_nought : Stmt := topS 21
abbrev N_law_nought : List Str := ["_law_house_here", "_law_thing_here", "_law_many", "_law_at"]
theorem sc_law_nought : FnScope N_law_nought ["_law_house_here", "_law_thing_here", "_law_many"] (defScope s_law_nought) := ⟨rfl, rfl, rfl, by decide +kernel, rfl, by decide +kernel, by decide +kernel⟩
abbrev s_law_short : Stmt := topS 22
abbrev N_law_short : List Str := ["_law_pen_here", "_law_house_here", "_law_primes_here", "_law_thing_here", "_law_one", "_law_some", "_law_many", "_law_by", "_law_at"]
theorem sc_law_short : FnScope N_law_short ["_law_pen_here", "_law_house_here", "_law_primes_here", "_law_thing_here"] (defScope s_law_short) := ⟨rfl, rfl, rfl, by decide +kernel, rfl, by decide +kernel, by decide +kernel⟩
abbrev s_law_right : Stmt := topS 23
abbrev N_law_right : List Str := ["_law_house_here", "_law_primes_here", "_law_thing_here", "_law_told", "_law_by"]
theorem sc_law_right : FnScope N_law_right ["_law_house_here", "_law_primes_here", "_law_thing_here"] (defScope s_law_right) := ⟨rfl, rfl, rfl, by decide +kernel, rfl, by decide +kernel, by decide +kernel⟩
abbrev s_law_last_right : Stmt := topS 24
abbrev N_law_last_right : List Str := ["_law_house_here", "_law_primes_here", "_law_told", "_law_by", "_law_one"]
theorem sc_law_last_right : FnScope N_law_last_right ["_law_house_here", "_law_primes_here"] (defScope s_law_last_right) := ⟨rfl, rfl, rfl, by decide +kernel, rfl, by decide +kernel, by decide +kernel⟩
abbrev s_law : Stmt := topS 25
abbrev N_law : List Str := ["_law_script", "_law_pen_here", "_law_again", "_law_house_here", "_law_primes_here", "_law_some", "_law_other", "_law_more", "_law_thing_here", "_law_one"]
theorem sc_law : FnScope N_law ["_law_script"] (defScope s_law) := ⟨rfl, rfl, rfl, by decide +kernel, rfl, by decide +kernel, by decide +kernel⟩
structure Txt (K : PySem.W.Frag) (mg : Str → Option Value) : Prop where
  d_is_whole : Df K mg "is_whole" s_is_whole ["thing"]
  d_common_measure : Df K mg "common_measure" s_common_measure ["a", "b"]
  d_common_multiple : Df K mg "common_multiple" s_common_multiple ["a", "b"]
  d_is_thing : Df K mg "is_thing" s_is_thing ["house", "thing"]
  d_need_thing : Df K mg "need_thing" s_need_thing ["house", "thing"]
  d_turn : Df K mg "turn" s_turn ["house", "a"]
  d_last_turn : Df K mg "last_turn" s_last_turn ["house"]
  d_law_pen : Df K mg "_law_pen" s_law_pen ["_law_script"]
  d_law_draw : Df K mg "_law_draw" s_law_draw ["_law_pen_here", "_law_many"]
  d_law_round : Df K mg "_law_round" s_law_round ["_law_pen_here"]
  d_law_house : Df K mg "_law_house" s_law_house ["_law_pen_here"]
  d_law_thing : Df K mg "_law_thing" s_law_thing ["_law_pen_here", "_law_house_here"]
  d_law_whole : Df K mg "_law_whole" s_law_whole ["_law_thing_here"]
  d_law_primes : Df K mg "_law_primes" s_law_primes ["_law_house_here"]
  d_law_nought : Df K mg "_law_nought" s_law_nought ["_law_house_here", "_law_thing_here", "_law_many"]
  d_law_short : Df K mg "_law_short" s_law_short ["_law_pen_here", "_law_house_here", "_law_primes_here", "_law_thing_here"]
  d_law_right : Df K mg "_law_right" s_law_right ["_law_house_here", "_law_primes_here", "_law_thing_here"]
  d_law_last_right : Df K mg "_law_last_right" s_law_last_right ["_law_house_here", "_law_primes_here"]
  d_law : Df K mg "law" s_law ["_law_script"]
  n_abs : mg "abs" = none
  n_all : mg "all" = none
  n_bool : mg "bool" = none
  n_int : mg "int" = none
  n_isinstance : mg "isinstance" = none
  n_len : mg "len" = none
  n_min : mg "min" = none
  n_range : mg "range" = none
  n_set : mg "set" = none
  n_sorted : mg "sorted" = none
  n_tuple : mg "tuple" = none
  n_zip : mg "zip" = none
section
variable {P : Program} {w : World} {K : PySem.W.Frag} {mg : Str → Option Value} {base : Heap}
/-! ### the pen -/
theorem merge_pen (a : Addr) : mergeK [] (penD a 0 0) = penD a 0 0 := by
  show putK (putK (putK [] (Sum.inr ("cells" : Str) : Key) (.ref a)) (Sum.inr ("at" : Str)) (.int 0)) (Sum.inr ("left" : Str)) (.int 0) = _
  have e1 : putK ([] : List (Key × V)) (Sum.inr ("cells" : Str) : Key) (.ref a) = [(Sum.inr ("cells" : Str), .ref a)] := putK_new _ rfl
  have e2 : putK [((Sum.inr ("cells" : Str) : Key), V.ref a)] (Sum.inr ("at" : Str) : Key) (.int 0) = [(Sum.inr ("cells" : Str), .ref a), (Sum.inr ("at" : Str), .int 0)] := putK_new _ ((valV_neg kca).trans rfl)
  have e3 : putK [((Sum.inr ("cells" : Str) : Key), V.ref a), (Sum.inr ("at" : Str), .int 0)] (Sum.inr ("left" : Str) : Key) (.int 0) = penD a 0 0 := putK_new _ ((valV_neg kcl).trans ((valV_neg kal).trans rfl))
  rw [e1, e2, e3]
def rPen (K : PySem.W.Frag) : V → Hp → VK → Prop := fun x H Q => ∃ (a : Addr) (ns : List Int), x = .ref a ∧ SqL K H a (ns.map V.int) ∧ ∀ d H', H d = none → Same H H' → Pen K H' d a ns 0 → Q (.ref d) H'
theorem ok_law_pen (T : Txt K mg) : Fn P w K mg base 1 "_law_pen" ["_law_script"] (sp1 (rPen K)) := by
  refine T.d_law_pen.ok sc_law_pen len1 fun f cdv A outer s H vs Q E hr hg h => ?_
  obtain ⟨_, rfl, a, ns, rfl, hS, q⟩ := h
  refine ⟨_, (pss_one (ps_ret (pe_disp (pps_cons pe_str (pv 0) (pps_cons pe_str pe_int (pps_cons pe_str pe_int pps_nil))) (by rfl) (by rfl) (fun z => by cases z) (by decide)))), ?_⟩
  intro d hd
  refine ⟨_, rfl, upd_same, penD a 0 0, rfl, (by show 3 ≤ 15; decide), ?_⟩
  rw [merge_pen]
  have e : upd (upd H d (.dK [])) d (.dK (penD a 0 0)) = upd H d (.dK (penD a 0 0)) := upd_upd
  rw [e]
  exact q d _ hd (same_new hd) ⟨(same_new hd).seq hS, 0, 0, upd_same, by decide, by decide, by decide⟩
theorem p629 : (0 : Int) < 2147483629 := by decide
theorem p587 : (0 : Int) < 2147483587 := by decide
theorem p563 : (0 : Int) < 2147483563 := by decide
theorem ok_law_draw (T : Txt K mg) : Fn P w K mg base 1 "_law_draw" ["_law_pen_here", "_law_many"] (sp2 (rDraw K)) := by
  refine T.d_law_draw.ok sc_law_draw len2 fun f cdv A outer s H vs Q E hr hg h => ?_
  obtain ⟨_, _, rfl, d, a, ns, c, many, rfl, rfl, ⟨hS, n, m, hd, n0, n1, m0⟩, p0, p1, hc, q⟩ := h
  have hu := hu_of hr
  refine ⟨_, (pss_cons (ps_if (pt_cmpR op_gt (pe_dget hu (pv 0) pe_str (fun _ _ => rfl)) pe_int (nomark _))
(pss_cons (ps_set (i := 2) sc_law_draw.nd rfl (by first | exact Or.inl rfl | exact Or.inr rfl) (pe_op op_mod (pe_dget hu (pv 0) pe_str (fun _ _ => rfl)) (pv 1)))
(pss_cons (ps_dput hu (pv 0) pe_str (pe_op op_fdiv (pe_dget hu (pv 0) pe_str (fun _ _ => rfl)) (pv 1)) rfl)
(pss_one (ps_ret (pv 2)))))
pss_nil)
(pss_cons (ps_set (i := 3) sc_law_draw.nd rfl (by first | exact Or.inl rfl | exact Or.inr rfl) (pe_dget hu (pv 0) pe_str (fun _ _ => rfl)))
(pss_cons (ps_dput hu (pv 0) pe_str (pe_op op_add (pv 3) pe_int) rfl)
(pss_cons (ps_set (i := 4) sc_law_draw.nd rfl (by first | exact Or.inl rfl | exact Or.inr rfl) (pe_op op_add (pe_op op_add (pe_op op_mul (pe_op op_mul pe_int (pv 3)) (pv 3)) (pe_op op_mul pe_int (pv 3))) pe_int))
(pss_cons (ps_if (pt_cmpR op_gt (pe_callB (len_K (K := K) rfl) (by rfl) T.n_len (by decide +kernel) (pa_cons (pe_dget hu (pv 0) pe_str (fun _ _ => rfl)) pa_nil)) pe_int (nomark _))
(pss_cons (ps_set (i := 4) sc_law_draw.nd rfl (by first | exact Or.inl rfl | exact Or.inr rfl) (pe_ix (ixL_K (K := K) rfl) (pe_dget hu (pv 0) pe_str (fun _ _ => rfl)) (pe_op op_mod (pv 3) (pe_callB (len_K (K := K) rfl) (by rfl) T.n_len (by decide +kernel) (pa_cons (pe_dget hu (pv 0) pe_str (fun _ _ => rfl)) pa_nil))) (fun _ _ => rfl)))
(pss_one (ps_if (PW.pt (pw_and (pt_cmpR op_lt (pv 3) (pe_callB (len_K (K := K) rfl) (by rfl) T.n_len (by decide +kernel) (pa_cons (pe_dget hu (pv 0) pe_str (fun _ _ => rfl)) pa_nil)) (nomark _)) (pw_and1 (pt_cmpR op_ge (pe_callB call_abs (by rfl) T.n_abs (by decide +kernel) (pa_cons (pv 4) pa_nil)) (pe_op op_pow pe_int pe_int) (nomark _)))))
(pss_cons (ps_dput hu (pv 0) pe_str (pe_op op_fdiv (pe_callB call_abs (by rfl) T.n_abs (by decide +kernel) (pa_cons (pv 4) pa_nil)) (pv 1)) rfl)
(pss_one (ps_ret (pe_op op_mod (pe_callB call_abs (by rfl) T.n_abs (by decide +kernel) (pa_cons (pv 4) pa_nil)) (pv 1)))))
pss_nil)))
pss_nil)
(pss_cons (ps_set (i := 5) sc_law_draw.nd rfl (by first | exact Or.inl rfl | exact Or.inr rfl) (pe_op op_mod (pe_op op_mul (pe_op op_add (pe_op op_add (pe_op op_mod (pv 4) pe_int) (pe_op op_mul pe_int (pv 3))) pe_int) pe_int) pe_int))
(pss_cons (ps_set (i := 5) sc_law_draw.nd rfl (by first | exact Or.inl rfl | exact Or.inr rfl) (pe_op op_mod (pe_op op_add (pe_op op_add (pe_op op_mul (pv 5) (pv 5)) (pe_op op_mul pe_int (pv 5))) (pv 3)) pe_int))
(pss_one (ps_ret (pe_op op_mod (pe_op op_fdiv (pv 5) pe_int) (pv 1))))))))))), ?_⟩
  refine ⟨_, rfl, d, _, rfl, dg_left hd, _, _, rfl, rfl, _, rfl, ite2 (fun e => ?_) (fun e => ?_)⟩
  · have hm : 0 < m := of_decide_eq_true e
    refine ⟨_, rfl, d, _, rfl, dg_left hd, _, rfl, _, _, rfl, rfl, p0, ?_⟩
    refine ⟨_, rfl, d, _, rfl, dg_left hd, _, rfl, _, _, rfl, rfl, ⟨p0, p1⟩, _, rfl, d, _, rfl, dp_left hd, ?_⟩
    refine ⟨_, rfl, ?_⟩
    exact q _ _ (Int.emod_nonneg _ (by omega)) (Int.emod_lt_of_pos _ p0) ⟨sq_but But.upd hd hS, n, m / many, upd_same, n0, by omega, Int.ediv_nonneg m0 (by omega)⟩ But.upd
  · -- at
    refine ⟨_, rfl, d, _, rfl, dg_at hd, ?_⟩
    refine ⟨_, rfl, _, _, rfl, rfl, _, rfl, d, _, rfl, dp_at hd, ?_⟩
    have hd1 : (upd H d (.dK (penD a (n + 1) m))) d = some (.dK (penD a (n + 1) m)) := upd_same
    have hS1 : SqL K (upd H d (.dK (penD a (n + 1) m))) a (ns.map V.int) := sq_but But.upd hd hS
    have hP1 : Pen K (upd H d (.dK (penD a (n + 1) m))) d a ns (c + 1) := ⟨hS1, n + 1, m, hd1, by omega, by omega, m0⟩
    -- cell
    refine ⟨_, rfl, _, _, rfl, rfl, .inl ⟨by decide, by decide⟩, _, rfl, _, _, rfl, rfl, .inr ⟨by omega, by omega⟩, _, rfl, _, _, rfl, rfl, .inl ⟨by decide, by decide⟩, _, _, rfl, rfl, _, _, rfl, rfl, ?_⟩
    -- the end, whatever the cell
    have fin : ∀ (cell : Int), 0 ≤ (((cell % 2147483629 + 40993 * n + 5) * 48271 % 2147483587 * ((cell % 2147483629 + 40993 * n + 5) * 48271 % 2147483587) + 69941 * ((cell % 2147483629 + 40993 * n + 5) * 48271 % 2147483587) + n) % 2147483563 / 32 % many) ∧
        (((cell % 2147483629 + 40993 * n + 5) * 48271 % 2147483587 * ((cell % 2147483629 + 40993 * n + 5) * 48271 % 2147483587) + 69941 * ((cell % 2147483629 + 40993 * n + 5) * 48271 % 2147483587) + n) % 2147483563 / 32 % many) < many := fun cell =>
      ⟨Int.emod_nonneg _ (by omega), Int.emod_lt_of_pos _ p0⟩
    refine ⟨_, rfl, d, _, rfl, dg_cells hd1, a, _, rfl, .inl hS1, _, _, rfl, rfl, _, rfl, ite2 (fun e1 => ?_) (fun e1 => ?_)⟩
    · have hl : (0 : Int) < ((ns.map V.int).length : Int) := of_decide_eq_true e1
      obtain ⟨z, hz⟩ := cell_at (ns := ns) (i := n % ((ns.map V.int).length : Int)) (Int.emod_nonneg _ (by omega)) (Int.emod_lt_of_pos _ hl)
      refine ⟨_, rfl, d, _, rfl, dg_cells hd1, _, rfl, _, rfl, d, _, rfl, dg_cells hd1, a, _, rfl, .inl hS1, _, _, rfl, rfl, hl, a, _, _, _, rfl, rfl, hS1, hz, ?_⟩
      refine ⟨_, rfl, _, rfl, d, _, rfl, dg_cells hd1, a, _, rfl, .inl hS1, _, _, rfl, rfl, _, rfl, ite2 (fun e2 => ?_) (fun e2 => ?_)⟩
      · refine ⟨_, rfl, _, rfl, 10, 18, rfl, rfl, ⟨by decide, by decide, by decide⟩, _, _, rfl, rfl, _, rfl, ite2 (fun e3 => ?_) (fun e3 => ?_)⟩
        · refine ⟨_, rfl, _, rfl, _, rfl, _, _, rfl, rfl, ⟨p0, p1⟩, _, rfl, d, _, rfl, dp_left hd1, ?_⟩
          refine ⟨_, rfl, _, rfl, _, rfl, _, _, rfl, rfl, p0, ?_⟩
          rw [abs_eq]
          refine q _ _ (Int.emod_nonneg _ (by omega)) (Int.emod_lt_of_pos _ p0) ⟨sq_but But.upd hd1 hS1, n + 1, _, upd_same, by omega, by omega, Int.ediv_nonneg (Int.natCast_nonneg _) (by omega)⟩ (But.trans But.upd But.upd)
        · refine ⟨_, rfl, _, _, rfl, rfl, p629, _, rfl, _, _, rfl, rfl, .inl ⟨by decide, by decide⟩, _, _, rfl, rfl, _, _, rfl, rfl, _, _, rfl, rfl, .inr ⟨by decide, by decide⟩, _, _, rfl, rfl, p587, ?_⟩
          refine ⟨_, rfl, _, rfl, _, _, rfl, rfl, .inl ?_, _, rfl, _, _, rfl, rfl, .inl ⟨by decide, by decide⟩, _, _, rfl, rfl, _, rfl, _, _, rfl, rfl, _, _, rfl, rfl, p563, ?_⟩
          · have h1 := Int.emod_nonneg ((z % 2147483629 + 40993 * n + 5) * 48271) (show (2147483587 : Int) ≠ 0 by decide)
            have h2 := Int.emod_lt_of_pos ((z % 2147483629 + 40993 * n + 5) * 48271) (show (0 : Int) < 2147483587 by decide)
            omega
          · refine ⟨_, rfl, _, _, rfl, rfl, ⟨by decide, by decide⟩, _, rfl, _, _, rfl, rfl, p0, ?_⟩
            exact q _ _ (fin z).1 (fin z).2 hP1 But.upd
      · refine ⟨_, rfl, _, _, rfl, rfl, p629, _, rfl, _, _, rfl, rfl, .inl ⟨by decide, by decide⟩, _, _, rfl, rfl, _, _, rfl, rfl, _, _, rfl, rfl, .inr ⟨by decide, by decide⟩, _, _, rfl, rfl, p587, ?_⟩
        refine ⟨_, rfl, _, rfl, _, _, rfl, rfl, .inl ?_, _, rfl, _, _, rfl, rfl, .inl ⟨by decide, by decide⟩, _, _, rfl, rfl, _, rfl, _, _, rfl, rfl, _, _, rfl, rfl, p563, ?_⟩
        · have h1 := Int.emod_nonneg ((z % 2147483629 + 40993 * n + 5) * 48271) (show (2147483587 : Int) ≠ 0 by decide)
          have h2 := Int.emod_lt_of_pos ((z % 2147483629 + 40993 * n + 5) * 48271) (show (0 : Int) < 2147483587 by decide)
          omega
        · refine ⟨_, rfl, _, _, rfl, rfl, ⟨by decide, by decide⟩, _, rfl, _, _, rfl, rfl, p0, ?_⟩
          exact q _ _ (fin z).1 (fin z).2 hP1 But.upd
    · refine ⟨_, rfl, _, _, rfl, rfl, p629, _, rfl, _, _, rfl, rfl, .inl ⟨by decide, by decide⟩, _, _, rfl, rfl, _, _, rfl, rfl, _, _, rfl, rfl, .inr ⟨by decide, by decide⟩, _, _, rfl, rfl, p587, ?_⟩
      refine ⟨_, rfl, _, rfl, _, _, rfl, rfl, .inl ?_, _, rfl, _, _, rfl, rfl, .inl ⟨by decide, by decide⟩, _, _, rfl, rfl, _, rfl, _, _, rfl, rfl, _, _, rfl, rfl, p563, ?_⟩
      · have h1 := Int.emod_nonneg (((70003 * n * n + 19 * n + 11) % 2147483629 + 40993 * n + 5) * 48271) (show (2147483587 : Int) ≠ 0 by decide)
        have h2 := Int.emod_lt_of_pos (((70003 * n * n + 19 * n + 11) % 2147483629 + 40993 * n + 5) * 48271) (show (0 : Int) < 2147483587 by decide)
        omega
      · refine ⟨_, rfl, _, _, rfl, rfl, ⟨by decide, by decide⟩, _, rfl, _, _, rfl, rfl, p0, ?_⟩
        exact q _ _ (fin (70003 * n * n + 19 * n + 11)).1 (fin (70003 * n * n + 19 * n + 11)).2 hP1 But.upd

def rRound (K : PySem.W.Frag) : V → Hp → VK → Prop := fun p H Q => ∃ (d a : Addr) (ns : List Int) (c : Int), p = .ref d ∧ Pen K H d a ns c ∧ c + 2 ≤ 1000000 ∧ ∀ r H', 1 ≤ r → r ≤ 1000000 → Pen K H' d a ns (c + 2) → But d H H' → Q (.int r) H'
theorem pen_at3 {H : Hp} {d a : Addr} {ns : List Int} {c : Int} (p : Pen K H d a ns c) : ∃ kvs, H d = some (.dK kvs) := by
  obtain ⟨_, n, m, h, _⟩ := p
  exact ⟨_, h⟩
theorem cell_in {ns : List Int} {i : Int} (h0 : 0 ≤ i) (h1 : i < (ns.length : Int)) : ∃ z, z ∈ ns ∧ atI (ns.map V.int) i = some (.int z) := by
  obtain ⟨n, rfl⟩ : ∃ n : Nat, i = n := ⟨i.toNat, by omega⟩
  have hn : n < ns.length := by omega
  refine ⟨ns[n], List.getElem_mem hn, atI_nat (j := n) ?_⟩
  rw [List.getElem?_map, List.getElem?_eq_getElem hn]
  rfl
theorem ok_law_round (T : Txt K mg) : Fn P w K mg base 2 "_law_round" ["_law_pen_here"] (sp1 (rRound K)) := by
  have G_law_draw := ok_law_draw (P := P) (w := w) (base := base) T
  refine T.d_law_round.ok sc_law_round len1 fun f cdv A outer s H vs Q E hr hg h => ?_
  obtain ⟨_, rfl, d, a, ns, c, rfl, hp, hc, q⟩ := h
  refine ⟨_, (pss_cons (ps_set (i := 1) sc_law_round.nd rfl (by first | exact Or.inl rfl | exact Or.inr rfl) (pe_fn G_law_draw (hr.mono (by decide)) hg (by rfl) (pa_cons (pv 0) (pa_cons pe_int pa_nil))))
(pss_cons (ps_if (pt_cmpR op_eq (pv 1) pe_int (nomark _))
(pss_one (ps_ret pe_int))
pss_nil)
(pss_cons (ps_if (pt_cmpR op_eq (pv 1) pe_int (nomark _))
(pss_one (ps_ret (pe_op op_sub (pe_op op_pow pe_int pe_int) (pe_fn G_law_draw (hr.mono (by decide)) hg (by rfl) (pa_cons (pv 0) (pa_cons pe_int pa_nil))))))
pss_nil)
(pss_cons (ps_if (pt_cmpR op_eq (pv 1) pe_int (nomark _))
(pss_one (ps_ret (pe_op op_add pe_int (pe_fn G_law_draw (hr.mono (by decide)) hg (by rfl) (pa_cons (pv 0) (pa_cons (pe_op op_pow pe_int pe_int) pa_nil))))))
pss_nil)
(pss_cons (ps_if (pt_cmpR op_eq (pv 1) pe_int (nomark _))
(pss_one (ps_ret (pe_ix (ixT_K (K := K) rfl) (pe_tup (pa_cons pe_int (pa_cons pe_int (pa_cons pe_int (pa_cons pe_int (pa_cons pe_int (pa_cons pe_int (pa_cons pe_int (pa_cons pe_int (pa_cons pe_int (pa_cons pe_int (pa_cons pe_int pa_nil)))))))))))) (pe_fn G_law_draw (hr.mono (by decide)) hg (by rfl) (pa_cons (pv 0) (pa_cons pe_int pa_nil))) (fun _ _ => rfl))))
pss_nil)
(pss_one (ps_ret (pe_op op_add pe_int (pe_fn G_law_draw (hr.mono (by decide)) hg (by rfl) (pa_cons (pv 0) (pa_cons pe_int pa_nil))))))))))), ?_⟩
  refine ⟨_, rfl, _, _, rfl, d, a, ns, c, _, rfl, rfl, hp, by decide, by decide, by omega, fun way H1 w0 w1 hp1 b1 => ?_⟩
  have e6 : (10 : Int) ^ (6 : Int).toNat = 1000000 := by decide
  refine ⟨_, rfl, rfl, _, rfl, ite2 (fun e1 => ?_) (fun e1 => ?_)⟩
  · exact q _ _ (by decide) (by decide) (hp1.mono (by omega)) b1
  refine ⟨_, rfl, rfl, _, rfl, ite2 (fun e2 => ?_) (fun e2 => ?_)⟩
  · refine ⟨10, 6, rfl, rfl, ⟨by decide, by decide, by decide⟩, _, rfl, _, _, rfl, d, a, ns, _, _, rfl, rfl, hp1, by decide, by decide, by omega, fun x H2 x0 x1 hp2 b2 => ?_⟩
    refine ⟨_, _, rfl, rfl, ?_⟩
    exact q _ _ (by rw [e6]; omega) (by rw [e6]; omega) (hp2.mono (by omega)) (b1.trans b2)
  refine ⟨_, rfl, rfl, _, rfl, ite2 (fun e3 => ?_) (fun e3 => ?_)⟩
  · refine ⟨_, rfl, 10, 6, rfl, rfl, ⟨by decide, by decide, by decide⟩, _, _, rfl, d, a, ns, _, _, rfl, rfl, hp1, by decide, by decide, by omega, fun x H2 x0 x1 hp2 b2 => ?_⟩
    rw [e6] at x1
    refine ⟨_, _, rfl, rfl, ?_⟩
    exact q _ _ (by omega) (by omega) (hp2.mono (by omega)) (b1.trans b2)
  refine ⟨_, rfl, rfl, _, rfl, ite2 (fun e4 => ?_) (fun e4 => ?_)⟩
  · refine ⟨(by show 11 ≤ sizeLine; decide), fun t ht => ?_⟩
    have hp2 := hp1.same (same_new (o := .tup [.int 2, .int 4, .int 8, .int 16, .int 524288, .int 3, .int 9, .int 27, .int 5, .int 25, .int 994009]) ht)
    refine ⟨_, rfl, _, _, rfl, d, a, ns, _, _, rfl, rfl, hp2, by decide, by decide, by omega, fun x H2 x0 x1 hp3 b2 => ?_⟩
    obtain ⟨kvs, hdd⟩ := pen_at3 hp1
    have ht2 := b2 t _ (ne_of_none hdd ht).symm upd_same
    obtain ⟨z, hz, hat⟩ := cell_in (ns := [2, 4, 8, 16, 524288, 3, 9, 27, 5, 25, 994009]) x0 x1
    refine ⟨t, _, _, _, rfl, rfl, SqT.of ht2, hat, ?_⟩
    have hz2 : 1 ≤ z ∧ z ≤ 1000000 := by
      simp only [List.mem_cons, List.not_mem_nil, or_false] at hz
      omega
    exact q _ _ hz2.1 hz2.2 (hp3.mono (by omega)) ((b1.trans (But.new ht)).trans b2)
  · refine ⟨_, rfl, _, _, rfl, d, a, ns, _, _, rfl, rfl, hp1, by decide, by decide, by omega, fun x H2 x0 x1 hp2 b2 => ?_⟩
    refine ⟨_, _, rfl, rfl, ?_⟩
    exact q _ _ (by omega) (by omega) (hp2.mono (by omega)) (b1.trans b2)

theorem but_up {p D : Addr} {H H' : Hp} {o : HO} (b : But p H H') (n : H D = none) : But p H (upd H' D o) := fun c u hc e => by
  rw [upd_ne (ne_of_none e n)]
  exact b c u hc e
theorem pen_up {H1 H2 : Hp} {d a D : Addr} {ns : List Int} {c c1 : Int} {o : HO} (p1 : Pen K H1 d a ns c1) (b : But d H1 H2) (p : Pen K H2 d a ns c) (n : H1 D = none) : Pen K (upd H2 D o) d a ns c := by
  obtain ⟨s1, n1, m1, h1, _⟩ := p1
  obtain ⟨_, n2, m2, h2, r⟩ := p
  exact ⟨sq_but (but_up b n) h1 s1, n2, m2, by rw [upd_ne (ne_of_none h1 n)]; exact h2, r⟩
def rHouse (K : PySem.W.Frag) : V → Hp → VK → Prop := fun p H Q => ∃ (d a : Addr) (ns : List Int) (c : Int), p = .ref d ∧ Pen K H d a ns c ∧ c + 13 ≤ 1000000 ∧
  ∀ b H' (hs : List Int), H' b = some (.tup (hs.map V.int)) → hs.length ≤ 6 → (∀ x ∈ hs, 1 ≤ x ∧ x ≤ 1000000) → Pen K H' d a ns (c + 13) → But d H H' → Q (.ref b) H'
theorem ok_law_house (T : Txt K mg) : Fn P w K mg base 3 "_law_house" ["_law_pen_here"] (sp1 (rHouse K)) := by
  have G_law_draw := ok_law_draw (P := P) (w := w) (base := base) T
  have G_law_round := ok_law_round (P := P) (w := w) (base := base) T
  refine T.d_law_house.ok sc_law_house len1 fun f cdv A outer s H vs Q E hr hg h => ?_
  obtain ⟨_, rfl, d, a, ns, c, rfl, hp, hc, q⟩ := h
  refine ⟨_, (pss_one (ps_ret (pe_callTy (tupOf_K (K := K) rfl) (by rfl) T.n_tuple (by decide +kernel) (pa_cons (pe_lc (own := [("_law_k", 1)]) rfl sc_law_house.nd (pi_range1 (by rfl) T.n_range (pa_cons (pe_fn G_law_draw (hr.mono (by decide)) hg (by rfl) (pa_cons (pv 0) (pa_cons pe_int pa_nil))) pa_nil)) (blkOk_by (own := [("_law_k", 1)]) (N := N_law_house) (sc := defScope s_law_house) (by decide +kernel)) (fun _ _ _ _ _ => (pg_name (i := 1) sc_law_house.nd rfl (by first | exact Or.inl rfl | exact Or.inr rfl))) (fun _ _ _ _ _ => pts_nil) (fun _ _ _ _ _ => (pe_fn G_law_round (hr.mono (by decide)) hg (by rfl) (pa_cons (pv 0) pa_nil)))) pa_nil)))), ?_⟩
  refine ⟨_, rfl, _, _, rfl, d, a, ns, c, _, rfl, rfl, hp, by decide, by decide, by omega, fun n H1 n0 n1 hp1 b1 => ?_⟩
  obtain ⟨n, rfl⟩ : ∃ m : Nat, n = m := ⟨n.toNat, by omega⟩
  refine ⟨_, rfl, by omega, by omega, fun D nD => lc_range (lo := 0) (n := n) (fun i H' => Pen K H' d a ns (c + 1 + 2 * i) ∧ But d H1 H' ∧ ∃ hs : List Int, H' D = some (.lst (hs.map V.int)) ∧ hs.length = i ∧ ∀ x ∈ hs, 1 ≤ x ∧ x ≤ 1000000)
    ⟨by simpa using pen_up hp1 (But.refl d H1) hp1 nD, But.new nD, [], upd_same, rfl, by simp⟩ ?_ ?_⟩
  · rintro i H2 hi ⟨hp2, b2, hs, hD, hl, hx⟩
    obtain ⟨kvs, hdd⟩ := pen_at3 hp1
    have nDd : D ≠ d := (ne_of_none hdd nD).symm
    refine ⟨rfl, _, rfl, _, rfl, d, a, ns, _, rfl, hp2, by omega, fun r H3 r1 r2 hp3 b3 => ?_⟩
    refine ⟨_, b3 _ _ nDd hD, ?_, ?_, but_up (b2.trans b3) nD, hs ++ [r], ?_, ?_, ?_⟩
    · rw [List.length_map]
      exact small1000 (by omega)
    · have ec : c + 1 + 2 * ((i + 1 : Nat) : Int) = c + 1 + 2 * i + 2 := by omega
      rw [ec]
      exact pen_up hp1 (b2.trans b3) hp3 nD
    · rw [upd_same, List.map_append]
      rfl
    · rw [List.length_append, hl]
      rfl
    · intro x hx2
      rcases List.mem_append.mp hx2 with e | e
      · exact hx x e
      · rw [List.mem_singleton.mp e]
        exact ⟨r1, r2⟩
  · rintro H2 ⟨hp2, b2, hs, hD, hl, hx⟩
    refine ⟨D, _, rfl, .inl ⟨SqL.of hD, fun R nR => ?_⟩⟩
    exact q R _ hs upd_same (by omega) hx ((hp2.same (same_new nR)).mono (by omega)) ((b1.trans b2).trans (But.new nR))

theorem dep_ok {k : Nat} {A : Around} (hr : Room k A) : A.depth + 1 < recursionLimit := by
  have := hr.dp
  omega
theorem whole_t (T : Txt K mg) : ∃ f fd a1 a2 a3 a4 b1 b2 b3 b4 c1 c2 c3, WholeT K mg f fd s_is_whole a1 a2 a3 a4 b1 b2 b3 b4 c1 c2 c3 := by
  obtain ⟨f, fd, F, hm, hb⟩ := T.d_is_whole
  exact ⟨f, fd, _, _, _, _, _, _, _, _, _, _, _, F, sc_is_whole, hm, hb, rfl, rfl, rfl, rfl, rfl, T.n_isinstance, T.n_int, T.n_bool⟩
theorem gens2_mk {env : Env} {scope : Scope} {x y : Str} (kd : scope.kind = .function) (co : scope.isCoroutine = false) (h : scope.names.all (fun y => y.2 != .cell && y.2 != .free) = true) (dot : scope.names.lookup (".0" : Str) = some NameKind.local) (lx : scope.names.lookup x = some .local) (ly : scope.names.lookup y = some .local) (ne : x ≠ y) : GenS2 env scope x y := by
  have each : ∀ y ∈ scope.names, y.2 ≠ .cell ∧ y.2 ≠ .free := fun y hy => by
    have := List.all_eq_true.mp h y hy
    simp only [Bool.and_eq_true, bne_iff_ne] at this
    exact this
  exact ⟨kd, co, fun y hy => (each y hy).1, dot, lx, ly, ne, fun y hy z => absurd z (each y hy).2⟩
def thingO (hs : List Int) : Option (List Kd) → Bool
  | none => false
  | some ks => decide (ks.length = hs.length) && (List.zipWith (fun k l => wholeK k && ltK k l) ks hs).all id
def rIsThing (B : Addr) : V → V → Hp → VK → Prop := fun x y H Q => ∃ (b : Addr) (hs : List Int) (o : Option (List Kd)), x = .ref b ∧ H b = some (.tup (hs.map V.int)) ∧ KsOf H y o ∧ TabG H B ∧ ∀ H', Tabbed B H H' → Q (.bl (thingO hs o)) H'
theorem ok_is_thing {c B : Addr} (T : Txt K mg) (DC : DfC K mg "is_thing" s_is_thing ["house", "thing"] c) (TB : TabB base mg c B) : Fn P w K mg base 3 "is_thing" ["house", "thing"] (sp2 (rIsThing B)) := by
  obtain ⟨fw, fdw, _, _, _, _, _, _, _, _, _, _, _, W⟩ := whole_t T
  refine DC.ok sc_is_thing len2 fun f A outer s H vs Q E hr hg h => ?_
  obtain ⟨_, _, rfl, b, hs, o, rfl, hb, hk, tab, q⟩ := h
  refine ⟨_, (pss_cons (ps_if (PW.pt (pw_or (pt_not (pt_val (pe_callB (isi_K (K := K) rfl) (by rfl) T.n_isinstance (by decide +kernel) (pa_cons (pv 1) (pa_cons (pe_bltn (v := .ty "tuple") (by rfl) T.n_tuple (by decide +kernel) rfl) pa_nil))))) (pw_or1 (pt_cmpR op_ne (pe_callB (len_K (K := K) rfl) (by rfl) T.n_len (by decide +kernel) (pa_cons (pv 1) pa_nil)) (pe_callB (len_K (K := K) rfl) (by rfl) T.n_len (by decide +kernel) (pa_cons (pv 0) pa_nil)) (nomark _)))))
(pss_one (ps_ret pe_bl))
pss_nil)
(pss_one (ps_ret (pe_allZ (c := c) (B := B) hr (by rfl) T.n_all TB rfl (gens2_mk rfl rfl (by decide +kernel) rfl rfl rfl (by decide)) (by rfl) T.n_zip (pa_cons (pv 1) (pa_cons (pv 0) pa_nil)) (fun M => elt_lim W M (dep_ok hr) rfl rfl rfl rfl rfl rfl) (fun _ => rfl))))), ?_⟩
  cases o with
  | none =>
    obtain ⟨k, hk, hn⟩ := hk
    exact ⟨_, rfl, _, _, _, _, false, rfl, .ty "tuple", hk.ty, kit_ty (by rw [kit_tup, hn]), false, rfl, iteT (q _ ⟨tab, fun _ _ => rfl⟩)⟩
  | some ks =>
    obtain ⟨a, xs, rfl, ha, hp⟩ := hk
    have hl : xs.length = ks.length := Paired.length hp
    refine ⟨_, rfl, _, _, _, _, true, rfl, .ty "tuple", (HasK.tup ha).ty, kit_ty (kit_tup (.tup xs)), true, rfl, iteF ?_⟩
    refine ⟨_, rfl, a, xs, rfl, .inr (SqT.of ha), _, rfl, b, _, rfl, .inr (SqT.of hb), rfl, _, rfl, ite2 (fun e => ?_) (fun e => ?_)⟩
    · have := q _ ⟨tab, fun _ _ => rfl⟩
      have ez : thingO hs (some ks) = false := by
        show (decide (ks.length = hs.length) && _) = false
        rw [decide_eq_false (fun z => ?_)]
        · rfl
        · have n := ne_yes e
          rw [List.length_map] at n
          omega
      rw [ez] at this
      exact this
    · refine ⟨_, rfl, _, rfl, a, b, xs, ks, hs, rfl, SqT.of ha, SqT.of hb, hp, tab, fun H' t => ?_⟩
      have := q _ t
      have ez : thingO hs (some ks) = (List.zipWith (fun k l => wholeK k && ltK k l) ks hs).all id := by
        show (decide (ks.length = hs.length) && _) = _
        have n := ne_no e
        rw [List.length_map] at n
        rw [decide_eq_true (by omega)]
        rfl
      rw [ez] at this
      exact this
/-! ### heaps, the state -/
theorem ext_but {H H' : Hp} {d a : Addr} {ns : List Int} {c c' : Int} (p : Pen K H d a ns c) (p' : Pen K H' d a ns c') (b : But d H H') : Ext H H' := by
  obtain ⟨_, n, m, h1, _⟩ := p
  obtain ⟨_, n', m', h2, _⟩ := p'
  refine ⟨fun x xs e => b _ _ (ne_of e h1 (by intro z; cases z)) e, fun x xs e => ⟨xs, b _ _ (ne_of e h1 (by intro z; cases z)) e⟩, fun x kvs e => ?_⟩
  by_cases hx : x = d
  · exact ⟨_, by rw [hx]; exact h2⟩
  · exact ⟨kvs, b _ _ hx e⟩
theorem ext_tab {H H' : Hp} {B : Addr} (t : TabG H B) (u : Tabbed B H H') : Ext H H' := by
  obtain ⟨ps, e, _⟩ := t
  refine ⟨fun x xs h => ?_, fun x xs h => ⟨xs, ?_⟩, fun x kvs h => ⟨kvs, ?_⟩⟩
  · rw [u.2 x (ne_of h e (by intro z; cases z))]; exact h
  · rw [u.2 x (ne_of h e (by intro z; cases z))]; exact h
  · rw [u.2 x (ne_of h e (by intro z; cases z))]; exact h
theorem tab_same {H H' : Hp} {B : Addr} (t : TabG H B) (s : Same H H') : TabG H' B := let ⟨ps, e, o⟩ := t; ⟨ps, s _ _ e, o⟩
theorem tab_but {H H' : Hp} {B d a : Addr} {ns : List Int} {c : Int} (p : Pen K H d a ns c) (t : TabG H B) (s : But d H H') : TabG H' B := by
  obtain ⟨ps, e, o⟩ := t
  obtain ⟨_, n, m, h1, _⟩ := p
  exact ⟨ps, s _ _ (ne_of e h1 (by intro z; cases z)) e, o⟩
theorem pen_tab {H H' : Hp} {B d a : Addr} {ns : List Int} {c : Int} (p : Pen K H d a ns c) (t : TabG H B) (u : Tabbed B H H') : Pen K H' d a ns c := by
  obtain ⟨ps, e, o⟩ := t
  obtain ⟨s, n, m, h1, r⟩ := p
  refine ⟨?_, n, m, by rw [u.2 d (ne_of h1 e (by intro z; cases z))]; exact h1, r⟩
  rcases s with (s | ⟨o, s⟩) | s
  · exact .inl (.inl (by rw [u.2 _ (ne_of s e (by intro z; cases z))]; exact s))
  · exact .inl (.inr ⟨o, by rw [u.2 _ (ne_of s e (by intro z; cases z))]; exact s⟩)
  · exact .inr s
theorem paired_snoc {α β : Type} {R : α → β → Prop} {a : α} {b : β} (hr : R a b) : ∀ {l : List α} {m : List β}, Paired R l m → Paired R (l ++ [a]) (m ++ [b])
  | _, _, .nil => .cons hr .nil
  | _, _, .cons h t => .cons h (paired_snoc hr t)
theorem take_snoc {α : Type} {l : List α} {i : Nat} {x : α} (h : l[i]? = some x) : l.take (i + 1) = l.take i ++ [x] := by
  rw [List.take_succ, h]
  rfl
/-! ### a drawn thing -/
def rThing (K : PySem.W.Frag) : V → V → Hp → VK → Prop := fun p x H Q => ∃ (d a : Addr) (ns : List Int) (c : Int) (b : Addr) (hs : List Int), p = .ref d ∧ x = .ref b ∧ Pen K H d a ns c ∧ c + 12 ≤ 1000000 ∧ H b = some (.tup (hs.map V.int)) ∧ hs.length ≤ 6 ∧ (∀ x ∈ hs, 1 ≤ x ∧ x ≤ 1000000) ∧
  ∀ r H' (ts : List Int), H' r = some (.tup (ts.map V.int)) → Tg hs ts → Pen K H' d a ns (c + 12) → But d H H' → Q (.ref r) H'
theorem ok_law_thing (T : Txt K mg) : Fn P w K mg base 2 "_law_thing" ["_law_pen_here", "_law_house_here"] (sp2 (rThing K)) := by
  have G_law_draw := ok_law_draw (P := P) (w := w) (base := base) T
  refine T.d_law_thing.ok sc_law_thing len2 fun f cdv A outer s H vs Q E hr hg h => ?_
  obtain ⟨_, _, rfl, d, a, ns, c, b, hs, rfl, rfl, hp, hc, hb, h6, hx, q⟩ := h
  refine ⟨_, (pss_cons (ps_set (i := 2) sc_law_thing.nd rfl (by first | exact Or.inl rfl | exact Or.inr rfl) (pe_lst pa_nil))
(pss_cons (ps_for PassesOwn.never rfl (piT_K (K := K) rfl (pv 1)) (pg_name (i := 3) sc_law_thing.nd rfl (by first | exact Or.inl rfl | exact Or.inr rfl))
(pss_cons (ps_set (i := 4) sc_law_thing.nd rfl (by first | exact Or.inl rfl | exact Or.inr rfl) (pe_fn G_law_draw (hr.mono (by decide)) hg (by rfl) (pa_cons (pv 0) (pa_cons pe_int pa_nil))))
(pss_cons (ps_set (i := 5) sc_law_thing.nd rfl (by first | exact Or.inl rfl | exact Or.inr rfl) (pe_fn G_law_draw (hr.mono (by decide)) hg (by rfl) (pa_cons (pv 0) (pa_cons (pv 3) pa_nil))))
(pss_cons (ps_if (pt_cmpR op_lt (pv 4) pe_int (nomark _))
(pss_one (ps_set (i := 5) sc_law_thing.nd rfl (by first | exact Or.inl rfl | exact Or.inr rfl) (pe_ix (ixT_K (K := K) rfl) (pe_tup (pa_cons pe_int (pa_cons (pe_op op_sub (pv 3) pe_int) pa_nil))) (pv 4) (fun _ _ => rfl))))
pss_nil)
(pss_one (ps_expr (pe_bm PySem.F.plainAttrs_list PySem.F.slot_list_append PySem.F.type_list_append mt_append (pv 2) (pa_cons (pv 5) pa_nil))))))))
(pss_one (ps_ret (pe_callTy (tupOf_K (K := K) rfl) (by rfl) T.n_tuple (by decide +kernel) (pa_cons (pv 2) pa_nil)))))), ?_⟩
  refine ⟨Nat.zero_le _, fun D nD => ?_⟩
  obtain ⟨kv1, hd1⟩ := pen_at3 hp
  have nDd : D ≠ d := (ne_of_none hd1 nD).symm
  have hbt : ∀ {H' : Hp}, But d H H' → H' b = some (.tup (hs.map V.int)) := fun bb => bb _ _ (ne_of hb hd1 (by intro z; cases z)) hb
  refine ⟨_, rfl, b, rfl, ⟨_, SqT.of (hbt (But.new nD))⟩, for_tup (K := K) (a := b) (xs := hs.map V.int) (fun i σ H' => ∃ o3 o4 o5 : Option V, σ = [some (.ref d), some (.ref b), some (.ref D), o3, o4, o5] ∧ Pen K H' d a ns (c + 2 * i) ∧ But d H H' ∧ ∃ ts : List Int, H' D = some (.lst (ts.map V.int)) ∧ Tg (hs.take i) ts)
    ⟨none, none, none, rfl, by simpa using pen_up hp (But.refl d H) hp nD, But.new nD, [], upd_same, .nil⟩ (fun i σ H' _ ⟨_, _, _, _, _, bb, _⟩ => SqT.of (hbt bb)) ?_ ?_⟩
  · rintro i x σ H2 hi ⟨o3, o4, o5, rfl, hp2, b2, ts, hD, tg⟩
    have hil : i < hs.length := by
      have := (List.getElem?_eq_some_iff.mp hi).1
      simpa using this
    rw [List.getElem?_map] at hi
    obtain ⟨h0, hy, rfl⟩ := Option.map_eq_some_iff.mp hi
    have hm := hx h0 (List.mem_of_getElem? hy)
    have tl : ts.length = i := by
      have := Paired.length tg
      rw [List.length_take] at this
      omega
    refine ⟨_, rfl, _, _, rfl, d, a, ns, _, _, rfl, rfl, hp2, by decide, by decide, by omega, fun way H3 w0 w1 hp3 b3 => ?_⟩
    refine ⟨_, rfl, _, rfl, _, _, rfl, d, a, ns, _, _, rfl, rfl, hp3, by omega, by omega, by omega, fun num H4 n0 n1 hp4 b4 => ?_⟩
    have hD4 := b4 _ _ nDd (b3 _ _ nDd hD)
    have b04 := (b2.trans b3).trans b4
    have app : ∀ (v : Int) (H5 : Hp), 0 ≤ v → v < h0 → H5 D = some (.lst (ts.map V.int)) → Pen K H5 d a ns (c + 2 * i + 1 + 1) → But d H H5 →
        (ts.map V.int).length < sizeLine ∧ (∃ o3 o4 o5 : Option V, [some (V.ref d), some (V.ref b), some (V.ref D), some (V.int h0), some (V.int way), some (V.int v)] = [some (.ref d), some (.ref b), some (.ref D), o3, o4, o5] ∧ Pen K (upd H5 D (.lst (ts.map V.int ++ [.int v]))) d a ns (c + 2 * ((i + 1 : Nat) : Int)) ∧ But d H (upd H5 D (.lst (ts.map V.int ++ [.int v]))) ∧ ∃ ts' : List Int, (upd H5 D (.lst (ts.map V.int ++ [.int v]))) D = some (.lst (ts'.map V.int)) ∧ Tg (hs.take (i + 1)) ts') := by
      intro v H5 v0 v1 hD5 hp5 b5
      refine ⟨by rw [List.length_map]; exact small1000 (by omega), _, _, _, rfl, (pen_up hp b5 hp5 nD).mono (by omega), but_up b5 nD, ts ++ [v], ?_, ?_⟩
      · rw [upd_same, List.map_append]
        rfl
      · rw [take_snoc hy]
        exact paired_snoc ⟨v0, v1⟩ tg
    refine ⟨_, rfl, _, _, rfl, rfl, _, rfl, ite2 (fun e => ?_) (fun e => ?_)⟩
    · have w2 : way < 2 := of_decide_eq_true e
      refine ⟨_, rfl, _, _, rfl, rfl, (by show 2 ≤ sizeLine; decide), fun t ht => ?_⟩
      obtain ⟨v, hv, hat⟩ := cell_in (ns := [0, h0 - 1]) (i := way) w0 w2
      refine ⟨_, rfl, t, _, _, _, rfl, rfl, SqT.of upd_same, hat, ?_⟩
      have hv2 : 0 ≤ v ∧ v < h0 := by
        simp only [List.mem_cons, List.not_mem_nil, or_false] at hv
        omega
      have s5 := same_new (H := H4) (o := .tup [.int 0, .int (h0 - 1)]) ht
      have A := app v _ hv2.1 hv2.2 (s5 _ _ hD4) (hp4.same s5) (b04.trans (But.same s5))
      exact ⟨_, rfl, .inl ⟨rfl, _, SqL.of (s5 _ _ hD4)⟩, _, rfl, D, _, _, rfl, rfl, s5 _ _ hD4, A.1, A.2⟩
    · have A := app num _ n0 n1 hD4 hp4 b04
      exact ⟨_, rfl, .inl ⟨rfl, _, SqL.of hD4⟩, _, rfl, D, _, _, rfl, rfl, hD4, A.1, A.2⟩
  · rintro σ H2 ⟨o3, o4, o5, rfl, hp2, b2, ts, hD, tg⟩
    rw [List.length_map] at hp2
    rw [List.length_map, List.take_length] at tg
    refine ⟨_, rfl, D, _, rfl, .inl ⟨SqL.of hD, fun R nR => ?_⟩⟩
    exact q R _ ts upd_same tg ((hp2.same (same_new nR)).mono (by omega)) (b2.trans (But.new nR))
theorem ks_ints {H : Hp} : ∀ l : List Int, Paired (HasK H) (l.map V.int) (l.map Kd.int)
  | [] => .nil
  | x :: r => .cons (.int x) (ks_ints r)
theorem thing_yes : ∀ {hs ts : List Int}, Tg hs ts → thingO hs (some (ts.map Kd.int)) = true := by
  have go : ∀ {hs ts : List Int}, Tg hs ts → (List.zipWith (fun k l => wholeK k && ltK k l) (ts.map Kd.int) hs).all id = true := by
    intro hs ts h
    induction h with
    | nil => rfl
    | @cons x y l m h t ih =>
      rw [List.map_cons, List.zipWith_cons_cons, List.all_cons, ih, Bool.and_true]
      show (true && (decide (0 ≤ y) && decide (y < x))) = true
      rw [decide_eq_true h.1, decide_eq_true h.2]
      rfl
  intro hs ts h
  show (decide ((ts.map Kd.int).length = hs.length) && _) = true
  rw [go h, List.length_map, decide_eq_true (Paired.length h).symm]
  rfl
/-! ### heaps where the table alone may change -/
theorem tup_but {H H' : Hp} {B x : Addr} {xs : List V} (t : TabG H B) (b : But B H H') (h : H x = some (.tup xs)) : H' x = some (.tup xs) := by
  obtain ⟨ps, e, _⟩ := t
  exact b _ _ (ne_of h e (by intro z; cases z)) h
theorem pen_butB {H H' : Hp} {B d a : Addr} {ns : List Int} {c : Int} (p : Pen K H d a ns c) (t : TabG H B) (b : But B H H') : Pen K H' d a ns c := by
  obtain ⟨ps, e, o⟩ := t
  obtain ⟨s, n, m, h1, r⟩ := p
  refine ⟨?_, n, m, b _ _ (ne_of h1 e (by intro z; cases z)) h1, r⟩
  rcases s with (s | ⟨o, s⟩) | s
  · exact .inl (.inl (b _ _ (ne_of s e (by intro z; cases z)) s))
  · exact .inl (.inr ⟨o, b _ _ (ne_of s e (by intro z; cases z)) s⟩)
  · exact .inr s
theorem but_tab {H H' : Hp} {B : Addr} (u : Tabbed B H H') : But B H H' := fun b o n e => by
  rw [u.2 b n]
  exact e
/-! ### need_thing, left_by, sums -/
def rNeed (B : Addr) : V → V → Hp → VK → Prop := fun x y H Q => ∃ (b : Addr) (hs : List Int) (a : Addr) (ts : List Int), x = .ref b ∧ y = .ref a ∧ H b = some (.tup (hs.map V.int)) ∧ H a = some (.tup (ts.map V.int)) ∧ Tg hs ts ∧ TabG H B ∧ ∀ H', But B H H' → TabG H' B → Q .non H'
theorem ok_need_thing {c B : Addr} (T : Txt K mg) (DC : DfC K mg "is_thing" s_is_thing ["house", "thing"] c) (TB : TabB base mg c B) : Fn P w K mg base 4 "need_thing" ["house", "thing"] (sp2 (rNeed B)) := by
  have G_is_thing := ok_is_thing (P := P) (w := w) (base := base) T DC TB
  refine T.d_need_thing.ok sc_need_thing len2 fun f cdv A outer s H vs Q E hr hg h => ?_
  obtain ⟨_, _, rfl, b, hs, a, ts, rfl, rfl, hb, ha, tg, tab, q⟩ := h
  refine ⟨_, (pss_one (ps_if (pt_not (pt_val (pe_fn G_is_thing (hr.mono (by decide)) hg (by rfl) (pa_cons (pv 0) (pa_cons (pv 1) pa_nil)))))
(pss_one ps_dead)
pss_nil)), ?_⟩
  refine ⟨_, rfl, _, rfl, _, _, rfl, b, hs, some _, rfl, hb, ⟨a, _, rfl, ha, ks_ints ts⟩, tab, fun H' t => ?_⟩
  rw [thing_yes tg]
  exact ⟨true, rfl, iteF (q _ (but_tab t) t.1)⟩

/-! ### common measures and multiples -/
def rCm : V → V → Hp → VK → Prop := fun x y H Q => ∃ i j : Int, x = .int i ∧ y = .int j ∧ Q (.int ((Int.gcd i j : Nat) : Int)) H
theorem ok_common_measure (T : Txt K mg) : Fn P w K mg base 1 "common_measure" ["a", "b"] (sp2 rCm) := by
  refine T.d_common_measure.ok sc_common_measure len2 fun f cdv A outer s H vs Q E hr hg h => ?_
  obtain ⟨_, _, rfl, i, j, rfl, rfl, q⟩ := h
  refine ⟨_, (pss_cons (ps_while PassesOwn.never (pt_cmpR op_ne (pv 1) pe_int (nomark _))
(pss_one (ps_par (i := 0) (j := 1) (by rfl) sc_common_measure.nd rfl rfl (by decide) rfl rfl (pa_cons (pv 1) (pa_cons (pe_op op_modN (pv 0) (pv 1)) pa_nil)) (by rfl))))
(pss_one (ps_ret (pe_callB call_abs (by rfl) T.n_abs (by decide +kernel) (pa_cons (pv 0) pa_nil))))), ?_⟩
  refine ⟨fun m σ H' => ∃ i' j' : Int, σ = [some (.int i'), some (.int j')] ∧ H' = H ∧ Int.gcd i' j' = Int.gcd i j ∧ m = j'.natAbs, ⟨_, i, j, rfl, rfl, rfl, rfl⟩, ?_⟩
  rintro m σ H' ⟨i', j', rfl, rfl, hg, rfl⟩
  refine ⟨_, rfl, rfl, _, rfl, ite2 (fun e => ?_) (fun e => ?_)⟩
  · have hj := ne_yes e
    refine ⟨fun σ' H'' => ∃ i2 j2 : Int, σ' = [some (.int i2), some (.int j2)] ∧ H'' = H' ∧ Int.gcd i2 j2 = Int.gcd i j ∧ j2.natAbs < j'.natAbs, ?_, ?_⟩
    · rintro σ' H'' ⟨i2, j2, rfl, rfl, h1, h2⟩
      exact ⟨_, h2, i2, j2, rfl, rfl, h1, rfl⟩
    · refine ⟨_, rfl, _, rfl, _, rfl, _, _, rfl, rfl, hj, _, _, rfl, j', i'.fmod j', rfl, rfl, ?_, fmod_abs_lt _ _ hj⟩
      rw [gcd_fmod, hg]
  · have hj := ne_no e
    subst hj
    refine ⟨_, rfl, i', rfl, ?_⟩
    have e1 : (if i' < 0 then -i' else i') = ((Int.gcd i j : Nat) : Int) := by
      rw [abs_eq, ← hg, Int.gcd_zero_right]
    rw [e1]
    exact q
def rMl : V → V → Hp → VK → Prop := fun x y H Q => ∃ i j : Int, x = .int i ∧ y = .int j ∧ i.natAbs < 2 ^ 200 ∧ j.natAbs < 2 ^ 200 ∧ Q (.int (cml i j)) H
theorem gcd_small {i j : Int} (h : j ≠ 0) (hj : j.natAbs < 2 ^ 200) : (((Int.gcd i j : Nat) : Int)).natAbs < 2 ^ 200 := by
  have h1 : Int.gcd i j ≤ j.natAbs := Nat.le_of_dvd (by omega) (Nat.gcd_dvd_right _ _)
  omega
theorem gcd_pos {i j : Int} (h : j ≠ 0) : 0 < ((Int.gcd i j : Nat) : Int) := by
  have : 0 < Int.gcd i j := Nat.gcd_pos_of_pos_right _ (by omega)
  omega
theorem quo_small {i g : Int} (h0 : 0 ≤ i) (hg : 0 < g) {k : Nat} (h : i.natAbs < 2 ^ k) : (i / g).natAbs < 2 ^ k := by
  have h1 : i / g ≤ i := Int.ediv_le_self _ h0
  have h2 : 0 ≤ i / g := Int.ediv_nonneg h0 (Int.le_of_lt hg)
  exact Nat.lt_of_le_of_lt (by omega) h
theorem ok_common_multiple (T : Txt K mg) : Fn P w K mg base 2 "common_multiple" ["a", "b"] (sp2 rMl) := by
  have G_common_measure := ok_common_measure (P := P) (w := w) (base := base) T
  refine T.d_common_multiple.ok sc_common_multiple len2 fun f cdv A outer s H vs Q E hr hg h => ?_
  obtain ⟨_, _, rfl, i, j, rfl, rfl, hi, hj, q⟩ := h
  refine ⟨_, (pss_cons (ps_if (PW.pt (pw_or (pt_cmpR op_eq (pv 0) pe_int (nomark _)) (pw_or1 (pt_cmpR op_eq (pv 1) pe_int (nomark _)))))
(pss_one (ps_ret pe_int))
pss_nil)
(pss_one (ps_ret (pe_op op_mulW (pe_op op_fdivW (pe_callB call_abs (by rfl) T.n_abs (by decide +kernel) (pa_cons (pv 0) pa_nil)) (pe_fn G_common_measure (hr.mono (by decide)) hg (by rfl) (pa_cons (pv 0) (pa_cons (pv 1) pa_nil)))) (pe_callB call_abs (by rfl) T.n_abs (by decide +kernel) (pa_cons (pv 1) pa_nil)))))), ?_⟩
  refine ⟨_, rfl, rfl, _, rfl, ite2 (fun e => ?_) (fun e => ?_)⟩
  · have e1 : cml i j = 0 := if_pos (.inl (eq_yes e))
    refine iteT ?_
    rw [e1] at q
    exact q
  · refine ⟨_, rfl, rfl, _, rfl, ite2 (fun e' => ?_) (fun e' => ?_)⟩
    · have e1 : cml i j = 0 := if_pos (.inr (eq_yes e'))
      rw [e1] at q
      exact q
    · have h1 := eq_no e
      have h2 := eq_no e'
      have e1 : cml i j = (i.natAbs : Int) / ((Int.gcd i j : Nat) : Int) * (j.natAbs : Int) := if_neg (fun z => z.elim h1 h2)
      refine ⟨_, rfl, i, rfl, _, rfl, _, rfl, _, _, rfl, i, j, rfl, rfl, _, _, rfl, rfl, ?_, _, rfl, j, rfl, _, _, rfl, rfl, ?_, ?_⟩
      · exact wide_div (gcd_pos h2) (gcd_small h2 hj) (by decide) (by decide)
      · rw [abs_eq, abs_eq]
        exact wide_mul (a := 200) (b := 200) (quo_small (Int.natCast_nonneg _) (gcd_pos h2) (by simpa using hi)) (by simpa using hj) (by decide) (by decide) (by decide)
      · rw [abs_eq, abs_eq]
        rw [e1] at q
        exact q
/-! ### turns -/
theorem rh_pos {hs : List Int} (R : RH hs) : ∀ x ∈ hs, 0 < x := fun x hx => by
  have := (R.2 x hx).1
  omega
theorem up120 {i : Int} (h : i.natAbs < 2 ^ 120) : i.natAbs < 2 ^ 200 := Nat.lt_trans h (by decide)
theorem small200 {i : Int} (h0 : 0 ≤ i) (h : i ≤ 1000000) : i.natAbs < 2 ^ 200 := by
  have e : (2 : Nat) ^ 20 = 1048576 := by decide
  have q : i.natAbs < 2 ^ 20 := by
    rw [e]
    omega
  exact Nat.lt_trans q (by decide)
theorem rh_take {hs : List Int} (R : RH hs) (k : Nat) : ∀ x ∈ hs.take k, 0 < x ∧ x ≤ 1000000 := fun x hx => by
  have := R.2 x (List.mem_of_mem_take hx)
  omega
theorem sh_take {hs ts : List Int} (R : RH hs) (k : Nat) : ∀ x ∈ (sh hs ts).take k, 0 < x ∧ x ≤ 1000000 := fun x hx =>
  sh_all (rh_pos R) (p := fun x => 0 < x ∧ x ≤ 1000000) (fun t h hh => ⟨tn_pos (rh_pos R h hh), Int.le_trans (tn_le (rh_pos R h hh)) (R.2 h hh).2⟩) x (List.mem_of_mem_take hx)
def rTurn (B : Addr) : V → V → Hp → VK → Prop := fun x y H Q => ∃ (hb : Addr) (hs : List Int) (a : Addr) (ts : List Int), x = .ref hb ∧ y = .ref a ∧ H hb = some (.tup (hs.map V.int)) ∧ H a = some (.tup (ts.map V.int)) ∧ RH hs ∧ Tg hs ts ∧ TabG H B ∧
  ∀ H', But B H H' → TabG H' B → Q (.int (TR hs ts)) H'
theorem ok_turn {c B : Addr} (T : Txt K mg) (DC : DfC K mg "is_thing" s_is_thing ["house", "thing"] c) (TB : TabB base mg c B) : Fn P w K mg base 5 "turn" ["house", "a"] (sp2 (rTurn B)) := by
  have G_need_thing := ok_need_thing (P := P) (w := w) (base := base) T DC TB
  have G_common_measure := ok_common_measure (P := P) (w := w) (base := base) T
  have G_common_multiple := ok_common_multiple (P := P) (w := w) (base := base) T
  refine T.d_turn.ok sc_turn len2 fun f cdv A outer s H vs Q E hr hg h => ?_
  obtain ⟨_, _, rfl, hb, hs, a, ts, rfl, rfl, hhb, ha, R, ta, tab, q⟩ := h
  refine ⟨_, (pss_cons (ps_expr (pe_fn G_need_thing (hr.mono (by decide)) hg (by rfl) (pa_cons (pv 0) (pa_cons (pv 1) pa_nil))))
(pss_cons (ps_set (i := 2) sc_turn.nd rfl (by first | exact Or.inl rfl | exact Or.inr rfl) pe_int)
(pss_cons (ps_for PassesOwn.never rfl (RZ.pi_zipA (by rfl) T.n_zip (pa_cons (pv 1) (pa_cons (pv 0) pa_nil))) (pg_tup rfl (pgs_cons (pg_name (i := 3) sc_turn.nd rfl (by first | exact Or.inl rfl | exact Or.inr rfl)) (pgs_cons (pg_name (i := 4) sc_turn.nd rfl (by first | exact Or.inl rfl | exact Or.inr rfl)) pgs_nil)))
(pss_one (ps_set (i := 2) sc_turn.nd rfl (by first | exact Or.inl rfl | exact Or.inr rfl) (pe_fn G_common_multiple (hr.mono (by decide)) hg (by rfl) (pa_cons (pv 2) (pa_cons (pe_op op_fdiv (pv 4) (pe_fn G_common_measure (hr.mono (by decide)) hg (by rfl) (pa_cons (pv 3) (pa_cons (pv 4) pa_nil)))) pa_nil))))))
(pss_one (ps_ret (pv 2)))))), ?_⟩
  have h6 := R.1
  refine ⟨_, rfl, _, rfl, _, _, rfl, hb, hs, a, ts, rfl, rfl, hhb, ha, ta, tab, fun H1 b1 t1 => ?_⟩
  have hhb1 := tup_but tab b1 hhb
  have ha1 := tup_but tab b1 ha
  have zl : (sh hs ts).length = hs.length := by
    unfold sh
    rw [List.length_zipWith, ta.len, Nat.min_self]
  refine ⟨_, rfl, _, rfl, a, hb, _, _, rfl, .inr ⟨SqT.of ha1, SqT.of hhb1, for_it (walk_zipT (K := K) (a := a) (b := hb) (xs := ts.map V.int) (ys := hs.map V.int) (n := hs.length) (by rw [List.length_map, List.length_map, ta.len, Nat.min_self]))
      (fun k σ H' => ∃ o3 o4 : Option V, σ = [some (.ref hb), some (.ref a), some (.int (lcmL ((sh hs ts).take k))), o3, o4] ∧ Same H1 H') ⟨none, none, rfl, Same.refl _⟩ (fun k σ H' _ ⟨_, _, _, h⟩ => ⟨SqT.of (h _ _ ha1), SqT.of (h _ _ hhb1)⟩) ?_ ?_⟩⟩
  · rintro k v σ H2 H3 hk ⟨o3, o4, rfl, s2⟩ ⟨t, x, y, rfl, nt, rfl, ex, ey⟩
    obtain ⟨x, rfl, ex2⟩ := int_at ex
    obtain ⟨y, rfl, ey2⟩ := int_at ey
    have yp := R.2 y (List.mem_of_getElem? ey2)
    have g0 := gcd_posR (t := x) (show 0 < y by omega)
    have g1 : ((Int.gcd x y : Nat) : Int) ≤ y := Int.le_of_dvd (by omega) (Int.gcd_dvd_right _ _)
    have tp := tn_pos (t := x) (show 0 < y by omega)
    have tl := tn_le (t := x) (show 0 < y by omega)
    refine ⟨t, _, rfl, SqT.of upd_same, rfl, _, _, rfl, _, _, rfl, rfl, ?_⟩
    refine ⟨_, rfl, _, rfl, _, rfl, _, rfl, _, _, rfl, x, y, rfl, rfl, _, _, rfl, rfl, ⟨g0, by omega⟩, _, _, rfl, _, tn x y, rfl, rfl, up120 (lcm_lt (sh_take R k) (by rw [List.length_take]; omega)), small200 (by omega) (by omega), ?_⟩
    refine ⟨some (.int x), some (.int y), ?_, s2.trans (same_new nt)⟩
    have ez : (sh hs ts)[k]? = some (tn x y) := by
      unfold sh
      rw [List.getElem?_zipWith, ex2, ey2]
    rw [take_snoc ez, lcm_snoc]
    rfl
  · rintro σ H2 ⟨o3, o4, rfl, s2⟩
    rw [← zl, List.take_length]
    refine ⟨_, rfl, ?_⟩
    exact q _ (b1.trans (But.same s2)) (tab_same t1 s2)
def rLast : V → Hp → VK → Prop := fun x H Q => ∃ (hb : Addr) (hs : List Int), x = .ref hb ∧ H hb = some (.tup (hs.map V.int)) ∧ RH hs ∧ Q (.int (lcmL hs)) H
theorem ok_last_turn (T : Txt K mg) : Fn P w K mg base 3 "last_turn" ["house"] (sp1 rLast) := by
  have G_common_multiple := ok_common_multiple (P := P) (w := w) (base := base) T
  refine T.d_last_turn.ok sc_last_turn len1 fun f cdv A outer s H vs Q E hr hg h => ?_
  obtain ⟨_, rfl, hb, hs, rfl, hhb, R, q⟩ := h
  refine ⟨_, (pss_cons (ps_set (i := 1) sc_last_turn.nd rfl (by first | exact Or.inl rfl | exact Or.inr rfl) pe_int)
(pss_cons (ps_for PassesOwn.never rfl (piT_K (K := K) rfl (pv 0)) (pg_name (i := 2) sc_last_turn.nd rfl (by first | exact Or.inl rfl | exact Or.inr rfl))
(pss_one (ps_set (i := 1) sc_last_turn.nd rfl (by first | exact Or.inl rfl | exact Or.inr rfl) (pe_fn G_common_multiple (hr.mono (by decide)) hg (by rfl) (pa_cons (pv 1) (pa_cons (pv 2) pa_nil))))))
(pss_one (ps_ret (pv 1))))), ?_⟩
  have h6 := R.1
  refine ⟨_, rfl, hb, rfl, ⟨_, SqT.of hhb⟩, for_tup (K := K) (a := hb) (xs := hs.map V.int) (fun k σ H' => ∃ o : Option V, σ = [some (.ref hb), some (.int (lcmL (hs.take k))), o] ∧ H' = H)
    ⟨none, rfl, rfl⟩ (fun i σ H' _ ⟨_, _, e⟩ => by rw [e]; exact SqT.of hhb) ?_ ?_⟩
  · rintro k v σ H' hk ⟨o, rfl, rfl⟩
    obtain ⟨x, rfl, ex⟩ := int_at hk
    have xp := R.2 x (List.mem_of_getElem? ex)
    refine ⟨_, rfl, _, rfl, _, _, rfl, _, x, rfl, rfl, up120 (lcm_lt (rh_take R k) (by rw [List.length_take]; omega)), small200 (by omega) (by omega), ?_⟩
    refine ⟨some (.int x), ?_, rfl⟩
    rw [take_snoc ex, lcm_snoc]
    rfl
  · rintro σ H' ⟨o, rfl, rfl⟩
    rw [List.length_map, List.take_length]
    exact ⟨_, rfl, q⟩
/-! ### the law's own defs -/
def rWh : V → Hp → VK → Prop := fun x H Q => ∃ i, x = .int i ∧ Q (.bl true) H
theorem ok_law_whole (T : Txt K mg) : Fn P w K mg base 1 "_law_whole" ["_law_thing_here"] (sp1 rWh) := by
  refine T.d_law_whole.ok sc_law_whole len1 fun f cdv A outer s H vs Q E hr hg h => ?_
  obtain ⟨_, rfl, i, rfl, q⟩ := h
  refine ⟨_, (pss_one (ps_ret (pe_and (pe_callB (isi_K (K := K) rfl) (by rfl) T.n_isinstance (by decide +kernel) (pa_cons (pv 0) (pa_cons (pe_bltn (v := .ty "int") (by rfl) T.n_int (by decide +kernel) rfl) pa_nil))) (pe_one (pe_not (pe_callB (isi_K (K := K) rfl) (by rfl) T.n_isinstance (by decide +kernel) (pa_cons (pv 0) (pa_cons (pe_bltn (v := .ty "bool") (by rfl) T.n_bool (by decide +kernel) rfl) pa_nil)))))))), ?_⟩
  refine ⟨_, rfl, _, _, _, _, true, rfl, .ty "int", .base (.int _), kit_ty (by decide +kernel), true, rfl, iteT ?_⟩
  refine ⟨_, rfl, _, _, _, _, false, rfl, .ty "bool", .base (.int _), kit_ty (by decide +kernel), false, rfl, ?_⟩
  exact q
def rNo : V → V → V → Hp → VK → Prop := fun x y z H Q => ∃ (hb : Addr) (hs : List Int) (a : Addr) (ts : List Int) (m : Int), x = .ref hb ∧ y = .ref a ∧ z = .int m ∧ H hb = some (.tup (hs.map V.int)) ∧ H a = some (.tup (ts.map V.int)) ∧ RH hs ∧ ts.length = hs.length ∧ (∀ t ∈ ts, 0 ≤ t ∧ t ≤ 1000000) ∧
  ∀ H', Same H H' → Q (.bl (noB hs ts m)) H'
theorem all_snoc {α : Type} {p : α → Bool} (l : List α) (x : α) : (l ++ [x]).all p = (l.all p && p x) := by
  rw [List.all_append]
  simp
theorem ok_law_nought (T : Txt K mg) : Fn P w K mg base 1 "_law_nought" ["_law_house_here", "_law_thing_here", "_law_many"] (sp3 rNo) := by
  refine T.d_law_nought.ok sc_law_nought len3 fun f cdv A outer s H vs Q E hr hg h => ?_
  obtain ⟨_, _, _, rfl, hb, hs, a, ts, m, rfl, rfl, rfl, hhb, ha, R, tl, tsm, q⟩ := h
  refine ⟨_, (pss_one (ps_ret (pe_cmpR (op_eqLE hr) (pe_lc (own := [("_law_at", 3)]) rfl sc_law_nought.nd (pi_range1 (by rfl) T.n_range (pa_cons (pe_callB (len_K (K := K) rfl) (by rfl) T.n_len (by decide +kernel) (pa_cons (pv 0) pa_nil)) pa_nil)) (blkOk_by (own := [("_law_at", 3)]) (N := N_law_nought) (sc := defScope s_law_nought) (by decide +kernel)) (fun _ _ _ _ _ => (pg_name (i := 3) sc_law_nought.nd rfl (by first | exact Or.inl rfl | exact Or.inr rfl))) (fun _ _ _ _ _ => (pts_one (pt_cmpR op_ne (pe_op op_mod (pe_op op_mul (pv 2) (pe_ix (ixT_K (K := K) rfl) (pv 1) (pv 3) (fun _ _ => rfl))) (pe_ix (ixT_K (K := K) rfl) (pv 0) (pv 3) (fun _ _ => rfl))) pe_int (nomark _)))) (fun _ _ _ _ _ => (pv 3))) (pe_lst pa_nil) (nomark _)))), ?_⟩
  have h6 := R.1
  refine ⟨_, rfl, hb, _, rfl, .inr (SqT.of hhb), ?_⟩
  rw [List.length_map]
  refine ⟨_, rfl, by omega, by omega, fun D nD => lc_range (lo := 0) (n := hs.length) (fun i H' => Same H H' ∧ ∃ ys, H' D = some (.lst ys) ∧ ys.length ≤ i ∧ ys.isEmpty = ((List.zipWith (fun t h => decide (m * t % h = 0)) ts hs).take i).all id) ⟨same_new nD, [], upd_same, Nat.le_refl _, rfl⟩ ?_ ?_⟩
  · rintro i H2 il ⟨s2, ys, hD, yl, ye⟩
    obtain ⟨t0, ht⟩ : ∃ x, ts[i]? = some x := ⟨_, List.getElem?_eq_getElem (by omega)⟩
    obtain ⟨h0, hh⟩ : ∃ x, hs[i]? = some x := ⟨_, List.getElem?_eq_getElem il⟩
    have tb := tsm t0 (List.mem_of_getElem? ht)
    have hp := R.2 h0 (List.mem_of_getElem? hh)
    have hz : (List.zipWith (fun t h => decide (m * t % h = 0)) ts hs)[i]? = some (decide (m * t0 % h0 = 0)) := by
      rw [List.getElem?_zipWith, ht, hh]
    have ht' : atI (ts.map V.int) (0 + (i : Int)) = some (.int t0) := by
      rw [Int.zero_add]
      exact atI_nat (by rw [List.getElem?_map, ht]; rfl)
    have hh' : atI (hs.map V.int) (0 + (i : Int)) = some (.int h0) := by
      rw [Int.zero_add]
      exact atI_nat (by rw [List.getElem?_map, hh]; rfl)
    refine ⟨rfl, _, rfl, _, rfl, _, rfl, a, _, _, _, rfl, rfl, SqT.of (s2 _ _ ha), ht', _, _, rfl, rfl, .inr ⟨by omega, by omega⟩, _, rfl, _, rfl, hb, _, _, _, rfl, rfl, SqT.of (s2 _ _ hhb), hh', _, _, rfl, rfl, (show (0 : Int) < h0 by omega), rfl, _, rfl, ite2 (fun e => ?_) (fun e => ?_)⟩
    · have ne := ne_yes e
      refine ⟨_, rfl, ys, hD, small1000 (by omega), fresh_same s2 nD, _, upd_same, ?_, ?_⟩
      · rw [List.length_append]
        show ys.length + 1 ≤ i + 1
        omega
      · rw [take_snoc hz, all_snoc, decide_eq_false ne]
        show _ = (_ && false)
        rw [Bool.and_false]
        cases ys <;> rfl
    · have eq := ne_no e
      refine ⟨s2, ys, hD, by omega, ?_⟩
      rw [take_snoc hz, all_snoc, ye, decide_eq_true eq]
      show _ = (_ && true)
      rw [Bool.and_true]
  · rintro H2 ⟨s2, ys, hD, yl, ye⟩
    refine ⟨Nat.zero_le _, fun p hp2 => ⟨D, p, ys, rfl, rfl, (same_new hp2) _ _ hD, upd_same, ?_⟩⟩
    have zl : (List.zipWith (fun t h => decide (m * t % h = 0)) ts hs).length = hs.length := by
      rw [List.length_zipWith, tl, Nat.min_self]
    rw [← zl, List.take_length] at ye
    have := q _ (s2.trans (same_new (o := .lst []) hp2))
    unfold noB at this
    rw [← ye] at this
    exact this

/-! ### the divisors that the law looks at -/
theorem two_pow_le {c : Nat} {left one : Int} (h : 2 ^ c * left ≤ one) (l : 1 ≤ left) (o : one ≤ 1000000) : c ≤ 19 := by
  by_cases z : c ≤ 19
  · exact z
  · obtain ⟨n, rfl⟩ : ∃ n, c = 20 + n := ⟨c - 20, by omega⟩
    have p : ∀ n : Nat, (1 : Int) ≤ 2 ^ n := fun n => by
      induction n with
      | zero => decide
      | succ n ih => rw [Int.pow_succ]; omega
    have e : (2 : Int) ^ (20 + n) = 1048576 * 2 ^ n := by
      rw [Int.pow_add]
      rfl
    have q : 1048576 * 1 ≤ (1048576 : Int) * 2 ^ n := Int.mul_le_mul_of_nonneg_left (p n) (by decide)
    have q2 : (2 : Int) ^ (20 + n) * 1 ≤ 2 ^ (20 + n) * left := Int.mul_le_mul_of_nonneg_left l (by omega)
    omega
/-- what holds between two turns of the search within one round -/
structure Sk (one left by0 : Int) (c : Nat) (ds : List Int) : Prop where
  l1 : 1 ≤ left
  l2 : left ≤ one
  b2 : 2 ≤ by0
  bl : by0 ≤ left + 1
  pw : 2 ^ c * left ≤ one
  dn : Dn ds
  pr : pd ds * left ≤ one
  at0 : (by0 ∈ ds ∧ (ds.length : Int) + 1 ≤ by0) ∨ (ds.length : Int) + 2 ≤ by0
theorem pd_pos : ∀ {ds : List Int}, Dn ds → 1 ≤ pd ds := fun h => Int.le_trans (fct_pos _) (dn_prod h)
theorem sk_div {one left b : Int} {c : Nat} {ds : List Int} (k : Sk one left b c ds) (sq : b * b ≤ left) (d : left % b = 0) : ∃ ds', Sk one (left / b) b (c + 1) ds' ∧ b ∈ ds' ∧ (∀ x ∈ ds, x ∈ ds') ∧ left / b < left ∧ b ≤ left / b := by
  have b2 := k.b2
  have e : b * (left / b) = left := by
    have := Int.mul_ediv_add_emod left b
    omega
  have q1 : b ≤ left / b := by
    rw [Int.le_ediv_iff_mul_le (by omega)]
    exact sq
  have q2 : left / b < left := by
    have : 2 * (left / b) ≤ b * (left / b) := Int.mul_le_mul_of_nonneg_right b2 (by omega)
    omega
  have l2 := k.l2
  have pw : (2 : Int) ^ (c + 1) * (left / b) ≤ one := by
    have p0 : (0 : Int) ≤ 2 ^ c := Int.pow_nonneg (by decide)
    have h1 : 2 * (left / b) ≤ left := by
      have : 2 * (left / b) ≤ b * (left / b) := Int.mul_le_mul_of_nonneg_right b2 (by omega)
      omega
    have h2 : 2 ^ c * (2 * (left / b)) ≤ 2 ^ c * left := Int.mul_le_mul_of_nonneg_left h1 p0
    rw [Int.pow_succ, Int.mul_assoc]
    exact Int.le_trans h2 k.pw
  have pp := pd_pos k.dn
  rcases k.at0 with ⟨h1, h2⟩ | h1
  · refine ⟨ds, ⟨by omega, by omega, b2, by omega, pw, k.dn, ?_, .inl ⟨h1, h2⟩⟩, h1, fun _ h => h, q2, q1⟩
    have : pd ds * (left / b) ≤ pd ds * left := Int.mul_le_mul_of_nonneg_left (by omega) (by omega)
    exact Int.le_trans this k.pr
  · refine ⟨b :: ds, ⟨by omega, by omega, b2, by omega, pw, ⟨h1, k.dn⟩, ?_, .inl ⟨by simp, ?_⟩⟩, by simp, fun x h => List.mem_cons_of_mem _ h, q2, q1⟩
    · show b * pd ds * (left / b) ≤ one
      have : b * pd ds * (left / b) = pd ds * (b * (left / b)) := by ac_rfl
      rw [this, e]
      exact k.pr
    · rw [List.length_cons]
      omega
theorem sk_next {one left b : Int} {c : Nat} {ds : List Int} (k : Sk one left b c ds) (hb : b ≤ left) : Sk one left (b + 1) c ds := by
  refine ⟨k.l1, k.l2, by have := k.b2; omega, by omega, k.pw, k.dn, k.pr, .inr ?_⟩
  rcases k.at0 with ⟨_, h⟩ | h <;> omega
theorem same_set {H H' : Hp} {D : Addr} {o : HO} (s : Same H H') (n : H D = none) : Same H (upd H' D o) := fun b x e => by
  rw [upd_ne (ne_of_none e n)]
  exact s b x e
def rPr : V → Hp → VK → Prop := fun x H Q => ∃ (hb : Addr) (hs : List Int), x = .ref hb ∧ H hb = some (.tup (hs.map V.int)) ∧ RH hs ∧
  ∀ (D : Addr) (H' : Hp) (ps : List Int), Same H H' → H' D = some (.lst (ps.map V.int)) → ps.length ≤ 54 → (∀ p ∈ ps, 2 ≤ p ∧ p ≤ 1000000) → Q (.ref D) H'
theorem ok_law_primes (T : Txt K mg) : Fn P w K mg base 1 "_law_primes" ["_law_house_here"] (sp1 rPr) := by
  refine T.d_law_primes.ok sc_law_primes len1 fun f cdv A outer s H vs Q E hr hg h => ?_
  obtain ⟨_, rfl, hb, hs, rfl, hhb, R, q⟩ := h
  refine ⟨_, (pss_cons (ps_set (i := 1) sc_law_primes.nd rfl (by first | exact Or.inl rfl | exact Or.inr rfl) (pe_lst pa_nil))
(pss_cons (ps_for PassesOwn.never rfl (piT_K (K := K) rfl (pv 0)) (pg_name (i := 2) sc_law_primes.nd rfl (by first | exact Or.inl rfl | exact Or.inr rfl))
(pss_cons (ps_set (i := 3) sc_law_primes.nd rfl (by first | exact Or.inl rfl | exact Or.inr rfl) (pv 2))
(pss_cons (ps_set (i := 4) sc_law_primes.nd rfl (by first | exact Or.inl rfl | exact Or.inr rfl) pe_int)
(pss_cons (ps_while PassesOwn.never (pt_cmpR op_le (pe_op op_mul (pv 4) (pv 4)) (pv 3) (nomark _))
(pss_one (ps_if (pt_cmpR op_eq (pe_op op_mod (pv 3) (pv 4)) pe_int (nomark _))
(pss_cons (ps_expr (pe_bm PySem.F.plainAttrs_list PySem.F.slot_list_append PySem.F.type_list_append mt_append (pv 1) (pa_cons (pv 4) pa_nil)))
(pss_one (ps_set (i := 3) sc_law_primes.nd rfl (by first | exact Or.inl rfl | exact Or.inr rfl) (pe_op op_fdiv (pv 3) (pv 4)))))
(pss_one (ps_set (i := 4) sc_law_primes.nd rfl (by first | exact Or.inl rfl | exact Or.inr rfl) (pe_op op_add (pv 4) pe_int))))))
(pss_one (ps_expr (pe_bm PySem.F.plainAttrs_list PySem.F.slot_list_append PySem.F.type_list_append mt_append (pv 1) (pa_cons (pv 3) pa_nil))))))))
(pss_one (ps_ret (pe_lc (own := [("_law_by", 4)]) rfl sc_law_primes.nd (piL_K (K := K) rfl (SL.pe_sortedSet rfl (by rfl) T.n_sorted (by rfl) T.n_set (pv 1))) (blkOk_by (own := [("_law_by", 4)]) (N := N_law_primes) (sc := defScope s_law_primes) (by decide +kernel)) (fun _ _ _ _ _ => (pg_name (i := 4) sc_law_primes.nd rfl (by first | exact Or.inl rfl | exact Or.inr rfl))) (fun _ _ _ _ _ => (pts_one (pt_cmpR op_gt (pv 4) pe_int (nomark _)))) (fun _ _ _ _ _ => (pv 4))))))), ?_⟩
  have h6 := R.1
  refine ⟨Nat.zero_le _, fun D nD => ?_⟩
  refine ⟨_, rfl, hb, rfl, ⟨_, SqT.of ((same_new nD) _ _ hhb)⟩, for_tup (K := K) (a := hb) (xs := hs.map V.int) (fun i σ H' => ∃ o2 o3 o4 : Option V, σ = [some (.ref hb), some (.ref D), o2, o3, o4] ∧ Same H H' ∧ ∃ fs cover : List Int, H' D = some (.lst (fs.map V.int)) ∧ fs.length ≤ 20 * i ∧ cover.length ≤ 9 * i ∧ (∀ x ∈ fs, x ∈ cover) ∧ ∀ x ∈ fs, 1 ≤ x ∧ x ≤ 1000000)
    ⟨none, none, none, rfl, same_new nD, [], [], upd_same, Nat.le_refl _, Nat.le_refl _, by simp, by simp⟩ (fun i σ H' _ ⟨_, _, _, _, s, _⟩ => SqT.of (s _ _ hhb)) ?_ ?_⟩
  · rintro i v σ H1 hi ⟨o2, o3, o4, rfl, s1, fs, cover, hD, fl, cl, fc, fb⟩
    obtain ⟨one, rfl, ho⟩ := int_at hi
    have il : i < hs.length := (List.getElem?_eq_some_iff.mp ho).1
    have op := R.2 one (List.mem_of_getElem? ho)
    refine ⟨_, rfl, ?_⟩
    refine ⟨fun k σ H' => ∃ (left b : Int) (c : Nat) (ds gs : List Int), σ = [some (.ref hb), some (.ref D), some (.int one), some (.int left), some (.int b)] ∧ Same H H' ∧ Sk one left b c ds ∧ H' D = some (.lst (gs.map V.int)) ∧ gs.length ≤ 20 * i + c ∧ (∀ x ∈ gs, x ∈ cover ++ ds) ∧ (∀ x ∈ gs, 1 ≤ x ∧ x ≤ 1000000) ∧ k = (left + 1 - b).toNat,
      ⟨_, one, 2, 0, [], fs, rfl, s1, ⟨op.1, Int.le_refl _, by decide, by omega, by omega, trivial, by show 1 * one ≤ one; omega, .inr (by decide)⟩, hD, by omega, fun x hx => List.mem_append_left _ (fc x hx), fb, rfl⟩, ?_⟩
    rintro k σ H2 ⟨left, b, c, ds, gs, rfl, s2, sk, hD2, gl, gc, gb, rfl⟩
    have b2 := sk.b2
    have l2 := sk.l2
    have l1 := sk.l1
    have c19 := two_pow_le sk.pw sk.l1 op.2
    have bl0 := sk.bl
    refine ⟨_, rfl, _, rfl, _, _, rfl, rfl, .inl ⟨by omega, by omega⟩, _, rfl, _, _, rfl, rfl, _, rfl, ite2 (fun e => ?_) (fun e => ?_)⟩
    · have sq : b * b ≤ left := of_decide_eq_true e
      have bl : b ≤ left := by
        have : 1 * b ≤ b * b := Int.mul_le_mul_of_nonneg_right (by omega) (by omega)
        omega
      refine ⟨fun σ' H' => ∃ (left' b' : Int) (c : Nat) (ds gs : List Int), σ' = [some (.ref hb), some (.ref D), some (.int one), some (.int left'), some (.int b')] ∧ Same H H' ∧ Sk one left' b' c ds ∧ H' D = some (.lst (gs.map V.int)) ∧ gs.length ≤ 20 * i + c ∧ (∀ x ∈ gs, x ∈ cover ++ ds) ∧ (∀ x ∈ gs, 1 ≤ x ∧ x ≤ 1000000) ∧ (left' + 1 - b').toNat < (left + 1 - b).toNat, ?_, ?_⟩
      · rintro σ' H' ⟨left', b', c, ds, gs, rfl, a1, a2, a3, a4, a5, a6, a7⟩
        exact ⟨_, a7, left', b', c, ds, gs, rfl, a1, a2, a3, a4, a5, a6, rfl⟩
      refine ⟨_, rfl, _, rfl, _, _, rfl, rfl, (show (0 : Int) < b by omega), rfl, _, rfl, ite2 (fun e2 => ?_) (fun e2 => ?_)⟩
      · have dv := eq_yes e2
        obtain ⟨ds', sk', bm, dm, lt, ge⟩ := sk_div sk sq dv
        have c19' := two_pow_le sk'.pw sk'.l1 op.2
        refine ⟨_, rfl, .inl ⟨rfl, _, SqL.of hD2⟩, _, rfl, D, _, _, rfl, rfl, hD2, ?_, ?_⟩
        · rw [List.length_map]
          exact small1000 (by omega)
        refine ⟨_, rfl, _, rfl, _, _, rfl, rfl, ⟨by omega, by omega⟩, ?_⟩
        refine ⟨left / b, b, c + 1, ds', gs ++ [b], rfl, same_set s2 nD, sk', by rw [upd_same, List.map_append]; rfl, ?_, ?_, ?_, by omega⟩
        · rw [List.length_append]
          show gs.length + 1 ≤ _
          omega
        · intro x hx
          rcases List.mem_append.mp hx with z | z
          · rcases List.mem_append.mp (gc x z) with y | y
            · exact List.mem_append_left _ y
            · exact List.mem_append_right _ (dm x y)
          · rw [List.mem_singleton.mp z]
            exact List.mem_append_right _ bm
        · intro x hx
          rcases List.mem_append.mp hx with z | z
          · exact gb x z
          · rw [List.mem_singleton.mp z]
            omega
      · refine ⟨_, rfl, _, _, rfl, rfl, ?_⟩
        exact ⟨left, b + 1, c, ds, gs, rfl, s2, sk_next sk bl, hD2, gl, gc, gb, by omega⟩
    · have few := dn_few sk.dn sk.l1 sk.pr op.2
      refine ⟨_, rfl, .inl ⟨rfl, _, SqL.of hD2⟩, _, rfl, D, _, _, rfl, rfl, hD2, ?_, ?_⟩
      · rw [List.length_map]
        exact small1000 (by omega)
      refine ⟨_, _, _, rfl, same_set s2 nD, gs ++ [left], cover ++ ds ++ [left], by rw [upd_same, List.map_append]; rfl, ?_, ?_, ?_, ?_⟩
      · rw [List.length_append]
        show gs.length + 1 ≤ _
        omega
      · rw [List.length_append, List.length_append]
        show cover.length + ds.length + 1 ≤ _
        omega
      · intro x hx
        rcases List.mem_append.mp hx with z | z
        · exact List.mem_append_left _ (gc x z)
        · exact List.mem_append_right _ z
      · intro x hx
        rcases List.mem_append.mp hx with z | z
        · exact gb x z
        · rw [List.mem_singleton.mp z]
          omega
  · rintro σ H1 ⟨o2, o3, o4, rfl, s1, fs, cover, hD, fl, cl, fc, fb⟩
    rw [List.length_map] at fl cl
    refine ⟨_, rfl, D, fs, rfl, SqL.of hD, by omega, fun u nd us => ?_, fun u p und us u64 hp => ?_⟩
    · have := nodup_len nd fun x hx => fc x (us x hx)
      omega
    have ul := nodup_len und fun x hx => fc x (us x hx)
    have s2 := same_new (H := H1) (o := .lst (u.map V.int)) hp
    refine ⟨p, rfl, ⟨_, SqL.of upd_same⟩, fun G nG => lc_list (K := K) (a := p) (xs := u.map V.int) (fun k H' => Same (upd H1 p (.lst (u.map V.int))) H' ∧ ∃ ps : List Int, H' G = some (.lst (ps.map V.int)) ∧ ps.length ≤ k ∧ ∀ x ∈ ps, 2 ≤ x ∧ x ≤ 1000000)
      ⟨same_new nG, [], upd_same, Nat.le_refl _, by simp⟩ (fun k H' _ h => SqL.of (h.1 _ _ upd_same)) ?_ ?_⟩
    · rintro k v H3 hk ⟨s3, ps, hG, pl, pb⟩
      obtain ⟨x, rfl, ex⟩ := int_at hk
      have xb := fb x (us x (List.mem_of_getElem? ex))
      have kl : k < u.length := (List.getElem?_eq_some_iff.mp ex).1
      refine ⟨rfl, _, rfl, _, _, rfl, rfl, _, rfl, ite2 (fun e => ?_) (fun e => ?_)⟩
      · have x1 : 1 < x := of_decide_eq_true e
        refine ⟨_, rfl, _, hG, ?_, same_set s3 nG, ps ++ [x], by rw [upd_same, List.map_append]; rfl, ?_, ?_⟩
        · rw [List.length_map]
          exact small1000 (by omega)
        · rw [List.length_append]
          show ps.length + 1 ≤ k + 1
          omega
        · intro y hy
          rcases List.mem_append.mp hy with z | z
          · exact pb y z
          · rw [List.mem_singleton.mp z]
            omega
      · exact ⟨s3, ps, hG, by omega, pb⟩
    · rintro H3 ⟨s3, ps, hG, pl, pb⟩
      rw [List.length_map] at pl
      exact q G _ ps ((s1.trans s2).trans s3) hG (by omega) pb

/-! ### a thing of a short turn -/
def rShort (K : PySem.W.Frag) : V → V → V → V → Hp → VK → Prop := fun p x y z H Q => ∃ (d a : Addr) (ns : List Int) (c : Int) (hb : Addr) (hs : List Int) (pb : Addr) (ps : List Int) (tb : Addr) (ts : List Int), p = .ref d ∧ x = .ref hb ∧ y = .ref pb ∧ z = .ref tb ∧ Pen K H d a ns c ∧ c + 2 ≤ 1000000 ∧
  H hb = some (.tup (hs.map V.int)) ∧ H pb = some (.lst (ps.map V.int)) ∧ H tb = some (.tup (ts.map V.int)) ∧ RH hs ∧ Tg hs ts ∧ ps.length ≤ 63 ∧ (∀ p ∈ ps, 2 ≤ p ∧ p ≤ 1000000) ∧
  ∀ r H' (us : List Int), H' r = some (.tup (us.map V.int)) → Tg hs us → Pen K H' d a ns (c + 2) → But d H H' → Q (.ref r) H'
theorem shaped_ints (l : List Int) : SeqAt.shaped (.list (l.map .int)) = true := by
  have h3 : PyData.canLayAll0 ([l].map rowD) = true := lay_rows [l]
  have h4 : (PyData.canLayAll0 (l.map .int) && PyData.canLayAll0 ([].map rowD)) = true := h3
  rw [Bool.and_eq_true] at h4
  have h5 := depth_ints l
  have e : (PyData.list (l.map .int)).depth = PyData.depthAll (l.map .int) + 1 := by simp [PyData.depth]
  show (PyData.canLayAll0 (l.map .int) && decide ((PyData.list (l.map .int)).depth ≤ 64)) = true
  rw [h4.1, decide_eq_true (by omega)]
  rfl
theorem eqv_nilI (l : List Int) : PyData.eqv (.list (l.map .int)) (.list []) = decide (l = []) := by
  cases l with
  | nil => rfl
  | cons x r => rfl
theorem ne_nil {H : Hp} {a b : Addr} {l : List Int} {Q : VK} (h1 : H a = some (.lst (l.map V.int))) (h2 : H b = some (.lst [])) (q : Q (.bl (!decide (l = []))) H) : rNeK K (.ref a) (.ref b) H Q :=
  ⟨.list (l.map .int), .list [], .lst (SqL.of h1) (dp_ints l), .lst (SqL.of h2) .nil, shaped_ints l, shaped_ints [], by rw [eqv_nilI]; exact q⟩
theorem tg_small {hs as : List Int} (R : ∀ x ∈ hs, 1 ≤ x ∧ x ≤ 1000000) (t : Tg hs as) : ∀ x ∈ as, 0 ≤ x ∧ x ≤ 1000000 := by
  induction t with
  | nil => intro x hx; simp at hx
  | @cons h a l m ha t ih =>
    intro x hx
    rcases List.mem_cons.mp hx with rfl | hx
    · have := R h (by simp)
      omega
    · exact ih (fun y hy => R y (List.mem_cons_of_mem _ hy)) x hx
theorem ok_law_short (T : Txt K mg) : Fn P w K mg base 2 "_law_short" ["_law_pen_here", "_law_house_here", "_law_primes_here", "_law_thing_here"] (sp4 (rShort K)) := by
  have G_law_draw := ok_law_draw (P := P) (w := w) (base := base) T
  refine T.d_law_short.ok sc_law_short len4 fun f cdv A outer s H vs Q E hr hg h => ?_
  obtain ⟨_, _, _, _, rfl, d, a, ns, c, hb, hs, pb, ps, tb, ts, rfl, rfl, rfl, rfl, hp, hc, hhb, hpb, htb, R, tg, pl, pbd, q⟩ := h
  refine ⟨_, (pss_cons (ps_if (pt_cmpR (op_eqE hr) (pv 1) (pe_tup pa_nil) (nomark _))
(pss_one (ps_ret (pv 3)))
pss_nil)
(pss_cons (ps_set (i := 4) sc_law_short.nd rfl (by first | exact Or.inl rfl | exact Or.inr rfl) (pe_ix (ixT_K (K := K) rfl) (pv 1) (pe_fn G_law_draw (hr.mono (by decide)) hg (by rfl) (pa_cons (pv 0) (pa_cons (pe_callB (len_K (K := K) rfl) (by rfl) T.n_len (by decide +kernel) (pa_cons (pv 1) pa_nil)) pa_nil))) (fun _ _ => rfl)))
(pss_cons (ps_setLc (i := 5) (own := [("_law_by", 7)]) rfl sc_law_short.nd rfl rfl (sw_true rfl rfl rfl (by decide +kernel)) (piL_K (K := K) rfl (pv 2)) (blkOk_by (own := [("_law_by", 7)]) (N := N_law_short) (sc := defScope s_law_short) (by decide +kernel)) (fun _ _ _ _ _ => (pg_name (i := 7) sc_law_short.nd rfl (by first | exact Or.inl rfl | exact Or.inr rfl))) (fun _ _ _ _ _ => (pts_one (pt_cmpR op_eq (pe_op op_mod (pv 4) (pv 7)) pe_int (nomark _)))) (fun _ _ _ _ _ => (pv 7)))
(pss_cons (ps_set (i := 6) sc_law_short.nd rfl (by first | exact Or.inl rfl | exact Or.inr rfl) (pv 4))
(pss_cons (ps_if (pt_cmpR (neD_K (K := K) hr rfl) (pv 5) (pe_lst pa_nil) (nomark _))
(pss_one (ps_set (i := 6) sc_law_short.nd rfl (by first | exact Or.inl rfl | exact Or.inr rfl) (pe_op op_fdiv (pv 4) (pe_ix (ixL_K (K := K) rfl) (pv 5) (pe_fn G_law_draw (hr.mono (by decide)) hg (by rfl) (pa_cons (pv 0) (pa_cons (pe_callB (len_K (K := K) rfl) (by rfl) T.n_len (by decide +kernel) (pa_cons (pv 5) pa_nil)) pa_nil))) (fun _ _ => rfl)))))
pss_nil)
(pss_one (ps_ret (pe_callTy (tupOf_K (K := K) rfl) (by rfl) T.n_tuple (by decide +kernel) (pa_cons (pe_lc (own := [("_law_at", 8)]) rfl sc_law_short.nd (pi_range1 (by rfl) T.n_range (pa_cons (pe_callB (len_K (K := K) rfl) (by rfl) T.n_len (by decide +kernel) (pa_cons (pv 1) pa_nil)) pa_nil)) (blkOk_by (own := [("_law_at", 8)]) (N := N_law_short) (sc := defScope s_law_short) (by decide +kernel)) (fun _ _ _ _ _ => (pg_name (i := 8) sc_law_short.nd rfl (by first | exact Or.inl rfl | exact Or.inr rfl))) (fun _ _ _ _ _ => pts_nil) (fun _ _ _ _ _ => (pe_op op_mod (pe_op op_mul (pv 6) (pe_ix (ixT_K (K := K) rfl) (pv 3) (pv 8) (fun _ _ => rfl))) (pe_ix (ixT_K (K := K) rfl) (pv 1) (pv 8) (fun _ _ => rfl))))) pa_nil))))))))), ?_⟩
  have h6 := R.1
  refine ⟨_, rfl, (by show 0 ≤ sizeLine; decide), fun e0 he0 => ?_⟩
  have s0 := same_new (H := H) (o := .tup []) he0
  refine ⟨hb, e0, _, rfl, rfl, s0 _ _ hhb, upd_same, _, rfl, ite2 (fun e => ?_) (fun e => ?_)⟩
  · refine ⟨_, rfl, ?_⟩
    exact q tb _ ts (s0 _ _ htb) tg ((hp.same s0).mono (by omega)) (But.same s0)
  have hne : 0 < hs.length := by
    cases hs with
    | nil => exact absurd rfl e
    | cons x r => simp
  have hp0 := hp.same s0
  refine ⟨_, rfl, _, rfl, _, rfl, hb, _, rfl, .inr (SqT.of (s0 _ _ hhb)), ?_⟩
  rw [List.length_map]
  refine ⟨_, _, rfl, d, a, ns, c, _, rfl, rfl, hp0, by omega, by omega, by omega, fun r H1 r0 r1 hp1 b1 => ?_⟩
  obtain ⟨kvs, hdd⟩ := pen_at3 hp0
  have up : ∀ {x : Addr} {xs : List V}, H x = some (.tup xs) → H1 x = some (.tup xs) := fun h => b1 _ _ (ne_of (s0 _ _ h) hdd (by intro z; cases z)) (s0 _ _ h)
  have hpb1 : H1 pb = some (.lst (ps.map V.int)) := b1 _ _ (ne_of (s0 _ _ hpb) hdd (by intro z; cases z)) (s0 _ _ hpb)
  obtain ⟨one, ho, hat⟩ := cell_in (ns := hs) r0 r1
  have op := R.2 one ho
  refine ⟨hb, _, _, _, rfl, rfl, SqT.of (up hhb), hat, ?_⟩
  -- the divisors of one
  refine ⟨_, rfl, pb, rfl, ⟨_, SqL.of hpb1⟩, fun D nD => lc_list (K := K) (a := pb) (xs := ps.map V.int) (fun k H' => Same H1 H' ∧ ∃ qs : List Int, H' D = some (.lst (qs.map V.int)) ∧ qs.length ≤ k ∧ ∀ x ∈ qs, 2 ≤ x ∧ x ≤ 1000000)
    ⟨same_new nD, [], upd_same, Nat.le_refl _, by simp⟩ (fun k H' _ h => SqL.of (h.1 _ _ hpb1)) ?_ ?_⟩
  · rintro k v H2 hk ⟨s2, qs, hD, ql, qb⟩
    obtain ⟨x, rfl, ex⟩ := int_at hk
    have xb := pbd x (List.mem_of_getElem? ex)
    have kl : k < ps.length := (List.getElem?_eq_some_iff.mp ex).1
    refine ⟨rfl, _, rfl, _, rfl, _, _, rfl, rfl, (show (0 : Int) < x by omega), rfl, _, rfl, ite2 (fun e => ?_) (fun e => ?_)⟩
    · refine ⟨_, rfl, _, hD, ?_, fresh_same s2 nD, qs ++ [x], by rw [upd_same, List.map_append]; rfl, ?_, ?_⟩
      · rw [List.length_map]
        exact small1000 (by omega)
      · rw [List.length_append]
        show qs.length + 1 ≤ k + 1
        omega
      · intro y hy
        rcases List.mem_append.mp hy with z | z
        · exact qb y z
        · rw [List.mem_singleton.mp z]
          exact xb
    · exact ⟨s2, qs, hD, by omega, qb⟩
  rintro H2 ⟨s2, qs, hD, ql, qb⟩
  rw [List.length_map] at ql
  have hp2 := hp1.same s2
  have b02 : But d H H2 := ((But.same s0).trans b1).trans (But.same s2)
  have len : ∀ (m : Int), (TM hs m ts).length = hs.length := fun m => (tg_tm m tg).len
  have app : ∀ (m : Int) (i : Nat) {t0 h0 : Int}, ts[i]? = some t0 → hs[i]? = some h0 → (TM hs m ts)[i]? = some (m * t0 % h0) := by
    intro m i t0 h0 e1 e2
    unfold TM leftI
    rw [List.getElem?_zipWith, List.getElem?_map, e1, e2]
    rfl
  refine ⟨_, rfl, ?_⟩
  refine ⟨_, rfl, Nat.zero_le _, fun l0 hl0 => ?_⟩
  have s3 := same_new (H := H2) (o := .lst []) hl0
  have hp3 := hp2.same s3
  have b03 := b02.trans (But.same s3)
  have hhb3 := s3 _ _ (s2 _ _ (up hhb))
  have htb3 := s3 _ _ (s2 _ _ (up htb))
  have hD3 := s3 _ _ hD
  refine ne_nil (l := qs) hD3 upd_same ⟨_, rfl, ite2 (fun e1 => ?_) (fun e1 => ?_)⟩
  · have qne : 0 < qs.length := by
      cases qs with
      | nil => simp at e1
      | cons x r => simp
    refine ⟨_, rfl, _, rfl, _, rfl, _, rfl, D, _, rfl, .inl (SqL.of hD3), ?_⟩
    rw [List.length_map]
    refine ⟨_, _, rfl, d, a, ns, _, _, rfl, rfl, hp3, by omega, by omega, by omega, fun r4 H4 r40 r41 hp4 b4 => ?_⟩
    obtain ⟨kv3, hd3⟩ := pen_at3 hp3
    have up4 : ∀ {x : Addr} {o : HO}, (∀ kvs, o ≠ .dK kvs) → _ = some o → H4 x = some o := fun n h => b4 _ _ (ne_of h hd3 (n _)) h
    have hD4 := up4 (by intro _ z; cases z) hD3
    have hhb4 := up4 (by intro _ z; cases z) hhb3
    have htb4 := up4 (by intro _ z; cases z) htb3
    obtain ⟨x, hx, hatx⟩ := cell_in (ns := qs) r40 r41
    have xb := qb x hx
    refine ⟨D, _, _, _, rfl, rfl, SqL.of hD4, hatx, _, _, rfl, rfl, ⟨by omega, by omega⟩, ?_⟩
    have b04 := b03.trans b4
    refine ⟨_, rfl, hb, _, rfl, .inr (SqT.of hhb4), ?_⟩
    rw [List.length_map]
    refine ⟨_, rfl, by omega, by omega, fun G nG => lc_range (lo := 0) (n := hs.length) (fun k H' => Same H4 H' ∧ H' G = some (.lst (((TM hs (one / x) ts).take k).map V.int))) ⟨same_new nG, upd_same⟩ ?_ ?_⟩
    · rintro k H9 kl ⟨s9, hG⟩
      obtain ⟨t0, ht⟩ : ∃ x, ts[k]? = some x := ⟨_, List.getElem?_eq_getElem (by rw [tg.len]; exact kl)⟩
      obtain ⟨h0, hh⟩ : ∃ x, hs[k]? = some x := ⟨_, List.getElem?_eq_getElem kl⟩
      have tbd := tg_small R.2 tg t0 (List.mem_of_getElem? ht)
      have hpos := R.2 h0 (List.mem_of_getElem? hh)
      have ht' : atI (ts.map V.int) (0 + (k : Int)) = some (.int t0) := by
        rw [Int.zero_add]
        exact atI_nat (by rw [List.getElem?_map, ht]; rfl)
      have hh' : atI (hs.map V.int) (0 + (k : Int)) = some (.int h0) := by
        rw [Int.zero_add]
        exact atI_nat (by rw [List.getElem?_map, hh]; rfl)
      refine ⟨rfl, _, rfl, _, rfl, _, rfl, tb, _, _, _, rfl, rfl, SqT.of (s9 _ _ htb4), ht', _, _, rfl, rfl, .inr ⟨by omega, by omega⟩, _, rfl, _, rfl, hb, _, _, _, rfl, rfl, SqT.of (s9 _ _ hhb4), hh', _, _, rfl, rfl, (show (0 : Int) < h0 by omega), _, hG, ?_, fresh_same s9 nG, ?_⟩
      · rw [List.length_map, List.length_take, len]
        exact small1000 (by omega)
      · rw [upd_same, take_snoc (app (one / x) k ht hh), List.map_append]
        rfl
    · rintro H9 ⟨s9, hG⟩
      rw [← len (one / x), List.take_length] at hG
      refine ⟨G, _, rfl, .inl ⟨SqL.of hG, fun r3 nr => ?_⟩⟩
      have sz := s9.trans (same_new (o := .tup ((TM hs (one / x) ts).map V.int)) nr)
      exact q r3 _ _ upd_same (tg_tm (one / x) tg) ((hp4.same sz).mono (by omega)) (b04.trans (But.same sz))
  · refine ⟨_, rfl, hb, _, rfl, .inr (SqT.of hhb3), ?_⟩
    rw [List.length_map]
    refine ⟨_, rfl, by omega, by omega, fun G nG => lc_range (lo := 0) (n := hs.length) (fun k H' => Same _ H' ∧ H' G = some (.lst (((TM hs one ts).take k).map V.int))) ⟨same_new nG, upd_same⟩ ?_ ?_⟩
    · rintro k H9 kl ⟨s9, hG⟩
      obtain ⟨t0, ht⟩ : ∃ x, ts[k]? = some x := ⟨_, List.getElem?_eq_getElem (by rw [tg.len]; exact kl)⟩
      obtain ⟨h0, hh⟩ : ∃ x, hs[k]? = some x := ⟨_, List.getElem?_eq_getElem kl⟩
      have tbd := tg_small R.2 tg t0 (List.mem_of_getElem? ht)
      have hpos := R.2 h0 (List.mem_of_getElem? hh)
      have ht' : atI (ts.map V.int) (0 + (k : Int)) = some (.int t0) := by
        rw [Int.zero_add]
        exact atI_nat (by rw [List.getElem?_map, ht]; rfl)
      have hh' : atI (hs.map V.int) (0 + (k : Int)) = some (.int h0) := by
        rw [Int.zero_add]
        exact atI_nat (by rw [List.getElem?_map, hh]; rfl)
      refine ⟨rfl, _, rfl, _, rfl, _, rfl, tb, _, _, _, rfl, rfl, SqT.of (s9 _ _ htb3), ht', _, _, rfl, rfl, .inr ⟨by omega, by omega⟩, _, rfl, _, rfl, hb, _, _, _, rfl, rfl, SqT.of (s9 _ _ hhb3), hh', _, _, rfl, rfl, (show (0 : Int) < h0 by omega), _, hG, ?_, fresh_same s9 nG, ?_⟩
      · rw [List.length_map, List.length_take, len]
        exact small1000 (by omega)
      · rw [upd_same, take_snoc (app one k ht hh), List.map_append]
        rfl
    · rintro H9 ⟨s9, hG⟩
      rw [← len one, List.take_length] at hG
      refine ⟨G, _, rfl, .inl ⟨SqL.of hG, fun r3 nr => ?_⟩⟩
      have sz := s9.trans (same_new (o := .tup ((TM hs one ts).map V.int)) nr)
      exact q r3 _ _ upd_same (tg_tm one tg) ((hp3.same sz).mono (by omega)) (b03.trans (But.same sz))

/-! ### the law's looks -/
def rRight (B : Addr) : V → V → V → Hp → VK → Prop := fun x y z H Q => ∃ (hb : Addr) (hs : List Int) (pb : Addr) (ps : List Int) (tb : Addr) (ts : List Int), x = .ref hb ∧ y = .ref pb ∧ z = .ref tb ∧
  H hb = some (.tup (hs.map V.int)) ∧ H pb = some (.lst (ps.map V.int)) ∧ H tb = some (.tup (ts.map V.int)) ∧ RH hs ∧ Tg hs ts ∧ ps.length ≤ 63 ∧ (∀ p ∈ ps, 2 ≤ p ∧ p ≤ 1000000) ∧ TabG H B ∧
  ∀ H', But B H H' → TabG H' B → Q (.bl true) H'
theorem lst_but {H H' : Hp} {B x : Addr} {xs : List V} (t : TabG H B) (b : But B H H') (h : H x = some (.lst xs)) : H' x = some (.lst xs) := by
  obtain ⟨ps, e, _⟩ := t
  exact b _ _ (ne_of h e (by intro z; cases z)) h
theorem ok_law_right {c B : Addr} (T : Txt K mg) (DC : DfC K mg "is_thing" s_is_thing ["house", "thing"] c) (TB : TabB base mg c B) : Fn P w K mg base 6 "_law_right" ["_law_house_here", "_law_primes_here", "_law_thing_here"] (sp3 (rRight B)) := by
  have G_turn := ok_turn (P := P) (w := w) (base := base) T DC TB
  have G_last_turn := ok_last_turn (P := P) (w := w) (base := base) T
  have G_law_whole := ok_law_whole (P := P) (w := w) (base := base) T
  have G_law_nought := ok_law_nought (P := P) (w := w) (base := base) T
  refine T.d_law_right.ok sc_law_right len3 fun f cdv A outer s H vs Q E hr hg h => ?_
  obtain ⟨_, _, _, rfl, hb, hs, pb, ps, tb, ts, rfl, rfl, rfl, hhb, hpb, htb, R, tg, pl, pbd, tab, q⟩ := h
  refine ⟨_, (pss_cons (ps_set (i := 3) sc_law_right.nd rfl (by first | exact Or.inl rfl | exact Or.inr rfl) (pe_fn G_turn (hr.mono (by decide)) hg (by rfl) (pa_cons (pv 0) (pa_cons (pv 2) pa_nil))))
(pss_cons (ps_if (PW.pt (pw_or (pt_not (pt_val (pe_fn G_law_whole (hr.mono (by decide)) hg (by rfl) (pa_cons (pv 3) pa_nil)))) (pw_or (pt_cmpR op_lt (pv 3) pe_int (nomark _)) (pw_or (pt_not (pt_val (pe_fn G_law_nought (hr.mono (by decide)) hg (by rfl) (pa_cons (pv 0) (pa_cons (pv 2) (pa_cons (pv 3) pa_nil)))))) (pw_or1 (pt_cmpR op_ne (pe_fn G_turn (hr.mono (by decide)) hg (by rfl) (pa_cons (pv 0) (pa_cons (pv 2) pa_nil))) (pv 3) (nomark _)))))))
(pss_one (ps_ret pe_bl))
pss_nil)
(pss_cons (ps_if (pt_cmpR op_ne (pe_op op_mod (pe_fn G_last_turn (hr.mono (by decide)) hg (by rfl) (pa_cons (pv 0) pa_nil)) (pv 3)) pe_int (nomark _))
(pss_one (ps_ret pe_bl))
pss_nil)
(pss_one (ps_ret (pe_cmpR (op_eqLE hr) (pe_lc (own := [("_law_by", 4)]) rfl sc_law_right.nd (piL_K (K := K) rfl (pv 1)) (blkOk_by (own := [("_law_by", 4)]) (N := N_law_right) (sc := defScope s_law_right) (by decide +kernel)) (fun _ _ _ _ _ => (pg_name (i := 4) sc_law_right.nd rfl (by first | exact Or.inl rfl | exact Or.inr rfl))) (fun _ _ _ _ _ => (pts_one (PW.pt (pw_and (pt_cmpR op_eq (pe_op op_mod (pv 3) (pv 4)) pe_int (nomark _)) (pw_and1 (pt_val (pe_fn G_law_nought (hr.mono (by decide)) hg (by rfl) (pa_cons (pv 0) (pa_cons (pv 2) (pa_cons (pe_op op_fdiv (pv 3) (pv 4)) pa_nil)))))))))) (fun _ _ _ _ _ => (pv 4))) (pe_lst pa_nil) (nomark _))))))), ?_⟩
  have pos := rh_pos R
  have tp := tr_pos (ts := ts) pos
  have tsm := tg_small R.2 tg
  refine ⟨_, rfl, _, rfl, _, _, rfl, hb, hs, tb, ts, rfl, rfl, hhb, htb, R, tg, tab, fun H1 b1 t1 => ?_⟩
  have hhb1 := tup_but tab b1 hhb
  have htb1 := tup_but tab b1 htb
  have hpb1 := lst_but tab b1 hpb
  try dsimp only [gName]
  refine if_no (fun H' => But B H1 H' ∧ TabG H' B) (fun Q2 q2 => ?_) (fun H2 h2 => ?_)
  · refine ⟨_, rfl, _, rfl, _, rfl, true, rfl, iteF ?_⟩
    refine ⟨_, rfl, _, _, rfl, rfl, _, rfl, iteN (show ¬ TR hs ts < 1 by omega) ?_⟩
    refine ⟨_, rfl, _, rfl, _, rfl, _, _, _, rfl, hb, hs, tb, ts, TR hs ts, rfl, rfl, rfl, hhb1, htb1, R, tg.len, tsm, fun H2 s2 => ?_⟩
    rw [tr_no pos]
    refine ⟨true, rfl, iteF ?_⟩
    refine ⟨_, rfl, _, rfl, _, _, rfl, hb, hs, tb, ts, rfl, rfl, s2 _ _ hhb1, s2 _ _ htb1, R, tg, tab_same t1 s2, fun H3 b3 t3 => ⟨_, rfl, rfl, _, rfl, ?_⟩⟩
    exact qNS (Q := Q2) rfl (q2 _ ⟨(But.same s2).trans b3, t3⟩)
  obtain ⟨b2, t2⟩ := h2
  have hhb2 := tup_but t1 b2 hhb1
  have htb2 := tup_but t1 b2 htb1
  have hpb2 := lst_but t1 b2 hpb1
  try dsimp only [gName]
  refine if_no (fun H' => H' = H2) (fun Q2 q2 => ?_) (fun H3 e3 => ?_)
  · refine ⟨_, rfl, _, rfl, hb, hs, rfl, hhb2, R, _, rfl, _, _, rfl, rfl, tp, rfl, _, rfl, ?_⟩
    exact qNS (Q := Q2) (congrArg V.int (Int.emod_eq_zero_of_dvd (tr_last pos))) (q2 _ rfl)
  subst e3
  refine ⟨_, rfl, pb, rfl, ⟨_, SqL.of hpb2⟩, fun D nD => lc_list (K := K) (a := pb) (xs := ps.map V.int) (fun k H' => Same H3 H' ∧ H' D = some (.lst [])) ⟨same_new nD, upd_same⟩ (fun k H' _ h => SqL.of (h.1 _ _ hpb2)) ?_ ?_⟩
  · rintro k v H4 hk ⟨s4, hD⟩
    obtain ⟨x, rfl, ex⟩ := int_at hk
    have xb := pbd x (List.mem_of_getElem? ex)
    refine ⟨rfl, _, rfl, _, rfl, _, _, rfl, rfl, (show (0 : Int) < x by omega), rfl, _, rfl, ite2 (fun e => ?_) (fun e => ?_)⟩
    · have dv := eq_yes e
      refine ⟨_, rfl, _, rfl, _, rfl, _, rfl, _, _, rfl, rfl, ⟨by omega, by omega⟩, _, _, _, rfl, hb, hs, tb, ts, _, rfl, rfl, rfl, s4 _ _ hhb2, s4 _ _ htb2, R, tg.len, tsm, fun H5 s5 => ?_⟩
      rw [tr_least pos xb.1 (Int.dvd_of_emod_eq_zero dv)]
      exact ⟨false, rfl, iteF ⟨s4.trans s5, s5 _ _ hD⟩⟩
    · exact ⟨s4, hD⟩
  · rintro H4 ⟨s4, hD⟩
    refine ⟨Nat.zero_le _, fun p hp => ⟨D, p, [], rfl, rfl, (same_new hp) _ _ hD, upd_same, ?_⟩⟩
    have s5 := s4.trans (same_new (o := .lst []) hp)
    exact q _ ((b1.trans b2).trans (But.same s5)) (tab_same t2 s5)
def rLR : V → V → Hp → VK → Prop := fun x y H Q => ∃ (hb : Addr) (hs : List Int) (pb : Addr) (ps : List Int), x = .ref hb ∧ y = .ref pb ∧ H hb = some (.tup (hs.map V.int)) ∧ H pb = some (.lst (ps.map V.int)) ∧ RH hs ∧ (∀ p ∈ ps, 2 ≤ p ∧ p ≤ 1000000) ∧ ∀ H', Same H H' → Q (.bl true) H'
theorem ok_law_last_right (T : Txt K mg) : Fn P w K mg base 4 "_law_last_right" ["_law_house_here", "_law_primes_here"] (sp2 rLR) := by
  have G_last_turn := ok_last_turn (P := P) (w := w) (base := base) T
  have G_law_whole := ok_law_whole (P := P) (w := w) (base := base) T
  refine T.d_law_last_right.ok sc_law_last_right len2 fun f cdv A outer s H vs Q E hr hg h => ?_
  obtain ⟨_, _, rfl, hb, hs, pb, ps, rfl, rfl, hhb, hpb, R, pbd, q⟩ := h
  refine ⟨_, (pss_cons (ps_set (i := 2) sc_law_last_right.nd rfl (by first | exact Or.inl rfl | exact Or.inr rfl) (pe_fn G_last_turn (hr.mono (by decide)) hg (by rfl) (pa_cons (pv 0) pa_nil)))
(pss_cons (ps_if (PW.pt (pw_or (pt_not (pt_val (pe_fn G_law_whole (hr.mono (by decide)) hg (by rfl) (pa_cons (pv 2) pa_nil)))) (pw_or1 (pt_cmpR op_lt (pv 2) pe_int (nomark _)))))
(pss_one (ps_ret pe_bl))
pss_nil)
(pss_cons (ps_if (pt_cmpR (neD_K (K := K) hr rfl) (pe_lc (own := [("_law_one", 4)]) rfl sc_law_last_right.nd (piT_K (K := K) rfl (pv 0)) (blkOk_by (own := [("_law_one", 4)]) (N := N_law_last_right) (sc := defScope s_law_last_right) (by decide +kernel)) (fun _ _ _ _ _ => (pg_name (i := 4) sc_law_last_right.nd rfl (by first | exact Or.inl rfl | exact Or.inr rfl))) (fun _ _ _ _ _ => (pts_one (pt_cmpR op_ne (pe_op op_mod (pv 2) (pv 4)) pe_int (nomark _)))) (fun _ _ _ _ _ => (pv 4))) (pe_lst pa_nil) (nomark _))
(pss_one (ps_ret pe_bl))
pss_nil)
(pss_cons (ps_for PassesOwn.never rfl (piL_K (K := K) rfl (pv 1)) (pg_name (i := 3) sc_law_last_right.nd rfl (by first | exact Or.inl rfl | exact Or.inr rfl))
(pss_one (ps_if (PW.pt (pw_and (pt_cmpR op_eq (pe_op op_mod (pv 2) (pv 3)) pe_int (nomark _)) (pw_and1 (pt_cmpR (op_eqLE hr) (pe_lc (own := [("_law_one", 4)]) rfl sc_law_last_right.nd (piT_K (K := K) rfl (pv 0)) (blkOk_by (own := [("_law_one", 4)]) (N := N_law_last_right) (sc := defScope s_law_last_right) (by decide +kernel)) (fun _ _ _ _ _ => (pg_name (i := 4) sc_law_last_right.nd rfl (by first | exact Or.inl rfl | exact Or.inr rfl))) (fun _ _ _ _ _ => (pts_one (pt_cmpR op_ne (pe_op op_mod (pe_op op_fdiv (pv 2) (pv 3)) (pv 4)) pe_int (nomark _)))) (fun _ _ _ _ _ => (pv 4))) (pe_lst pa_nil) (nomark _)))))
(pss_one (ps_ret pe_bl))
pss_nil)))
(pss_one (ps_ret pe_bl)))))), ?_⟩
  have pos := rh_pos R
  have h6 := R.1
  have lp := lcm_pos pos
  refine ⟨_, rfl, _, rfl, hb, hs, rfl, hhb, R, ?_⟩
  try dsimp only [gName]
  refine if_no (fun H' => H' = H) (fun Q2 q2 => ?_) (fun H1 e1 => ?_)
  · refine ⟨_, rfl, _, rfl, _, rfl, true, rfl, iteF ?_⟩
    refine ⟨_, rfl, _, _, rfl, rfl, _, rfl, ?_⟩
    exact qN (Q := Q2) (show ¬ lcmL hs < 1 by omega) (q2 _ rfl)
  subst e1
  try dsimp only [gName]
  refine if_no (fun H' => Same H1 H') (fun Q2 q2 => ?_) (fun H2 s2 => ?_)
  · refine ⟨_, rfl, hb, rfl, ⟨_, SqT.of hhb⟩, fun D nD => lc_tup (K := K) (a := hb) (xs := hs.map V.int) (fun k H' => Same H1 H' ∧ H' D = some (.lst [])) ⟨same_new nD, upd_same⟩ (fun k H' _ h => SqT.of (h.1 _ _ hhb)) ?_ ?_⟩
    · rintro k v H4 hk ⟨s4, hD⟩
      obtain ⟨x, rfl, ex⟩ := int_at hk
      have xm := List.mem_of_getElem? ex
      refine ⟨rfl, _, rfl, _, rfl, _, _, rfl, rfl, pos x xm, rfl, _, rfl, iteNS (congrArg V.int (Int.emod_eq_zero_of_dvd (lcm_each pos x xm))) ⟨s4, hD⟩⟩
    · rintro H4 ⟨s4, hD⟩
      refine ⟨Nat.zero_le _, fun p hp => ne_nil (l := []) ((same_new hp) _ _ hD) upd_same ⟨_, rfl, ?_⟩⟩
      exact q2 _ (s4.trans (same_new hp))
  have hhb2 := s2 _ _ hhb
  have hpb2 := s2 _ _ hpb
  refine ⟨_, rfl, pb, rfl, ⟨_, SqL.of hpb2⟩, for_list (K := K) (a := pb) (xs := ps.map V.int) (fun k σ H' => ∃ o3 o4 : Option V, σ = [some (.ref hb), some (.ref pb), some (.int (lcmL hs)), o3, o4] ∧ Same H2 H') ⟨none, none, rfl, Same.refl _⟩ (fun k σ H' _ ⟨_, _, _, h⟩ => SqL.of (h _ _ hpb2)) ?_ ?_⟩
  · rintro k v σ H3 hk ⟨o3, o4, rfl, s3⟩
    obtain ⟨b, rfl, ex⟩ := int_at hk
    have bb := pbd b (List.mem_of_getElem? ex)
    have hhb3 := s3 _ _ hhb2
    try dsimp only [gName]
    refine if_no1 (fun H' => Same H3 H') (fun Q2 q2 => ?_) (fun H4 s4 => ?_)
    · refine ⟨_, rfl, _, rfl, _, _, rfl, rfl, (show (0 : Int) < b by omega), rfl, _, rfl, ite2 (fun e => ?_) (fun e => ?_)⟩
      · have dv := Int.dvd_of_emod_eq_zero (eq_yes e)
        refine ⟨_, rfl, hb, rfl, ⟨_, SqT.of hhb3⟩, fun D nD => lc_tup (K := K) (a := hb) (xs := hs.map V.int) (fun k H' => Same H3 H' ∧ ∃ ys, H' D = some (.lst ys) ∧ ys.length ≤ k ∧ (ys = [] → ∀ x ∈ hs.take k, x ∣ lcmL hs / b)) ⟨same_new nD, [], upd_same, Nat.le_refl _, fun _ x hx => by simp at hx⟩ (fun k H' _ h => SqT.of (h.1 _ _ hhb3)) ?_ ?_⟩
        · rintro k v H4 hk ⟨s4, ys, hD, yl, ye⟩
          obtain ⟨x, rfl, ex⟩ := int_at hk
          have xm := List.mem_of_getElem? ex
          have kl : k < hs.length := (List.getElem?_eq_some_iff.mp ex).1
          refine ⟨rfl, _, rfl, _, rfl, _, _, rfl, rfl, ⟨by omega, by omega⟩, _, rfl, _, _, rfl, rfl, pos x xm, rfl, _, rfl, ite2 (fun e2 => ?_) (fun e2 => ?_)⟩
          · refine ⟨_, rfl, ys, hD, small1000 (by omega), fresh_same s4 nD, _, upd_same, ?_, fun z => ?_⟩
            · rw [List.length_append]
              show ys.length + 1 ≤ k + 1
              omega
            · simp at z
          · have e3 := ne_no e2
            refine ⟨s4, ys, hD, by omega, fun z y hy => ?_⟩
            rw [take_snoc ex] at hy
            rcases List.mem_append.mp hy with w | w
            · exact ye z y w
            · rw [List.mem_singleton.mp w]
              exact Int.dvd_of_emod_eq_zero e3
        · rintro H4 ⟨s4, ys, hD, yl, ye⟩
          rw [List.length_map, List.take_length] at ye
          refine ⟨Nat.zero_le _, fun p hp => ⟨D, p, ys, rfl, rfl, (same_new hp) _ _ hD, upd_same, _, rfl, ?_⟩⟩
          have yn : ys.isEmpty = false := by
            cases ys with
            | nil =>
              obtain ⟨x, xm, xn⟩ := last_least pos bb.1 dv
              exact absurd (ye rfl x xm) xn
            | cons _ _ => rfl
          rw [yn]
          exact q2 _ (s4.trans (same_new hp))
      · exact q2 _ (Same.refl _)
    · exact ⟨_, _, rfl, s3.trans s4⟩
  · rintro σ H3 ⟨o3, o4, rfl, s3⟩
    exact q _ (s2.trans s3)

/-! ### the law -/
def spLaw (K : PySem.W.Frag) (Bs : List Addr) : Sp := fun vs H Q _ => ∃ (a : Addr) (ns : List Int), vs = [.ref a] ∧ SqL K H a (ns.map V.int) ∧ ns.length ≤ 63 ∧ Bs.Nodup ∧ (∀ B ∈ Bs, H B = some (.tbl #[])) ∧ ∀ H', Q (.bl true) H'
def dbl (hs : List Int) : List Int := hs.map fun h => if 2 * h < 1000000 then 2 * h else 1000000
theorem rh_dbl {hs : List Int} (R : RH hs) : RH (dbl hs) := by
  refine ⟨by unfold dbl; rw [List.length_map]; exact R.1, fun x hx => ?_⟩
  obtain ⟨h, hm, rfl⟩ := List.mem_map.mp hx
  have := R.2 h hm
  show 1 ≤ (if 2 * h < 1000000 then 2 * h else 1000000) ∧ (if 2 * h < 1000000 then 2 * h else 1000000) ≤ 1000000
  split <;> omega
theorem tg_dbl {hs ts : List Int} (R : ∀ x ∈ hs, 1 ≤ x ∧ x ≤ 1000000) (t : Tg hs ts) : Tg (dbl hs) ts := by
  induction t with
  | nil => exact .nil
  | @cons h a l m ha t ih =>
    refine .cons ?_ (ih fun y hy => R y (List.mem_cons_of_mem _ hy))
    have := R h (by simp)
    refine ⟨ha.1, ?_⟩
    show a < (if 2 * h < 1000000 then 2 * h else 1000000)
    split <;> omega
theorem rep_zero (n : Nat) : (List.replicate n [V.int 0]).flatten = (List.replicate n (0 : Int)).map V.int := by
  induction n with
  | zero => rfl
  | succ n ih => rw [List.replicate_succ, List.flatten_cons, ih]; rfl
theorem tg_nil : Tg [] [] := .nil
theorem rh_nil : RH [] := ⟨by decide, fun x hx => by simp at hx⟩
theorem ok_law {f : Addr} {fd : FuncData} {c1 B : Addr} (T : Txt K mg) (D1 : DfC K mg "is_thing" s_is_thing ["house", "thing"] c1) (TB1 : TabB base mg c1 B) (ne : [B].Nodup) (F : Fun K "law" "law" s_law f fd) : FnG P w K mg base CX0 7 f fd ["_law_script"] (spLaw K [B]) := by
  have G_turn := ok_turn (P := P) (w := w) (base := base) T D1 TB1
  have G_last_turn := ok_last_turn (P := P) (w := w) (base := base) T
  have G_law_pen := ok_law_pen (P := P) (w := w) (base := base) T
  have G_law_house := ok_law_house (P := P) (w := w) (base := base) T
  have G_law_thing := ok_law_thing (P := P) (w := w) (base := base) T
  have G_law_primes := ok_law_primes (P := P) (w := w) (base := base) T
  have G_law_short := ok_law_short (P := P) (w := w) (base := base) T
  have G_law_right := ok_law_right (P := P) (w := w) (base := base) T D1 TB1
  have G_law_last_right := ok_law_last_right (P := P) (w := w) (base := base) T
  refine fng_mk F sc_law (fun vs H Q E h => ?_) (fun cdv A outer s H vs Q E hr hg h => ?_)
  · obtain ⟨a, ns, rfl, _⟩ := h
    rfl
  obtain ⟨a0, ns, rfl, hS, hl, _, htab, q⟩ := h
  have tb0 : TabG H B := ⟨#[], htab B (by simp), by simp [TriplesOk]⟩
  refine ⟨_, PSs.nox (pss_cons (ps_set (i := 1) sc_law.nd rfl (by first | exact Or.inl rfl | exact Or.inr rfl) (pe_fn G_law_pen (hr.mono (by decide)) hg (by rfl) (pa_cons (pv 0) pa_nil)))
(pss_cons (ps_for PassesOwn.never rfl (pi_range1 (by rfl) T.n_range (pa_cons pe_int pa_nil)) (pg_name (i := 2) sc_law.nd rfl (by first | exact Or.inl rfl | exact Or.inr rfl))
(pss_cons (ps_set (i := 3) sc_law.nd rfl (by first | exact Or.inl rfl | exact Or.inr rfl) (pe_fn G_law_house (hr.mono (by decide)) hg (by rfl) (pa_cons (pv 1) pa_nil)))
(pss_cons (ps_set (i := 4) sc_law.nd rfl (by first | exact Or.inl rfl | exact Or.inr rfl) (pe_fn G_law_primes (hr.mono (by decide)) hg (by rfl) (pa_cons (pv 3) pa_nil)))
(pss_cons (ps_if (pt_not (pt_val (pe_fn G_law_last_right (hr.mono (by decide)) hg (by rfl) (pa_cons (pv 3) (pa_cons (pv 4) pa_nil)))))
(pss_one (ps_ret pe_bl))
pss_nil)
(pss_cons (ps_set (i := 5) sc_law.nd rfl (by first | exact Or.inl rfl | exact Or.inr rfl) (pe_lst (pa_cons (pe_fn G_law_thing (hr.mono (by decide)) hg (by rfl) (pa_cons (pv 1) (pa_cons (pv 3) pa_nil))) (pa_cons (pe_callTy (tupOf_K (K := K) rfl) (by rfl) T.n_tuple (by decide +kernel) (pa_cons (pe_op op_rep (pe_lst (pa_cons pe_int pa_nil)) (pe_callB (len_K (K := K) rfl) (by rfl) T.n_len (by decide +kernel) (pa_cons (pv 3) pa_nil))) pa_nil)) pa_nil))))
(pss_cons (ps_expr (pe_bm PySem.F.plainAttrs_list PySem.F.slot_list_append PySem.F.type_list_append mt_append (pv 5) (pa_cons (pe_fn G_law_short (hr.mono (by decide)) hg (by rfl) (pa_cons (pv 1) (pa_cons (pv 3) (pa_cons (pv 4) (pa_cons (pe_fn G_law_thing (hr.mono (by decide)) hg (by rfl) (pa_cons (pv 1) (pa_cons (pv 3) pa_nil))) pa_nil))))) pa_nil)))
(pss_cons (ps_set (i := 6) sc_law.nd rfl (by first | exact Or.inl rfl | exact Or.inr rfl) (pe_callTy (tupOf_K (K := K) rfl) (by rfl) T.n_tuple (by decide +kernel) (pa_cons (pe_lc (own := [("_law_one", 9)]) rfl sc_law.nd (piT_K (K := K) rfl (pv 3)) (blkOk_by (own := [("_law_one", 9)]) (N := N_law) (sc := defScope s_law) (by decide +kernel)) (fun _ _ _ _ _ => (pg_name (i := 9) sc_law.nd rfl (by first | exact Or.inl rfl | exact Or.inr rfl))) (fun _ _ _ _ _ => pts_nil) (fun _ _ _ _ _ => (pe_callB (call_min2 rfl) (by rfl) T.n_min (by decide +kernel) (pa_cons (pe_op op_pow pe_int pe_int) (pa_cons (pe_op op_mul pe_int (pv 9)) pa_nil))))) pa_nil)))
(pss_cons (ps_set (i := 7) sc_law.nd rfl (by first | exact Or.inl rfl | exact Or.inr rfl) (SL.pe_sortedSet rfl (by rfl) T.n_sorted (by rfl) T.n_set (pe_op op_cat (pv 4) (pe_lst (pa_cons pe_int (pa_cons pe_int pa_nil))))))
(pss_one (ps_for PassesOwn.never rfl (piL_K (K := K) rfl (pv 5)) (pg_name (i := 8) sc_law.nd rfl (by first | exact Or.inl rfl | exact Or.inr rfl))
(pss_one (ps_if (PW.pt (pw_or (pt_not (pt_val (pe_fn G_law_right (hr.mono (by decide)) hg (by rfl) (pa_cons (pv 3) (pa_cons (pv 4) (pa_cons (pv 8) pa_nil)))))) (pw_or1 (pt_not (pt_val (pe_fn G_law_right (hr.mono (by decide)) hg (by rfl) (pa_cons (pv 6) (pa_cons (pv 7) (pa_cons (pv 8) pa_nil)))))))))
(pss_one (ps_ret pe_bl))
pss_nil))))))))))))
(pss_one (ps_ret (pe_and (pe_cmpR op_eq (pe_fn G_turn (hr.mono (by decide)) hg (by rfl) (pa_cons (pe_tup pa_nil) (pa_cons (pe_tup pa_nil) pa_nil))) pe_int (nomark _)) (pe_one (pe_cmpR op_eq (pe_fn G_last_turn (hr.mono (by decide)) hg (by rfl) (pa_cons (pe_tup pa_nil) pa_nil)) pe_int (nomark _)))))))), ?_⟩
  refine ⟨_, rfl, _, rfl, a0, ns, rfl, hS, fun d H1 nd sm hp => ?_⟩
  refine ⟨2, rfl, by decide, by decide, for_range (lo := 0) (n := 2) (fun k σ H' => ∃ o2 o3 o4 o5 o6 o7 o8 o9 : Option V, σ = [some (.ref a0), some (.ref d), o2, o3, o4, o5, o6, o7, o8, o9] ∧ Pen K H' d a0 ns (100 * k) ∧ TabG H' B)
    ⟨none, none, none, none, none, none, none, none, rfl, by simpa using hp, tab_same tb0 sm⟩ ?_ ?_⟩
  · rintro k σ H2 hk ⟨o2, o3, o4, o5, o6, o7, o8, o9, rfl, hp2, t2⟩
    refine ⟨_, rfl, _, rfl, d, a0, ns, _, rfl, hp2, by omega, fun hb H3 hs hhb h6 hx hp3 b3 => ?_⟩
    have R : RH hs := ⟨h6, hx⟩
    have t3 := tab_but hp2 t2 b3
    refine ⟨_, rfl, _, rfl, hb, hs, rfl, hhb, R, fun pb H4 ps s4 hpb pl pbd => ?_⟩
    have hhb4 := s4 _ _ hhb
    have hp4 := hp3.same s4
    have t4 := tab_same t3 s4
    try dsimp only [gName]
    refine if_no (fun H' => Same H4 H') (fun Q2 q2 => ?_) (fun H5 s5 => ?_)
    · refine ⟨_, rfl, _, rfl, _, _, rfl, hb, hs, pb, ps, rfl, rfl, hhb4, hpb, R, pbd, fun H5 s5 => ⟨true, rfl, ?_⟩⟩
      exact q2 _ s5
    have hhb5 := s5 _ _ hhb4
    have hpb5 := s5 _ _ hpb
    have hp5 := hp4.same s5
    have t5 := tab_same t4 s5
    -- the things
    refine ⟨_, rfl, _, rfl, _, _, rfl, d, a0, ns, _, hb, hs, rfl, rfl, hp5, by omega, hhb5, h6, hx, fun r1 H6 ts1 hr1 tg1 hp6 b6 => ?_⟩
    obtain ⟨kv5, hd5⟩ := pen_at3 hp5
    have hhb6 := b6 _ _ (ne_of hhb5 hd5 (by intro z; cases z)) hhb5
    have hpb6 := b6 _ _ (ne_of hpb5 hd5 (by intro z; cases z)) hpb5
    have t6 := tab_but hp5 t5 b6
    refine ⟨(by show 1 ≤ sizeLine; decide), fun l1 hl1 => ?_⟩
    have s7 := same_new (H := H6) (o := .lst [.int 0]) hl1
    refine ⟨_, rfl, hb, _, rfl, .inr (SqT.of (s7 _ _ hhb6)), ?_⟩
    rw [List.length_map]
    refine ⟨l1, _, _, rfl, rfl, upd_same, by omega, by omega, ?_, fun l2 hl2 => ?_⟩
    · rw [Int.toNat_natCast]
      show 1 * hs.length ≤ sizeLine
      exact Nat.le_of_lt (small1000 (by omega))
    rw [Int.toNat_natCast, rep_zero]
    have s8 := s7.trans (same_new (o := .lst ((List.replicate hs.length (0 : Int)).map V.int)) hl2)
    refine ⟨l2, _, rfl, .inl ⟨SqL.of upd_same, fun z0 hz0 => ?_⟩⟩
    have s9 := s8.trans (same_new (o := .tup ((List.replicate hs.length (0 : Int)).map V.int)) hz0)
    refine ⟨(by show 2 ≤ sizeLine; decide), fun L hL => ?_⟩
    have s10 := s9.trans (same_new (o := .lst [.ref r1, .ref z0]) hL)
    have hz10 := (same_new (o := .lst [.ref r1, .ref z0]) hL) z0 (.tup ((List.replicate hs.length (0 : Int)).map V.int)) upd_same
    have hr10 := s10 _ _ hr1
    have hhb10 := s10 _ _ hhb6
    have hpb10 := s10 _ _ hpb6
    have hp10 := hp6.same s10
    have t10 := tab_same t6 s10
    have hL10 : (upd (upd (upd (upd H6 l1 (.lst [.int 0])) l2 (.lst ((List.replicate hs.length (0 : Int)).map V.int))) z0 (.tup ((List.replicate hs.length (0 : Int)).map V.int))) L (.lst [.ref r1, .ref z0])) L = some (.lst [.ref r1, .ref z0]) := upd_same
    have sL : Same (upd (upd (upd H6 l1 (.lst [.int 0])) l2 (.lst ((List.replicate hs.length (0 : Int)).map V.int))) z0 (.tup ((List.replicate hs.length (0 : Int)).map V.int))) (upd (upd (upd (upd H6 l1 (.lst [.int 0])) l2 (.lst ((List.replicate hs.length (0 : Int)).map V.int))) z0 (.tup ((List.replicate hs.length (0 : Int)).map V.int))) L (.lst [.ref r1, .ref z0])) := same_new hL
    have hp9 := hp6.same s9
    generalize upd (upd (upd (upd H6 l1 (.lst [.int 0])) l2 (.lst ((List.replicate hs.length (0 : Int)).map V.int))) z0 (.tup ((List.replicate hs.length (0 : Int)).map V.int))) L (.lst [.ref r1, .ref z0]) = H10 at hz10 hr10 hhb10 hpb10 hp10 t10 hL10 sL ⊢
    obtain ⟨kv10, hd10⟩ := pen_at3 hp10
    refine ⟨_, rfl, .inl ⟨rfl, _, SqL.of hL10⟩, _, rfl, _, rfl, _, rfl, _, rfl, _, rfl, _, _, rfl, d, a0, ns, _, hb, hs, rfl, rfl, hp10, by omega, hhb10, h6, hx, fun r2 H11 ts2 hr2 tg2 hp11 b11 => ?_⟩
    have up11 : ∀ {x : Addr} {o : HO}, (∀ kvs, o ≠ .dK kvs) → H10 x = some o → H11 x = some o := fun n h => b11 _ _ (ne_of h hd10 (n _)) h
    have hhb11 := up11 (by intro _ z; cases z) hhb10
    have hpb11 := up11 (by intro _ z; cases z) hpb10
    have t11 := tab_but hp10 t10 b11
    refine ⟨_, _, _, _, rfl, d, a0, ns, _, hb, hs, pb, ps, r2, ts2, rfl, rfl, rfl, rfl, hp11, by omega, hhb11, hpb11, hr2, R, tg2, by omega, pbd, fun r3 H12 ts3 hr3 tg3 hp12 b12 => ?_⟩
    obtain ⟨kv11, hd11⟩ := pen_at3 hp11
    have up12 : ∀ {x : Addr} {o : HO}, (∀ kvs, o ≠ .dK kvs) → H11 x = some o → H12 x = some o := fun n h => b12 _ _ (ne_of h hd11 (n _)) h
    have hhb12 := up12 (by intro _ z; cases z) hhb11
    have hpb12 := up12 (by intro _ z; cases z) hpb11
    have hL12 := up12 (by intro _ z; cases z) (up11 (by intro _ z; cases z) hL10)
    have hr12 := up12 (by intro _ z; cases z) (up11 (by intro _ z; cases z) hr10)
    have hz12 := up12 (by intro _ z; cases z) (up11 (by intro _ z; cases z) hz10)
    have t12 := tab_but hp11 t11 b12
    refine ⟨L, _, _, rfl, rfl, hL12, small1000 (by show 2 ≤ 1000; decide), ?_⟩
    -- behind the append
    have keep : ∀ {x : Addr} {xs : List V}, H12 x = some (.tup xs) → (upd H12 L (.lst ([.ref r1, .ref z0] ++ [.ref r3]))) x = some (.tup xs) := fun {x xs} h => by
      rw [upd_ne (ne_of h hL12 (by intro z; cases z))]
      exact h
    have hhb13 := keep hhb12
    have hr13 := keep hr12
    have hz13 := keep hz12
    have hq13 := keep hr3
    have nPL : pb ≠ L := by
      rintro rfl
      rw [hL12] at hpb12
      have : ([V.ref r1, .ref z0] : List V) = ps.map V.int := by
        injection hpb12 with e
        injection e
      cases ps with
      | nil => cases this
      | cons x r =>
        injection this with e _
        cases e
    have hpb13 : (upd H12 L (.lst ([.ref r1, .ref z0] ++ [.ref r3]))) pb = some (.lst (ps.map V.int)) := by
      rw [upd_ne nPL]
      exact hpb12
    have t13 : TabG (upd H12 L (.lst ([.ref r1, .ref z0] ++ [.ref r3]))) B := by
      obtain ⟨qs, e, o⟩ := t12
      exact ⟨qs, by rw [upd_ne (ne_of e hL12 (by intro z; cases z))]; exact e, o⟩
    have hp13 : Pen K (upd H12 L (.lst ([.ref r1, .ref z0] ++ [.ref r3]))) d a0 ns _ := pen_up hp9 (((But.same sL).trans b11).trans b12) hp12 hL
    have hL13 : (upd H12 L (.lst ([.ref r1, .ref z0] ++ [.ref r3]))) L = some (.lst [.ref r1, .ref z0, .ref r3]) := upd_same
    generalize upd H12 L (.lst ([.ref r1, .ref z0] ++ [.ref r3])) = H13 at hhb13 hr13 hz13 hq13 hpb13 t13 hp13 hL13 ⊢
    -- the other house
    have e6 : (10 : Int) ^ (6 : Int).toNat = 1000000 := by decide
    refine ⟨_, rfl, hb, rfl, ⟨_, SqT.of hhb13⟩, fun G nG => lc_tup (K := K) (a := hb) (xs := hs.map V.int) (fun i H' => Same H13 H' ∧ H' G = some (.lst (((dbl hs).take i).map V.int))) ⟨same_new nG, upd_same⟩ (fun i H' _ h => SqT.of (h.1 _ _ hhb13)) ?_ ?_⟩
    · rintro i v H14 hi ⟨s14, hG⟩
      obtain ⟨x, rfl, ex⟩ := int_at hi
      have xb := hx x (List.mem_of_getElem? ex)
      have il : i < hs.length := (List.getElem?_eq_some_iff.mp ex).1
      refine ⟨rfl, 10, 6, rfl, rfl, ⟨by decide, by decide, by decide⟩, _, rfl, _, _, rfl, rfl, .inl ⟨by decide, by decide⟩, _, _, rfl, _, hG, ?_, fresh_same s14 nG, ?_⟩
      · rw [List.length_map, List.length_take]
        exact small1000 (by omega)
      · have ez : (dbl hs)[i]? = some (if 2 * x < 1000000 then 2 * x else 1000000) := by
          unfold dbl
          rw [List.getElem?_map, ex]
          rfl
        rw [upd_same, take_snoc ez, List.map_append, e6]
        rfl
    rintro H14 ⟨s14, hG⟩
    have dl : (dbl hs).length = hs.length := by
      unfold dbl
      rw [List.length_map]
    rw [List.length_map, ← dl, List.take_length] at hG
    refine ⟨G, _, rfl, .inl ⟨SqL.of hG, fun ob hob => ?_⟩⟩
    have s15 := s14.trans (same_new (o := .tup ((dbl hs).map V.int)) hob)
    have hob15 : (upd H14 ob (.tup ((dbl hs).map V.int))) ob = some (.tup ((dbl hs).map V.int)) := upd_same
    generalize upd H14 ob (.tup ((dbl hs).map V.int)) = H15 at s15 hob15 ⊢
    -- more divisors
    refine ⟨_, rfl, (by show 2 ≤ sizeLine; decide), fun m1 hm1 => ?_⟩
    have s16 := s15.trans (same_new (o := .lst [.int 2, .int 5]) hm1)
    refine ⟨pb, m1, _, _, rfl, rfl, s16 _ _ hpb13, upd_same, ?_, fun m2 hm2 => ?_⟩
    · rw [List.length_map]
      show ps.length + 2 ≤ sizeLine
      exact Nat.le_of_lt (small1000 (by omega))
    have el : ps.map V.int ++ [.int 2, .int 5] = (ps ++ [2, 5]).map V.int := by
      rw [List.map_append]
      rfl
    rw [el]
    have s17 := s16.trans (same_new (o := .lst ((ps ++ [2, 5]).map V.int)) hm2)
    have nl : (ps ++ [2, 5]).length = ps.length + 2 := by
      rw [List.length_append]
      rfl
    refine ⟨m2, _, rfl, SqL.of upd_same, by omega, fun u und us => ?_, fun u mb und us u64 hmb => ?_⟩
    · have := nodup_len und us
      omega
    have ub : ∀ p ∈ u, 2 ≤ p ∧ p ≤ 1000000 := fun p hp' => by
      rcases List.mem_append.mp (us p hp') with z | z
      · exact pbd p z
      · simp only [List.mem_cons, List.not_mem_nil, or_false] at z
        omega
    have s18 := s17.trans (same_new (o := .lst (u.map V.int)) hmb)
    have hmb18 : (upd (upd (upd H15 m1 (.lst [.int 2, .int 5])) m2 (.lst ((ps ++ [2, 5]).map V.int))) mb (.lst (u.map V.int))) mb = some (.lst (u.map V.int)) := upd_same
    have s1518 : Same H15 (upd (upd (upd H15 m1 (.lst [.int 2, .int 5])) m2 (.lst ((ps ++ [2, 5]).map V.int))) mb (.lst (u.map V.int))) := ((same_new hm1).trans (same_new hm2)).trans (same_new hmb)
    generalize upd (upd (upd H15 m1 (.lst [.int 2, .int 5])) m2 (.lst ((ps ++ [2, 5]).map V.int))) mb (.lst (u.map V.int)) = H18 at s18 hmb18 s1518 ⊢
    have hhb18 := s18 _ _ hhb13
    have hpb18 := s18 _ _ hpb13
    have hob18 := s1518 _ _ hob15
    have hL18 := s18 _ _ hL13
    have t18 := tab_same t13 s18
    have hp18 := hp13.same s18
    refine ⟨_, rfl, L, rfl, ⟨_, SqL.of hL18⟩, for_list (K := K) (a := L) (xs := [.ref r1, .ref z0, .ref r3]) (fun i σ H' => ∃ o8 : Option V, σ = [some (.ref a0), some (.ref d), some (.int (0 + (k : Int))), some (.ref hb), some (.ref pb), some (.ref L), some (.ref ob), some (.ref mb), o8, o9] ∧ But B H18 H' ∧ TabG H' B)
      ⟨_, rfl, But.refl _ _, t18⟩ (fun i σ H' _ ⟨_, _, b, _⟩ => SqL.of (lst_but t18 b hL18)) ?_ ?_⟩
    · rintro i v σ H19 hi ⟨o8, rfl, b19, t19⟩
      obtain ⟨r, ts, rfl, hr18, tg⟩ : ∃ r ts, v = .ref r ∧ H18 r = some (.tup (ts.map V.int)) ∧ Tg hs ts := by
        rcases i with _ | _ | _ | i
        · exact ⟨r1, ts1, (Option.some.inj hi).symm, s18 _ _ hr13, tg1⟩
        · exact ⟨z0, Z hs, (Option.some.inj hi).symm, s18 _ _ hz13, tg_z tg1⟩
        · exact ⟨r3, ts3, (Option.some.inj hi).symm, s18 _ _ hq13, tg3⟩
        · simp at hi
      have hr19 := tup_but t18 b19 hr18
      have hhb19 := tup_but t18 b19 hhb18
      have hob19 := tup_but t18 b19 hob18
      have hpb19 := lst_but t18 b19 hpb18
      have hmb19 := lst_but t18 b19 hmb18
      try dsimp only [gName]
      refine if_no1 (fun H' => But B H19 H' ∧ TabG H' B) (fun Q2 q2 => ?_) (fun H20 h20 => ?_)
      · refine ⟨_, rfl, _, rfl, _, rfl, _, _, _, rfl, hb, hs, pb, ps, r, ts, rfl, rfl, rfl, hhb19, hpb19, hr19, R, tg, by omega, pbd, t19, fun H20 b20 t20 => ⟨true, rfl, iteF ?_⟩⟩
        refine ⟨_, rfl, _, rfl, _, rfl, _, _, _, rfl, ob, dbl hs, mb, u, r, ts, rfl, rfl, rfl, tup_but t19 b20 hob19, lst_but t19 b20 hmb19, tup_but t19 b20 hr19, rh_dbl R, tg_dbl hx tg, by omega, ub, t20, fun H21 b21 t21 => ⟨true, rfl, ?_⟩⟩
        exact q2 _ ⟨b20.trans b21, t21⟩
      · obtain ⟨b20, t20⟩ := h20
        exact ⟨_, rfl, b19.trans b20, t20⟩
    · rintro σ H19 ⟨o8, rfl, b19, t19⟩
      exact ⟨_, _, _, _, _, _, _, _, rfl, (pen_butB hp18 t18 b19).mono (by omega), t19⟩
  · rintro σ H2 ⟨o2, o3, o4, o5, o6, o7, o8, o9, rfl, hp2, t2⟩
    dsimp only
    refine ⟨(by show 0 ≤ sizeLine; decide), fun p1 h1 => ?_⟩
    have s3 := same_new (H := H2) (o := .tup []) h1
    refine ⟨(by show 0 ≤ sizeLine; decide), fun p2 h2 => ?_⟩
    have s4 := same_new (o := .tup []) h2
    refine ⟨_, _, rfl, p1, [], p2, [], rfl, rfl, s4 _ _ upd_same, upd_same, rh_nil, tg_nil, tab_same t2 (s3.trans s4), fun H5 b5 t5 => ?_⟩
    refine ⟨rfl, _, rfl, iteS rfl ?_⟩
    refine ⟨(by show 0 ≤ sizeLine; decide), fun p6 h6 => ?_⟩
    refine ⟨_, rfl, p6, [], rfl, upd_same, rh_nil, rfl, ?_⟩
    exact qS (Q := Q) rfl (q _)

end
theorem all_mk {l : PySem.W.OpenLaw} {q : Program} {w : World} {K : PySem.W.Frag} {h : Heap} {mg : Str → Option Value} {fa : Addr} (X : K.In h) (G : h.Ns mainGlobals mg) (hfa : mg "law" = some (.ref fa)) (own : ∀ (nm : Str) (f : Addr), ((recsOf q).any fun e => e.name == nm) = true → mg nm = some (.ref f) → LamX.OwnTab K f h)
    {f1 : Addr} {od1 an1 : Option Addr} {sl1 : Array (Option Value)} {oc1 kV1 dc1 pm1 ct1 : Value} {cd1 : Value}
    {f2 : Addr} {od2 an2 : Option Addr} {sl2 : Array (Option Value)} {oc2 kV2 dc2 pm2 ct2 : Value} {cd2 : Value}
    {f3 : Addr} {od3 an3 : Option Addr} {sl3 : Array (Option Value)} {oc3 kV3 dc3 pm3 ct3 : Value} {cd3 : Value}
    {f4 : Addr} {od4 an4 : Option Addr} {sl4 : Array (Option Value)} {oc4 kV4 dc4 pm4 ct4 : Value} {c4 B4 : Addr} {dd4 : Option Addr} {vs4 : Array Value} {sc4 : Array (Option Value)}
    {f5 : Addr} {od5 an5 : Option Addr} {sl5 : Array (Option Value)} {oc5 kV5 dc5 pm5 ct5 : Value} {cd5 : Value}
    {f6 : Addr} {od6 an6 : Option Addr} {sl6 : Array (Option Value)} {oc6 kV6 dc6 pm6 ct6 : Value} {cd6 : Value}
    {f7 : Addr} {od7 an7 : Option Addr} {sl7 : Array (Option Value)} {oc7 kV7 dc7 pm7 ct7 : Value} {cd7 : Value}
    {f8 : Addr} {od8 an8 : Option Addr} {sl8 : Array (Option Value)} {oc8 kV8 dc8 pm8 ct8 : Value} {cd8 : Value}
    {f9 : Addr} {od9 an9 : Option Addr} {sl9 : Array (Option Value)} {oc9 kV9 dc9 pm9 ct9 : Value} {cd9 : Value}
    {f10 : Addr} {od10 an10 : Option Addr} {sl10 : Array (Option Value)} {oc10 kV10 dc10 pm10 ct10 : Value} {cd10 : Value}
    {f11 : Addr} {od11 an11 : Option Addr} {sl11 : Array (Option Value)} {oc11 kV11 dc11 pm11 ct11 : Value} {cd11 : Value}
    {f12 : Addr} {od12 an12 : Option Addr} {sl12 : Array (Option Value)} {oc12 kV12 dc12 pm12 ct12 : Value} {cd12 : Value}
    {f13 : Addr} {od13 an13 : Option Addr} {sl13 : Array (Option Value)} {oc13 kV13 dc13 pm13 ct13 : Value} {cd13 : Value}
    {f14 : Addr} {od14 an14 : Option Addr} {sl14 : Array (Option Value)} {oc14 kV14 dc14 pm14 ct14 : Value} {cd14 : Value}
    {f15 : Addr} {od15 an15 : Option Addr} {sl15 : Array (Option Value)} {oc15 kV15 dc15 pm15 ct15 : Value} {cd15 : Value}
    {f16 : Addr} {od16 an16 : Option Addr} {sl16 : Array (Option Value)} {oc16 kV16 dc16 pm16 ct16 : Value} {cd16 : Value}
    {f17 : Addr} {od17 an17 : Option Addr} {sl17 : Array (Option Value)} {oc17 kV17 dc17 pm17 ct17 : Value} {cd17 : Value}
    {f18 : Addr} {od18 an18 : Option Addr} {sl18 : Array (Option Value)} {oc18 kV18 dc18 pm18 ct18 : Value} {cd18 : Value}
    {f19 : Addr} {od19 an19 : Option Addr} {sl19 : Array (Option Value)} {oc19 kV19 dc19 pm19 ct19 : Value} {cd19 : Value}
    (a1 : PySem.W.nsIn K mainGlobals "is_whole" = some (some (.ref f1))) (l1 : K.lookup f1 = some ⟨oc1, od1, .func (PySem.W.fnOf "is_whole" "is_whole" (defArgs s_is_whole) (defBody s_is_whole) (defScope s_is_whole) .none kV1 dc1 pm1 an1 cd1 ct1), sl1⟩) (c_1 : PySem.W.codeIn K cd1 "is_whole" = true) (k1 : PySem.W.keepIn K (.ref f1) = true)
    (a2 : PySem.W.nsIn K mainGlobals "common_measure" = some (some (.ref f2))) (l2 : K.lookup f2 = some ⟨oc2, od2, .func (PySem.W.fnOf "common_measure" "common_measure" (defArgs s_common_measure) (defBody s_common_measure) (defScope s_common_measure) .none kV2 dc2 pm2 an2 cd2 ct2), sl2⟩) (c_2 : PySem.W.codeIn K cd2 "common_measure" = true) (k2 : PySem.W.keepIn K (.ref f2) = true)
    (a3 : PySem.W.nsIn K mainGlobals "common_multiple" = some (some (.ref f3))) (l3 : K.lookup f3 = some ⟨oc3, od3, .func (PySem.W.fnOf "common_multiple" "common_multiple" (defArgs s_common_multiple) (defBody s_common_multiple) (defScope s_common_multiple) .none kV3 dc3 pm3 an3 cd3 ct3), sl3⟩) (c_3 : PySem.W.codeIn K cd3 "common_multiple" = true) (k3 : PySem.W.keepIn K (.ref f3) = true)
    (a4 : PySem.W.nsIn K mainGlobals "is_thing" = some (some (.ref f4))) (l4 : K.lookup f4 = some ⟨oc4, od4, .func (PySem.W.fnOf "is_thing" "is_thing" (defArgs s_is_thing) (defBody s_is_thing) (defScope s_is_thing) .none kV4 dc4 pm4 an4 (.ref c4) ct4), sl4⟩) (c_4 : PySem.W.codeIn K (.ref c4) "is_thing" = true) (k4 : PySem.W.keepIn K (.ref f4) = true)
    (g4 : K.lookup c4 = some ⟨.type "code", dd4, .fields vs4, sc4⟩) (b4 : (vs4[11]? : Option Value) = some (.ref B4)) (t4 : ∀ M : PySem.W.Frag, M.lookup c4 = some ⟨.type "code", dd4, .fields vs4, sc4⟩ → PySem.W.codeHdIn M c4 B4 = true) (o4 : K.lookup B4 = none) (r4 : ((recsOf q).any fun e => e.name == "is_thing") = true)
    (a5 : PySem.W.nsIn K mainGlobals "need_thing" = some (some (.ref f5))) (l5 : K.lookup f5 = some ⟨oc5, od5, .func (PySem.W.fnOf "need_thing" "need_thing" (defArgs s_need_thing) (defBody s_need_thing) (defScope s_need_thing) .none kV5 dc5 pm5 an5 cd5 ct5), sl5⟩) (c_5 : PySem.W.codeIn K cd5 "need_thing" = true) (k5 : PySem.W.keepIn K (.ref f5) = true)
    (a6 : PySem.W.nsIn K mainGlobals "turn" = some (some (.ref f6))) (l6 : K.lookup f6 = some ⟨oc6, od6, .func (PySem.W.fnOf "turn" "turn" (defArgs s_turn) (defBody s_turn) (defScope s_turn) .none kV6 dc6 pm6 an6 cd6 ct6), sl6⟩) (c_6 : PySem.W.codeIn K cd6 "turn" = true) (k6 : PySem.W.keepIn K (.ref f6) = true)
    (a7 : PySem.W.nsIn K mainGlobals "last_turn" = some (some (.ref f7))) (l7 : K.lookup f7 = some ⟨oc7, od7, .func (PySem.W.fnOf "last_turn" "last_turn" (defArgs s_last_turn) (defBody s_last_turn) (defScope s_last_turn) .none kV7 dc7 pm7 an7 cd7 ct7), sl7⟩) (c_7 : PySem.W.codeIn K cd7 "last_turn" = true) (k7 : PySem.W.keepIn K (.ref f7) = true)
    (a8 : PySem.W.nsIn K mainGlobals "_law_pen" = some (some (.ref f8))) (l8 : K.lookup f8 = some ⟨oc8, od8, .func (PySem.W.fnOf "_law_pen" "_law_pen" (defArgs s_law_pen) (defBody s_law_pen) (defScope s_law_pen) .none kV8 dc8 pm8 an8 cd8 ct8), sl8⟩) (c_8 : PySem.W.codeIn K cd8 "_law_pen" = true) (k8 : PySem.W.keepIn K (.ref f8) = true)
    (a9 : PySem.W.nsIn K mainGlobals "_law_draw" = some (some (.ref f9))) (l9 : K.lookup f9 = some ⟨oc9, od9, .func (PySem.W.fnOf "_law_draw" "_law_draw" (defArgs s_law_draw) (defBody s_law_draw) (defScope s_law_draw) .none kV9 dc9 pm9 an9 cd9 ct9), sl9⟩) (c_9 : PySem.W.codeIn K cd9 "_law_draw" = true) (k9 : PySem.W.keepIn K (.ref f9) = true)
    (a10 : PySem.W.nsIn K mainGlobals "_law_round" = some (some (.ref f10))) (l10 : K.lookup f10 = some ⟨oc10, od10, .func (PySem.W.fnOf "_law_round" "_law_round" (defArgs s_law_round) (defBody s_law_round) (defScope s_law_round) .none kV10 dc10 pm10 an10 cd10 ct10), sl10⟩) (c_10 : PySem.W.codeIn K cd10 "_law_round" = true) (k10 : PySem.W.keepIn K (.ref f10) = true)
    (a11 : PySem.W.nsIn K mainGlobals "_law_house" = some (some (.ref f11))) (l11 : K.lookup f11 = some ⟨oc11, od11, .func (PySem.W.fnOf "_law_house" "_law_house" (defArgs s_law_house) (defBody s_law_house) (defScope s_law_house) .none kV11 dc11 pm11 an11 cd11 ct11), sl11⟩) (c_11 : PySem.W.codeIn K cd11 "_law_house" = true) (k11 : PySem.W.keepIn K (.ref f11) = true)
    (a12 : PySem.W.nsIn K mainGlobals "_law_thing" = some (some (.ref f12))) (l12 : K.lookup f12 = some ⟨oc12, od12, .func (PySem.W.fnOf "_law_thing" "_law_thing" (defArgs s_law_thing) (defBody s_law_thing) (defScope s_law_thing) .none kV12 dc12 pm12 an12 cd12 ct12), sl12⟩) (c_12 : PySem.W.codeIn K cd12 "_law_thing" = true) (k12 : PySem.W.keepIn K (.ref f12) = true)
    (a13 : PySem.W.nsIn K mainGlobals "_law_whole" = some (some (.ref f13))) (l13 : K.lookup f13 = some ⟨oc13, od13, .func (PySem.W.fnOf "_law_whole" "_law_whole" (defArgs s_law_whole) (defBody s_law_whole) (defScope s_law_whole) .none kV13 dc13 pm13 an13 cd13 ct13), sl13⟩) (c_13 : PySem.W.codeIn K cd13 "_law_whole" = true) (k13 : PySem.W.keepIn K (.ref f13) = true)
    (a14 : PySem.W.nsIn K mainGlobals "_law_primes" = some (some (.ref f14))) (l14 : K.lookup f14 = some ⟨oc14, od14, .func (PySem.W.fnOf "_law_primes" "_law_primes" (defArgs s_law_primes) (defBody s_law_primes) (defScope s_law_primes) .none kV14 dc14 pm14 an14 cd14 ct14), sl14⟩) (c_14 : PySem.W.codeIn K cd14 "_law_primes" = true) (k14 : PySem.W.keepIn K (.ref f14) = true)
    (a15 : PySem.W.nsIn K mainGlobals "_law_nought" = some (some (.ref f15))) (l15 : K.lookup f15 = some ⟨oc15, od15, .func (PySem.W.fnOf "_law_nought" "_law_nought" (defArgs s_law_nought) (defBody s_law_nought) (defScope s_law_nought) .none kV15 dc15 pm15 an15 cd15 ct15), sl15⟩) (c_15 : PySem.W.codeIn K cd15 "_law_nought" = true) (k15 : PySem.W.keepIn K (.ref f15) = true)
    (a16 : PySem.W.nsIn K mainGlobals "_law_short" = some (some (.ref f16))) (l16 : K.lookup f16 = some ⟨oc16, od16, .func (PySem.W.fnOf "_law_short" "_law_short" (defArgs s_law_short) (defBody s_law_short) (defScope s_law_short) .none kV16 dc16 pm16 an16 cd16 ct16), sl16⟩) (c_16 : PySem.W.codeIn K cd16 "_law_short" = true) (k16 : PySem.W.keepIn K (.ref f16) = true)
    (a17 : PySem.W.nsIn K mainGlobals "_law_right" = some (some (.ref f17))) (l17 : K.lookup f17 = some ⟨oc17, od17, .func (PySem.W.fnOf "_law_right" "_law_right" (defArgs s_law_right) (defBody s_law_right) (defScope s_law_right) .none kV17 dc17 pm17 an17 cd17 ct17), sl17⟩) (c_17 : PySem.W.codeIn K cd17 "_law_right" = true) (k17 : PySem.W.keepIn K (.ref f17) = true)
    (a18 : PySem.W.nsIn K mainGlobals "_law_last_right" = some (some (.ref f18))) (l18 : K.lookup f18 = some ⟨oc18, od18, .func (PySem.W.fnOf "_law_last_right" "_law_last_right" (defArgs s_law_last_right) (defBody s_law_last_right) (defScope s_law_last_right) .none kV18 dc18 pm18 an18 cd18 ct18), sl18⟩) (c_18 : PySem.W.codeIn K cd18 "_law_last_right" = true) (k18 : PySem.W.keepIn K (.ref f18) = true)
    (a19 : PySem.W.nsIn K mainGlobals "law" = some (some (.ref f19))) (l19 : K.lookup f19 = some ⟨oc19, od19, .func (PySem.W.fnOf "law" "law" (defArgs s_law) (defBody s_law) (defScope s_law) .none kV19 dc19 pm19 an19 cd19 ct19), sl19⟩) (c_19 : PySem.W.codeIn K cd19 "law" = true) (k19 : PySem.W.keepIn K (.ref f19) = true)
    (z1 : PySem.W.nsIn K mainGlobals "abs" = some none)
    (z2 : PySem.W.nsIn K mainGlobals "all" = some none)
    (z3 : PySem.W.nsIn K mainGlobals "bool" = some none)
    (z4 : PySem.W.nsIn K mainGlobals "int" = some none)
    (z5 : PySem.W.nsIn K mainGlobals "isinstance" = some none)
    (z6 : PySem.W.nsIn K mainGlobals "len" = some none)
    (z7 : PySem.W.nsIn K mainGlobals "min" = some none)
    (z8 : PySem.W.nsIn K mainGlobals "range" = some none)
    (z9 : PySem.W.nsIn K mainGlobals "set" = some none)
    (z10 : PySem.W.nsIn K mainGlobals "sorted" = some none)
    (z11 : PySem.W.nsIn K mainGlobals "tuple" = some none)
    (z12 : PySem.W.nsIn K mainGlobals "zip" = some none)
    (ne : [B4].Nodup) : LawAtG l w K 7 63 "_law_script" mg fa h := by
  have e := hfa.symm.trans (PySem.W.mg_of X G a19)
  cases e
  have T : Txt K mg := ⟨df_mk (PySem.W.mg_of X G a1) l1 c_1 k1 (fun _ _ _ _ _ _ us hl => match us, hl with | [_], _ => rfl),
    df_mk (PySem.W.mg_of X G a2) l2 c_2 k2 (fun _ _ _ _ _ _ us hl => match us, hl with | [_, _], _ => rfl),
    df_mk (PySem.W.mg_of X G a3) l3 c_3 k3 (fun _ _ _ _ _ _ us hl => match us, hl with | [_, _], _ => rfl),
    df_mk (PySem.W.mg_of X G a4) l4 c_4 k4 (fun _ _ _ _ _ _ us hl => match us, hl with | [_, _], _ => rfl),
    df_mk (PySem.W.mg_of X G a5) l5 c_5 k5 (fun _ _ _ _ _ _ us hl => match us, hl with | [_, _], _ => rfl),
    df_mk (PySem.W.mg_of X G a6) l6 c_6 k6 (fun _ _ _ _ _ _ us hl => match us, hl with | [_, _], _ => rfl),
    df_mk (PySem.W.mg_of X G a7) l7 c_7 k7 (fun _ _ _ _ _ _ us hl => match us, hl with | [_], _ => rfl),
    df_mk (PySem.W.mg_of X G a8) l8 c_8 k8 (fun _ _ _ _ _ _ us hl => match us, hl with | [_], _ => rfl),
    df_mk (PySem.W.mg_of X G a9) l9 c_9 k9 (fun _ _ _ _ _ _ us hl => match us, hl with | [_, _], _ => rfl),
    df_mk (PySem.W.mg_of X G a10) l10 c_10 k10 (fun _ _ _ _ _ _ us hl => match us, hl with | [_], _ => rfl),
    df_mk (PySem.W.mg_of X G a11) l11 c_11 k11 (fun _ _ _ _ _ _ us hl => match us, hl with | [_], _ => rfl),
    df_mk (PySem.W.mg_of X G a12) l12 c_12 k12 (fun _ _ _ _ _ _ us hl => match us, hl with | [_, _], _ => rfl),
    df_mk (PySem.W.mg_of X G a13) l13 c_13 k13 (fun _ _ _ _ _ _ us hl => match us, hl with | [_], _ => rfl),
    df_mk (PySem.W.mg_of X G a14) l14 c_14 k14 (fun _ _ _ _ _ _ us hl => match us, hl with | [_], _ => rfl),
    df_mk (PySem.W.mg_of X G a15) l15 c_15 k15 (fun _ _ _ _ _ _ us hl => match us, hl with | [_, _, _], _ => rfl),
    df_mk (PySem.W.mg_of X G a16) l16 c_16 k16 (fun _ _ _ _ _ _ us hl => match us, hl with | [_, _, _, _], _ => rfl),
    df_mk (PySem.W.mg_of X G a17) l17 c_17 k17 (fun _ _ _ _ _ _ us hl => match us, hl with | [_, _, _], _ => rfl),
    df_mk (PySem.W.mg_of X G a18) l18 c_18 k18 (fun _ _ _ _ _ _ us hl => match us, hl with | [_, _], _ => rfl),
    df_mk (PySem.W.mg_of X G a19) l19 c_19 k19 (fun _ _ _ _ _ _ us hl => match us, hl with | [_], _ => rfl),
    PySem.W.mg_none_of X G z1,
    PySem.W.mg_none_of X G z2,
    PySem.W.mg_none_of X G z3,
    PySem.W.mg_none_of X G z4,
    PySem.W.mg_none_of X G z5,
    PySem.W.mg_none_of X G z6,
    PySem.W.mg_none_of X G z7,
    PySem.W.mg_none_of X G z8,
    PySem.W.mg_none_of X G z9,
    PySem.W.mg_none_of X G z10,
    PySem.W.mg_none_of X G z11,
    PySem.W.mg_none_of X G z12⟩
  refine ⟨PySem.W.fnOf "law" "law" (defArgs s_law) (defBody s_law) (defScope s_law) .none kV19 dc19 pm19 an19 cd19 ct19, [(c4, B4)], spLaw K [B4], ?_, ?_, ?_, fun s v => .of_eq rfl, ?_, ?_⟩
  · exact fun p hp => by
      simp only [List.mem_cons, List.not_mem_nil, or_false] at hp
      rcases hp with rfl
      · exact tab_of (own "is_thing" f4 r4 (PySem.W.mg_of X G a4)) l4 rfl (t4 K g4)
  · exact fun p hp => by
      simp only [List.mem_cons, List.not_mem_nil, or_false] at hp
      rcases hp with rfl
      · exact o4
  · exact fun p hp => by
      simp only [List.mem_cons, List.not_mem_nil, or_false] at hp
      rcases hp with rfl
      · exact PySem.W.codeHd_of_K X (t4 K g4)
  · exact fun H a ns hl hH hS => ⟨a, ns, rfl, hS, hl, ne, fun B hB => by
      simp only [List.mem_cons, List.not_mem_nil, or_false] at hB
      have e := hB
      · rw [e]; exact hH (c4, B4) (by simp), fun _ => rfl⟩
  · intro base _ _ TB
    exact ok_law T (dfc_mk (PySem.W.mg_of X G a4) l4 c_4 k4 (fun _ _ _ _ _ _ us hl => match us, hl with | [_, _], _ => rfl)) (TB (c4, B4) (by simp)) ne (fun_mk (st := s_law) l19 c_19 k19)
end K07
open PySem PySem.W PyProof.Rows
set_option maxRecDepth 100000 in
set_option maxHeartbeats 0 in
theorem PySem.Challenge.cw_commonhouse_k07_turns_told_holds : PySem.Challenge.rw_commonhouse_k07_turns_told.Holds := by
  w_on; o_law; k_head; (case hw => w_witness2)
  k_fill
  refine Cm.walk_gt (l := PySem.Challenge.rw_commonhouse_k07_turns_told) (n := 63) (k := 7) (x := "_law_script") rfl (by decide) rfl ⟨rfl, by decide, by decide⟩ (fun w h Y => PySem.W.kIn_of Y) ?F
  case F =>
    intro w mg fa h Y KX G hmg own
    refine' K07.all_mk KX G hmg own ?a1 ?l1 ?c_1 ?k1 ?a2 ?l2 ?c_2 ?k2 ?a3 ?l3 ?c_3 ?k3 ?a4 ?l4 ?c_4 ?k4 ?g4 ?b4 ?t4 ?o4 ?r4 ?a5 ?l5 ?c_5 ?k5 ?a6 ?l6 ?c_6 ?k6 ?a7 ?l7 ?c_7 ?k7 ?a8 ?l8 ?c_8 ?k8 ?a9 ?l9 ?c_9 ?k9 ?a10 ?l10 ?c_10 ?k10 ?a11 ?l11 ?c_11 ?k11 ?a12 ?l12 ?c_12 ?k12 ?a13 ?l13 ?c_13 ?k13 ?a14 ?l14 ?c_14 ?k14 ?a15 ?l15 ?c_15 ?k15 ?a16 ?l16 ?c_16 ?k16 ?a17 ?l17 ?c_17 ?k17 ?a18 ?l18 ?c_18 ?k18 ?a19 ?l19 ?c_19 ?k19 ?z1 ?z2 ?z3 ?z4 ?z5 ?z6 ?z7 ?z8 ?z9 ?z10 ?z11 ?z12 ?ne
    (case a1 => k_is)
    (case l1 => k_is)
    (case c_1 => k_is)
    (case k1 => k_is)
    (case a2 => k_is)
    (case l2 => k_is)
    (case c_2 => k_is)
    (case k2 => k_is)
    (case a3 => k_is)
    (case l3 => k_is)
    (case c_3 => k_is)
    (case k3 => k_is)
    (case a4 => k_is)
    (case l4 => k_is)
    (case c_4 => k_is)
    (case k4 => k_is)
    (case g4 => k_is)
    (case b4 => rfl)
    (case t4 => intro M e; unfold PySem.W.codeHdIn; rw [e]; rfl)
    (case o4 => rfl)
    (case r4 => decide +kernel)
    (case a5 => k_is)
    (case l5 => k_is)
    (case c_5 => k_is)
    (case k5 => k_is)
    (case a6 => k_is)
    (case l6 => k_is)
    (case c_6 => k_is)
    (case k6 => k_is)
    (case a7 => k_is)
    (case l7 => k_is)
    (case c_7 => k_is)
    (case k7 => k_is)
    (case a8 => k_is)
    (case l8 => k_is)
    (case c_8 => k_is)
    (case k8 => k_is)
    (case a9 => k_is)
    (case l9 => k_is)
    (case c_9 => k_is)
    (case k9 => k_is)
    (case a10 => k_is)
    (case l10 => k_is)
    (case c_10 => k_is)
    (case k10 => k_is)
    (case a11 => k_is)
    (case l11 => k_is)
    (case c_11 => k_is)
    (case k11 => k_is)
    (case a12 => k_is)
    (case l12 => k_is)
    (case c_12 => k_is)
    (case k12 => k_is)
    (case a13 => k_is)
    (case l13 => k_is)
    (case c_13 => k_is)
    (case k13 => k_is)
    (case a14 => k_is)
    (case l14 => k_is)
    (case c_14 => k_is)
    (case k14 => k_is)
    (case a15 => k_is)
    (case l15 => k_is)
    (case c_15 => k_is)
    (case k15 => k_is)
    (case a16 => k_is)
    (case l16 => k_is)
    (case c_16 => k_is)
    (case k16 => k_is)
    (case a17 => k_is)
    (case l17 => k_is)
    (case c_17 => k_is)
    (case k17 => k_is)
    (case a18 => k_is)
    (case l18 => k_is)
    (case c_18 => k_is)
    (case k18 => k_is)
    (case a19 => k_is)
    (case l19 => k_is)
    (case c_19 => k_is)
    (case k19 => k_is)
    (case z1 => k_is)
    (case z2 => k_is)
    (case z3 => k_is)
    (case z4 => k_is)
    (case z5 => k_is)
    (case z6 => k_is)
    (case z7 => k_is)
    (case z8 => k_is)
    (case z9 => k_is)
    (case z10 => k_is)
    (case z11 => k_is)
    (case z12 => k_is)
    (case ne => decide +kernel)
