import PyProof.Rows.All
import Wide.All
import OpenK.AllK
import Wide.FinOn
import HandS.Base
import HandS.Call
import HandS.List
import HandS.Comp
import HandS.Ends
import HandS.Dict
import HandS.Iter
import HandS.Words
import HandS.IsInst
import HandS.TupAny
import HandS.TupLe
import HandS.WordsList
import HandS.TupMul
import HandS.Zip
import HandS.Walk
import HandS.Wide
import HandS.Exc
import HandS.ExcOwn
import HandS.ExcIs
import HandS.Style
import HandS.More
import HandS.Star
import HandS.WordsDict
import PySem.Challenge.RW_commonhouse_k06_things_told
set_option Elab.async false
set_option linter.all false
set_option maxRecDepth 100000
set_option maxHeartbeats 4000000
namespace Cm
open PySem PySem.Spec PyProof.Rows L2
/-! ### defs by their names -/
/-- the def x of the text stands behind the top by its name -/
def Df (K : PySem.W.Frag) (mg : Str → Option Value) (x : Str) (st : Stmt) (ps : List Str) : Prop :=
  ∃ f fd, Fun K x x st f fd ∧ mg x = some (.ref f) ∧ Binds K fd ps []
theorem df_mk {K : PySem.W.Frag} {mg : Str → Option Value} {x : Str} {st : Stmt} {ps : List Str} {f : Addr} {oc : Value} {od an : Option Addr} {osl : Array (Option Value)} {kV doc pm cdv ct : Value} (hm : mg x = some (.ref f))
    (l : K.lookup f = some ⟨oc, od, .func (PySem.W.fnOf x x (defArgs st) (defBody st) (defScope st) .none kV doc pm an cdv ct), osl⟩) (c : PySem.W.codeIn K cdv x = true) (k : PySem.W.keepIn K (.ref f) = true)
    (h : ∀ (kV doc pm : Value) (an : Option Addr) (cdv ct : Value) (us : List Value), us.length = ps.length → bindArgs (PySem.W.fnOf x x (defArgs st) (defBody st) (defScope st) .none kV doc pm an cdv ct) ⟨us, []⟩ = pure (ps.zip us)) : Df K mg x st ps :=
  ⟨f, _, fun_mk l c k, hm, (fun_mk l c k).binds h⟩
/-! ### a promise that is kept where no repr runs around (the recursion guards are empty) -/
structure FnG (P : Program) (w : World) (K : PySem.W.Frag) (mg : Str → Option Value) (base : Heap) (CX : CXT) (k : Nat) (f : Addr) (fd : FuncData) (ps : List Str) (sp : Sp) : Prop where
  len : ∀ vs H Q E, sp vs H Q E → vs.length = ps.length
  go : ∀ (A : Around) (outer : List Env) (s : Shared) (H : Hp) (args : Args) (us : List Value) (vs : List V) (Q : VK) (E : XK), Room k A → A.guards = some [] → Env0 P w K mg base A outer s H → BindsTo s fd args (ps.zip us) → Vals vs us → sp vs H Q E →
    codeAny (model P w) A (.call (.ref f) args) (CR CX outer P w H s Q E) s
section
variable {P : Program} {w : World} {K : PySem.W.Frag} {mg : Str → Option Value} {base : Heap} {CX : CXT}
/-- a def's body keeps its promise there -/
theorem fng_mk {k : Nat} {f : Addr} {x qual : Str} {st : Stmt} {fd : FuncData} {N ps : List Str} {sp : Sp} (F : Fun K x qual st f fd) (S : FnScope N ps (defScope st))
    (len : ∀ vs H Q E, sp vs H Q E → vs.length = ps.length)
    (body : ∀ (cdv : Value) (A : Around) (outer : List Env) (s : Shared) (H : Hp) (vs : List V) (Q : VK) (E : XK), Room k (A.deeper (envOfC qual (defScope st) s.heap.objs.size f cdv)) → A.guards = some [] → sp vs H Q E →
      ∃ t, PSs (cxOf CX P w K mg base N qual (defScope st) f cdv A outer s H E) (defBody st) t ∧ t { nx := fun _ H' => Q .non H', rt := Q } (start N vs) H) : FnG P w K mg base CX (k + 1) f fd ps sp := by
  obtain ⟨oc, od, kV, doc, pm, an, cdv, ct, osl, hfd, lk, hcd⟩ := F.ex
  subst hfd
  refine ⟨len, fun A outer s H args us vs Q E room gd env bind rel prom => ?_⟩
  have llen := len _ _ _ _ prom
  have inK : K.In s.heap := env.mod.kin.keeps fun b o e => (env.bs b o e).1
  have nolim : s.heap.NoLimit := env.mod.nolimit.keeps fun b o e => (env.bs b o e).1
  have kinds : ∀ y ∈ ps.zip us, (defScope st).names.lookup y.1 = some .local ∨ ((defScope st).names.lookup y.1 = some .cell ∧ ((cellsFrom (s.heap.objs.size + 1) (defScope st).names []).lookup y.1).isSome = true) := by
    rintro ⟨n, v⟩ hy
    rcases S.par n (List.of_mem_zip hy).1 with z | z
    · exact .inl z
    · exact .inr ⟨z, PySem.W.cellsFrom_some _ _ _ (.inl z)⟩
  refine codeAny_call_function room.depth (inK _ _ lk) rfl S.co S.gen rfl (PySem.W.codeRec_of inK hcd) (bind _ _ _ _ ?_)
  refine wpAny_newFunctionEnv_cells S.kind kinds fun fenv hfe s1 ent => ?_
  subst hfe
  refine ⟨nolim.keeps ent.toInCall.keep, codeAny_func ?_⟩
  obtain ⟨t, ht, hq⟩ := body cdv A outer s H vs Q E (room.deeper _) gd prom
  have I0 : Inv (cxOf CX P w K mg base N qual (defScope st) f cdv A outer s H E) [] (start N vs) H s1 := inv_start S room.hd env llen rel ent
  refine wpAny_mono (ht.run [] s1 (start N vs) H _ I0 hq) (fun fl s' out => ?_) fun e s' out => out
  cases fl with
  | ret u =>
    obtain ⟨v, σ', H', J, rv, q⟩ := out
    exact ⟨v, H', J.os, J.bare, J.base, J.hok, rv, q⟩
  | next =>
    obtain ⟨σ', H', J, q⟩ := out
    exact ⟨V.non, H', J.os, J.bare, J.base, J.hok, rfl, q⟩
  | brk =>
    obtain ⟨_, _, _, q⟩ := out
    exact q.elim
  | cont =>
    obtain ⟨_, _, _, q⟩ := out
    exact q.elim
end
/-- the def x keeps the promise sp; no exception leaves it -/
def Fn (P : Program) (w : World) (K : PySem.W.Frag) (mg : Str → Option Value) (base : Heap) (k : Nat) (x : Str) (ps : List Str) (sp : Sp) : Prop :=
  ∃ f fd, FnG P w K mg base CX0 k f fd ps sp ∧ mg x = some (.ref f) ∧ PySem.W.keepIn K (.ref f) = true ∧ Binds K fd ps []
section
variable {P : Program} {w : World} {K : PySem.W.Frag} {mg : Str → Option Value} {base : Heap}
theorem Df.ok {x : Str} {st : Stmt} {ps N : List Str} {k : Nat} {sp : Sp} (D : Df K mg x st ps) (S : FnScope N ps (defScope st)) (len : ∀ vs H Q E, sp vs H Q E → vs.length = ps.length)
    (hbody : ∀ (f : Addr) (cdv : Value) (A : Around) (outer : List Env) (s : Shared) (H : Hp) (vs : List V) (Q : VK) (E : XK), Room k (A.deeper (envOfC x (defScope st) s.heap.objs.size f cdv)) → A.guards = some [] → sp vs H Q E →
      ∃ t, PSs (cxOf CX0 P w K mg base N x (defScope st) f cdv A outer s H E).nox (defBody st) t ∧ t { nx := fun _ H' => Q .non H', rt := Q } (start N vs) H) : Fn P w K mg base (k + 1) x ps sp := by
  obtain ⟨f, fd, F, hm, hb⟩ := D
  refine ⟨f, fd, fng_mk F S len fun cdv A outer s H vs Q E hr hg h => ?_, hm, F.kp, hb⟩
  obtain ⟨t, ht, q⟩ := hbody f cdv A outer s H vs Q E hr hg h
  exact ⟨t, ht.nox, q⟩
end
section
variable {X : Cx} {k : Nat} {x : Str} {ps : List Str} {sp : Sp} {e : Expr} {es : List Expr} {t : TA} {p pos : Pos}
theorem run_g {CX : CXT} {f : Addr} {fd : FuncData} {E : XK} {pins : List (Addr × Obj)} {σ : L2.St} {H : Hp} {s : Shared} {Q : VK} {us : List Value} {vs : List V} (F : FnG X.prog X.w X.K X.mg X.base CX k f fd ps sp) (hr : Room k X.A) (hg : X.A.guards = some [])
    (hb : Binds X.K fd ps []) (hx : Passes CX X E) (I : Inv X pins σ H s) (r : Vals vs us) (h : sp (vs ++ []) H Q E) : wpAny (model X.prog X.w) X.A (call (.ref f) us) (EP X pins σ Q) X.xe s := by
  rw [List.append_nil] at h
  have hl : (us ++ []).length = ps.length := by
    rw [List.append_nil, ← r.length]
    exact F.len _ _ _ _ h
  have hb2 := hb s us I.kIn hl
  rw [List.append_nil] at hb2
  refine wpAny_call (codeAny_mono (F.go X.A X.stack s H ⟨us, []⟩ us vs Q E hr hg I.env0 hb2 r h) fun r s' hq => ?_)
  cases r with
  | error e => exact hx pins σ H s e s' I hq
  | ok fl =>
    cases fl with
    | ret u => exact I.after hq
    | next => exact hq.elim
    | brk => exact hq.elim
    | cont => exact hq.elim
theorem pe_fn (F : Fn X.prog X.w X.K X.mg X.base k x ps sp) (hr : Room k X.A) (hgd : X.A.guards = some []) (hg : Gl X x) (ha : PA X (e :: es) t) (hdb : (x == ("__debug__" : Str)) = false := by decide)
    (he : starEach (e :: es) X.env = (false, eval e X.env) :: starEach es X.env := by rfl) (hpl : (backTo pos (starEach es X.env)).any (·.1) = false := by rfl) : PE X (.Call (.Name x p) (e :: es) [] pos) (tCall sp [] E0 t) := by
  obtain ⟨f, fd, F, hm, hk, hb⟩ := F
  refine ⟨fun pins s σ H Q I h => ?_⟩
  refine wpAny_Call_Name_kw (ld_glob I hg hm ?_ hdb)
  refine PySem.W.callWith_K (h₀ := X.base) I.ok.mod.kin hk (thn (ha.run pos pins s σ H _ I h) fun us s1 out => ?_) he hpl
  obtain ⟨vs, H1, I1, r, q⟩ := out
  exact ⟨I1.kIn, run_g F hr hgd hb pass0 I1 r q⟩
end
/-! ### promises by the number of arguments -/
def sp1 (R : V → Hp → VK → Prop) : Sp := fun vs H Q _ => ∃ a, vs = [a] ∧ R a H Q
def sp2 (R : V → V → Hp → VK → Prop) : Sp := fun vs H Q _ => ∃ a b, vs = [a, b] ∧ R a b H Q
def sp3 (R : V → V → V → Hp → VK → Prop) : Sp := fun vs H Q _ => ∃ a b c, vs = [a, b, c] ∧ R a b c H Q
def sp4 (R : V → V → V → V → Hp → VK → Prop) : Sp := fun vs H Q _ => ∃ a b c d, vs = [a, b, c, d] ∧ R a b c d H Q
theorem len1 {R : V → Hp → VK → Prop} {x : Str} : ∀ vs H Q E, sp1 R vs H Q E → vs.length = [x].length := by
  rintro vs H Q E ⟨a, rfl, _⟩
  rfl
theorem len2 {R : V → V → Hp → VK → Prop} {x y : Str} : ∀ vs H Q E, sp2 R vs H Q E → vs.length = [x, y].length := by
  rintro vs H Q E ⟨a, b, rfl, _⟩
  rfl
theorem len3 {R : V → V → V → Hp → VK → Prop} {x y z : Str} : ∀ vs H Q E, sp3 R vs H Q E → vs.length = [x, y, z].length := by
  rintro vs H Q E ⟨a, b, c, rfl, _⟩
  rfl
theorem len4 {R : V → V → V → V → Hp → VK → Prop} {x y z u : Str} : ∀ vs H Q E, sp4 R vs H Q E → vs.length = [x, y, z, u].length := by
  rintro vs H Q E ⟨a, b, c, d, rfl, _⟩
  rfl
/-! ### heaps -/
/-- all but the object at d is kept -/
def But (d : Addr) (H H' : Hp) : Prop := ∀ b o, b ≠ d → H b = some o → H' b = some o
theorem But.refl (d : Addr) (H : Hp) : But d H H := fun _ _ _ h => h
theorem But.trans {d : Addr} {H H1 H2 : Hp} (a : But d H H1) (b : But d H1 H2) : But d H H2 := fun c o n h => b c o n (a c o n h)
theorem But.upd {d : Addr} {H : Hp} {o : HO} : But d H (L2.upd H d o) := fun b u n h => by
  rw [upd_ne n]
  exact h
theorem But.new {d p : Addr} {H : Hp} {o : HO} (n : H p = none) : But d H (L2.upd H p o) := fun b u _ h => by
  rw [upd_ne (ne_of_none h n)]
  exact h
theorem But.same {d : Addr} {H H1 : Hp} (a : Same H H1) : But d H H1 := fun b o _ h => a b o h
theorem same_new {H : Hp} {p : Addr} {o : HO} (h : H p = none) : Same H (L2.upd H p o) := fun b x e => by
  rw [upd_ne (ne_of_none e h)]
  exact e
theorem sqt_of_same {K : PySem.W.Frag} {H H' : Hp} {a : Addr} {xs : List V} (e : Same H H') (h : SqT K H a xs) : SqT K H' a xs := by
  rcases h with (h | ⟨o, h⟩) | h
  · exact .inl (.inl (e _ _ h))
  · exact .inl (.inr ⟨o, e _ _ h⟩)
  · exact .inr h
/-- abs -/
theorem abs_eq (i : Int) : (if i < 0 then -i else i) = (i.natAbs : Int) := by
  split <;> omega
theorem qNS {c : Prop} [Decidable c] (hc : c) {Q : Bool → Hp → Prop} {H : Hp} (q : Q false H) : Q (!decide c) H := by
  rw [decide_eq_true hc]
  exact q
theorem qN {c : Prop} [Decidable c] (hc : ¬ c) {Q : Bool → Hp → Prop} {H : Hp} (q : Q false H) : Q (decide c) H := by
  rw [decide_eq_false hc]
  exact q
theorem qS {c : Prop} [Decidable c] (hc : c) {Q : VK} {H : Hp} (q : Q (.bl true) H) : Q (.bl (decide c)) H := by
  rw [decide_eq_true hc]
  exact q
theorem iteN {c A B : Prop} [Decidable c] (hc : ¬ c) (h : B) : if decide c = true then A else B := by
  rw [decide_eq_false hc]
  exact iteF h
theorem iteS {c A B : Prop} [Decidable c] (hc : c) (h : A) : if decide c = true then A else B := by
  rw [decide_eq_true hc]
  exact iteT h
/-! ### an if that is not taken -/
theorem if_no {c : TT} {t r : TS} {D : Ends} {σ : L2.St} {H : Hp} (R : Hp → Prop) (h : ∀ Q : Bool → Hp → Prop, (∀ H', R H' → Q false H') → c σ H Q) (k : ∀ H', R H' → r D σ H') : tSeq (tIfS c t tNext) r D σ H := by
  show c σ H _
  exact h _ fun H' q => iteF (k H' q)
/-- the last if of a block that is not taken -/
theorem if_no1 {c : TT} {t : TS} {D : Ends} {σ : L2.St} {H : Hp} (R : Hp → Prop) (h : ∀ Q : Bool → Hp → Prop, (∀ H', R H' → Q false H') → c σ H Q) (k : ∀ H', R H' → D.nx σ H') : tIfS c t tNext D σ H := by
  show c σ H _
  exact h _ fun H' q => iteF (k H' q)
theorem or_no {t u : TT} {σ : L2.St} {H : Hp} {Q : Bool → Hp → Prop} (R : Hp → Prop) (h : ∀ Q : Bool → Hp → Prop, (∀ H', R H' → Q false H') → t σ H Q) (k : ∀ H', R H' → u σ H' Q) : tOr t u σ H Q := by
  show t σ H _
  exact h _ fun H' q => iteF (k H' q)
end Cm

set_option Elab.async false
set_option linter.all false
set_option maxRecDepth 100000
set_option maxHeartbeats 4000000
namespace Cm
open PySem PySem.Spec PyProof.Rows L2
/-! ### the end of a law whose promise is kept where no repr runs around -/
/-- the heap that is tracked at the law's entry: the script alone, where it is none of the module's own objects -/
def scriptH (K : PySem.W.Frag) (a : Addr) (vs : List Value) (ns : List Int) : Hp := fun b =>
  if b = a ∧ K.lookup a = none then some (.frz { cls := .type "list", data := .seq vs.toArray } (.lst (ns.map V.int))) else none
theorem scriptH_some {K : PySem.W.Frag} {a b : Addr} {vs : List Value} {ns : List Int} {u : HO} (h : scriptH K a vs ns b = some u) :
    b = a ∧ K.lookup a = none ∧ u = .frz { cls := .type "list", data := .seq vs.toArray } (.lst (ns.map V.int)) := by
  unfold scriptH at h
  split at h
  · rename_i z
    exact ⟨z.1, z.2, (Option.some.inj h).symm⟩
  · cases h
theorem scriptH_free {K : PySem.W.Frag} {a b : Addr} {vs : List Value} {ns : List Int} (h : b ≠ a ∨ K.lookup a ≠ none) : scriptH K a vs ns b = none := by
  unfold scriptH
  split
  · rename_i z
    rcases h with h | h
    · exact absurd z.1 h
    · exact absurd z.2 h
  · rfl
theorem call_law_g {P : Program} {w : World} {K : PySem.W.Frag} {mg mb : Str → Option Value} {k : Nat} {fa a : Addr} {fd : FuncData} {x : Str} {sp : Sp} {s1 : Shared} {vs : List Value} {ns : List Int}
    (inK : K.In s1.heap) (glob : s1.heap.Ns mainGlobals mg) (blt : s1.heap.Ns builtinsNs mb) (bltEq : ∀ x : Str, x ≠ "__name__" → mb x = bootBuiltins x) (nolim : s1.heap.NoLimit) (nogen : s1.gens = #[])
    (scr : s1.heap.get? a = some { cls := .type "list", data := .seq vs.toArray }) (hns : IntsAre vs ns) (short : ns.length ≤ sizeLine) (room : Room k callerA)
    (F : ∀ base : Heap, K.In base → base.Ns mainGlobals mg → FnG P w K mg base CX0 k fa fd [x] sp) (bind : ∀ (s : Shared) (u : Value), BindsTo s fd ⟨[u], []⟩ [(x, u)])
    (prom : ∀ H : Hp, SqL K H a (ns.map V.int) → sp [.ref a] H (fun v _ => v = .bl true) fun _ _ _ => False) :
    codeAny (model P w) callerA (.call (.ref fa) ⟨[.ref a], []⟩) (fun r s' => r = .ok (.ret (.bool true)) ∧ OldK s1.heap s'.heap ∧ s'.os = s1.os ∧ AllBare s'.gens) s1 := by
  have rel := vals_ints hns
  have vlen := hns.length
  -- what the script's address holds, in the abstract heap
  have hS : SqL K (scriptH K a vs ns) a (ns.map V.int) := by
    cases hk : K.lookup a with
    | none =>
      refine .inl (.inr ⟨{ cls := .type "list", data := .seq vs.toArray }, ?_⟩)
      unfold scriptH
      exact if_pos ⟨rfl, hk⟩
    | some o =>
      have e := inK a o hk
      rw [scr] at e
      cases e
      exact .inr ⟨_, vs.toArray, _, hk, rfl, rfl, rfl, by rw [List.size_toArray, vlen]; exact short, by simpa using rel⟩
  have hok : HOk P w (scriptH K a vs ns) s1.heap := by
    intro b u e
    obtain ⟨rfl, _, rfl⟩ := scriptH_some e
    exact ⟨scr, by rw [List.length_map]; exact short, vs, _, rel, scr⟩
  -- a namespace is no list, so it is not tracked
  have free : ∀ {b : Addr} {o : Obj} {es : Array DictEntry} {ep : Nat}, s1.heap.get? b = some o → o.data = .dict es ep → scriptH K a vs ns b = none := by
    intro b o es ep e d
    by_cases hb : b = a
    · rw [hb, scr] at e
      cases e
      cases (show Data.seq vs.toArray _ = Data.dict es ep from d)
    · exact scriptH_free (.inl hb)
  have nsOf : ∀ {b : Addr} {m : Str → Option Value}, s1.heap.Ns b m → (hidT s1.heap (scriptH K a vs ns)).Ns b m := by
    rintro b m ⟨o, es, ep, e, d, r⟩
    exact ⟨o, es, ep, hidT_get e (free e d), d, r⟩
  have inKb : K.In (hidT s1.heap (scriptH K a vs ns)) := by
    intro b o e
    refine hidT_get (inK b o e) ?_
    by_cases hb : b = a
    · refine scriptH_free (.inr fun z => ?_)
      rw [hb, z] at e
      cases e
    · exact scriptH_free (.inl hb)
  obtain ⟨mc, lim1, lim2⟩ := nolim
  have env : Env0 P w K mg (hidT s1.heap (scriptH K a vs ns)) callerA [] s1 (scriptH K a vs ns) :=
    ⟨rfl, ⟨inKb, nsOf glob, ⟨mb, nsOf blt, bltEq⟩, ⟨mc, nsOf lim1, lim2⟩⟩, fun b o e => of_hidT e, Nat.le_of_eq (hidT_size _ _), trivial, fun b hb => (nomatch (show b ∈ ([] : List Addr) from hb)), hok, .of_eq nogen⟩
  refine codeAny_mono ((F _ inKb (nsOf glob)).go callerA [] s1 _ ⟨[.ref a], []⟩ [.ref a] [.ref a] _ _ room rfl env (bind s1 (.ref a)) (.cons rfl .nil) (prom _ hS)) fun r s' out => ?_
  cases r with
  | error e => exact out.elim
  | ok fl =>
    cases fl with
    | next => exact out.elim
    | brk => exact out.elim
    | cont => exact out.elim
    | ret u =>
      obtain ⟨v, H', os, bare, un, hok', rv, q⟩ := out
      have q' : v = .bl true := q
      subst q'
      obtain rfl : u = Value.bool true := rv
      refine ⟨rfl, OldK.of_keep fun b o e => ?_, os, bare⟩
      cases hb : scriptH K a vs ns b with
      | none => exact un.keep b o e hb (fun z => (nomatch (show b ∈ ([] : List Addr) from z))) (fun z => (nomatch z))
      | some u =>
        obtain ⟨rfl, _, rfl⟩ := scriptH_some hb
        obtain ⟨e2, _⟩ := hok' _ _ (un.frzs _ _ _ hb)
        rw [scr] at e
        cases e
        exact e2
theorem walk_g {l : PySem.W.OpenLaw} {n k : Nat} {q : Program} {loose : List Str} {XP : (Str → Option Value) → Heap → Prop} {YP : World → Heap → Prop} {d : DefRec} {K : Params → PySem.W.Frag} {sp : PySem.W.Frag → Sp} {x : Str}
    (most : l.most = some n) (line : n ≤ sizeLine) (nodef : d.params.defaults = []) (room : Room k callerA) (hY : ∀ (w : World) (h : Heap), YP w h → (K w.params).In h)
    (F : ∀ (w : World) (mg : Str → Option Value) (fa : Addr) (h : Heap), (K w.params).In h → h.Ns mainGlobals mg → mg d.name = some (.ref fa) →
      ∃ fd : FuncData, (∀ (s : Shared) (u : Value), BindsTo s fd ⟨[u], []⟩ [(x, u)]) ∧ ∀ base : Heap, (K w.params).In base → base.Ns mainGlobals mg → FnG l.prog w (K w.params) mg base CX0 k fa fd [x] (sp (K w.params)))
    (prom : ∀ (K : PySem.W.Frag) (H : Hp) (a : Addr) (ns : List Int), ns.length ≤ n → SqL K H a (ns.map V.int) → sp K [.ref a] H (fun v _ => v = .bl true) fun _ _ _ => False) :
    PySem.W.WalkO q loose XP YP l.row.toRowW d [] (fun f vs => PySem.call f vs) := by
  refine Att.attach_call most nodef fun w s0 s1 mg mb fa o pm cd doc a vs ns G Y ho hd hcd hmg hobj hints hlen hg => ?_
  obtain ⟨fd, hb, hF⟩ := F w mg fa _ (hY w _ Y) G.T.g hmg
  exact call_law_g (hY w _ Y) G.T.g G.T.b G.T.builtins G.T.nolimit hg hobj hints (Nat.le_trans hlen line) room hF hb fun H hS => prom _ H a ns hlen hS
/-! ### repr -/
/-- repr of data: None, truths, numbers, texts, lists and tuples of them -/
def rRepr (K : PySem.W.Frag) : List V → Hp → VK → Prop := fun xs H Q => ∃ (a : Addr) (d : PyData), xs = [.ref a] ∧ Dp K H (.ref a) d ∧ d.showable = true ∧ d.hasDict = false ∧ d.depth ≤ 60 ∧ d.shown.length ≤ sizeLine ∧ Q (.str d.shown) H
theorem call_repr {X : Cx} {K : PySem.W.Frag} {k : Nat} (hr : Room k X.A) (hg : X.A.guards = some []) (hK : X.K = K) : CallR X (.builtin "repr") (rRepr K) := by
  subst hK
  intro pins s σ H xs us Q I r h
  obtain ⟨a, d, rfl, hd, sh, nd, dp, sz, q⟩ := h
  obtain ⟨u, rfl, ru⟩ := vals1 r
  obtain ⟨as, rd⟩ := Dp.reads I d _ _ hd ru
  cases ru
  refine repr_of_reads' rd sh (fun z => absurd (nd.symm.trans z) Bool.false_ne_true) hg (by have := hr.units; omega) (fun _ _ e => e) (fun h' u tk keep => ?_) sz
  exact ⟨.str d.shown, H, I.kept keep, ⟨_, rfl⟩, q⟩
end Cm

set_option Elab.async false
set_option linter.all false
set_option maxRecDepth 100000
set_option maxHeartbeats 4000000
namespace Cm
open PySem PySem.Spec PyProof.Rows L2
/-! ### kinds of things -/
inductive Kd where
  | non | bl (b : Bool) | int (i : Int) | str (s : Str) | lst | tup (xs : List V) | dct
inductive HasK (H : Hp) : V → Kd → Prop where
  | non : HasK H .non .non
  | bl (b : Bool) : HasK H (.bl b) (.bl b)
  | int (i : Int) : HasK H (.int i) (.int i)
  | str (s : Str) : HasK H (.str s) (.str s)
  | lst {a : Addr} {xs : List V} (h : H a = some (.lst xs)) : HasK H (.ref a) .lst
  | tup {a : Addr} {xs : List V} (h : H a = some (.tup xs)) : HasK H (.ref a) (.tup xs)
  | dct {a : Addr} {kvs : List (Key × V)} (h : H a = some (.dK kvs)) : HasK H (.ref a) .dct
/-- tuples stay, lists stay lists, dicts dicts -/
structure Ext (H H' : Hp) : Prop where
  t : ∀ b xs, H b = some (.tup xs) → H' b = some (.tup xs)
  l : ∀ b xs, H b = some (.lst xs) → ∃ ys, H' b = some (.lst ys)
  d : ∀ b kvs, H b = some (.dK kvs) → ∃ kvs', H' b = some (.dK kvs')
theorem Ext.refl (H : Hp) : Ext H H := ⟨fun _ _ h => h, fun _ _ h => ⟨_, h⟩, fun _ _ h => ⟨_, h⟩⟩
theorem Ext.trans {H H1 H2 : Hp} (a : Ext H H1) (b : Ext H1 H2) : Ext H H2 :=
  ⟨fun x xs h => b.t x xs (a.t x xs h), fun x xs h => let ⟨ys, e⟩ := a.l x xs h; b.l x ys e, fun x xs h => let ⟨ys, e⟩ := a.d x xs h; b.d x ys e⟩
theorem Ext.same {H H' : Hp} (h : Same H H') : Ext H H' := ⟨fun b _ e => h b _ e, fun b _ e => ⟨_, h b _ e⟩, fun b _ e => ⟨_, h b _ e⟩⟩
theorem Ext.lst {H : Hp} {a : Addr} {xs ys : List V} (h : H a = some (.lst xs)) : Ext H (upd H a (.lst ys)) := by
  refine ⟨fun b zs e => ?_, fun b zs e => ?_, fun b zs e => ?_⟩
  · rw [upd_ne (ne_of e h (by intro z; cases z))]
    exact e
  · by_cases hb : b = a
    · exact ⟨ys, by rw [hb, upd_same]⟩
    · exact ⟨zs, by rw [upd_ne hb]; exact e⟩
  · exact ⟨zs, by rw [upd_ne (ne_of e h (by intro z; cases z))]; exact e⟩
theorem HasK.ext {H H' : Hp} {v : V} {k : Kd} (h : HasK H v k) (e : Ext H H') : HasK H' v k := by
  cases h with
  | non => exact .non
  | bl b => exact .bl b
  | int i => exact .int i
  | str s => exact .str s
  | lst h => obtain ⟨ys, q⟩ := e.l _ _ h; exact .lst q
  | tup h => exact .tup (e.t _ _ h)
  | dct h => obtain ⟨ys, q⟩ := e.d _ _ h; exact .dct q
def tyK : Kd → String
  | .non => "NoneType" | .bl _ => "bool" | .int _ => "int" | .str _ => "str" | .lst => "list" | .tup _ => "tuple" | .dct => "dict"
theorem HasK.ty {K : PySem.W.Frag} {H : Hp} {v : V} {k : Kd} (h : HasK H v k) : TyX K H v (.type (tyK k)) := by
  cases h with
  | non => exact .base .non
  | bl b => exact .base (.bl b)
  | int i => exact .base (.int i)
  | str s => exact .base (.str s)
  | lst h => exact .base (.lst h)
  | tup h => exact .base (.tup h)
  | dct h => exact .base (.dK h)
def isTupK : Kd → Bool
  | .tup _ => true | _ => false
def isIntK : Kd → Bool
  | .int _ => true | .bl _ => true | _ => false
def isBoolK : Kd → Bool
  | .bl _ => true | _ => false
def isStrK : Kd → Bool
  | .str _ => true | _ => false
def wholeK : Kd → Bool
  | .int _ => true | _ => false
theorem kit_tup : ∀ k : Kd, kitB (tyK k) "tuple" = some (isTupK k)
  | .non => (by decide +kernel : kitB "NoneType" "tuple" = some false)
  | .bl _ => (by decide +kernel : kitB "bool" "tuple" = some false)
  | .int _ => (by decide +kernel : kitB "int" "tuple" = some false)
  | .str _ => (by decide +kernel : kitB "str" "tuple" = some false)
  | .lst => (by decide +kernel : kitB "list" "tuple" = some false)
  | .tup _ => (by decide +kernel : kitB "tuple" "tuple" = some true)
  | .dct => (by decide +kernel : kitB "dict" "tuple" = some false)
theorem kit_int : ∀ k : Kd, kitB (tyK k) "int" = some (isIntK k)
  | .non => (by decide +kernel : kitB "NoneType" "int" = some false)
  | .bl _ => (by decide +kernel : kitB "bool" "int" = some true)
  | .int _ => (by decide +kernel : kitB "int" "int" = some true)
  | .str _ => (by decide +kernel : kitB "str" "int" = some false)
  | .lst => (by decide +kernel : kitB "list" "int" = some false)
  | .tup _ => (by decide +kernel : kitB "tuple" "int" = some false)
  | .dct => (by decide +kernel : kitB "dict" "int" = some false)
theorem kit_bool : ∀ k : Kd, kitB (tyK k) "bool" = some (isBoolK k)
  | .non => (by decide +kernel : kitB "NoneType" "bool" = some false)
  | .bl _ => (by decide +kernel : kitB "bool" "bool" = some true)
  | .int _ => (by decide +kernel : kitB "int" "bool" = some false)
  | .str _ => (by decide +kernel : kitB "str" "bool" = some false)
  | .lst => (by decide +kernel : kitB "list" "bool" = some false)
  | .tup _ => (by decide +kernel : kitB "tuple" "bool" = some false)
  | .dct => (by decide +kernel : kitB "dict" "bool" = some false)
theorem kit_str : ∀ k : Kd, kitB (tyK k) "str" = some (isStrK k)
  | .non => (by decide +kernel : kitB "NoneType" "str" = some false)
  | .bl _ => (by decide +kernel : kitB "bool" "str" = some false)
  | .int _ => (by decide +kernel : kitB "int" "str" = some false)
  | .str _ => (by decide +kernel : kitB "str" "str" = some true)
  | .lst => (by decide +kernel : kitB "list" "str" = some false)
  | .tup _ => (by decide +kernel : kitB "tuple" "str" = some false)
  | .dct => (by decide +kernel : kitB "dict" "str" = some false)
section
variable {X : Cx} {K : PySem.W.Frag}
/-! ### the rules of the layer over a named K (so that they serve within a comprehension too) -/
theorem isi_K (hK : X.K = K) : CallR X (.builtin "isinstance") (rIsi K) := by
  subst hK
  exact call_isi
def rLenK (K : PySem.W.Frag) : List V → Hp → VK → Prop := fun xs H Q => ∃ p ys, xs = [.ref p] ∧ (SqL K H p ys ∨ SqT K H p ys) ∧ Q (.int ys.length) H
theorem len_K (hK : X.K = K) : CallR X (.builtin "len") (rLenK K) := by
  subst hK
  exact call_len_seq
theorem sl_K (hK : X.K = K) : SlR X (rSlA K) := by
  subst hK
  exact sl_tupA
theorem cat_K (hK : X.K = K) : OpR X (binaryOp .Add) (rCatA K) := by
  subst hK
  exact op_catA
theorem ixT_K (hK : X.K = K) : IxR X (rIxT K) := by
  subst hK
  exact ix_tup
theorem ixL_K (hK : X.K = K) : IxR X (rIxL K) := by
  subst hK
  exact ix_list
def rTupOf (K : PySem.W.Frag) : List V → Hp → VK → Prop := fun xs H Q => ∃ p ys, xs = [.ref p] ∧ ((SqL K H p ys ∧ ∀ l, H l = none → Q (.ref l) (upd H l (.tup ys))) ∨ (SqT K H p ys ∧ Q (.ref p) H))
/-! ### x == 'text', whatever x is -/
def eqK : Kd → Str → Bool
  | .str w, s => decide (w = s)
  | _, _ => false
theorem dict_eq_declines_text (l : Addr) (es : Array DictEntry) (n : Nat) (dd : Option Addr) (sl : Array (Option Value)) (b : Str) (u : Tok) :
    Meets (Builtin.«dict.__eq__» ⟨[.ref l, .str b u], []⟩) (fun _ R s => s.heap.get? l = some { cls := .type "dict", dict := dd, data := .dict es n, slots := sl } ∧ R (.ok (.ret .notImplemented)) s) :=
  .of_wp fun prog w A R s h => by obtain ⟨hp, g, d, tk, os⟩ := s; obtain ⟨hl, h⟩ := h; have f1 := F.sub_str_dict; wp_walk using AutoSeq1.wpAny_loadPart' hl; exact ⟨_, rfl, h⟩
theorem str_eq_declines_dict (b : Str) (u : Tok) (l : Addr) (c : Value) (es : Array DictEntry) (n : Nat) (dd : Option Addr) (sl : Array (Option Value)) :
    Meets (Builtin.«str.__eq__» ⟨[.str b u, .ref l], []⟩) (fun _ R s => s.heap.get? l = some { cls := c, dict := dd, data := .dict es n, slots := sl } ∧ R (.ok (.ret .notImplemented)) s) :=
  .of_wp fun prog w A R s h => by obtain ⟨hp, g, d, tk, os⟩ := s; obtain ⟨hl, h⟩ := h; wp_walk using AutoSeq1.wpAny_loadPart' hl, wpAny_load hl; exact ⟨_, rfl, h⟩
theorem rc_dict_str {A : Around} {s : Shared} {l : Addr} {o : Obj} {es : Array DictEntry} {n : Nat} (b : Str) (u : Tok) (ho : s.heap.get? l = some o) (hc : o.cls = .type "dict") (hd : o.data = .dict es n) (hu : A.units < cLine) : SeqAt.RcAt A s (.ref l) (.str b u) false := fun prog w E Q h => by
  obtain ⟨cls, dd, data, sl⟩ := o
  simp only at hc hd
  subst hc hd
  exact SeqAt.rc_eq_decline_or (k := false) ⟨_, ho, rfl⟩ (typeIs_str s b u) (by decide) F.sub_str_dict F.slot_dict_eq F.slot_str_eq_refl
    (fun _ hq => call_meets F.slot_dict_eq ⟨_, ho, rfl⟩ F.entry_dict_eq (F.args_dict_eq_2 _ _) (dict_eq_declines_text l es n dd sl b u) ⟨ho, hq⟩)
    (fun _ hq => call_meets F.slot_str_eq_refl (typeIs_str s b u) F.entry_str_eq (F.args_str_eq_2 _ _) (str_eq_declines_dict b u l (.type "dict") es n dd sl) ⟨ho, hq⟩)
    (fun _ hq => wpAny_pure hq) (.inr hu) h
def rEqK : R2 := fun x y H Q => ∃ k s, HasK H x k ∧ y = .str s ∧ Q (.bl (eqK k s)) H
theorem op_eqK {k : Nat} (hr : Room k X.A) : OpR X (compareOp .Eq) rEqK := by
  intro pins s σ H x y v u Q I rx ry h
  obtain ⟨kd, w, hk, rfl, q⟩ := h
  have hu := hr.units0
  cases hk with
  | non => exact op_eq pins s σ H _ _ v u Q I rx ry ⟨rfl, by simpa [eqK] using q⟩
  | bl b => exact op_eq pins s σ H _ _ v u Q I rx ry ⟨rfl, by simpa [eqK] using q⟩
  | int i => exact op_eq pins s σ H _ _ v u Q I rx ry ⟨rfl, by simpa [eqK] using q⟩
  | str z => exact op_eq pins s σ H _ _ v u Q I rx ry ⟨rfl, by simpa [eqK] using q⟩
  | lst h =>
    cases rx
    obtain ⟨t, rfl⟩ := ry
    obtain ⟨its, r, p, _⟩ := I.list (SqL.of h)
    exact SeqAt.RcAt.list_str w t p.isList hu _ _ _ _ ⟨.bl false, H, I, rfl, q⟩
  | tup h =>
    cases rx
    obtain ⟨t, rfl⟩ := ry
    obtain ⟨its, r, p, _⟩ := I.tuple (SqT.of h)
    exact SeqAt.RcAt.tuple_str w t p hu _ _ _ _ ⟨.bl false, H, I, rfl, q⟩
  | @dct a kvs h =>
    cases rx
    obtain ⟨t, rfl⟩ := ry
    obtain ⟨_, _, vs, _, o, es, ep, h1, h2, h3, _⟩ := (show ObjOk X.prog X.w H s.heap a (.dK kvs) from I.hok a _ h)
    exact rc_dict_str w t h1 h2.1 h3 hu _ _ _ _ ⟨.bl false, H, I, rfl, q⟩
/-! ### t == () -/
def rEqE : R2 := fun x y H Q => ∃ a b xs, x = .ref a ∧ y = .ref b ∧ H a = some (.tup xs) ∧ H b = some (.tup []) ∧ Q (.bl xs.isEmpty) H
theorem op_eqE {k : Nat} (hr : Room k X.A) : OpR X (compareOp .Eq) rEqE := by
  intro pins s σ H x y v u Q I rx ry h
  obtain ⟨a, b, xs, rfl, rfl, ha, hb, q⟩ := h
  cases rx
  cases ry
  obtain ⟨its, r1, p1, _⟩ := I.tuple (SqT.of ha)
  obtain ⟨its2, r2, p2, _⟩ := I.tuple (SqT.of hb)
  cases r2
  refine SeqAt.eq_tupleAt (e := fun _ => true) p1 p2 hr.units0 (fun j h1 h2 => absurd h2 (by simp)) ?_
  have hl := r1.length
  have e : ((List.range (min its.toArray.size ([] : List Value).toArray.size)).all (fun _ => true) && its.toArray.size == ([] : List Value).toArray.size) = xs.isEmpty := by
    cases xs with
    | nil =>
      cases r1
      rfl
    | cons x t =>
      cases r1
      simp
  rw [e]
  exact ⟨.bl _, H, I, rfl, q⟩
end
/-! ### t[::-1] -/
section
variable {prog : Program} {w : World} {A : Around} {E : Value → Shared → Prop} {s : Shared}
theorem back_applied {sl : Addr} {vk : Value} {n : Nat} {Q : Int × Int × Nat → Shared → Prop} (hs : s.heap.IsSliceOf sl .none .none vk) (pk : IsPart vk (some (-1))) (h : Q ((n : Int) - 1, -1, n) s) :
    wpAny (model prog w) A (Builtin.Slice.sliceApplied (.ref sl) (pure (n : Int))) Q E s := by
  obtain ⟨os, hos, hcs, hds⟩ := _root_.id hs
  unfold Builtin.Slice.sliceApplied Builtin.Slice.sliceFields
  refine wpAny_bind (wpAny_bind (wpAny_field hos hds (x := .none) rfl (wpAny_bind (wpAny_field hos hds (x := .none) rfl (wpAny_bind (wpAny_field hos hds (x := vk) rfl (wpAny_pure ?_)))))))
  refine wpAny_bind (HT.slicePart_ pk ?_)
  show wpAny _ _ (if ((-1 : Int) == 0) = true then _ else _) _ _ s
  rw [if_neg (by decide)]
  refine wpAny_bind (slicePart_none (wpAny_bind (slicePart_none (wpAny_bind (wpAny_pure ?_)))))
  have e1 : Builtin.Slice.sliceAdjust none none (-1) (n : Int) = ((n : Int) - 1, -1) := rfl
  have e2 : Builtin.Slice.slicePlaces ((n : Int) - 1) (-1) (-1) = n := by
    unfold Builtin.Slice.slicePlaces
    have h1 : ¬ ((-1 : Int) > 0) := by omega
    simp only [h1, if_false]
    split
    · rw [show (- (-1 : Int)) = 1 from rfl, Int.ediv_one]
      omega
    · omega
  show wpAny _ _ (pure ((Builtin.Slice.sliceAdjust none none (-1) (n : Int)).1, (-1 : Int), Builtin.Slice.slicePlaces (Builtin.Slice.sliceAdjust none none (-1) (n : Int)).1 (Builtin.Slice.sliceAdjust none none (-1) (n : Int)).2 (-1))) _ _ s
  rw [e1]
  show wpAny _ _ (pure ((n : Int) - 1, (-1 : Int), Builtin.Slice.slicePlaces ((n : Int) - 1) (-1) (-1))) _ _ s
  rw [e2]
  exact wpAny_pure h
theorem fm_some {α β : Type} {f : α → Option β} {g : α → β} : ∀ {l : List α}, (∀ a ∈ l, f a = some (g a)) → l.filterMap f = l.map g
  | [], _ => rfl
  | a :: r, h => by
    rw [List.filterMap_cons, h a (List.mem_cons.mpr (.inl rfl))]
    show g a :: r.filterMap f = g a :: r.map g
    rw [fm_some fun x hx => h x (List.mem_cons.mpr (.inr hx))]
theorem back_pick (xs : Array Value) : ((List.range xs.size).filterMap fun (m : Nat) => xs[(((xs.size : Int) - 1) + (m : Int) * (-1)).toNat]?).toArray = xs.toList.reverse.toArray := by
  congr 1
  have e : ((List.range xs.size).filterMap fun (m : Nat) => xs[(((xs.size : Int) - 1) + (m : Int) * (-1)).toNat]?) = (List.range xs.size).map (fun m => (xs.toList[xs.size - 1 - m]?).getD .none) := by
    refine fm_some fun m hm => ?_
    have hlt := List.mem_range.mp hm
    have e1 : (((xs.size : Int) - 1) + (m : Int) * (-1)).toNat = xs.size - 1 - m := by omega
    rw [e1, ← Array.getElem?_toList, List.getElem?_eq_getElem (by rw [Array.length_toList]; omega)]
    rfl
  rw [e]
  refine List.ext_getElem (by simp) fun i h1 h2 => ?_
  have h3 : i < xs.size := by simpa using h1
  rw [List.getElem_map, List.getElem_range, List.getElem_reverse, List.getElem?_eq_getElem (by rw [Array.length_toList]; omega)]
  simp
theorem tup_back {t sl : Addr} {items : Array Value} {vk : Value} {Q : Value → Shared → Prop} (ht : IsTup s.heap t items) (hs : s.heap.IsSliceOf sl .none .none vk) (pk : IsPart vk (some (-1)))
    (h : Q (.ref s.heap.objs.size) { s with heap := s.heap.push { cls := .type "tuple", data := .seq items.toList.reverse.toArray } }) (hsz : items.size ≤ sizeLine) : wpAny (model prog w) A (getItem (.ref t) (.ref sl)) Q E s := by
  have fits : sizeOk (.seq items.toList.reverse.toArray) := by
    show items.toList.reverse.toArray.size ≤ sizeLine
    rw [List.size_toArray, List.length_reverse, Array.length_toList]
    exact hsz
  obtain ⟨os, hos, hcs, hds⟩ := _root_.id hs
  have hTs : s.TypeIs (.ref sl) "slice" := ⟨os, hos, hcs⟩
  unfold getItem
  try with_reducible refine wpAny_holding ?_
  first | refine wpAny_bind (wpAny_pure ?_) | skip
  refine wpAny_bind (wpAny_sequenceKey ht.typeIs (by decide) ?_)
  refine wpAny_bind (wpAny_callSpecial?_slot (name := Str.ofString "__getitem__") ht.typeIs PyProof.Rows.slot_tuple_getitem (wpAny_call_entry PyProof.Rows.slot_tuple_getitem ht.typeIs entry_tuple_getitem ?_ (args_tuple_getitem _ _)))
  show wpAny _ _ (Builtin.Tuple.tupleItemsOf (.ref t) >>= _) _ _ s
  refine wpAny_bind (tupleItemsOf_ ht (wpAny_bind (wpAny_typeOf hTs ?_)))
  rw [if_pos (by decide)]
  refine wpAny_bind (back_applied (n := items.size) hs pk ?_)
  have hno : ¬ ((((items.size : Int) - 1) == 0 && (-1 : Int) == 1 && items.size == items.size) = true) := by simp
  show wpAny _ _ (if (((items.size : Int) - 1) == 0 && (-1 : Int) == 1 && items.size == items.size) = true then _ else _) _ _ s
  rw [if_neg hno, back_pick]
  first
    | exact wpAny_bind (m := Builtin.Tuple.tupleExact _) (wpAny_newObj_type (wpAny_pure ⟨_, rfl, wpAny_pure h⟩) fits)
    | exact wpAny_bind (m := Builtin.Tuple.tupleExact _) (wpAny_newObj_type (wpAny_bind (wpAny_pure (wpAny_pure ⟨_, rfl, wpAny_pure h⟩))) fits)
    | exact wpAny_bind (wpAny_bind (m := Builtin.Tuple.tupleExact _) (wpAny_newObj_type (wpAny_pure (wpAny_pure ⟨_, rfl, wpAny_pure h⟩)) fits))
    | exact wpAny_bind (wpAny_bind (m := Builtin.Tuple.tupleExact _) (wpAny_newObj_type (wpAny_pure ⟨_, rfl, wpAny_pure h⟩) fits))
end
section
variable {X : Cx}
def tRevT (K : PySem.W.Frag) (te : TE) : TE := fun σ H Q => te σ H fun x H1 => ∃ a xs, x = .ref a ∧ SqT K H1 a xs ∧ ∀ p, H1 p = none → Q (.ref p) (upd H1 p (.tup xs.reverse))
theorem pe_revT {e : Expr} {te : TE} {k : Nat} {p1 p2 p3 pos : Pos} (he : PE X e te) : PE X (.Subscript e (.Slice none none (some (.UnaryOp .USub (.Constant (.int 1) k p1) p2)) p3) pos) (tRevT X.K te) := by
  refine ⟨fun pins s σ H Q I h => Subscript_ (thn (he.run pins s σ H _ I h) fun v s1 out => ?_)⟩
  obtain ⟨x, H1, I1, r1, a, xs, rfl, hx, q⟩ := out
  cases r1
  have part : PO X (some (.UnaryOp .USub (.Constant (.int 1) k p1) p2)) (tPart (tUn (rU fun i => .int (-i)) (tC (.int 1)))) := po_some (pe_un un_neg pe_int)
  refine wpAny_Slice ?_
  rw [evalPart_none]
  refine wpAny_pure (wpAny_pure ?_)
  refine thn (part.run pins s1 σ H1 (fun o H4 => o = some (-1) ∧ H4 = H1) I1 ⟨1, rfl, -1, rfl, rfl, rfl⟩) fun vk s4 out => ?_
  obtain ⟨o, H4, I4, pk, rfl, rfl⟩ := out
  have I5 : Inv X pins σ H4 { s4 with heap := s4.heap.push { cls := .type "slice", data := .fields #[.none, .none, vk] } } := I4.kept (t' := s4.toks) fun b ob z => Heap.get?_push_of_some _ z
  obtain ⟨its, r, ht, hz⟩ := I5.tuple hx
  have hlen := r.length
  show wpAny (model X.prog X.w) X.A (subscriptTail e (.Slice none none (some (.UnaryOp .USub (.Constant (.int 1) k p1) p2)) p3) (.ref a) (.ref s4.heap.objs.size)) (EP X pins σ Q) X.xe { s4 with heap := s4.heap.push { cls := .type "slice", data := .fields #[.none, .none, vk] } }
  refine tail_any (ops := [.ref a, .ref s4.heap.objs.size]) ht.typeIs PyProof.Rows.slot_tuple_getitem.lookup ?_ (by with_unfolding_all rfl)
  refine tup_back ht (Heap.IsSliceOf.new _ .none .none vk) pk ?_ (by rw [List.size_toArray]; omega)
  refine ⟨.ref _, _, I5.laid (t' := s4.toks) (o := .tup xs.reverse) (fun b ob z => Heap.get?_push_of_some _ z) (Nat.le_refl _) ?_, rfl, q _ (I5.hok.fresh (Nat.le_refl _))⟩
  exact ⟨by rw [List.length_reverse]; exact hz, _, r.reverse, _, Heap.get?_push_size _ rfl, rfl, 0, rfl⟩
end
section
end
end Cm

set_option Elab.async false
set_option linter.all false
set_option maxRecDepth 100000
set_option maxHeartbeats 4000000
namespace Cm
open PySem PySem.Spec PyProof.Rows L2
/-! ### the drawing list: left, seed, count -/
def LP (H : Hp) (p : Addr) : Prop := ∃ x y z : Int, H p = some (.lst [.int x, .int y, .int z])
theorem LP.same {H H' : Hp} {p : Addr} (h : LP H p) (s : Same H H') : LP H' p := by
  obtain ⟨x, y, z, e⟩ := h
  exact ⟨x, y, z, s _ _ e⟩
theorem LP.but {H H' : Hp} {p q : Addr} (h : LP H p) (s : But q H H') (n : p ≠ q) : LP H' p := by
  obtain ⟨x, y, z, e⟩ := h
  exact ⟨x, y, z, s _ _ n e⟩
def rPenL (K : PySem.W.Frag) : V → V → Hp → VK → Prop := fun x y H Q => ∃ (a : Addr) (ns : List Int) (k : Int), x = .ref a ∧ y = .int k ∧ SqL K H a (ns.map V.int) ∧ 0 ≤ k ∧ ∀ p H', H p = none → Same H H' → LP H' p → Q (.ref p) H'
def rDrawL : V → V → Hp → VK → Prop := fun a b H Q => ∃ (p : Addr) (many : Int), a = .ref p ∧ b = .int many ∧ LP H p ∧ 0 < many ∧ many < 1073741824 ∧ ∀ r H', 0 ≤ r → r < many → LP H' p → But p H H' → Ext H H' → Q (.int r) H'
theorem cellL {ns : List Int} {i : Int} (h0 : 0 ≤ i) (h1 : i < ((ns.map V.int).length : Int)) : ∃ z, atI (ns.map V.int) i = some (.int z) := by
  rw [List.length_map] at h1
  have hj : i.toNat < ns.length := by omega
  refine ⟨ns[i.toNat], ?_⟩
  have e : ((i.toNat : Nat) : Int) = i := by omega
  have q : atI (ns.map V.int) ((i.toNat : Nat) : Int) = some (.int ns[i.toNat]) := atI_nat (by rw [List.getElem?_map, List.getElem?_eq_getElem hj]; rfl)
  rw [e] at q
  exact q
theorem eq_yes {i j : Int} (e : decide (V.int i = V.int j) = true) : i = j := V.int.inj (of_decide_eq_true e)
theorem eq_no {i j : Int} (e : ¬ decide (V.int i = V.int j) = true) : i ≠ j := fun z => e (by rw [z]; exact decide_eq_true rfl)
theorem ne_yes {i j : Int} (e : (!decide (V.int i = V.int j)) = true) : i ≠ j := fun z => by
  rw [z, decide_eq_true rfl] at e
  exact Bool.noConfusion e
theorem ne_no {i j : Int} (e : ¬ (!decide (V.int i = V.int j)) = true) : i = j := by
  by_cases h : i = j
  · exact h
  · exact absurd (by rw [decide_eq_false fun z => h (V.int.inj z)]; rfl) e
theorem q587 : (0 : Int) < 2147483587 := by decide
theorem q647 : (0 : Int) < 2147483647 := by decide
theorem q629 : (0 : Int) < 2147483629 := by decide
theorem q521 : (0 : Int) < 65521 := by decide
theorem p15 : (0 : Int) < 10 ^ (15 : Int).toNat := by decide
end Cm

set_option Elab.async false
set_option linter.all false
set_option maxRecDepth 100000
set_option maxHeartbeats 4000000
namespace Cm
open PySem PySem.Spec PyProof.Rows L2
/-! ### what a step is, by kinds -/
def numK (many : Int) : Kd → Bool
  | .int i => decide (0 ≤ i) && decide (i < many)
  | _ => false
def unlikeK (many : Int) : Kd → Kd → Bool
  | .int i, .int j => (decide (0 ≤ i) && decide (i < many)) && ((decide (0 ≤ j) && decide (j < many)) && !decide (V.int i = V.int j))
  | _, _ => false
def addK (many : Int) : List Kd → Bool
  | [a, b, c] => unlikeK many a b && wholeK c
  | _ => false
def swapK (many : Int) : List Kd → Bool
  | [a, b] => unlikeK many a b
  | _ => false
def turnK (many : Int) : List Kd → Bool
  | [a] => numK many a
  | _ => false
def stepK (many : Int) : List Kd → Bool
  | [] => false
  | k :: r => if eqK k "add" = true then addK many r else if eqK k "swap" = true then swapK many r else if eqK k "turn" = true then turnK many r else false
def stepO (many : Int) : Option (List Kd) → Bool
  | none => false
  | some ks => stepK many ks
/-- the kinds of a tuple's items; none of what is no tuple -/
def KsOf (H : Hp) (v : V) : Option (List Kd) → Prop
  | none => ∃ k, HasK H v k ∧ isTupK k = false
  | some ks => ∃ a xs, v = .ref a ∧ H a = some (.tup xs) ∧ Paired (HasK H) xs ks
theorem KsOf.ext {H H' : Hp} {v : V} : ∀ {o : Option (List Kd)}, KsOf H v o → Ext H H' → KsOf H' v o
  | none, ⟨k, h1, h2⟩, e => ⟨k, h1.ext e, h2⟩
  | some ks, ⟨a, xs, h1, h2, h3⟩, e => ⟨a, xs, h1, e.t _ _ h2, Paired.mapP h3 fun _ _ z => z.ext e⟩
/-- a tuple of at most n things of known kinds -/
def TK (n : Nat) (H : Hp) (v : V) : Prop := ∃ a xs, v = .ref a ∧ H a = some (.tup xs) ∧ xs.length ≤ n ∧ ∀ x ∈ xs, ∃ k, HasK H x k
theorem TK.ext {n : Nat} {H H' : Hp} {v : V} (h : TK n H v) (e : Ext H H') : TK n H' v := by
  obtain ⟨a, xs, h1, h2, h3, h4⟩ := h
  exact ⟨a, xs, h1, e.t _ _ h2, h3, fun x hx => let ⟨k, q⟩ := h4 x hx; ⟨k, q.ext e⟩⟩
/-- a thing of known kind, a tuple of such things -/
def Gd (H : Hp) (v : V) : Prop := ∃ o, KsOf H v o
theorem Gd.ext {H H' : Hp} {v : V} (h : Gd H v) (e : Ext H H') : Gd H' v := let ⟨o, q⟩ := h; ⟨o, q.ext e⟩
theorem kinds_of {H : Hp} : ∀ {xs : List V}, (∀ x ∈ xs, ∃ k, HasK H x k) → ∃ ks, Paired (HasK H) xs ks
  | [], _ => ⟨[], .nil⟩
  | x :: r, h => by
    obtain ⟨k, hk⟩ := h x (List.mem_cons.mpr (.inl rfl))
    obtain ⟨ks, hks⟩ := kinds_of fun y hy => h y (List.mem_cons.mpr (.inr hy))
    exact ⟨k :: ks, .cons hk hks⟩
theorem TK.gd {n : Nat} {H : Hp} {v : V} (h : TK n H v) : Gd H v := by
  obtain ⟨a, xs, h1, h2, _, h4⟩ := h
  obtain ⟨ks, hks⟩ := kinds_of h4
  exact ⟨some ks, a, xs, h1, h2, hks⟩
theorem HasK.gd {H : Hp} {v : V} {k : Kd} (h : HasK H v k) (hk : isTupK k = false) : Gd H v := ⟨none, k, h, hk⟩
/-! ### slices and sums of such tuples -/
theorem cut_mem {xs : List V} {lo hi : Option Int} {x : V} (h : x ∈ cutV xs lo hi) : x ∈ xs := List.mem_of_mem_drop (List.mem_of_mem_take h)
theorem sl_TK {K : PySem.W.Frag} {n : Nat} {H : Hp} {v : V} {lo hi : Option Int} {Q : VK} (h : TK n H v) (q : ∀ v' H', Same H H' → TK n H' v' → Q v' H') : rSlA K v lo hi H Q := by
  obtain ⟨a, xs, rfl, h2, h3, h4⟩ := id h
  refine ⟨a, xs, rfl, SqT.of h2, fun _ => q _ _ (Same.refl H) h, fun _ p hp => q _ _ (same_new hp) ⟨p, _, rfl, upd_same, Nat.le_trans (cutV_length _ _ _) h3, fun x hx => ?_⟩⟩
  obtain ⟨k, hk⟩ := h4 x (cut_mem hx)
  exact ⟨k, hk.ext (Ext.same (same_new hp))⟩
theorem cat_TK {K : PySem.W.Frag} {n m : Nat} {H : Hp} {v u : V} {Q : VK} (h : TK n H v) (h' : TK m H u) (hs : n + m ≤ 1000) (q : ∀ v' H', Same H H' → TK (n + m) H' v' → Q v' H') : rCatA K v u H Q := by
  obtain ⟨a, xs, rfl, h2, h3, h4⟩ := id h
  obtain ⟨b, ys, rfl, k2, k3, k4⟩ := id h'
  have up1 : TK (n + m) H (.ref a) := ⟨a, xs, rfl, h2, by omega, h4⟩
  have up2 : TK (n + m) H (.ref b) := ⟨b, ys, rfl, k2, by omega, k4⟩
  refine ⟨a, b, xs, ys, rfl, rfl, SqT.of h2, SqT.of k2, Nat.le_of_lt (small1000 (by omega)), fun _ => q _ _ (Same.refl H) up2, fun _ _ => q _ _ (Same.refl H) up1, fun _ _ p hp => q _ _ (same_new hp) ⟨p, _, rfl, upd_same, ?_, fun x hx => ?_⟩⟩
  · rw [List.length_append]
    omega
  · rcases List.mem_append.mp hx with z | z
    · obtain ⟨k, hk⟩ := h4 x z
      exact ⟨k, hk.ext (Ext.same (same_new hp))⟩
    · obtain ⟨k, hk⟩ := k4 x z
      exact ⟨k, hk.ext (Ext.same (same_new hp))⟩
theorem one_TK {H : Hp} {p : Addr} {x : V} {k : Kd} (hp : H p = none) (hk : HasK H x k) : TK 1 (upd H p (.tup [x])) (.ref p) :=
  ⟨p, [x], rfl, upd_same, Nat.le_refl _, fun y hy => ⟨k, by rw [List.mem_singleton.mp hy]; exact hk.ext (Ext.same (same_new hp))⟩⟩
/-! ### a step by kinds: what isn't whole makes none -/
theorem not_whole_num {many : Int} {k : Kd} (h : wholeK k = false) : numK many k = false := by cases k <;> first | rfl | exact absurd h (by simp [wholeK])
theorem not_whole_l {many : Int} {k k' : Kd} (h : wholeK k = false) : unlikeK many k k' = false := by cases k <;> first | rfl | exact absurd h (by simp [wholeK])
theorem not_whole_r {many : Int} {k k' : Kd} (h : wholeK k' = false) : unlikeK many k k' = false := by
  cases k <;> cases k' <;> first | rfl | exact absurd h (by simp [wholeK])
theorem step_not_whole {many : Int} {k0 : Kd} {r : List Kd} {k : Kd} (hm : k ∈ r) (h : wholeK k = false) : stepK many (k0 :: r) = false := by
  have ha : addK many r = false := by
    rcases r with _ | ⟨a, _ | ⟨b, _ | ⟨c, _ | ⟨d, r⟩⟩⟩⟩ <;> first | rfl | skip
    show (unlikeK many a b && wholeK c) = false
    rcases List.mem_cons.mp hm with rfl | hm
    · rw [not_whole_l h]
      rfl
    rcases List.mem_cons.mp hm with rfl | hm
    · rw [not_whole_r h]
      rfl
    rw [List.mem_singleton.mp hm] at h
    rw [h, Bool.and_false]
  have hs : swapK many r = false := by
    rcases r with _ | ⟨a, _ | ⟨b, _ | ⟨c, r⟩⟩⟩ <;> first | rfl | skip
    show unlikeK many a b = false
    rcases List.mem_cons.mp hm with rfl | hm
    · exact not_whole_l h
    rw [List.mem_singleton.mp hm] at h
    exact not_whole_r h
  have ht : turnK many r = false := by
    rcases r with _ | ⟨a, _ | ⟨b, r⟩⟩ <;> first | rfl | skip
    show numK many a = false
    rw [List.mem_singleton.mp hm] at h
    exact not_whole_num h
  show (if eqK k0 "add" = true then addK many r else if eqK k0 "swap" = true then swapK many r else if eqK k0 "turn" = true then turnK many r else false) = false
  rw [ha, hs, ht]
  split
  · rfl
  · split
    · rfl
    · split <;> rfl
theorem step_not_str {many : Int} {k0 : Kd} {r : List Kd} (h : isStrK k0 = false) : stepK many (k0 :: r) = false := by
  have e : ∀ s, eqK k0 s = false := fun s => by cases k0 <;> first | rfl | exact absurd h (by simp [isStrK])
  show (if eqK k0 "add" = true then addK many r else if eqK k0 "swap" = true then swapK many r else if eqK k0 "turn" = true then turnK many r else false) = false
  rw [e, e, e]
  rfl
theorem whole_int {k : Kd} (h : wholeK k = true) : ∃ i, k = .int i := by
  cases k <;> first | exact ⟨_, rfl⟩ | exact absurd h (by simp [wholeK])
theorem all_ints {H : Hp} : ∀ {xs : List V} {ks : List Kd}, Paired (HasK H) xs ks → (∀ k ∈ ks, wholeK k = true) → ∃ ns : List Int, xs = ns.map V.int ∧ ks = ns.map Kd.int
  | _, _, .nil, _ => ⟨[], rfl, rfl⟩
  | _, _, .cons h t, hw => by
    obtain ⟨i, rfl⟩ := whole_int (hw _ (List.mem_cons.mpr (.inl rfl)))
    obtain ⟨ns, rfl, rfl⟩ := all_ints t fun k hk => hw k (List.mem_cons.mpr (.inr hk))
    cases h
    exact ⟨i :: ns, rfl, rfl⟩
end Cm

set_option Elab.async false
set_option linter.all false
set_option maxRecDepth 100000
set_option maxHeartbeats 4000000
namespace Cm
open PySem PySem.Spec PyProof.Rows L2
/-! ### (z,) * n -/
theorem tuple_mul1 (l : Addr) (items : Array Value) (n : Nat) (dd : Option Addr) (sl : Array (Option Value)) (u : Tok) :
    Meets (Builtin.«tuple.__mul__» ⟨[.ref l, .int 1 u], []⟩) (fun _ R s => s.heap.get? l = some { cls := .type "tuple", dict := dd, data := .seq items n, slots := sl } ∧ R (.ok (.ret (Value.ref l))) s) :=
  .of_wp fun P0 w0 A0 R0 s0 pre => by
    obtain ⟨hp0, g0, d0, tk0, os0⟩ := s0
    obtain ⟨hat, post⟩ := pre
    have f1 := AutoSeq1.idx_int
    wp_walk using wpAny_loadPart' hat
    exact ⟨_, rfl, post⟩
theorem tuple_mul0 (l : Addr) (items : Array Value) (n : Nat) (dd : Option Addr) (sl : Array (Option Value)) (u : Tok) (hi : items.isEmpty = false) :
    Meets (Builtin.«tuple.__mul__» ⟨[.ref l, .int 0 u], []⟩) (fun _ R s => s.heap.get? l = some { cls := .type "tuple", dict := dd, data := .seq items n, slots := sl } ∧
      R (.ok (.ret (Value.ref s.heap.objs.size))) { s with heap := s.heap.push { cls := Value.type "tuple", data := Data.seq #[] }, toks := s.toks }) :=
  .of_wp fun P0 w0 A0 R0 s0 pre => by
    obtain ⟨hp0, g0, d0, tk0, os0⟩ := s0
    obtain ⟨hat, post⟩ := pre
    have f1 := AutoSeq1.idx_int
    wp_walk using wpAny_loadPart' hat
    have c1 : (items.isEmpty || (0 : Int) == 1) = false := by rw [hi]; rfl
    have c2 : (decide ((0 : Int) ≤ 0) || items.isEmpty) = true := by rw [hi]; rfl
    exact ⟨_, rfl, post⟩
def rRepN : R2 := fun x y H Q => ∃ (l : Addr) (z : V) (n : Nat), x = .ref l ∧ y = .int n ∧ H l = some (.tup [z]) ∧ n ≤ 1000 ∧ ∀ p H', Same H H' → H' p = some (.tup (List.replicate n z)) → Q (.ref p) H'
theorem rep_flat (z : V) : ∀ n : Nat, (List.replicate n [z]).flatten = List.replicate n z
  | 0 => rfl
  | n + 1 => by
    rw [List.replicate_succ, List.flatten_cons, rep_flat z n]
    rfl
theorem op_repN {X : Cx} : OpR X (binaryOp .Mult) rRepN := by
  intro pins s σ H x y v u Q I rx ry h
  obtain ⟨l, z, n, rfl, rfl, hl, hn, q⟩ := h
  match n, hn, q, ry with
  | 0, hn, q, ry =>
    cases rx
    obtain ⟨t, rfl⟩ := ry
    obtain ⟨its, r, ⟨⟨cls, dd, data, sl⟩, ho, hc, n, hd⟩, hs⟩ := I.tuple (SqT.of hl)
    simp only at hc hd
    subst hc hd
    have hi : its.toArray.isEmpty = false := by
      cases r
      rfl
    refine wpAny_binaryOp_repeat_ref (T := "tuple") (U := "int") (by decide) ⟨_, ho, rfl⟩ (fun s' => typeIs_int s' _ t) noFill_tuple_mul F.fills_int_mul F.slot_int_rmul repeat_tuple F.slot_int_index.lookup
      (call_meets F.slot_int_rmul (typeIs_int s _ t) F.entry_int_rmul (F.args_int_rmul_2 _ _) (int_rmul_tuple _ t l its.toArray n dd sl)
        ⟨ho, rfl, ⟨_, ho, rfl⟩, call_meets F.slot_tuple_mul ⟨_, ho, rfl⟩ F.entry_tuple_mul (F.args_tuple_mul_2 _ _) (tuple_mul0 l its.toArray n dd sl t hi) ⟨ho, ?_⟩⟩)
    refine ⟨.ref s.heap.objs.size, _, I.laid (t' := s.toks) (o := .tup []) (fun b ob q => Heap.get?_push_of_some _ q) (Nat.le_refl _) ?_, rfl, q _ _ (same_new (I.hok.fresh (Nat.le_refl _))) upd_same⟩
    exact ⟨Nat.zero_le _, [], .nil, IsTup.new _ _⟩
  | 1, hn, q, ry =>
    cases rx
    obtain ⟨t, rfl⟩ := ry
    obtain ⟨its, r, ⟨⟨cls, dd, data, sl⟩, ho, hc, n, hd⟩, hs⟩ := I.tuple (SqT.of hl)
    simp only at hc hd
    subst hc hd
    refine wpAny_binaryOp_repeat_ref (T := "tuple") (U := "int") (by decide) ⟨_, ho, rfl⟩ (fun s' => typeIs_int s' _ t) noFill_tuple_mul F.fills_int_mul F.slot_int_rmul repeat_tuple F.slot_int_index.lookup
      (call_meets F.slot_int_rmul (typeIs_int s _ t) F.entry_int_rmul (F.args_int_rmul_2 _ _) (int_rmul_tuple _ t l its.toArray n dd sl)
        ⟨ho, rfl, ⟨_, ho, rfl⟩, call_meets F.slot_tuple_mul ⟨_, ho, rfl⟩ F.entry_tuple_mul (F.args_tuple_mul_2 _ _) (tuple_mul1 l its.toArray n dd sl t) ⟨ho, ?_⟩⟩)
    exact ⟨.ref l, H, I, rfl, q _ _ (Same.refl H) hl⟩
  | n + 2, hn, q, ry =>
    refine op_repT pins s σ H _ _ v u Q I rx ry ⟨l, _, [z], rfl, rfl, SqT.of hl, by simp, by omega, by omega, by simp, fun p hp => ?_⟩
    refine q p _ (same_new hp) ?_
    rw [upd_same, show (((n + 2 : Nat) : Int)).toNat = n + 2 from rfl, rep_flat]
theorem walk_zipT {K : PySem.W.Frag} {a b : Addr} {xs ys : List V} {n : Nat} (hn : n = min xs.length ys.length) : Walk (RZ.ItzT K a b) n (fun H => SqT K H a xs ∧ SqT K H b ys) (YPair (fun i => xs[i]?) (fun i => ys[i]?)) := by
  subst hn
  constructor
  · intro i G hi g
    exact ⟨xs, ys, _, _, g.1, g.2, List.getElem?_eq_getElem (Nat.lt_of_lt_of_le hi (Nat.min_le_left _ _)), List.getElem?_eq_getElem (Nat.lt_of_lt_of_le hi (Nat.min_le_right _ _))⟩
  · intro G g
    refine ⟨xs, ys, g.1, g.2, ?_⟩
    omega
  · rintro i G v G' _ g ⟨t, p, r, e1, e2, e3, e4, e5⟩
    exact ⟨t, p, r, e1, e2, e3, e4 _ g.1, e5 _ g.2⟩
end Cm

set_option Elab.async false
set_option linter.all false
set_option maxRecDepth 100000
set_option maxHeartbeats 4000000
namespace Cm
open PySem PySem.Spec PyProof.Rows L2
/-! ### rows and steps, as numbers -/
abbrev Rs := List (List Int)
inductive St3 where
  | add (i j : Nat) (z : Int) | swap (i j : Nat) | turn (i : Nat)
def St3.vals : St3 → List V
  | .add i j z => [.str "add", .int i, .int j, .int z]
  | .swap i j => [.str "swap", .int i, .int j]
  | .turn i => [.str "turn", .int i]
def St3.ok (m : Nat) : St3 → Prop
  | .add i j z => i < m ∧ j < m ∧ i ≠ j ∧ z.natAbs < 2 ^ 100
  | .swap i j => i < m ∧ j < m ∧ i ≠ j
  | .turn i => i < m
def St3.back : St3 → St3
  | .add i j z => .add i j (-z)
  | .swap i j => .swap i j
  | .turn i => .turn i
theorem back_ok {m : Nat} : ∀ {st : St3}, st.ok m → st.back.ok m
  | .add i j z, ⟨h1, h2, h3, h4⟩ => ⟨h1, h2, h3, by rw [Int.natAbs_neg]; exact h4⟩
  | .swap _ _, h => h
  | .turn _, h => h
def row (rs : Rs) (i : Nat) : List Int := rs[i]?.getD []
def St3.run : St3 → Rs → Rs
  | .add i j z, rs => rs.set i (List.zipWith (fun x y => x + z * y) (row rs i) (row rs j))
  | .swap i j, rs => (rs.set i (row rs j)).set j (row rs i)
  | .turn i, rs => rs.set i ((row rs i).map fun x => -x)
structure RB (m w b : Nat) (rs : Rs) : Prop where
  len : rs.length = m
  wide : ∀ r ∈ rs, r.length = w
  small : ∀ r ∈ rs, ∀ x ∈ r, x.natAbs < 2 ^ b
theorem row_at {rs : Rs} {i : Nat} (h : i < rs.length) : rs[i]? = some (row rs i) := by
  unfold row
  rw [List.getElem?_eq_getElem h]
  rfl
theorem row_mem {rs : Rs} {i : Nat} (h : i < rs.length) : row rs i ∈ rs := List.mem_of_getElem? (row_at h)
theorem RB.mono {m w b c : Nat} {rs : Rs} (h : RB m w b rs) (hb : b ≤ c) : RB m w c rs :=
  ⟨h.len, h.wide, fun r hr x hx => Nat.lt_of_lt_of_le (h.small r hr x hx) (Nat.pow_le_pow_right (by decide) hb)⟩
theorem mem_set {rs : Rs} {i : Nat} {r x : List Int} (h : x ∈ rs.set i r) : x ∈ rs ∨ x = r := by
  rcases List.mem_or_eq_of_mem_set h with z | z
  · exact .inl z
  · exact .inr z
theorem RB.set {m w b : Nat} {rs : Rs} {i : Nat} {r : List Int} (h : RB m w b rs) (h1 : r.length = w) (h2 : ∀ x ∈ r, x.natAbs < 2 ^ b) : RB m w b (rs.set i r) :=
  ⟨by rw [List.length_set]; exact h.len, fun x hx => by
    rcases mem_set hx with z | z
    · exact h.wide x z
    · rw [z]; exact h1, fun x hx => by
    rcases mem_set hx with z | z
    · exact h.small x z
    · rw [z]; exact h2⟩
theorem mem_zipWith {f : Int → Int → Int} : ∀ {xs ys : List Int} {z : Int}, z ∈ List.zipWith f xs ys → ∃ x y, x ∈ xs ∧ y ∈ ys ∧ z = f x y
  | [], _, _, h => by simp at h
  | _ :: _, [], _, h => by simp at h
  | x :: xs, y :: ys, z, h => by
    rw [List.zipWith_cons_cons] at h
    rcases List.mem_cons.mp h with e | e
    · exact ⟨x, y, List.mem_cons.mpr (.inl rfl), List.mem_cons.mpr (.inl rfl), e⟩
    · obtain ⟨a, c, h1, h2, h3⟩ := mem_zipWith e
      exact ⟨a, c, List.mem_cons.mpr (.inr h1), List.mem_cons.mpr (.inr h2), h3⟩
theorem add_small {b : Nat} {x y z : Int} (hx : x.natAbs < 2 ^ b) (hy : y.natAbs < 2 ^ b) (hz : z.natAbs < 2 ^ 100) : (x + z * y).natAbs < 2 ^ (b + 101) := by
  have h1 : (x + z * y).natAbs ≤ x.natAbs + z.natAbs * y.natAbs := by
    rw [← Int.natAbs_mul]
    exact Int.natAbs_add_le _ _
  have h2 : z.natAbs * y.natAbs ≤ 2 ^ 100 * 2 ^ b := Nat.mul_le_mul (Nat.le_of_lt hz) (Nat.le_of_lt hy)
  have e : 2 ^ (b + 101) = 2 ^ 101 * 2 ^ b := by rw [Nat.pow_add, Nat.mul_comm]
  rw [e]
  have h3 : (2 : Nat) ^ 101 * 2 ^ b = 2 ^ 100 * 2 ^ b + 2 ^ 100 * 2 ^ b := by
    rw [show (2 : Nat) ^ 101 = 2 ^ 100 + 2 ^ 100 from by decide, Nat.add_mul]
  have h4 : 2 ^ b ≤ 2 ^ 100 * 2 ^ b := Nat.le_mul_of_pos_left _ (by decide)
  omega
theorem run_RB {m w b : Nat} {rs : Rs} : ∀ {st : St3}, st.ok m → RB m w b rs → RB m w (b + 101) (st.run rs)
  | .add i j z, ⟨h1, h2, h3, h4⟩, h => by
    have li : i < rs.length := by rw [h.len]; exact h1
    have lj : j < rs.length := by rw [h.len]; exact h2
    refine (h.mono (by omega)).set ?_ fun x hx => ?_
    · rw [List.length_zipWith, h.wide _ (row_mem li), h.wide _ (row_mem lj), Nat.min_self]
    · obtain ⟨p, q, hp, hq, rfl⟩ := mem_zipWith hx
      exact add_small (h.small _ (row_mem li) p hp) (h.small _ (row_mem lj) q hq) h4
  | .swap i j, ⟨h1, h2, h3⟩, h => by
    have li : i < rs.length := by rw [h.len]; exact h1
    have lj : j < rs.length := by rw [h.len]; exact h2
    have hm := h.mono (c := b + 101) (by omega)
    exact (hm.set (hm.wide _ (row_mem lj)) (hm.small _ (row_mem lj))).set (hm.wide _ (row_mem li)) (hm.small _ (row_mem li))
  | .turn i, h1, h => by
    have li : i < rs.length := by rw [h.len]; exact h1
    have hm := h.mono (c := b + 101) (by omega)
    refine hm.set (by rw [List.length_map]; exact hm.wide _ (row_mem li)) fun x hx => ?_
    obtain ⟨y, hy, rfl⟩ := List.mem_map.mp hx
    rw [Int.natAbs_neg]
    exact hm.small _ (row_mem li) y hy
theorem row_set_same {rs : Rs} {i : Nat} {r : List Int} (h : i < rs.length) : row (rs.set i r) i = r := by
  unfold row
  rw [List.getElem?_set_self h]
  rfl
theorem row_set_ne {rs : Rs} {i j : Nat} {r : List Int} (h : i ≠ j) : row (rs.set i r) j = row rs j := by
  unfold row
  rw [List.getElem?_set_ne h]
theorem set_row {rs : Rs} {i : Nat} (h : i < rs.length) : rs.set i (row rs i) = rs := by
  refine List.ext_getElem? fun k => ?_
  by_cases hk : i = k
  · subst hk
    rw [List.getElem?_set_self h, row_at h]
  · rw [List.getElem?_set_ne hk]
theorem zip_back {z : Int} : ∀ {xs ys : List Int}, xs.length = ys.length → List.zipWith (fun x y => x + -z * y) (List.zipWith (fun x y => x + z * y) xs ys) ys = xs
  | [], [], _ => rfl
  | x :: xs, y :: ys, h => by
    rw [List.zipWith_cons_cons, List.zipWith_cons_cons, zip_back (Nat.succ.inj h)]
    congr 1
    rw [Int.neg_mul]
    omega
theorem neg_back : ∀ xs : List Int, (xs.map fun x => -x).map (fun x => -x) = xs
  | [] => rfl
  | x :: xs => by
    rw [List.map_cons, List.map_cons, neg_back xs, Int.neg_neg]
theorem run_back {m w b : Nat} {rs : Rs} : ∀ {st : St3}, st.ok m → RB m w b rs → st.back.run (st.run rs) = rs
  | .add i j z, ⟨h1, h2, h3, h4⟩, h => by
    have li : i < rs.length := by rw [h.len]; exact h1
    have lj : j < rs.length := by rw [h.len]; exact h2
    show (rs.set i _).set i (List.zipWith (fun x y => x + -z * y) (row (rs.set i _) i) (row (rs.set i _) j)) = rs
    rw [row_set_same li, row_set_ne h3, zip_back (by rw [h.wide _ (row_mem li), h.wide _ (row_mem lj)]), List.set_set, set_row li]
  | .swap i j, ⟨h1, h2, h3⟩, h => by
    have li : i < rs.length := by rw [h.len]; exact h1
    have lj : j < rs.length := by rw [h.len]; exact h2
    show (((rs.set i (row rs j)).set j (row rs i)).set i (row ((rs.set i (row rs j)).set j (row rs i)) j)).set j (row ((rs.set i (row rs j)).set j (row rs i)) i) = rs
    have e1 : row ((rs.set i (row rs j)).set j (row rs i)) j = row rs i := row_set_same (by rw [List.length_set]; exact lj)
    have e2 : row ((rs.set i (row rs j)).set j (row rs i)) i = row rs j := by
      rw [row_set_ne (Ne.symm h3), row_set_same li]
    rw [e1, e2, List.set_comm _ _ (Ne.symm h3), List.set_set, List.set_set, set_row li, set_row lj]
  | .turn i, h1, h => by
    have li : i < rs.length := by rw [h.len]; exact h1
    show (rs.set i _).set i ((row (rs.set i _) i).map fun x => -x) = rs
    rw [row_set_same li, neg_back, List.set_set, set_row li]
theorem mulW_small {i j : Int} (hi : i.natAbs < 2 ^ 2000) (hj : j.natAbs < 2 ^ 2000) : CMulW i j := by
  show i.natAbs.log2 + j.natAbs.log2 < 1000000
  have l : ∀ n : Nat, n < 2 ^ 2000 → n.log2 < 2001 := fun n h => by
    by_cases hn : n = 0
    · subst hn; decide
    · exact Nat.lt_succ_of_lt ((Nat.log2_lt hn).mpr h)
  have := l _ hi
  have := l _ hj
  omega
/-! ### the way back, step by step -/
inductive Undo (m w : Nat) : List St3 → Rs → Rs → Prop where
  | nil {r : Rs} : Undo m w [] r r
  | cons {b : St3} {bs : List St3} {cur r0 : Rs} {k : Nat} : b.ok m → RB m w k cur → k ≤ 1000 → Undo m w bs (b.run cur) r0 → Undo m w (b :: bs) cur r0
/-! ### as data -/
def rowD (r : List Int) : PyData := .tuple (r.map .int)
def rowsD (rs : Rs) : PyData := .tuple (rs.map rowD)
def St3.data : St3 → PyData
  | .add i j z => .tuple [.str "add", .int i, .int j, .int z]
  | .swap i j => .tuple [.str "swap", .int i, .int j]
  | .turn i => .tuple [.str "turn", .int i]
theorem lay_ints : ∀ r : List Int, PyData.canLayAll0 (r.map .int) = true
  | [] => rfl
  | x :: r => by
    show (PyData.canLay0 (.int x) && PyData.canLayAll0 (r.map .int)) = true
    rw [lay_ints r]
    rfl
theorem lay_rows : ∀ rs : Rs, PyData.canLayAll0 (rs.map rowD) = true
  | [] => rfl
  | x :: r => by
    show (PyData.canLayAll0 (x.map .int) && PyData.canLayAll0 (r.map rowD)) = true
    rw [lay_rows r, lay_ints x]
    rfl
theorem depth_ints : ∀ r : List Int, PyData.depthAll (r.map .int) ≤ 1
  | [] => by decide
  | x :: r => by
    have := depth_ints r
    show max (PyData.depth (.int x)) (PyData.depthAll (r.map .int)) ≤ 1
    have h2 : PyData.depth (.int x) ≤ 1 := by simp [PyData.depth]
    omega
theorem depth_row (r : List Int) : (rowD r).depth ≤ 2 := by
  have := depth_ints r
  have e : (rowD r).depth = PyData.depthAll (r.map .int) + 1 := by simp [rowD, PyData.depth]
  omega
theorem depth_rowsA : ∀ rs : Rs, PyData.depthAll (rs.map rowD) ≤ 2
  | [] => by decide
  | x :: r => by
    have h1 := depth_rowsA r
    have h2 := depth_row x
    show max (PyData.depth (rowD x)) (PyData.depthAll (r.map rowD)) ≤ 2
    omega
theorem depth_rows (rs : Rs) : (rowsD rs).depth ≤ 3 := by
  have := depth_rowsA rs
  have e : (rowsD rs).depth = PyData.depthAll (rs.map rowD) + 1 := by simp [rowsD, PyData.depth]
  omega
theorem shaped_rows (rs : Rs) : SeqAt.shaped (rowsD rs) = true := by
  have := depth_rows rs
  show (PyData.canLayAll0 (rs.map rowD) && decide ((rowsD rs).depth ≤ 64)) = true
  rw [lay_rows, decide_eq_true (by omega)]
  rfl
theorem eqv_rows (rs : Rs) : PyData.eqv (rowsD rs) (rowsD rs) = true := SeqAt.eqv_refl _ (SeqAt.canLay_of_shaped (shaped_rows rs))
theorem shaped_list (rs : Rs) : SeqAt.shaped (.list (rs.map rowD)) = true := by
  have := depth_rowsA rs
  have e : (PyData.list (rs.map rowD)).depth = PyData.depthAll (rs.map rowD) + 1 := by simp [PyData.depth]
  show (PyData.canLayAll0 (rs.map rowD) && decide ((PyData.list (rs.map rowD)).depth ≤ 64)) = true
  rw [lay_rows, decide_eq_true (by omega)]
  rfl
theorem log_big {i : Int} (h : i.natAbs < 2 ^ 1000) : i.natAbs.log2 < 1000 := PySem.Flt.log2_lt_of (by decide) h
theorem int_text {i : Int} (h : i.natAbs < 2 ^ 1000) : (PyData.shown (.int i)).length ≤ 1001 := by
  show (Str.ofString (toString i)).length ≤ 1001
  rw [PySem.ofString_length]
  exact PySem.int_text_length_le (by decide) (log_big h)
theorem show_ints : ∀ {r : List Int}, (∀ x ∈ r, x.natAbs < 2 ^ 1000) → PyData.showableAll (r.map .int) = true ∧ PyData.hasDictAll (r.map .int) = false ∧ PyData.leavesShortAll 1001 (r.map .int) = true ∧ PyData.bulkAll (r.map .int) = r.length
  | [], _ => ⟨rfl, rfl, rfl, rfl⟩
  | x :: r, h => by
    obtain ⟨h1, h2, h3, h4⟩ := show_ints fun y hy => h y (List.mem_cons.mpr (.inr hy))
    have s1 := h x (List.mem_cons.mpr (.inl rfl))
    have l1 := log_big s1
    refine ⟨?_, ?_, ?_, ?_⟩
    · show (decide (x.natAbs.log2 < 1920) && PyData.showableAll (r.map .int)) = true
      rw [h1, decide_eq_true (by omega)]
      rfl
    · show (PyData.hasDict (.int x) || PyData.hasDictAll (r.map .int)) = false
      rw [h2]
      rfl
    · show (decide ((PyData.shown (.int x)).length ≤ 1001) && PyData.leavesShortAll 1001 (r.map .int)) = true
      rw [h3, decide_eq_true (int_text s1)]
      rfl
    · show PyData.bulk (.int x) + 1 + PyData.bulkAll (r.map .int) = r.length + 1
      rw [h4]
      show 0 + 1 + r.length = _
      omega
theorem show_rows {w : Nat} : ∀ {rs : Rs}, (∀ r ∈ rs, r.length = w ∧ ∀ x ∈ r, x.natAbs < 2 ^ 1000) → PyData.showableAll (rs.map rowD) = true ∧ PyData.hasDictAll (rs.map rowD) = false ∧ PyData.leavesShortAll 1001 (rs.map rowD) = true ∧ PyData.bulkAll (rs.map rowD) = (w + 1) * rs.length
  | [], _ => ⟨rfl, rfl, rfl, rfl⟩
  | x :: r, h => by
    obtain ⟨h1, h2, h3, h4⟩ := show_rows fun y hy => h y (List.mem_cons.mpr (.inr hy))
    obtain ⟨hw, s1⟩ := h x (List.mem_cons.mpr (.inl rfl))
    obtain ⟨i1, i2, i3, i4⟩ := show_ints s1
    refine ⟨?_, ?_, ?_, ?_⟩
    · show (PyData.showableAll (x.map .int) && PyData.showableAll (r.map rowD)) = true
      rw [h1, i1]
      rfl
    · show (PyData.hasDictAll (x.map .int) || PyData.hasDictAll (r.map rowD)) = false
      rw [h2, i2]
      rfl
    · show (PyData.leavesShortAll 1001 (x.map .int) && PyData.leavesShortAll 1001 (r.map rowD)) = true
      rw [h3, i3]
      rfl
    · show PyData.bulkAll (x.map .int) + 1 + PyData.bulkAll (r.map rowD) = (w + 1) * (r.length + 1)
      rw [h4, i4, hw, Nat.mul_add, Nat.mul_one]
      omega
theorem show_pair {w m k b : Nat} {rs : Rs} {st : St3} (h : RB m w b rs) (hb : b ≤ 1000) (hm : m ≤ 14) (hw : w ≤ 12) (hs : st.ok k) (hk : k ≤ 14) :
    (PyData.tuple [rowsD rs, st.data]).showable = true ∧ (PyData.tuple [rowsD rs, st.data]).hasDict = false ∧ (PyData.tuple [rowsD rs, st.data]).depth ≤ 60 ∧ (PyData.tuple [rowsD rs, st.data]).shown.length ≤ sizeLine := by
  have hr := h.mono hb
  obtain ⟨h1, h2, h3, h4⟩ := show_rows (rs := rs) (w := w) fun r z => ⟨hr.wide r z, hr.small r z⟩
  have hst : st.data.showable = true ∧ st.data.hasDict = false ∧ st.data.depth ≤ 2 ∧ PyData.leavesShort 1001 st.data = true ∧ st.data.bulk ≤ 8 := by
    have nb : ∀ i : Nat, i < k → ((i : Int)).natAbs < 2 ^ 1000 := fun i hi => Nat.lt_of_lt_of_le (show i < 2 ^ 4 by have : (2 : Nat) ^ 4 = 16 := rfl; omega) (Nat.pow_le_pow_right (by decide) (by decide))
    have sd : ∀ i : Int, i.natAbs < 2 ^ 1000 → decide (i.natAbs.log2 < 1920) = true := fun i hi => decide_eq_true (Nat.lt_trans (log_big hi) (by decide))
    have td : ∀ i : Int, i.natAbs < 2 ^ 1000 → decide ((PyData.shown (.int i)).length ≤ 1001) = true := fun i hi => decide_eq_true (int_text hi)
    cases st with
    | add i j z =>
      obtain ⟨o1, o2, o3, o4⟩ := hs
      have oz : z.natAbs < 2 ^ 1000 := Nat.lt_trans o4 (Nat.pow_lt_pow_right (by decide) (by decide))
      refine ⟨?_, rfl, by simp [St3.data, PyData.depth, PyData.depthAll], ?_, ?_⟩
      · show (PyData.showable (.str "add") && (decide (((i : Nat) : Int).natAbs.log2 < 1920) && (decide (((j : Nat) : Int).natAbs.log2 < 1920) && (decide (z.natAbs.log2 < 1920) && true)))) = true
        rw [sd _ (nb i o1), sd _ (nb j o2), sd _ oz]
        rfl
      · show (PyData.leavesShort 1001 (.str "add") && (decide ((PyData.shown (.int i)).length ≤ 1001) && (decide ((PyData.shown (.int j)).length ≤ 1001) && (decide ((PyData.shown (.int z)).length ≤ 1001) && true)))) = true
        rw [td _ (nb i o1), td _ (nb j o2), td _ oz]
        decide +kernel
      · exact (by decide +kernel : PyData.bulk (.str "add") + 1 + (0 + 1 + (0 + 1 + (0 + 1 + 0))) ≤ 8)
    | swap i j =>
      obtain ⟨o1, o2, o3⟩ := hs
      refine ⟨?_, rfl, by simp [St3.data, PyData.depth, PyData.depthAll], ?_, ?_⟩
      · show (PyData.showable (.str "swap") && (decide (((i : Nat) : Int).natAbs.log2 < 1920) && (decide (((j : Nat) : Int).natAbs.log2 < 1920) && true))) = true
        rw [sd _ (nb i o1), sd _ (nb j o2)]
        rfl
      · show (PyData.leavesShort 1001 (.str "swap") && (decide ((PyData.shown (.int i)).length ≤ 1001) && (decide ((PyData.shown (.int j)).length ≤ 1001) && true))) = true
        rw [td _ (nb i o1), td _ (nb j o2)]
        decide +kernel
      · exact (by decide +kernel : PyData.bulk (.str "swap") + 1 + (0 + 1 + (0 + 1 + 0)) ≤ 8)
    | turn i =>
      refine ⟨?_, rfl, by simp [St3.data, PyData.depth, PyData.depthAll], ?_, ?_⟩
      · show (PyData.showable (.str "turn") && (decide (((i : Nat) : Int).natAbs.log2 < 1920) && true)) = true
        rw [sd _ (nb i hs)]
        rfl
      · show (PyData.leavesShort 1001 (.str "turn") && (decide ((PyData.shown (.int i)).length ≤ 1001) && true)) = true
        rw [td _ (nb i hs)]
        decide +kernel
      · exact (by decide +kernel : PyData.bulk (.str "turn") + 1 + (0 + 1 + 0) ≤ 8)
  obtain ⟨s1, s2, s3, s4, s5⟩ := hst
  have hd := depth_rows rs
  refine ⟨?_, ?_, ?_, ?_⟩
  · show (PyData.showableAll (rs.map rowD) && (st.data.showable && true)) = true
    rw [h1, s1]
    rfl
  · show (PyData.hasDictAll (rs.map rowD) || (st.data.hasDict || false)) = false
    rw [h2, s2]
    rfl
  · have e : (PyData.tuple [rowsD rs, st.data]).depth = max (rowsD rs).depth (max st.data.depth 0) + 1 := by simp [PyData.depth, PyData.depthAll]
    omega
  · have hl : PyData.leavesShort 1001 (.tuple [rowsD rs, st.data]) = true := by
      show (PyData.leavesShortAll 1001 (rs.map rowD) && (PyData.leavesShort 1001 st.data && true)) = true
      rw [h3, s4]
      rfl
    have hb2 := PyData.shown_le_bulk 1001 (by decide) _ hl
    have e : (PyData.tuple [rowsD rs, st.data]).bulk = (w + 1) * rs.length + 1 + (st.data.bulk + 1 + 0) := by
      show PyData.bulkAll (rs.map rowD) + 1 + (st.data.bulk + 1 + 0) = _
      rw [h4]
    rw [e] at hb2
    have hp : (w + 1) * rs.length ≤ 13 * 14 := Nat.mul_le_mul (by omega) (by rw [h.len]; exact hm)
    refine Nat.le_trans hb2 (Nat.le_trans (show (1001 + 2) * ((w + 1) * rs.length + 1 + (st.data.bulk + 1 + 0)) + 1001 ≤ (1001 + 2) * 200 + 1001 from Nat.add_le_add_right (Nat.mul_le_mul_left _ (by omega)) _) (by decide))
/-! ### on the heap -/
def TI (H : Hp) (v : V) (ns : List Int) : Prop := ∃ a, v = .ref a ∧ H a = some (.tup (ns.map V.int))
theorem TI.ext {H H' : Hp} {v : V} {ns : List Int} (h : TI H v ns) (e : Ext H H') : TI H' v ns := let ⟨a, h1, h2⟩ := h; ⟨a, h1, e.t _ _ h2⟩
def TT (H : Hp) (v : V) (rs : Rs) : Prop := ∃ a xs, v = .ref a ∧ H a = some (.tup xs) ∧ Paired (TI H) xs rs
theorem TT.ext {H H' : Hp} {v : V} {rs : Rs} (h : TT H v rs) (e : Ext H H') : TT H' v rs := let ⟨a, xs, h1, h2, h3⟩ := h; ⟨a, xs, h1, e.t _ _ h2, Paired.mapP h3 fun _ _ z => z.ext e⟩
def SV (H : Hp) (v : V) (st : St3) : Prop := ∃ a, v = .ref a ∧ H a = some (.tup st.vals)
theorem SV.ext {H H' : Hp} {v : V} {st : St3} (h : SV H v st) (e : Ext H H') : SV H' v st := let ⟨a, h1, h2⟩ := h; ⟨a, h1, e.t _ _ h2⟩
theorem dp_ints {K : PySem.W.Frag} {H : Hp} : ∀ ns : List Int, DpAll K H (ns.map V.int) (ns.map .int)
  | [] => .nil
  | x :: r => .cons (.int x) (dp_ints r)
theorem TI.dp {K : PySem.W.Frag} {H : Hp} {v : V} {ns : List Int} (h : TI H v ns) : Dp K H v (rowD ns) := by
  obtain ⟨a, rfl, h2⟩ := h
  exact .tup (SqT.of h2) (dp_ints ns)
theorem dp_rows {K : PySem.W.Frag} {H : Hp} : ∀ {xs : List V} {rs : Rs}, Paired (TI H) xs rs → DpAll K H xs (rs.map rowD)
  | _, _, .nil => .nil
  | _, _, .cons h t => .cons h.dp (dp_rows t)
theorem TT.dp {K : PySem.W.Frag} {H : Hp} {v : V} {rs : Rs} (h : TT H v rs) : Dp K H v (rowsD rs) := by
  obtain ⟨a, xs, rfl, h2, h3⟩ := h
  exact .tup (SqT.of h2) (dp_rows h3)
theorem SV.dp {K : PySem.W.Frag} {H : Hp} {v : V} : ∀ {st : St3}, SV H v st → Dp K H v st.data
  | .add i j z, ⟨a, e, h⟩ => by
    subst e
    exact .tup (SqT.of h) (.cons (.str _) (.cons (.int _) (.cons (.int _) (.cons (.int _) .nil))))
  | .swap i j, ⟨a, e, h⟩ => by
    subst e
    exact .tup (SqT.of h) (.cons (.str _) (.cons (.int _) (.cons (.int _) .nil)))
  | .turn i, ⟨a, e, h⟩ => by
    subst e
    exact .tup (SqT.of h) (.cons (.str _) (.cons (.int _) .nil))
theorem paired_app {α β : Type} {R : α → β → Prop} : ∀ {l : List α} {m : List β} {a : α} {b : β}, Paired R l m → R a b → Paired R (l ++ [a]) (m ++ [b])
  | _, _, _, _, .nil, h => .cons h .nil
  | _, _, _, _, .cons h t, q => .cons h (paired_app t q)
theorem paired_set {α β : Type} {R : α → β → Prop} : ∀ {l : List α} {m : List β} {i : Nat} {a : α} {b : β}, Paired R l m → R a b → Paired R (l.set i a) (m.set i b)
  | _, _, _, _, _, .nil, _ => .nil
  | _, _, 0, _, _, .cons _ t, q => .cons q t
  | _, _, i + 1, _, _, .cons h t, q => .cons h (paired_set (i := i) t q)
theorem paired_look {α β : Type} {R : α → β → Prop} : ∀ {l : List α} {m : List β} {i : Nat} {b : β}, Paired R l m → m[i]? = some b → ∃ a, l[i]? = some a ∧ R a b
  | _, _, _, _, .nil, e => by simp at e
  | _, _, 0, _, .cons h _, e => by
    have e1 := Option.some.inj e
    subst e1
    exact ⟨_, rfl, h⟩
  | _, _, i + 1, _, .cons _ t, e => paired_look (i := i) t e
/-! ### over a named K -/
section
variable {X : Cx} {K : PySem.W.Frag}
theorem tupOf_K (hK : X.K = K) : CallR X (.type "tuple") (rTupOf K) := by
  subst hK
  exact call_tuple_of
def rListOf (K : PySem.W.Frag) : List V → Hp → VK → Prop := fun xs H Q => ∃ p ys, xs = [.ref p] ∧ (SqL K H p ys ∨ SqT K H p ys) ∧ ∀ l, H l = none → Q (.ref l) (upd H l (.lst ys))
theorem listOf_K (hK : X.K = K) : CallR X (.type "list") (rListOf K) := by
  subst hK
  exact call_list_of
def rNeK (K : PySem.W.Frag) : R2 := fun x y H Q => ∃ d e, Dp K H x d ∧ Dp K H y e ∧ SeqAt.shaped d = true ∧ SeqAt.shaped e = true ∧ Q (.bl (!PyData.eqv d e)) H
theorem neD_K {k : Nat} (hr : Room k X.A) (hK : X.K = K) : OpR X (compareOp .NotEq) (rNeK K) := by
  subst hK
  exact op_neD hr.units
end
theorem ix_nat {n i : Nat} (h : i < n) : ixN n (i : Int) = some i := by
  unfold ixN
  rw [if_pos (by omega), if_pos (by omega), Int.toNat_natCast]
theorem take_app {l : List Int} {k : Nat} {v : Int} (h : l[k]? = some v) : (l.take k).map V.int ++ [V.int v] = (l.take (k + 1)).map V.int := by
  rw [List.take_succ, h, List.map_append]
  rfl
theorem int_at {l : List Int} {k : Nat} {x : V} (h : (l.map V.int)[k]? = some x) : ∃ v, x = .int v ∧ l[k]? = some v := by
  rw [List.getElem?_map] at h
  cases hk : l[k]? with
  | none =>
    rw [hk] at h
    cases h
  | some v =>
    rw [hk] at h
    exact ⟨v, (Option.some.inj h).symm, rfl⟩
theorem fresh_same {H H' : Hp} {D : Addr} {o : HO} (s : Same H H') (n : H D = none) : Same H (upd H' D o) := fun b u e => by
  rw [upd_ne (ne_of_none e n)]
  exact s b u e
/-- the i-th row, by its place -/
theorem row_look {H : Hp} {xs : List V} {rs : Rs} {i : Nat} (h : Paired (TI H) xs rs) (hi : i < rs.length) : ∃ p, xs[i]? = some (.ref p) ∧ H p = some (.tup ((row rs i).map V.int)) := by
  obtain ⟨v, h1, p, rfl, h2⟩ := paired_look h (row_at hi)
  exact ⟨p, h1, h2⟩
theorem zip_at {f : Int → Int → Int} {xs ys : List Int} {k : Nat} {x y : Int} (hx : xs[k]? = some x) (hy : ys[k]? = some y) : (List.zipWith f xs ys)[k]? = some (f x y) := by
  rw [List.getElem?_zipWith, hx, hy]
theorem len_small {l : List Int} {k w : Nat} (h : l.length = w) (hw : w ≤ 12) : ((l.take k).map V.int).length < sizeLine := by
  rw [List.length_map, List.length_take]
  exact small1000 (by omega)
def St3.kinds : St3 → List Kd
  | .add i j z => [.str "add", .int i, .int j, .int z]
  | .swap i j => [.str "swap", .int i, .int j]
  | .turn i => [.str "turn", .int i]
theorem kinds_at {H : Hp} {a : Addr} : ∀ {st : St3}, H a = some (.tup st.vals) → KsOf H (.ref a) (some st.kinds)
  | .add i j z, h => ⟨a, _, rfl, h, .cons (.str _) (.cons (.int _) (.cons (.int _) (.cons (.int _) .nil)))⟩
  | .swap i j, h => ⟨a, _, rfl, h, .cons (.str _) (.cons (.int _) (.cons (.int _) .nil))⟩
  | .turn i, h => ⟨a, _, rfl, h, .cons (.str _) (.cons (.int _) .nil)⟩
theorem unlike_yes {m i j : Nat} (h1 : i < m) (h2 : j < m) (h3 : i ≠ j) : unlikeK m (.int i) (.int j) = true := by
  show ((decide ((0 : Int) ≤ i) && decide ((i : Int) < m)) && ((decide ((0 : Int) ≤ j) && decide ((j : Int) < m)) && !decide (V.int i = V.int j))) = true
  rw [decide_eq_true (by omega), decide_eq_true (by omega), decide_eq_true (by omega), decide_eq_true (by omega), decide_eq_false (fun e => h3 (by have := V.int.inj e; omega))]
  rfl
theorem kinds_ok {m : Nat} : ∀ {st : St3}, st.ok m → stepO m (some st.kinds) = true
  | .add i j z, ⟨h1, h2, h3, _⟩ => by
    show (unlikeK m (.int i) (.int j) && true) = true
    rw [unlike_yes h1 h2 h3]
    rfl
  | .swap i j, ⟨h1, h2, h3⟩ => by
    show unlikeK m (.int i) (.int j) = true
    exact unlike_yes h1 h2 h3
  | .turn i, h => by
    have h : i < m := h
    show (decide ((0 : Int) ≤ i) && decide ((i : Int) < m)) = true
    rw [decide_eq_true (by omega), decide_eq_true (by omega)]
    rfl
def St3.word : St3 → Str
  | .add _ _ _ => "add"
  | .swap _ _ => "swap"
  | .turn _ => "turn"
theorem word_at (st : St3) : st.vals[0]? = some (.str st.word) := by cases st <;> rfl
theorem back_word (st : St3) : st.back.word = st.word := by cases st <;> rfl
theorem paired_first {α β : Type} {R : α → β → Prop} : ∀ {l : List α} {m : List β} {i : Nat} {a : α}, Paired R l m → l[i]? = some a → ∃ b, m[i]? = some b ∧ R a b
  | _, _, _, _, .nil, e => by simp at e
  | _, _, 0, _, .cons h _, e => by
    have e1 := Option.some.inj e
    subst e1
    exact ⟨_, rfl, h⟩
  | _, _, i + 1, a, .cons _ t, e => paired_first (i := i) (a := a) t e
theorem cut1 (x : V) (r : List V) : HT.sIx (x :: r).length 0 (some 1) = 1 := by
  have := HT.sIx_nat (x :: r).length 0 1
  rw [show ((1 : Nat) : Int) = 1 from rfl] at this
  rw [this, List.length_cons]
  omega
theorem cutR (x : V) (r : List V) : cutV (x :: r) (some 1) none = r := by
  unfold cutV
  rw [cut1, HT.sIx_none]
  show (r.take ((x :: r).length - 1)) = r
  rw [List.length_cons, Nat.add_sub_cancel]
  exact List.take_length
theorem sl_rest {K : PySem.W.Frag} {H : Hp} {a : Addr} {x : V} {r : List V} {Q : VK} {σ : L2.St} (h : H a = some (.tup (x :: r))) (q : ∀ p H', Same H H' → H' p = some (.tup r) → Q (.ref p) H') : tNoPart σ H (fun u H3 => rSlA K (.ref a) (some 1) u H3 Q) := by
  refine ⟨a, _, rfl, SqT.of h, fun z => ?_, fun _ p hp => q p _ (same_new hp) (by rw [upd_same, cutR])⟩
  have := z.1
  rw [cut1] at this
  exact absurd this (by decide)
/-! ### lists of lists, apart from D -/
def LI (D : Addr) (H : Hp) (v : V) (ns : List Int) : Prop := ∃ a, v = .ref a ∧ a ≠ D ∧ H a = some (.lst (ns.map V.int))
theorem LI.same {D : Addr} {H H' : Hp} {v : V} {ns : List Int} (h : LI D H v ns) (s : Same H H') : LI D H' v ns := let ⟨a, h1, h2, h3⟩ := h; ⟨a, h1, h2, s _ _ h3⟩
theorem LI.put {D : Addr} {H : Hp} {v : V} {ns : List Int} {o : HO} (h : LI D H v ns) : LI D (upd H D o) v ns := by
  obtain ⟨a, h1, h2, h3⟩ := h
  exact ⟨a, h1, h2, by rw [upd_ne h2]; exact h3⟩
theorem take_row {rs : Rs} {k : Nat} {r : List Int} (h : rs[k]? = some r) : rs.take (k + 1) = rs.take k ++ [r] := by
  rw [List.take_succ, h]
  rfl
/-! ### drawn rows -/
theorem but_fresh {p D : Addr} {H H' : Hp} {o : HO} (b : But p H H') (n : H D = none) : But p H (upd H' D o) := fun c u hc e => by
  rw [upd_ne (ne_of_none e n)]
  exact b c u hc e
theorem ext_fresh {D : Addr} {H H' : Hp} {o : HO} (x : Ext H H') (n : H D = none) : Ext H (upd H' D o) := by
  refine ⟨fun b xs e => ?_, fun b xs e => ?_, fun b xs e => ?_⟩
  · rw [upd_ne (ne_of_none e n)]
    exact x.t b xs e
  · rw [upd_ne (ne_of_none e n)]
    exact x.l b xs e
  · rw [upd_ne (ne_of_none e n)]
    exact x.d b xs e
theorem LP.put {H : Hp} {p D : Addr} {o : HO} (h : LP H p) (n : D ≠ p) : LP (upd H D o) p := by
  obtain ⟨x, y, z, e⟩ := h
  exact ⟨x, y, z, by rw [upd_ne (Ne.symm n)]; exact e⟩
theorem lp_ne {H : Hp} {p D : Addr} (h : LP H p) (n : H D = none) : D ≠ p := by
  obtain ⟨x, y, z, e⟩ := h
  exact (ne_of_none e n).symm
theorem RB.app {k w b : Nat} {rs : Rs} {r : List Int} (h : RB k w b rs) (h1 : r.length = w) (h2 : ∀ x ∈ r, x.natAbs < 2 ^ b) : RB (k + 1) w b (rs ++ [r]) :=
  ⟨by rw [List.length_append, h.len]; rfl, fun x hx => by
    rcases List.mem_append.mp hx with z | z
    · exact h.wide x z
    · rw [List.mem_singleton.mp z]; exact h1, fun x hx => by
    rcases List.mem_append.mp hx with z | z
    · exact h.small x z
    · rw [List.mem_singleton.mp z]; exact h2⟩
theorem eqv_nil (rs : Rs) : PyData.eqv (.list (rs.map rowD)) (.list []) = decide (rs = []) := by
  cases rs with
  | nil => rfl
  | cons x r => rfl
theorem mul_small {k : Nat} {c x : Int} (c0 : -2 ≤ c) (c1 : c ≤ 2) (h : x.natAbs < 2 ^ (30 + k)) : (c * x).natAbs < 2 ^ (30 + (k + 1)) := by
  rw [Int.natAbs_mul, show 30 + (k + 1) = (30 + k) + 1 from rfl, Nat.pow_succ, Nat.mul_comm]
  have hc : c.natAbs ≤ 2 := by omega
  have h1 : x.natAbs * c.natAbs ≤ x.natAbs * 2 := Nat.mul_le_mul_left _ hc
  omega
theorem app_ints {ns : List Int} {z : Int} : ns.map V.int ++ [V.int z] = (ns ++ [z]).map V.int := by
  rw [List.map_append]
  rfl
theorem paired_cat {α β : Type} {R : α → β → Prop} : ∀ {l l' : List α} {m m' : List β}, Paired R l m → Paired R l' m' → Paired R (l ++ l') (m ++ m')
  | _, _, _, _, .nil, q => q
  | _, _, _, _, .cons h t, q => .cons h (paired_cat t q)
theorem cat_rows {K : PySem.W.Frag} {H : Hp} {v u : V} {rs rs' : Rs} {Q : VK} (h : TT H v rs) (h' : TT H u rs') (hs : rs.length + rs'.length ≤ 1000) (q : ∀ v' H', Same H H' → TT H' v' (rs ++ rs') → Q v' H') : rCatA K v u H Q := by
  obtain ⟨a, xs, rfl, h2, h3⟩ := id h
  obtain ⟨b, ys, rfl, g2, g3⟩ := id h'
  have l1 : xs.length = rs.length := Paired.length h3
  have l2 : ys.length = rs'.length := Paired.length g3
  refine ⟨a, b, xs, ys, rfl, rfl, SqT.of h2, SqT.of g2, Nat.le_of_lt (small1000 (by omega)), fun e => ?_, fun _ e => ?_, fun _ _ p hp => ?_⟩
  · have er : rs = [] := List.eq_nil_of_length_eq_zero (by rw [← l1, e]; rfl)
    subst er
    exact q _ _ (Same.refl H) h'
  · have er : rs' = [] := List.eq_nil_of_length_eq_zero (by rw [← l2, e]; rfl)
    subst er
    rw [List.append_nil] at q
    exact q _ _ (Same.refl H) h
  · have x := Ext.same (same_new (o := .tup (xs ++ ys)) hp)
    exact q _ _ (same_new hp) ⟨p, _, rfl, upd_same, paired_cat (Paired.mapP h3 fun _ _ z => z.ext x) (Paired.mapP g3 fun _ _ z => z.ext x)⟩
theorem but_free {p D : Addr} {H H' : Hp} (b : But p H H') (l : LP H' p) (n : H' D = none) : H D = none := by
  cases e : H D with
  | none => rfl
  | some o =>
    rw [b D o (lp_ne l n) e] at n
    cases n
theorem drop_at {bs : List St3} {i : Nat} {b : St3} (h : bs[i]? = some b) : bs.drop i = b :: bs.drop (i + 1) := by
  obtain ⟨hi, e⟩ := List.getElem?_eq_some_iff.mp h
  rw [List.drop_eq_getElem_cons hi, e]
end Cm

set_option Elab.async false
set_option linter.all false
set_option maxRecDepth 100000
set_option maxHeartbeats 4000000
namespace Cm
open PySem PySem.Spec PyProof.Rows L2
/-! ### the drawing dict: cells, at, left -/
def penD (a : Addr) (n m : Int) : List (Key × V) := [(Sum.inr "cells", .ref a), (Sum.inr "at", .int n), (Sum.inr "left", .int m)]
theorem kca : ¬ ((Sum.inr ("cells" : Str) : Key) = Sum.inr ("at" : Str)) := by decide +kernel
theorem kcl : ¬ ((Sum.inr ("cells" : Str) : Key) = Sum.inr ("left" : Str)) := by decide +kernel
theorem kal : ¬ ((Sum.inr ("at" : Str) : Key) = Sum.inr ("left" : Str)) := by decide +kernel
theorem kla : ¬ ((Sum.inr ("left" : Str) : Key) = Sum.inr ("at" : Str)) := by decide +kernel
theorem val_cells (a : Addr) (n m : Int) : valV (penD a n m) (Sum.inr "cells" : Key) = some (.ref a) := valV_pos rfl
theorem val_at (a : Addr) (n m : Int) : valV (penD a n m) (Sum.inr "at" : Key) = some (.int n) := (valV_neg kca).trans (valV_pos rfl)
theorem val_left (a : Addr) (n m : Int) : valV (penD a n m) (Sum.inr "left" : Key) = some (.int m) := (valV_neg kcl).trans ((valV_neg kal).trans (valV_pos rfl))
theorem put_at (a : Addr) (n m z : Int) : putK (penD a n m) (Sum.inr "at" : Key) (.int z) = penD a z m := by
  unfold putK
  rw [valV_any, val_at, if_pos (show (some (V.int n)).isSome = true from rfl)]
  unfold penD
  simp only [List.map_cons, List.map_nil, if_neg kca, if_neg kla, if_true]
theorem put_left (a : Addr) (n m z : Int) : putK (penD a n m) (Sum.inr "left" : Key) (.int z) = penD a n z := by
  unfold putK
  rw [valV_any, val_left, if_pos (show (some (V.int m)).isSome = true from rfl)]
  unfold penD
  simp only [List.map_cons, List.map_nil, if_neg kcl, if_neg kal, if_true]
section
variable {K : PySem.W.Frag} {H H' : Hp} {d a : Addr} {n m : Int}
theorem dg_cells (h : H d = some (.dK (penD a n m))) : DGet H d (.str "cells") (some (.ref a)) := by
  have q := DGet.k (k := (Sum.inr "cells" : Key)) h
  rw [val_cells] at q
  exact q
theorem dg_at (h : H d = some (.dK (penD a n m))) : DGet H d (.str "at") (some (.int n)) := by
  have q := DGet.k (k := (Sum.inr "at" : Key)) h
  rw [val_at] at q
  exact q
theorem dg_left (h : H d = some (.dK (penD a n m))) : DGet H d (.str "left") (some (.int m)) := by
  have q := DGet.k (k := (Sum.inr "left" : Key)) h
  rw [val_left] at q
  exact q
theorem dp_at {z : Int} (h : H d = some (.dK (penD a n m))) : DPut H d (.str "at") (.int z) (upd H d (.dK (penD a z m))) := by
  have q := DPut.k (k := (Sum.inr "at" : Key)) (v := .int z) h (small1000 (by unfold penD; simp))
  rw [put_at] at q
  exact q
theorem dp_left {z : Int} (h : H d = some (.dK (penD a n m))) : DPut H d (.str "left") (.int z) (upd H d (.dK (penD a n z))) := by
  have q := DPut.k (k := (Sum.inr "left" : Key)) (v := .int z) h (small1000 (by unfold penD; simp))
  rw [put_left] at q
  exact q
/-- a list that is read stays where a dict alone may change -/
theorem sq_but {xs : List V} {kvs : List (Key × V)} (b : But d H H') (hd : H d = some (.dK kvs)) (h : SqL K H a xs) : SqL K H' a xs := by
  rcases h with (h | ⟨o, h⟩) | h
  · exact .inl (.inl (b _ _ (ne_of h hd (by intro z; cases z)) h))
  · exact .inl (.inr ⟨o, b _ _ (ne_of h hd (by intro z; cases z)) h⟩)
  · exact .inr h
end
/-- a pen at d over the cells ns at a, drawn from at most c times -/
structure Pen (K : PySem.W.Frag) (H : Hp) (d a : Addr) (ns : List Int) (c : Int) : Prop where
  sq : SqL K H a (ns.map V.int)
  dc : ∃ n m : Int, H d = some (.dK (penD a n m)) ∧ 0 ≤ n ∧ n ≤ c ∧ 0 ≤ m
theorem Pen.mono {K : PySem.W.Frag} {H : Hp} {d a : Addr} {ns : List Int} {c c' : Int} (p : Pen K H d a ns c) (h : c ≤ c') : Pen K H d a ns c' := by
  obtain ⟨s, n, m, e, h0, h1, h2⟩ := p
  exact ⟨s, n, m, e, h0, by omega, h2⟩
theorem Pen.same {K : PySem.W.Frag} {H H' : Hp} {d a : Addr} {ns : List Int} {c : Int} (p : Pen K H d a ns c) (h : Same H H') : Pen K H' d a ns c := by
  obtain ⟨s, n, m, e, h0, h1, h2⟩ := p
  exact ⟨h.seq s, n, m, h _ _ e, h0, h1, h2⟩
/-- draw's promise -/
def rDraw (K : PySem.W.Frag) : V → V → Hp → VK → Prop := fun p q H Q => ∃ (d a : Addr) (ns : List Int) (c many : Int), p = .ref d ∧ q = .int many ∧ Pen K H d a ns c ∧ 0 < many ∧ many < 1073741824 ∧ c ≤ 1000000 ∧
  ∀ r H', 0 ≤ r → r < many → Pen K H' d a ns (c + 1) → But d H H' → Q (.int r) H'
theorem cell_at {ns : List Int} {i : Int} (h0 : 0 ≤ i) (h1 : i < ((ns.map V.int).length : Int)) : ∃ z, atI (ns.map V.int) i = some (.int z) := by
  rw [List.length_map] at h1
  have hj : i.toNat < ns.length := by omega
  refine ⟨ns[i.toNat], ?_⟩
  have e : ((i.toNat : Nat) : Int) = i := by omega
  have q : atI (ns.map V.int) ((i.toNat : Nat) : Int) = some (.int ns[i.toNat]) := atI_nat (by rw [List.getElem?_map, List.getElem?_eq_getElem hj]; rfl)
  rw [e] at q
  exact q
theorem pos_of {b : Int} {p : Int} (h : decide (p < b) = true) : p < b := of_decide_eq_true h
theorem npos_of {b : Int} {p : Int} (h : ¬ decide (p < b) = true) : b ≤ p := by
  have := of_decide_eq_false (Bool.eq_false_iff.mpr h)
  omega
end Cm

set_option Elab.async false
set_option linter.all false
set_option maxRecDepth 100000
set_option maxHeartbeats 4000000
namespace Cm
open PySem PySem.Spec PyProof.Rows L2
/-! ### xs == [] of a list of whatever things -/
def rEqLE : R2 := fun x y H Q => ∃ a b xs, x = .ref a ∧ y = .ref b ∧ H a = some (.lst xs) ∧ H b = some (.lst []) ∧ Q (.bl xs.isEmpty) H
theorem op_eqLE {X : Cx} {k : Nat} (hr : Room k X.A) : OpR X (compareOp .Eq) rEqLE := by
  intro pins s σ H x y v u Q I rx ry h
  obtain ⟨a, b, xs, rfl, rfl, ha, hb, q⟩ := h
  cases rx
  cases ry
  obtain ⟨its, r1, p1, _⟩ := I.list (SqL.of ha)
  obtain ⟨its2, r2, p2, _⟩ := I.list (SqL.of hb)
  cases r2
  cases xs with
  | nil =>
    cases r1
    exact SeqAt.eq_listAt (e := fun _ => true) p1.isList p2.isList rfl hr.units0 (fun j h1 h2 => absurd h2 (by simp)) ⟨.bl _, H, I, rfl, q⟩
  | cons x t =>
    cases r1
    exact SeqAt.eq_list_lengthsAt p1.isList p2.isList rfl hr.units0 ⟨.bl _, H, I, rfl, q⟩
section
variable {X : Cx} {K : PySem.W.Frag} {tg l : Expr} {tl : TE}
theorem piT_K (hK : X.K = K) (hl : PE X l tl) : PI X tg l (iTup K tl) := by
  subst hK
  exact pi_tup hl
theorem piL_K (hK : X.K = K) (hl : PE X l tl) : PI X tg l (iList K tl) := by
  subst hK
  exact pi_list hl
end
/-- a def's statement that is never come to -/
theorem ps_dead {X : Cx} {st : Stmt} : PS X st (fun _ _ _ => False) := ⟨fun _ _ _ _ _ _ h => h.elim⟩
end Cm

set_option Elab.async false
set_option linter.all false
set_option maxRecDepth 100000
set_option maxHeartbeats 4000000
/-! a caught exception that a name holds on behind the try; defs that may raise -/
namespace Cm
open PySem PySem.Spec PyProof.Rows L2
def excF (a : Addr) (cls : Value) (d : Option Addr) : Heap → Prop := fun h => ∃ o, h.get? a = some o ∧ Zc cls d o ∧ ∃ vs, o.data = .fields vs
abbrev excO (a : Addr) (cls : Value) (d : Option Addr) : HO := .ext (excF a cls d)
section
variable {X : Cx} {pins : List (Addr × Obj)} {σ : L2.St} {H : Hp} {s : Shared}
theorem keep_pin {a : Addr} {q : Addr × Obj} {pn' : List (Addr × Obj)} (I : Inv (X.suite a (q :: (X.pn ++ pins))) pn' σ H s) (ok : X.Ok) : Inv X (q :: pins) σ H s :=
  ⟨ok, I.os, I.bare, I.base, I.loc, I.cell, I.free, I.freeC, fun p hp => by
    refine I.pin p (List.mem_append_left _ ?_)
    rcases List.mem_append.mp hp with z | z
    · exact List.mem_cons_of_mem _ (List.mem_append_left _ z)
    · rcases List.mem_cons.mp z with z | z
      · rw [z]; exact List.mem_cons_self
      · exact List.mem_cons_of_mem _ (List.mem_append_right _ z), I.hok, I.len⟩
/-- a pinned exception, told by its class from now on -/
theorem track {a : Addr} {oe : Obj} {cls : Value} {d : Option Addr} (I : Inv X ((a, oe) :: pins) σ H s) (hz : Zc cls d oe) (hf : ∃ vs, oe.data = .fields vs) (new : X.s_0.heap.get? a = none) (np : ∀ p ∈ X.pn ++ pins, p.1 ≠ a) : Inv X pins σ (upd H a (excO a cls d)) s := by
  obtain ⟨hget, hna, nl, nfs, ncell⟩ := I.pin (a, oe) (List.mem_append_right _ List.mem_cons_self)
  have ne : ∀ b o, X.s_0.heap.get? b = some o → b ≠ a := fun b o e z => by
    rw [z, new] at e
    cases e
  have nh : ∀ b o, H b = some o → b ≠ a := fun b o e z => by
    have hna2 : H a = none := hna
    rw [z, hna2] at e
    cases e
  refine ⟨I.ok, I.os, I.bare, ⟨I.base.keep, I.base.slot, fun b o e n hx => ?_, I.base.there, fun b xs e => ?_, fun b o u e => ?_, fun b ps e => ?_⟩, I.loc, I.cell, ?_, fun x c e => ?_, fun p hp => ?_, fun b ob e => ?_, I.len⟩
  · rw [upd_ne (ne b o e)]
    exact I.base.free b o e n hx
  · have := I.base.tups b xs e
    rw [upd_ne (nh b _ this)]
    exact this
  · have := I.base.frzs b o u e
    rw [upd_ne (nh b _ this)]
    exact this
  · obtain ⟨more, e2⟩ := I.base.tbls b ps e
    refine ⟨more, ?_⟩
    rw [upd_ne (nh b _ e2)]
    exact e2
  · rw [upd_ne (Ne.symm nl)]
    exact I.free
  · have nc : c ≠ a := by
      rintro rfl
      obtain ⟨v, o, h1, h2⟩ := I.cell x c e
      have hg : s.heap.get? c = some oe := hget
      rw [hg] at h1
      cases h1
      first | exact ncell v h2 | exact ncell _ h2.1 | exact ncell v h2.2
    rw [upd_ne nc]
    exact I.freeC x c e
  · obtain ⟨e1, e2, e3, e4, e5⟩ := I.pin p (by
      rcases List.mem_append.mp hp with z | z
      · exact List.mem_append_left _ z
      · exact List.mem_append_right _ (List.mem_cons_of_mem _ z))
    refine ⟨e1, ?_, e3, e4, e5⟩
    rw [upd_ne (np p hp)]
    exact e2
  · by_cases z : b = a
    · subst z
      rw [upd_same] at e
      cases e
      refine ⟨⟨oe, hget, hz, hf⟩, ⟨oe, hget⟩, fun h1 h2 ⟨o, g1, g2, g3⟩ k => ⟨o, k o g1, g2, g3⟩⟩
    · rw [upd_ne z] at e
      refine (I.hok b ob e).stay (fun c w' _ q => q) (fun c q => ?_) fun c w' q => ?_
      all_goals first
        | (rw [upd_ne (nh _ _ q)]; exact q)
        | exact q
end
/-! ### try .. except x as n, whose error a name of the suite keeps -/
/-- what such a clause wishes of an error of the body; slot i is n's -/
def wKeep (K : PySem.W.Frag) (c : Value) (i : Nat) (ts : Addr → Value → Option Addr → TS) (Wout : WX) (D : Ends) : WX := fun cls d σ H =>
  ∃ b, PySem.W.exmOne K cls c = some b ∧ (b = true → ∀ a, H a = none → ts a cls d { nx := fun σ' H' => D.nx (σ'.set i none) (upd H' a (excO a cls d)), rt := fun _ _ => False, bk := fun _ _ => False, ct := fun _ _ => False } (σ.set i (some (.ref a))) H) ∧ (b = false → Wout cls d σ H)
section
variable {X : Cx} {x n : Str} {c : Value} {i : Nat} {body suite : List Stmt} {b₀ : Stmt} {np pos pos' : Pos} {tb : WX → TS} {ts : Addr → Value → Option Addr → TS} {Wout : WX}
theorem ps_try_keep (hs : X.stack = X.env :: X.outer) (hf : X.env.frame = some X.env.locals) (hex : X.ex = []) (hN : X.N.Nodup) (hi : X.N[i]? = some n) (hln : X.env.kindOf n = some .local) (hc : Names X x c) (tk : Takes X Wout)
    (hb : ∀ (W : WX) (pn : List (Addr × Obj)) (xe : Value → Shared → Prop), Takes (X.tr pn xe) W → PassesOwn (model X.prog X.w) X.A X.env xe → PSs (X.tr pn xe) body (tb W))
    (hsu : ∀ (a : Addr) (oe : Obj) (cls : Value) (d : Option Addr) (pn : List (Addr × Obj)), Zc cls d oe → (∃ vs, oe.data = .fields vs) → PSs (X.suite a ((a, oe) :: pn)) (b₀ :: suite) (ts a cls d)) :
    PS X (.Try body [.ExceptHandler (some (.Name x np)) (some n) (b₀ :: suite) pos'] [] [] pos) (fun D σ H => tb (wKeep X.K c i ts Wout D) D σ H) := by
  refine ⟨fun pins s σ H D I h => ?_⟩
  have okX := I.ok
  have frames : X.A.frames = some (X.env :: X.outer) := by rw [okX.frames, hs]
  have loc : Loc X.env.scope n := .inl hln
  refine wpAny_Try_except ?_
  refine wpAny_mono ((hb (wKeep X.K c i ts Wout D) (X.pn ++ pins) (fun e s₁ => wpAny (model X.prog X.w) X.A (noteFrame e X.env) (fun _ s₂ => wpAny (model X.prog X.w) X.A (setFlight e none) (fun _ s₃ =>
    wpAny (model X.prog X.w) X.A (handleBy e X.env [.ExceptHandler (some (.Name x np)) (some n) (b₀ :: suite) pos']) (SP X pins D) X.xe s₃) X.xe s₂) X.xe s₁) (fun u s' xx => ?_) PassesOwn.looking).run [] s σ H D (I.toTry _) h) (fun f s1 out => ?_) (fun e s1 he => he)
  · obtain ⟨a, B, sI, pins', σ1, H1, cls, d, rfl, J0, gr, up, sky, na, os, ag, b, yn, yes, no⟩ := xx
    have J : Inv X pins σ1 H1 sI := J0.ofTry okX
    have sky2 : Sky B (X.env :: X.outer) a (Zc cls d) X.env.locals s'.heap := by rw [← hs]; exact sky
    show wpAny (model X.prog X.w) X.A (noteFrame (.ref a) X.env) _ _ _
    refine Sky.land Zc.steady frames hf sky2 fun h3 fl3 up3 => ?_
    have J3 : Inv X pins σ1 H1 { s' with heap := h3 } := J.landed gr fl3.1 (up.trans up3) os ag
    obtain ⟨oe3, vs3, he3, hz3, hd3⟩ := fl3.there
    have noFrame : a ∉ frs (X.env :: X.outer) := fun hm => by
      obtain ⟨_, o', e', hnf⟩ := fl3.2.2.1.mem hm
      rw [he3] at e'
      cases e'
      exact hnf _ hd3
    have noLoc : a ≠ X.env.locals := fun z => noFrame (List.mem_filterMap.mpr ⟨X.env, List.mem_cons_self, by rw [hf, z]⟩)
    have noFs : a ∉ X.fs := fun hm => by
      obtain ⟨e, he, q⟩ := List.mem_filterMap.mp hm
      exact noFrame (List.mem_filterMap.mpr ⟨e, List.mem_cons_of_mem _ he, q⟩)
    have newI : sI.heap.get? a = none := by
      cases q : sI.heap.get? a with
      | none => rfl
      | some o =>
        have z := gr a o q (by rw [hs]; exact noFrame)
        rw [fl3.2.1] at z
        cases z
    have new0 : X.s_0.heap.get? a = none := by
      cases q : X.s_0.heap.get? a with
      | none => rfl
      | some o =>
        obtain ⟨o', z⟩ := J.base.there a o q (by rw [hex]; exact List.not_mem_nil)
        rw [newI] at z
        cases z
    have newP : ∀ p ∈ X.pn ++ pins, p.1 ≠ a := fun p hp z => by
      have := (J.pin p hp).1
      rw [z, newI] at this
      cases this
    have S3 := J3.suite he3 hd3 na noLoc noFs
    refine wpAny_handleBy_cons (codeAny_handlers_test ?_) (by intro q; cases q)
    have looks : PySem.W.Looks (model X.prog X.w) h3 (typeOf (.ref a)) cls := fun A Q E s k q => wpAny_typeOf_ref (k _ _ he3) (by rw [hz3.1]; exact q)
    have meets := PySem.W.exm_one (M := model X.prog X.w) (J3.kIn) looks yn
    have named : ∀ {Q : Value → Shared → Prop} {E : Value → Shared → Prop}, Q c { s' with heap := h3 } → wpAny (model X.prog X.w) (X.A.mark (some (.ref a))) (eval (.Name x np) X.env) Q E { s' with heap := h3 } := fun {Q E} q => by
      obtain ⟨g, dbg, hm | ⟨hm, hv, hnn⟩⟩ := hc
      · exact ld_glob (X := X.suite a ((a, oe3) :: (X.pn ++ pins))) S3 g hm q dbg
      · exact ld_blt (X := X.suite a ((a, oe3) :: (X.pn ++ pins))) S3 g hm hv q hnn dbg
    refine named (meets.here ?_)
    cases b with
    | true =>
      refine codeAny_handlers_suite_as ?_
      refine HandSPX.lands_againZ fl3 fun h4 fl4 up4 => ?_
      have J4 : Inv X pins σ1 H1 { s' with heap := h4 } := J.landed gr fl4.1 ((up.trans up3).trans up4) os ag
      obtain ⟨oe4, vs4, he4, hz4, hd4⟩ := fl4.there
      have S4 := J4.suite he4 hd4 na noLoc noFs
      refine store_ok (X := X.suite a ((a, oe4) :: (X.pn ++ pins))) (v := .ref a) S4 hN hi loc rfl (fun s5 S5 => ?_) (.inr hln)
      refine wpAny_mono ((hsu a oe4 cls d (X.pn ++ pins) hz4 ⟨_, hd4⟩).run [] s5 _ H1 _ S5 (yes rfl a na)) (fun f s6 out => ?_) (fun _ _ z => False.elim z)
      cases f with
      | next =>
        obtain ⟨σ6, H6, S6, q6⟩ := out
        refine gone_ok (keep_pin S6 okX) hN hi hln fun s7 J7 => ?_
        exact ⟨_, _, track J7 hz4 ⟨_, hd4⟩ new0 newP, q6⟩
      | brk =>
        obtain ⟨σ6, H6, S6, q6⟩ := out
        exact q6.elim
      | cont =>
        obtain ⟨σ6, H6, S6, q6⟩ := out
        exact q6.elim
      | ret u =>
        obtain ⟨v6, σ6, H6, S6, r6, q6⟩ := out
        exact q6.elim
    | false =>
      show wpAny _ X.A (handleBy (.ref a) X.env []) _ _ _
      refine wpAny_handleBy_nil ?_
      obtain ⟨k1, k2, k3, oe, vs, T, oT, ts', he, hz, hd, h1, hr⟩ := id fl3
      unfold PySem.passOn
      refine wpAny_bind (wpAny_field he hd h1 ?_)
      rw [if_neg (show ¬ ((Value.ref T == Value.none) = true) from by simp)]
      have fin : wpAny (model X.prog X.w) X.A (setFlight (.ref a) X.env.frame) (fun _ s4 => wpAny (model X.prog X.w) X.A (throw (.ref a) : Sem Flow) (SP X pins D) X.xe s4) X.xe { s' with heap := h3 } := by
        rw [hf]
        refine HandSPX.setFlight_upZ fl3 fun h4 hh4 up4 => wpAny_throw (tk _ _ ?_)
        exact ⟨a, B, sI, pins, σ1, H1, cls, d, rfl, J, gr, (up.trans up3).trans up4, .inr (.inr (by rw [hs]; exact hh4)), na, os, ag, no rfl⟩
      first
        | exact wpAny_bind (wpAny_pure (wpAny_bind fin))
        | exact wpAny_bind fin
  · cases f with
    | next =>
      obtain ⟨σ', H', J', q⟩ := out
      exact wpAny_execs_nil ⟨σ', H', J'.ofTry okX, q⟩
    | brk =>
      obtain ⟨σ', H', J', q⟩ := out
      exact ⟨σ', H', J'.ofTry okX, q⟩
    | cont =>
      obtain ⟨σ', H', J', q⟩ := out
      exact ⟨σ', H', J'.ofTry okX, q⟩
    | ret u =>
      obtain ⟨v, σ', H', J', r, q⟩ := out
      exact ⟨v, σ', H', J'.ofTry okX, r, q⟩
end
/-! ### isinstance of a kept error -/
def rIsX (K : PySem.W.Frag) (D : Addr) : List V → Hp → VK → Prop := fun xs H Q => ∃ (a : Addr) (c : V) (cv : Value) (b : Bool), xs = [.ref a, c] ∧ H a = some (excO a (.ref D) none) ∧ (∀ u, RelV c u → u = cv) ∧ PySem.W.kitOne K (.ref D) cv = some b ∧ Q (.bl b) H
theorem call_isX {X : Cx} {D : Addr} {K : PySem.W.Frag} (hK : X.K = K) (C : ExcC K D) : CallR X (.builtin "isinstance") (rIsX K D) := by
  subst hK
  intro pins s σ H xs us Q I r h
  obtain ⟨a, c, cv, b, rfl, ha, hcv, e, q⟩ := h
  cases r with
  | cons rx rr =>
    cases rr with
    | cons rt rr =>
      cases rr
      cases rx
      have ec := hcv _ rt
      subst ec
      obtain ⟨⟨oe, hget, hz, vs, hv⟩, _, _⟩ := I.hok a _ ha
      have J : PySem.W.InstAt s.heap a oe D none := by
        obtain ⟨oc, od, oda, osl⟩ := oe
        obtain ⟨h1, h2⟩ := hz
        dsimp only at h1 h2 hv
        subst h1 h2 hv
        exact ⟨hget, rfl, rfl, trivial⟩
      exact PySem.W.kia_one (PySem.W.handS_kitx_exc C.hg C.hk C.hs C.hd C.ha C.hn C.ht C.hm) I.kIn J e (fun z => nomatch z) fun tk => ⟨.bl b, H, I.kept (t' := tk) fun _ _ z => z, rfl, q⟩
/-! ### defs that may raise -/
def FnX (P : Program) (w : World) (K : PySem.W.Frag) (mg : Str → Option Value) (base : Heap) (k : Nat) (x : Str) (ps : List Str) (sp : Sp) : Prop :=
  ∃ f fd, FnG P w K mg base (L2.CX P w) k f fd ps sp ∧ mg x = some (.ref f) ∧ PySem.W.keepIn K (.ref f) = true ∧ Binds K fd ps []
section
variable {P : Program} {w : World} {K : PySem.W.Frag} {mg : Str → Option Value} {base : Heap}
theorem Df.okX {x : Str} {st : Stmt} {ps N : List Str} {k : Nat} {sp : Sp} (D : Df K mg x st ps) (S : FnScope N ps (defScope st)) (len : ∀ vs H Q E, sp vs H Q E → vs.length = ps.length)
    (hbody : ∀ (f : Addr) (cdv : Value) (A : Around) (outer : List Env) (s : Shared) (H : Hp) (vs : List V) (Q : VK) (E : XK), Room k (A.deeper (envOfC x (defScope st) s.heap.objs.size f cdv)) → A.guards = some [] → sp vs H Q E →
      ∃ t, PSs (cxOf (L2.CX P w) P w K mg base N x (defScope st) f cdv A outer s H E) (defBody st) t ∧ t { nx := fun _ H' => Q .non H', rt := Q } (start N vs) H) : FnX P w K mg base (k + 1) x ps sp := by
  obtain ⟨f, fd, F, hm, hb⟩ := D
  exact ⟨f, fd, fng_mk F S len fun cdv A outer s H vs Q E hr hg h => hbody f cdv A outer s H vs Q E hr hg h, hm, F.kp, hb⟩
end
section
variable {X : Cx} {k : Nat} {x : Str} {ps : List Str} {sp : Sp} {e : Expr} {es : List Expr} {t : TA} {p pos : Pos} {E : L2.St → XK}
theorem run_gx {f : Addr} {fd : FuncData} {pins : List (Addr × Obj)} {σ : L2.St} {H : Hp} {s : Shared} {Q : VK} {us : List Value} {vs : List V} (F : FnG X.prog X.w X.K X.mg X.base (L2.CX X.prog X.w) k f fd ps sp) (hr : Room k X.A) (hg : X.A.guards = some [])
    (hb : Binds X.K fd ps []) (hx : PassesAt (L2.CX X.prog X.w) X σ (E σ)) (I : Inv X pins σ H s) (r : Vals vs us) (h : sp vs H Q (E σ)) : wpAny (model X.prog X.w) X.A (call (.ref f) us) (EP X pins σ Q) X.xe s := by
  have hl : (us ++ []).length = ps.length := by
    rw [List.append_nil, ← r.length]
    exact F.len _ _ _ _ h
  have hb2 := hb s us I.kIn hl
  rw [List.append_nil] at hb2
  refine wpAny_call (codeAny_mono (F.go X.A X.stack s H ⟨us, []⟩ us vs Q (E σ) hr hg I.env0 hb2 r h) fun r s' hq => ?_)
  cases r with
  | error e => exact hx pins H s e s' I hq
  | ok fl =>
    cases fl with
    | ret u => exact I.after hq
    | next => exact hq.elim
    | brk => exact hq.elim
    | cont => exact hq.elim
theorem pe_fnX (F : FnX X.prog X.w X.K X.mg X.base k x ps sp) (hr : Room k X.A) (hgd : X.A.guards = some []) (hg : Gl X x) (hx : ∀ σ, PassesAt (L2.CX X.prog X.w) X σ (E σ)) (ha : PA X (e :: es) t) (hdb : (x == ("__debug__" : Str)) = false := by decide)
    (he : starEach (e :: es) X.env = (false, eval e X.env) :: starEach es X.env := by rfl) (hpl : (backTo pos (starEach es X.env)).any (·.1) = false := by rfl) : PE X (.Call (.Name x p) (e :: es) [] pos) (tCallS sp E t) := by
  obtain ⟨f, fd, F, hm, hk, hb⟩ := F
  refine ⟨fun pins s σ H Q I h => ?_⟩
  refine wpAny_Call_Name_kw (ld_glob I hg hm ?_ hdb)
  refine PySem.W.callWith_K (h₀ := X.base) I.ok.mod.kin hk (thn (ha.run pos pins s σ H _ I h) fun us s1 out => ?_) he hpl
  obtain ⟨vs, H1, I1, r, q⟩ := out
  exact ⟨I1.kIn, run_gx F hr hgd hb (hx σ) I1 r q⟩
/-- where nothing is raised -/
theorem pass_no : ∀ σ : L2.St, PassesAt (L2.CX X.prog X.w) X σ ((fun _ _ _ _ => False : L2.St → XK) σ) := fun _ _ _ _ _ _ _ c => by
  obtain ⟨_, _, _, _, _, _, _, _, _, _, _, _, z⟩ := c
  exact z.elim
end
end Cm

set_option Elab.async false
set_option linter.all false
set_option maxRecDepth 100000
set_option maxHeartbeats 4000000
/-! the program's own classes of errors, as a law asks them -/
namespace Cm
open PySem PySem.Spec PyProof.Rows L2
abbrev asked : List Str := ["NoThing", "TooGreat", "Endless", "NoPaper", "NoFit", "NoTable", "NoText", "NoName", "NoRow"]
structure Errs (K : PySem.W.Frag) (mg : Str → Option Value) (D : Addr) (nm : Str) (j : Nat) : Prop where
  g : mg nm = some (.ref D)
  kp : PySem.W.keepIn K (.ref D) = true
  own : PySem.W.excIn K D [.type "ValueError", .type "Exception", .type "BaseException", .type "object"] "ValueError.__new__" = true
  ex : PySem.W.subIn K (.ref D) (.type "BaseException") = some true
  ty : PySem.W.typeIn K (.ref D) = some (.type "type")
  C : ExcC K D
  base : ∃ B, mg "HouseError" = some (.ref B) ∧ PySem.W.exmOne K (.ref D) (.ref B) = some true
  ask : ∀ (k : Nat) (x : Str), asked[k]? = some x → ∃ C, mg x = some (.ref C) ∧ PySem.W.kitOne K (.ref D) (.ref C) = some (k == j)
  val : PySem.W.kitOne K (.ref D) (.type "ValueError") = some true
theorem ask_mk {K : PySem.W.Frag} {mg : Str → Option Value} {D : Addr} {j : Nat}
    (h0 : ∃ C, mg "NoThing" = some (.ref C) ∧ PySem.W.kitOne K (.ref D) (.ref C) = some (0 == j))
    (h1 : ∃ C, mg "TooGreat" = some (.ref C) ∧ PySem.W.kitOne K (.ref D) (.ref C) = some (1 == j))
    (h2 : ∃ C, mg "Endless" = some (.ref C) ∧ PySem.W.kitOne K (.ref D) (.ref C) = some (2 == j))
    (h3 : ∃ C, mg "NoPaper" = some (.ref C) ∧ PySem.W.kitOne K (.ref D) (.ref C) = some (3 == j))
    (h4 : ∃ C, mg "NoFit" = some (.ref C) ∧ PySem.W.kitOne K (.ref D) (.ref C) = some (4 == j))
    (h5 : ∃ C, mg "NoTable" = some (.ref C) ∧ PySem.W.kitOne K (.ref D) (.ref C) = some (5 == j))
    (h6 : ∃ C, mg "NoText" = some (.ref C) ∧ PySem.W.kitOne K (.ref D) (.ref C) = some (6 == j))
    (h7 : ∃ C, mg "NoName" = some (.ref C) ∧ PySem.W.kitOne K (.ref D) (.ref C) = some (7 == j))
    (h8 : ∃ C, mg "NoRow" = some (.ref C) ∧ PySem.W.kitOne K (.ref D) (.ref C) = some (8 == j)) :
    ∀ (k : Nat) (x : Str), asked[k]? = some x → ∃ C, mg x = some (.ref C) ∧ PySem.W.kitOne K (.ref D) (.ref C) = some (k == j)
  | 0, _, e => by cases e; exact h0
  | 1, _, e => by cases e; exact h1
  | 2, _, e => by cases e; exact h2
  | 3, _, e => by cases e; exact h3
  | 4, _, e => by cases e; exact h4
  | 5, _, e => by cases e; exact h5
  | 6, _, e => by cases e; exact h6
  | 7, _, e => by cases e; exact h7
  | 8, _, e => by cases e; exact h8
  | k + 9, _, e => by simp [asked] at e
theorem kit_no {K : PySem.W.Frag} {C D : Addr} (h1 : PySem.W.isClsIn K C = true) (ht : PySem.W.typeIn K (.ref C) = some (.type "type")) (h : PySem.W.subIn K (.ref D) (.ref C) = some false) (hs : PySem.W.subIn K (.ref D) (.ref D) = some true) : PySem.W.kitOne K (.ref D) (.ref C) = some false := by
  have hne : D ≠ C := by
    rintro rfl
    rw [h] at hs
    cases hs
  unfold PySem.W.kitOne
  rw [if_neg (by simpa using hne)]
  show (if ((PySem.W.clsIn K C).isSome && PySem.W.typeIn K (.ref C) == some (.type "type")) = true then PySem.W.subIn K (.ref D) (.ref C) else none) = _
  rw [if_pos, h]
  rw [ht]
  unfold PySem.W.isClsIn at h1
  rw [h1]
  decide +kernel
theorem kit_yes {K : PySem.W.Frag} {D : Addr} : PySem.W.kitOne K (.ref D) (.ref D) = some true := by
  unfold PySem.W.kitOne
  rw [if_pos (by simp)]
theorem kit_val {K : PySem.W.Frag} {D : Addr} (h : PySem.W.subIn K (.ref D) (.type "ValueError") = some true) : PySem.W.kitOne K (.ref D) (.type "ValueError") = some true := by
  unfold PySem.W.kitOne
  rw [if_neg (by intro z; exact absurd (eq_of_beq z) (by intro y; cases y))]
  show (if PySem.W.kitMeta "ValueError" = true then PySem.W.subIn K (.ref D) (.type "ValueError") else none) = _
  rw [if_pos (by decide +kernel), h]
end Cm

set_option Elab.async false
set_option linter.all false
set_option maxRecDepth 100000
set_option maxHeartbeats 4000000
/-! walks of comprehensions of two clauses; starred items over a named K -/
namespace Cm
open PySem PySem.Spec PyProof.Rows L2
theorem go_list {K : PySem.W.Frag} {a : Addr} {xs : List V} {H0 : Hp} {Qd : Hp → Prop} {B : V → Hp → (Hp → Prop) → Prop} (Pv : Nat → Hp → Prop) (h0 : Pv 0 H0) (hl : ∀ i H, i ≤ xs.length → Pv i H → SqL K H a xs)
    (hs : ∀ i x H, xs[i]? = some x → Pv i H → B x H (Pv (i + 1))) (hd : ∀ H, Pv xs.length H → Qd H) :
    ∃ W : Nat → Nat → Hp → Prop, (∃ m, W 0 m H0) ∧ ∀ i m H, W i m H → ((Itl K a).stop i H ∧ Qd H) ∨ ((Itl K a).go i H ∧ ∃ Nx : Hp → Prop, (∀ H', Nx H' → ∃ m', m' < m ∧ W (i + 1) m' H') ∧ ∀ x H', (Itl K a).yld i H x H' → B x H' Nx) := by
  refine ⟨fun i m H => m = xs.length - i ∧ i ≤ xs.length ∧ Pv i H, ⟨xs.length, by simp, Nat.zero_le _, h0⟩, ?_⟩
  rintro i m H ⟨rfl, hi, p⟩
  have q := hl i H hi p
  by_cases hlt : i < xs.length
  · refine .inr ⟨⟨xs, xs[i], q, by simp [hlt]⟩, Pv (i + 1), fun H' p' => ⟨xs.length - (i + 1), by omega, rfl, hlt, p'⟩, fun x H' y => ?_⟩
    obtain ⟨e, y⟩ := y
    subst e
    exact hs i x _ (y xs q) p
  · have e : i = xs.length := by omega
    subst e
    exact .inl ⟨⟨xs, q, Nat.le_refl _⟩, hd H p⟩
theorem go_range {lo : Int} {n : Nat} {H0 : Hp} {Qd : Hp → Prop} {B : V → Hp → (Hp → Prop) → Prop} (Pv : Nat → Hp → Prop) (h0 : Pv 0 H0)
    (hs : ∀ i H, i < n → Pv i H → B (.int (lo + i)) H (Pv (i + 1))) (hd : ∀ H, Pv n H → Qd H) :
    ∃ W : Nat → Nat → Hp → Prop, (∃ m, W 0 m H0) ∧ ∀ i m H, W i m H → ((Itr lo n).stop i H ∧ Qd H) ∨ ((Itr lo n).go i H ∧ ∃ Nx : Hp → Prop, (∀ H', Nx H' → ∃ m', m' < m ∧ W (i + 1) m' H') ∧ ∀ x H', (Itr lo n).yld i H x H' → B x H' Nx) := by
  refine ⟨fun i m H => m = n - i ∧ i ≤ n ∧ Pv i H, ⟨n, by simp, Nat.zero_le _, h0⟩, ?_⟩
  rintro i m H ⟨rfl, hi, p⟩
  by_cases hlt : i < n
  · refine .inr ⟨hlt, Pv (i + 1), fun H' p' => ⟨n - (i + 1), by omega, rfl, hlt, p'⟩, fun x H' y => ?_⟩
    obtain ⟨e, y⟩ := y
    subst e y
    exact hs i _ hlt p
  · have e : i = n := by omega
    subst e
    exact .inl ⟨Nat.le_refl _, hd H p⟩
theorem pa_starK {X : Cx} {K : PySem.W.Frag} {e : Expr} {es : List Expr} {te : TE} {t : TA} {p : Pos} (hK : X.K = K) (he : PE X e te) (hr : PA X es t) (hs : starEach (.Starred e p :: es) X.env = (true, eval e X.env) :: starEach es X.env := by rfl) : PA X (.Starred e p :: es) (StX.tStar K te t) := by
  subst hK
  exact StX.pa_star he hr hs
end Cm

set_option Elab.async false
set_option linter.all false
/-! the things of a house in their order, built from the front and from the back -/
namespace K06
def stp (f : List (List Nat)) (m : Nat) : List (List Nat) := f.flatMap fun a => (List.range m).map fun n => a ++ [n]
def lex : List Nat → List (List Nat)
  | [] => [[]]
  | m :: ms => (List.range m).flatMap fun n => (lex ms).map (n :: ·)
theorem stp_map (f : List (List Nat)) (m k : Nat) : (stp f m).map (k :: ·) = stp (f.map (k :: ·)) m := by
  unfold stp
  rw [List.map_flatMap, List.flatMap_map]
  congr 1
  funext a
  rw [List.map_map]
  rfl
theorem stp_flat {α : Type} (l : List α) (g : α → List (List Nat)) (m : Nat) : stp (l.flatMap g) m = l.flatMap fun x => stp (g x) m := by
  unfold stp
  rw [List.flatMap_assoc]
theorem lex_snoc (m : Nat) : ∀ ms : List Nat, lex (ms ++ [m]) = stp (lex ms) m
  | [] => by
    show ((List.range m).flatMap fun n => [[n]]) = [[]].flatMap fun a => (List.range m).map fun n => a ++ [n]
    simp only [List.flatMap_cons, List.flatMap_nil, List.append_nil, List.nil_append]
    induction List.range m with
    | nil => rfl
    | cons x r ih => rw [List.flatMap_cons, ih]; rfl
  | k :: ms => by
    show ((List.range k).flatMap fun n => (lex (ms ++ [m])).map (n :: ·)) = stp ((List.range k).flatMap fun n => (lex ms).map (n :: ·)) m
    rw [stp_flat, lex_snoc m ms]
    congr 1
    funext n
    exact stp_map _ _ _
def pr : List Nat → Nat
  | [] => 1
  | m :: ms => m * pr ms
theorem pr_app : ∀ a b : List Nat, pr (a ++ b) = pr a * pr b
  | [], b => by simp [pr]
  | x :: a, b => by
    show x * pr (a ++ b) = x * pr a * pr b
    rw [pr_app a b, Nat.mul_assoc]
theorem pr_snoc (a : List Nat) (x : Nat) : pr (a ++ [x]) = pr a * x := by
  rw [pr_app]
  simp [pr]
theorem flat_len {α β : Type} (c : Nat) (g : α → List β) : ∀ l : List α, (∀ x ∈ l, (g x).length = c) → (l.flatMap g).length = l.length * c
  | [], _ => by simp
  | x :: l, h => by
    rw [List.flatMap_cons, List.length_append, h x List.mem_cons_self, flat_len c g l fun y hy => h y (List.mem_cons_of_mem _ hy), List.length_cons, Nat.succ_mul, Nat.add_comm]
theorem lex_len : ∀ ms : List Nat, (lex ms).length = pr ms
  | [] => rfl
  | m :: ms => by
    show ((List.range m).flatMap fun n => (lex ms).map (n :: ·)).length = m * pr ms
    rw [flat_len (pr ms) _ _ fun n _ => by rw [List.length_map, lex_len ms], List.length_range]
theorem lex_mem : ∀ (ms : List Nat) (x : List Nat), x ∈ lex ms → x.length = ms.length ∧ ∀ n ∈ x, ∃ m ∈ ms, n < m
  | [], x, h => by
    have e : x = [] := by simpa [lex] using h
    subst e
    exact ⟨rfl, fun n hn => by simp at hn⟩
  | m :: ms, x, h => by
    obtain ⟨k, hk, hx⟩ := List.mem_flatMap.mp h
    obtain ⟨y, hy, rfl⟩ := List.mem_map.mp hx
    obtain ⟨h1, h2⟩ := lex_mem ms y hy
    refine ⟨by rw [List.length_cons, List.length_cons, h1], fun n hn => ?_⟩
    rcases List.mem_cons.mp hn with e | e
    · exact ⟨m, List.mem_cons_self, by rw [e]; exact List.mem_range.mp hk⟩
    · obtain ⟨z, hz, hl⟩ := h2 n e
      exact ⟨z, List.mem_cons_of_mem _ hz, hl⟩
theorem pr_pos : ∀ {ms : List Nat}, (∀ m ∈ ms, 1 ≤ m) → 1 ≤ pr ms
  | [], _ => Nat.le_refl _
  | m :: ms, h => Nat.mul_pos (h m List.mem_cons_self) (pr_pos fun x hx => h x (List.mem_cons_of_mem _ hx))
theorem pr_take {ms : List Nat} (h : ∀ m ∈ ms, 1 ≤ m) (i : Nat) : pr (ms.take i) ≤ pr ms := by
  have e : pr ms = pr (ms.take i) * pr (ms.drop i) := by rw [← pr_app, List.take_append_drop]
  have p := pr_pos (ms := ms.drop i) fun x hx => h x (List.mem_of_mem_drop hx)
  rw [e]
  exact Nat.le_mul_of_pos_right _ p
theorem pr_drop {ms : List Nat} (h : ∀ m ∈ ms, 1 ≤ m) (i : Nat) : pr (ms.drop i) ≤ pr ms := by
  have e : pr ms = pr (ms.take i) * pr (ms.drop i) := by rw [← pr_app, List.take_append_drop]
  have p := pr_pos (ms := ms.take i) fun x hx => h x (List.mem_of_mem_take hx)
  rw [e]
  exact Nat.le_mul_of_pos_left _ p
theorem pr_le {c : Nat} : ∀ {ms : List Nat}, (∀ m ∈ ms, m ≤ c) → pr ms ≤ c ^ ms.length
  | [], _ => Nat.le_refl _
  | m :: ms, h => by
    have h1 := pr_le (ms := ms) fun x hx => h x (List.mem_cons_of_mem _ hx)
    have h2 := h m List.mem_cons_self
    rw [List.length_cons, Nat.pow_succ, Nat.mul_comm]
    exact Nat.mul_le_mul h2 h1
/-- one more, anywhere -/
theorem pr_ins (l : List Nat) (i x : Nat) : pr (l.take i ++ [x] ++ l.drop i) = pr l * x := by
  have e : pr l = pr (l.take i) * pr (l.drop i) := by rw [← pr_app, List.take_append_drop]
  rw [pr_app, pr_snoc, e, Nat.mul_assoc, Nat.mul_assoc, Nat.mul_comm x]
end K06

set_option Elab.async false
set_option linter.all false
set_option maxRecDepth 100000
set_option maxHeartbeats 4000000
namespace K06
open PySem PySem.Spec PyProof.Rows L2 Cm
def topS (i : Nat) : Stmt := PySem.Challenge.pw_commonhouse_k06_things_told.main.body.getD i (.Pass ⟨0, 0, 0, 0⟩)
abbrev s_size : Stmt := topS 13
abbrev N_size : List Str := ["house", "many", "limit"]
theorem sc_size : FnScope N_size ["house"] (defScope s_size) := ⟨rfl, rfl, rfl, by decide +kernel, rfl, by decide +kernel, by decide +kernel⟩
abbrev s_things : Stmt := topS 14
abbrev N_things : List Str := ["house", "found", "limit", "ahead", "number"]
theorem sc_things : FnScope N_things ["house"] (defScope s_things) := ⟨rfl, rfl, rfl, by decide +kernel, rfl, by decide +kernel, by decide +kernel⟩
abbrev s_law_pen : Stmt := topS 16
abbrev N_law_pen : List Str := ["_law_script"]
theorem sc_law_pen : FnScope N_law_pen ["_law_script"] (defScope s_law_pen) := ⟨rfl, rfl, rfl, by decide +kernel, rfl, by decide +kernel, by decide +kernel⟩
abbrev s_law_draw : Stmt := topS 17
abbrev N_law_draw : List Str := ["_law_pen_here", "_law_many_here", "_law_drawn", "_law_at", "_law_cell", "_law_number"]
theorem sc_law_draw : FnScope N_law_draw ["_law_pen_here", "_law_many_here"] (defScope s_law_draw) := ⟨rfl, rfl, rfl, by decide +kernel, rfl, by decide +kernel, by decide +kernel⟩
abbrev s_law_round : Stmt := topS 18
abbrev N_law_round : List Str := ["_law_pen_here", "_law_way"]
theorem sc_law_round : FnScope N_law_round ["_law_pen_here"] (defScope s_law_round) := ⟨rfl, rfl, rfl, by decide +kernel, rfl, by decide +kernel, by decide +kernel⟩
abbrev s_law_house : Stmt := topS 19
abbrev N_law_house : List Str := ["_law_pen_here", "_law_k"]
theorem sc_law_house : FnScope N_law_house ["_law_pen_here"] (defScope s_law_house) := ⟨rfl, rfl, rfl, by decide +kernel, rfl, by decide +kernel, by decide +kernel⟩
abbrev s_law_word : Stmt := topS 21
abbrev N_law_word : List Str := ["_law_caught", "_law_flags", "_law_word_here", "_law_flag"]
theorem sc_law_word : FnScope N_law_word ["_law_caught"] (defScope s_law_word) := ⟨rfl, rfl, rfl, by decide +kernel, rfl, by decide +kernel, by decide +kernel⟩
abbrev s_law_few : Stmt := topS 22
abbrev N_law_few : List Str := ["_law_pen_here", "_law_way", "_law_some", "_law_found", "_law_left", "_law_k", "_law_one"]
theorem sc_law_few : FnScope N_law_few ["_law_pen_here"] (defScope s_law_few) := ⟨rfl, rfl, rfl, by decide +kernel, rfl, by decide +kernel, by decide +kernel⟩
abbrev s_law_many : Stmt := topS 23
abbrev N_law_many : List Str := ["_law_pen_here", "_law_some", "_law_found"]
theorem sc_law_many : FnScope N_law_many ["_law_pen_here"] (defScope s_law_many) := ⟨rfl, rfl, rfl, by decide +kernel, rfl, by decide +kernel, by decide +kernel⟩
abbrev s_law_size : Stmt := topS 24
abbrev N_law_size : List Str := ["_law_house_here", "_law_found", "_law_one"]
theorem sc_law_size : FnScope N_law_size ["_law_house_here"] (defScope s_law_size) := ⟨rfl, rfl, rfl, by decide +kernel, rfl, by decide +kernel, by decide +kernel⟩
abbrev s_law_things : Stmt := topS 25
abbrev N_law_things : List Str := ["_law_house_here", "_law_found", "_law_one", "_law_longer", "_law_number", "_law_behind"]
theorem sc_law_things : FnScope N_law_things ["_law_house_here"] (defScope s_law_things) := ⟨rfl, rfl, rfl, by decide +kernel, rfl, by decide +kernel, by decide +kernel⟩
abbrev s_law_refused : Stmt := topS 26
abbrev N_law_refused : List Str := ["_law_house_here", "_law_caught", "e"]
theorem sc_law_refused : FnScope N_law_refused ["_law_house_here"] (defScope s_law_refused) := ⟨rfl, rfl, rfl, by decide +kernel, rfl, by decide +kernel, by decide +kernel⟩
abbrev s_law : Stmt := topS 27
abbrev N_law : List Str := ["_law_script", "_law_pen_here", "_law_held", "_law_lap", "_law_house_here", "_law_due", "_law_found", "_law_great", "_law_one"]
theorem sc_law : FnScope N_law ["_law_script"] (defScope s_law) := ⟨rfl, rfl, rfl, by decide +kernel, rfl, by decide +kernel, by decide +kernel⟩
structure Txt (K : PySem.W.Frag) (mg : Str → Option Value) : Prop where
  d_size : Df K mg "size" s_size ["house"]
  d_things : Df K mg "things" s_things ["house"]
  d_law_pen : Df K mg "_law_pen" s_law_pen ["_law_script"]
  d_law_draw : Df K mg "_law_draw" s_law_draw ["_law_pen_here", "_law_many_here"]
  d_law_round : Df K mg "_law_round" s_law_round ["_law_pen_here"]
  d_law_house : Df K mg "_law_house" s_law_house ["_law_pen_here"]
  d_law_word : Df K mg "_law_word" s_law_word ["_law_caught"]
  d_law_few : Df K mg "_law_few" s_law_few ["_law_pen_here"]
  d_law_many : Df K mg "_law_many" s_law_many ["_law_pen_here"]
  d_law_size : Df K mg "_law_size" s_law_size ["_law_house_here"]
  d_law_things : Df K mg "_law_things" s_law_things ["_law_house_here"]
  d_law_refused : Df K mg "_law_refused" s_law_refused ["_law_house_here"]
  d_law : Df K mg "law" s_law ["_law_script"]
  n_ValueError : mg "ValueError" = none
  n_abs : mg "abs" = none
  n_isinstance : mg "isinstance" = none
  n_len : mg "len" = none
  n_list : mg "list" = none
  n_min : mg "min" = none
  n_range : mg "range" = none
  n_repr : mg "repr" = none
  n_tuple : mg "tuple" = none
  g_MOST_THINGS : ∃ t, mg "MOST_THINGS" = some (.int 400 t)
  x_TooGreat : ∃ D, Errs K mg D "TooGreat" 1
section
variable {P : Program} {w : World} {K : PySem.W.Frag} {mg : Str → Option Value} {base : Heap}
/-! ### the pen -/
theorem merge_pen (a : Addr) : mergeK [] (penD a 0 0) = penD a 0 0 := by
  show putK (putK (putK [] (Sum.inr ("cells" : Str) : Key) (.ref a)) (Sum.inr ("at" : Str)) (.int 0)) (Sum.inr ("left" : Str)) (.int 0) = _
  have e1 : putK ([] : List (Key × V)) (Sum.inr ("cells" : Str) : Key) (.ref a) = [(Sum.inr ("cells" : Str), .ref a)] := putK_new _ rfl
  have e2 : putK [((Sum.inr ("cells" : Str) : Key), V.ref a)] (Sum.inr ("at" : Str) : Key) (.int 0) = [(Sum.inr ("cells" : Str), .ref a), (Sum.inr ("at" : Str), .int 0)] := putK_new _ ((valV_neg kca).trans rfl)
  have e3 : putK [((Sum.inr ("cells" : Str) : Key), V.ref a), (Sum.inr ("at" : Str), .int 0)] (Sum.inr ("left" : Str) : Key) (.int 0) = penD a 0 0 := putK_new _ ((valV_neg kcl).trans ((valV_neg kal).trans rfl))
  rw [e1, e2, e3]
def rPen (K : PySem.W.Frag) : V → Hp → VK → Prop := fun x H Q => ∃ (a : Addr) (ns : List Int), x = .ref a ∧ SqL K H a (ns.map V.int) ∧ ∀ d H', H d = none → Same H H' → Pen K H' d a ns 0 → Q (.ref d) H'
theorem ok_law_pen (T : Txt K mg) : Fn P w K mg base 1 "_law_pen" ["_law_script"] (sp1 (rPen K)) := by
  refine T.d_law_pen.ok sc_law_pen len1 fun f cdv A outer s H vs Q E hr hg h => ?_
  obtain ⟨_, rfl, a, ns, rfl, hS, q⟩ := h
  refine ⟨_, (pss_one (ps_ret (pe_disp (pps_cons pe_str (pv 0) (pps_cons pe_str pe_int (pps_cons pe_str pe_int pps_nil))) (by rfl) (by rfl) (fun z => by cases z) (by decide)))), ?_⟩
  intro d hd
  refine ⟨_, rfl, upd_same, penD a 0 0, rfl, (by show 3 ≤ 15; decide), ?_⟩
  rw [merge_pen]
  have e : upd (upd H d (.dK [])) d (.dK (penD a 0 0)) = upd H d (.dK (penD a 0 0)) := upd_upd
  rw [e]
  exact q d _ hd (same_new hd) ⟨(same_new hd).seq hS, 0, 0, upd_same, by decide, by decide, by decide⟩
theorem p629 : (0 : Int) < 2147483629 := by decide
theorem p587 : (0 : Int) < 2147483587 := by decide
theorem p563 : (0 : Int) < 2147483563 := by decide
theorem ok_law_draw (T : Txt K mg) : Fn P w K mg base 1 "_law_draw" ["_law_pen_here", "_law_many_here"] (sp2 (rDraw K)) := by
  refine T.d_law_draw.ok sc_law_draw len2 fun f cdv A outer s H vs Q E hr hg h => ?_
  obtain ⟨_, _, rfl, d, a, ns, c, many, rfl, rfl, ⟨hS, n, m, hd, n0, n1, m0⟩, p0, p1, hc, q⟩ := h
  have hu := hu_of hr
  refine ⟨_, (pss_cons (ps_if (pt_cmpR op_gt (pe_dget hu (pv 0) pe_str (fun _ _ => rfl)) pe_int (nomark _))
(pss_cons (ps_set (i := 2) sc_law_draw.nd rfl (by first | exact Or.inl rfl | exact Or.inr rfl) (pe_op op_mod (pe_dget hu (pv 0) pe_str (fun _ _ => rfl)) (pv 1)))
(pss_cons (ps_dput hu (pv 0) pe_str (pe_op op_fdiv (pe_dget hu (pv 0) pe_str (fun _ _ => rfl)) (pv 1)) rfl)
(pss_one (ps_ret (pv 2)))))
pss_nil)
(pss_cons (ps_set (i := 3) sc_law_draw.nd rfl (by first | exact Or.inl rfl | exact Or.inr rfl) (pe_dget hu (pv 0) pe_str (fun _ _ => rfl)))
(pss_cons (ps_dput hu (pv 0) pe_str (pe_op op_add (pv 3) pe_int) rfl)
(pss_cons (ps_set (i := 4) sc_law_draw.nd rfl (by first | exact Or.inl rfl | exact Or.inr rfl) (pe_op op_add (pe_op op_add (pe_op op_mul (pe_op op_mul pe_int (pv 3)) (pv 3)) (pe_op op_mul pe_int (pv 3))) pe_int))
(pss_cons (ps_if (pt_cmpR op_gt (pe_callB (len_K (K := K) rfl) (by rfl) T.n_len (by decide +kernel) (pa_cons (pe_dget hu (pv 0) pe_str (fun _ _ => rfl)) pa_nil)) pe_int (nomark _))
(pss_cons (ps_set (i := 4) sc_law_draw.nd rfl (by first | exact Or.inl rfl | exact Or.inr rfl) (pe_ix (ixL_K (K := K) rfl) (pe_dget hu (pv 0) pe_str (fun _ _ => rfl)) (pe_op op_mod (pv 3) (pe_callB (len_K (K := K) rfl) (by rfl) T.n_len (by decide +kernel) (pa_cons (pe_dget hu (pv 0) pe_str (fun _ _ => rfl)) pa_nil))) (fun _ _ => rfl)))
(pss_one (ps_if (PW.pt (pw_and (pt_cmpR op_lt (pv 3) (pe_callB (len_K (K := K) rfl) (by rfl) T.n_len (by decide +kernel) (pa_cons (pe_dget hu (pv 0) pe_str (fun _ _ => rfl)) pa_nil)) (nomark _)) (pw_and1 (pt_cmpR op_ge (pe_callB call_abs (by rfl) T.n_abs (by decide +kernel) (pa_cons (pv 4) pa_nil)) (pe_op op_pow pe_int pe_int) (nomark _)))))
(pss_cons (ps_dput hu (pv 0) pe_str (pe_op op_fdiv (pe_callB call_abs (by rfl) T.n_abs (by decide +kernel) (pa_cons (pv 4) pa_nil)) (pv 1)) rfl)
(pss_one (ps_ret (pe_op op_mod (pe_callB call_abs (by rfl) T.n_abs (by decide +kernel) (pa_cons (pv 4) pa_nil)) (pv 1)))))
pss_nil)))
pss_nil)
(pss_cons (ps_set (i := 5) sc_law_draw.nd rfl (by first | exact Or.inl rfl | exact Or.inr rfl) (pe_op op_mod (pe_op op_mul (pe_op op_add (pe_op op_add (pe_op op_mod (pv 4) pe_int) (pe_op op_mul pe_int (pv 3))) pe_int) pe_int) pe_int))
(pss_cons (ps_set (i := 5) sc_law_draw.nd rfl (by first | exact Or.inl rfl | exact Or.inr rfl) (pe_op op_mod (pe_op op_add (pe_op op_add (pe_op op_mul (pv 5) (pv 5)) (pe_op op_mul pe_int (pv 5))) (pv 3)) pe_int))
(pss_one (ps_ret (pe_op op_mod (pe_op op_fdiv (pv 5) pe_int) (pv 1))))))))))), ?_⟩
  refine ⟨_, rfl, d, _, rfl, dg_left hd, _, _, rfl, rfl, _, rfl, ite2 (fun e => ?_) (fun e => ?_)⟩
  · have hm : 0 < m := of_decide_eq_true e
    refine ⟨_, rfl, d, _, rfl, dg_left hd, _, rfl, _, _, rfl, rfl, p0, ?_⟩
    refine ⟨_, rfl, d, _, rfl, dg_left hd, _, rfl, _, _, rfl, rfl, ⟨p0, p1⟩, _, rfl, d, _, rfl, dp_left hd, ?_⟩
    refine ⟨_, rfl, ?_⟩
    exact q _ _ (Int.emod_nonneg _ (by omega)) (Int.emod_lt_of_pos _ p0) ⟨sq_but But.upd hd hS, n, m / many, upd_same, n0, by omega, Int.ediv_nonneg m0 (by omega)⟩ But.upd
  · -- at
    refine ⟨_, rfl, d, _, rfl, dg_at hd, ?_⟩
    refine ⟨_, rfl, _, _, rfl, rfl, _, rfl, d, _, rfl, dp_at hd, ?_⟩
    have hd1 : (upd H d (.dK (penD a (n + 1) m))) d = some (.dK (penD a (n + 1) m)) := upd_same
    have hS1 : SqL K (upd H d (.dK (penD a (n + 1) m))) a (ns.map V.int) := sq_but But.upd hd hS
    have hP1 : Pen K (upd H d (.dK (penD a (n + 1) m))) d a ns (c + 1) := ⟨hS1, n + 1, m, hd1, by omega, by omega, m0⟩
    -- cell
    refine ⟨_, rfl, _, _, rfl, rfl, .inl ⟨by decide, by decide⟩, _, rfl, _, _, rfl, rfl, .inr ⟨by omega, by omega⟩, _, rfl, _, _, rfl, rfl, .inl ⟨by decide, by decide⟩, _, _, rfl, rfl, _, _, rfl, rfl, ?_⟩
    -- the end, whatever the cell
    have fin : ∀ (cell : Int), 0 ≤ (((cell % 2147483629 + 40993 * n + 5) * 48271 % 2147483587 * ((cell % 2147483629 + 40993 * n + 5) * 48271 % 2147483587) + 69941 * ((cell % 2147483629 + 40993 * n + 5) * 48271 % 2147483587) + n) % 2147483563 / 32 % many) ∧
        (((cell % 2147483629 + 40993 * n + 5) * 48271 % 2147483587 * ((cell % 2147483629 + 40993 * n + 5) * 48271 % 2147483587) + 69941 * ((cell % 2147483629 + 40993 * n + 5) * 48271 % 2147483587) + n) % 2147483563 / 32 % many) < many := fun cell =>
      ⟨Int.emod_nonneg _ (by omega), Int.emod_lt_of_pos _ p0⟩
    refine ⟨_, rfl, d, _, rfl, dg_cells hd1, a, _, rfl, .inl hS1, _, _, rfl, rfl, _, rfl, ite2 (fun e1 => ?_) (fun e1 => ?_)⟩
    · have hl : (0 : Int) < ((ns.map V.int).length : Int) := of_decide_eq_true e1
      obtain ⟨z, hz⟩ := cell_at (ns := ns) (i := n % ((ns.map V.int).length : Int)) (Int.emod_nonneg _ (by omega)) (Int.emod_lt_of_pos _ hl)
      refine ⟨_, rfl, d, _, rfl, dg_cells hd1, _, rfl, _, rfl, d, _, rfl, dg_cells hd1, a, _, rfl, .inl hS1, _, _, rfl, rfl, hl, a, _, _, _, rfl, rfl, hS1, hz, ?_⟩
      refine ⟨_, rfl, _, rfl, d, _, rfl, dg_cells hd1, a, _, rfl, .inl hS1, _, _, rfl, rfl, _, rfl, ite2 (fun e2 => ?_) (fun e2 => ?_)⟩
      · refine ⟨_, rfl, _, rfl, 10, 18, rfl, rfl, ⟨by decide, by decide, by decide⟩, _, _, rfl, rfl, _, rfl, ite2 (fun e3 => ?_) (fun e3 => ?_)⟩
        · refine ⟨_, rfl, _, rfl, _, rfl, _, _, rfl, rfl, ⟨p0, p1⟩, _, rfl, d, _, rfl, dp_left hd1, ?_⟩
          refine ⟨_, rfl, _, rfl, _, rfl, _, _, rfl, rfl, p0, ?_⟩
          rw [abs_eq]
          refine q _ _ (Int.emod_nonneg _ (by omega)) (Int.emod_lt_of_pos _ p0) ⟨sq_but But.upd hd1 hS1, n + 1, _, upd_same, by omega, by omega, Int.ediv_nonneg (Int.natCast_nonneg _) (by omega)⟩ (But.trans But.upd But.upd)
        · refine ⟨_, rfl, _, _, rfl, rfl, p629, _, rfl, _, _, rfl, rfl, .inl ⟨by decide, by decide⟩, _, _, rfl, rfl, _, _, rfl, rfl, _, _, rfl, rfl, .inr ⟨by decide, by decide⟩, _, _, rfl, rfl, p587, ?_⟩
          refine ⟨_, rfl, _, rfl, _, _, rfl, rfl, .inl ?_, _, rfl, _, _, rfl, rfl, .inl ⟨by decide, by decide⟩, _, _, rfl, rfl, _, rfl, _, _, rfl, rfl, _, _, rfl, rfl, p563, ?_⟩
          · have h1 := Int.emod_nonneg ((z % 2147483629 + 40993 * n + 5) * 48271) (show (2147483587 : Int) ≠ 0 by decide)
            have h2 := Int.emod_lt_of_pos ((z % 2147483629 + 40993 * n + 5) * 48271) (show (0 : Int) < 2147483587 by decide)
            omega
          · refine ⟨_, rfl, _, _, rfl, rfl, ⟨by decide, by decide⟩, _, rfl, _, _, rfl, rfl, p0, ?_⟩
            exact q _ _ (fin z).1 (fin z).2 hP1 But.upd
      · refine ⟨_, rfl, _, _, rfl, rfl, p629, _, rfl, _, _, rfl, rfl, .inl ⟨by decide, by decide⟩, _, _, rfl, rfl, _, _, rfl, rfl, _, _, rfl, rfl, .inr ⟨by decide, by decide⟩, _, _, rfl, rfl, p587, ?_⟩
        refine ⟨_, rfl, _, rfl, _, _, rfl, rfl, .inl ?_, _, rfl, _, _, rfl, rfl, .inl ⟨by decide, by decide⟩, _, _, rfl, rfl, _, rfl, _, _, rfl, rfl, _, _, rfl, rfl, p563, ?_⟩
        · have h1 := Int.emod_nonneg ((z % 2147483629 + 40993 * n + 5) * 48271) (show (2147483587 : Int) ≠ 0 by decide)
          have h2 := Int.emod_lt_of_pos ((z % 2147483629 + 40993 * n + 5) * 48271) (show (0 : Int) < 2147483587 by decide)
          omega
        · refine ⟨_, rfl, _, _, rfl, rfl, ⟨by decide, by decide⟩, _, rfl, _, _, rfl, rfl, p0, ?_⟩
          exact q _ _ (fin z).1 (fin z).2 hP1 But.upd
    · refine ⟨_, rfl, _, _, rfl, rfl, p629, _, rfl, _, _, rfl, rfl, .inl ⟨by decide, by decide⟩, _, _, rfl, rfl, _, _, rfl, rfl, _, _, rfl, rfl, .inr ⟨by decide, by decide⟩, _, _, rfl, rfl, p587, ?_⟩
      refine ⟨_, rfl, _, rfl, _, _, rfl, rfl, .inl ?_, _, rfl, _, _, rfl, rfl, .inl ⟨by decide, by decide⟩, _, _, rfl, rfl, _, rfl, _, _, rfl, rfl, _, _, rfl, rfl, p563, ?_⟩
      · have h1 := Int.emod_nonneg (((70003 * n * n + 19 * n + 11) % 2147483629 + 40993 * n + 5) * 48271) (show (2147483587 : Int) ≠ 0 by decide)
        have h2 := Int.emod_lt_of_pos (((70003 * n * n + 19 * n + 11) % 2147483629 + 40993 * n + 5) * 48271) (show (0 : Int) < 2147483587 by decide)
        omega
      · refine ⟨_, rfl, _, _, rfl, rfl, ⟨by decide, by decide⟩, _, rfl, _, _, rfl, rfl, p0, ?_⟩
        exact q _ _ (fin (70003 * n * n + 19 * n + 11)).1 (fin (70003 * n * n + 19 * n + 11)).2 hP1 But.upd

def rRound (K : PySem.W.Frag) : V → Hp → VK → Prop := fun p H Q => ∃ (d a : Addr) (ns : List Int) (c : Int), p = .ref d ∧ Pen K H d a ns c ∧ c + 2 ≤ 1000000 ∧ ∀ r H', 1 ≤ r → r ≤ 1000000 → Pen K H' d a ns (c + 2) → But d H H' → Q (.int r) H'
theorem pen_at3 {H : Hp} {d a : Addr} {ns : List Int} {c : Int} (p : Pen K H d a ns c) : ∃ kvs, H d = some (.dK kvs) := by
  obtain ⟨_, n, m, h, _⟩ := p
  exact ⟨_, h⟩
theorem cell_in {ns : List Int} {i : Int} (h0 : 0 ≤ i) (h1 : i < (ns.length : Int)) : ∃ z, z ∈ ns ∧ atI (ns.map V.int) i = some (.int z) := by
  obtain ⟨n, rfl⟩ : ∃ n : Nat, i = n := ⟨i.toNat, by omega⟩
  have hn : n < ns.length := by omega
  refine ⟨ns[n], List.getElem_mem hn, atI_nat (j := n) ?_⟩
  rw [List.getElem?_map, List.getElem?_eq_getElem hn]
  rfl
theorem ok_law_round (T : Txt K mg) : Fn P w K mg base 2 "_law_round" ["_law_pen_here"] (sp1 (rRound K)) := by
  have G_law_draw := ok_law_draw (P := P) (w := w) (base := base) T
  refine T.d_law_round.ok sc_law_round len1 fun f cdv A outer s H vs Q E hr hg h => ?_
  obtain ⟨_, rfl, d, a, ns, c, rfl, hp, hc, q⟩ := h
  refine ⟨_, (pss_cons (ps_set (i := 1) sc_law_round.nd rfl (by first | exact Or.inl rfl | exact Or.inr rfl) (pe_fn G_law_draw (hr.mono (by decide)) hg (by rfl) (pa_cons (pv 0) (pa_cons pe_int pa_nil))))
(pss_cons (ps_if (pt_cmpR op_eq (pv 1) pe_int (nomark _))
(pss_one (ps_ret pe_int))
pss_nil)
(pss_cons (ps_if (pt_cmpR op_eq (pv 1) pe_int (nomark _))
(pss_one (ps_ret (pe_op op_sub (pe_op op_pow pe_int pe_int) (pe_fn G_law_draw (hr.mono (by decide)) hg (by rfl) (pa_cons (pv 0) (pa_cons pe_int pa_nil))))))
pss_nil)
(pss_cons (ps_if (pt_cmpR op_eq (pv 1) pe_int (nomark _))
(pss_one (ps_ret (pe_op op_add pe_int (pe_fn G_law_draw (hr.mono (by decide)) hg (by rfl) (pa_cons (pv 0) (pa_cons (pe_op op_pow pe_int pe_int) pa_nil))))))
pss_nil)
(pss_cons (ps_if (pt_cmpR op_eq (pv 1) pe_int (nomark _))
(pss_one (ps_ret (pe_ix (ixT_K (K := K) rfl) (pe_tup (pa_cons pe_int (pa_cons pe_int (pa_cons pe_int (pa_cons pe_int (pa_cons pe_int (pa_cons pe_int (pa_cons pe_int (pa_cons pe_int (pa_cons pe_int (pa_cons pe_int (pa_cons pe_int pa_nil)))))))))))) (pe_fn G_law_draw (hr.mono (by decide)) hg (by rfl) (pa_cons (pv 0) (pa_cons pe_int pa_nil))) (fun _ _ => rfl))))
pss_nil)
(pss_one (ps_ret (pe_op op_add pe_int (pe_fn G_law_draw (hr.mono (by decide)) hg (by rfl) (pa_cons (pv 0) (pa_cons pe_int pa_nil))))))))))), ?_⟩
  refine ⟨_, rfl, _, _, rfl, d, a, ns, c, _, rfl, rfl, hp, by decide, by decide, by omega, fun way H1 w0 w1 hp1 b1 => ?_⟩
  have e6 : (10 : Int) ^ (6 : Int).toNat = 1000000 := by decide
  refine ⟨_, rfl, rfl, _, rfl, ite2 (fun e1 => ?_) (fun e1 => ?_)⟩
  · exact q _ _ (by decide) (by decide) (hp1.mono (by omega)) b1
  refine ⟨_, rfl, rfl, _, rfl, ite2 (fun e2 => ?_) (fun e2 => ?_)⟩
  · refine ⟨10, 6, rfl, rfl, ⟨by decide, by decide, by decide⟩, _, rfl, _, _, rfl, d, a, ns, _, _, rfl, rfl, hp1, by decide, by decide, by omega, fun x H2 x0 x1 hp2 b2 => ?_⟩
    refine ⟨_, _, rfl, rfl, ?_⟩
    exact q _ _ (by rw [e6]; omega) (by rw [e6]; omega) (hp2.mono (by omega)) (b1.trans b2)
  refine ⟨_, rfl, rfl, _, rfl, ite2 (fun e3 => ?_) (fun e3 => ?_)⟩
  · refine ⟨_, rfl, 10, 6, rfl, rfl, ⟨by decide, by decide, by decide⟩, _, _, rfl, d, a, ns, _, _, rfl, rfl, hp1, by decide, by decide, by omega, fun x H2 x0 x1 hp2 b2 => ?_⟩
    rw [e6] at x1
    refine ⟨_, _, rfl, rfl, ?_⟩
    exact q _ _ (by omega) (by omega) (hp2.mono (by omega)) (b1.trans b2)
  refine ⟨_, rfl, rfl, _, rfl, ite2 (fun e4 => ?_) (fun e4 => ?_)⟩
  · refine ⟨(by show 11 ≤ sizeLine; decide), fun t ht => ?_⟩
    have hp2 := hp1.same (same_new (o := .tup [.int 2, .int 4, .int 8, .int 16, .int 524288, .int 3, .int 9, .int 27, .int 5, .int 25, .int 994009]) ht)
    refine ⟨_, rfl, _, _, rfl, d, a, ns, _, _, rfl, rfl, hp2, by decide, by decide, by omega, fun x H2 x0 x1 hp3 b2 => ?_⟩
    obtain ⟨kvs, hdd⟩ := pen_at3 hp1
    have ht2 := b2 t _ (ne_of_none hdd ht).symm upd_same
    obtain ⟨z, hz, hat⟩ := cell_in (ns := [2, 4, 8, 16, 524288, 3, 9, 27, 5, 25, 994009]) x0 x1
    refine ⟨t, _, _, _, rfl, rfl, SqT.of ht2, hat, ?_⟩
    have hz2 : 1 ≤ z ∧ z ≤ 1000000 := by
      simp only [List.mem_cons, List.not_mem_nil, or_false] at hz
      omega
    exact q _ _ hz2.1 hz2.2 (hp3.mono (by omega)) ((b1.trans (But.new ht)).trans b2)
  · refine ⟨_, rfl, _, _, rfl, d, a, ns, _, _, rfl, rfl, hp1, by decide, by decide, by omega, fun x H2 x0 x1 hp2 b2 => ?_⟩
    refine ⟨_, _, rfl, rfl, ?_⟩
    exact q _ _ (by omega) (by omega) (hp2.mono (by omega)) (b1.trans b2)

theorem but_up {p D : Addr} {H H' : Hp} {o : HO} (b : But p H H') (n : H D = none) : But p H (upd H' D o) := fun c u hc e => by
  rw [upd_ne (ne_of_none e n)]
  exact b c u hc e
theorem pen_up {H1 H2 : Hp} {d a D : Addr} {ns : List Int} {c c1 : Int} {o : HO} (p1 : Pen K H1 d a ns c1) (b : But d H1 H2) (p : Pen K H2 d a ns c) (n : H1 D = none) : Pen K (upd H2 D o) d a ns c := by
  obtain ⟨s1, n1, m1, h1, _⟩ := p1
  obtain ⟨_, n2, m2, h2, r⟩ := p
  exact ⟨sq_but (but_up b n) h1 s1, n2, m2, by rw [upd_ne (ne_of_none h1 n)]; exact h2, r⟩
def rHouse (K : PySem.W.Frag) : V → Hp → VK → Prop := fun p H Q => ∃ (d a : Addr) (ns : List Int) (c : Int), p = .ref d ∧ Pen K H d a ns c ∧ c + 13 ≤ 1000000 ∧
  ∀ b H' (hs : List Int), H' b = some (.tup (hs.map V.int)) → hs.length ≤ 6 → (∀ x ∈ hs, 1 ≤ x ∧ x ≤ 1000000) → Pen K H' d a ns (c + 13) → But d H H' → Q (.ref b) H'
theorem ok_law_house (T : Txt K mg) : Fn P w K mg base 3 "_law_house" ["_law_pen_here"] (sp1 (rHouse K)) := by
  have G_law_draw := ok_law_draw (P := P) (w := w) (base := base) T
  have G_law_round := ok_law_round (P := P) (w := w) (base := base) T
  refine T.d_law_house.ok sc_law_house len1 fun f cdv A outer s H vs Q E hr hg h => ?_
  obtain ⟨_, rfl, d, a, ns, c, rfl, hp, hc, q⟩ := h
  refine ⟨_, (pss_one (ps_ret (pe_callTy (tupOf_K (K := K) rfl) (by rfl) T.n_tuple (by decide +kernel) (pa_cons (pe_lc (own := [("_law_k", 1)]) rfl sc_law_house.nd (pi_range1 (by rfl) T.n_range (pa_cons (pe_fn G_law_draw (hr.mono (by decide)) hg (by rfl) (pa_cons (pv 0) (pa_cons pe_int pa_nil))) pa_nil)) (blkOk_by (own := [("_law_k", 1)]) (N := N_law_house) (sc := defScope s_law_house) (by decide +kernel)) (fun _ _ _ _ _ => (pg_name (i := 1) sc_law_house.nd rfl (by first | exact Or.inl rfl | exact Or.inr rfl))) (fun _ _ _ _ _ => pts_nil) (fun _ _ _ _ _ => (pe_fn G_law_round (hr.mono (by decide)) hg (by rfl) (pa_cons (pv 0) pa_nil)))) pa_nil)))), ?_⟩
  refine ⟨_, rfl, _, _, rfl, d, a, ns, c, _, rfl, rfl, hp, by decide, by decide, by omega, fun n H1 n0 n1 hp1 b1 => ?_⟩
  obtain ⟨n, rfl⟩ : ∃ m : Nat, n = m := ⟨n.toNat, by omega⟩
  refine ⟨_, rfl, by omega, by omega, fun D nD => lc_range (lo := 0) (n := n) (fun i H' => Pen K H' d a ns (c + 1 + 2 * i) ∧ But d H1 H' ∧ ∃ hs : List Int, H' D = some (.lst (hs.map V.int)) ∧ hs.length = i ∧ ∀ x ∈ hs, 1 ≤ x ∧ x ≤ 1000000)
    ⟨by simpa using pen_up hp1 (But.refl d H1) hp1 nD, But.new nD, [], upd_same, rfl, by simp⟩ ?_ ?_⟩
  · rintro i H2 hi ⟨hp2, b2, hs, hD, hl, hx⟩
    obtain ⟨kvs, hdd⟩ := pen_at3 hp1
    have nDd : D ≠ d := (ne_of_none hdd nD).symm
    refine ⟨rfl, _, rfl, _, rfl, d, a, ns, _, rfl, hp2, by omega, fun r H3 r1 r2 hp3 b3 => ?_⟩
    refine ⟨_, b3 _ _ nDd hD, ?_, ?_, but_up (b2.trans b3) nD, hs ++ [r], ?_, ?_, ?_⟩
    · rw [List.length_map]
      exact small1000 (by omega)
    · have ec : c + 1 + 2 * ((i + 1 : Nat) : Int) = c + 1 + 2 * i + 2 := by omega
      rw [ec]
      exact pen_up hp1 (b2.trans b3) hp3 nD
    · rw [upd_same, List.map_append]
      rfl
    · rw [List.length_append, hl]
      rfl
    · intro x hx2
      rcases List.mem_append.mp hx2 with e | e
      · exact hx x e
      · rw [List.mem_singleton.mp e]
        exact ⟨r1, r2⟩
  · rintro H2 ⟨hp2, b2, hs, hD, hl, hx⟩
    refine ⟨D, _, rfl, .inl ⟨SqL.of hD, fun R nR => ?_⟩⟩
    exact q R _ hs upd_same (by omega) hx ((hp2.same (same_new nR)).mono (by omega)) ((b1.trans b2).trans (But.new nR))

def iv (l : List Nat) : List V := l.map fun n : Nat => V.int (n : Int)
theorem iv_len (l : List Nat) : (iv l).length = l.length := List.length_map _
theorem iv_app (l m : List Nat) : iv (l ++ m) = iv l ++ iv m := List.map_append
theorem iv_at {l : List Nat} {i : Nat} {x : Nat} (h : l[i]? = some x) : (iv l)[i]? = some (.int (x : Int)) := by
  unfold iv
  rw [List.getElem?_map, h]
  rfl
theorem iv_get {l : List Nat} {i : Nat} {v : V} (h : (iv l)[i]? = some v) : ∃ x, l[i]? = some x ∧ v = .int (x : Int) := by
  unfold iv at h
  rw [List.getElem?_map] at h
  obtain ⟨x, hx, rfl⟩ := Option.map_eq_some_iff.mp h
  exact ⟨x, hx, rfl⟩
theorem mid_at {A B : List Nat} {x : Nat} : (A ++ x :: B)[A.length]? = some x := by
  rw [List.getElem?_append_right (Nat.le_refl _), Nat.sub_self]
  rfl
theorem iv_set {l : List Nat} {i x : Nat} : (iv l).set i (.int (x : Int)) = iv (l.set i x) := by
  unfold iv
  rw [List.map_set]
theorem mid_set {A B : List Nat} {x y : Nat} : (A ++ x :: B).set A.length y = A ++ y :: B := by
  rw [List.set_append_right _ _ (Nat.le_refl _), Nat.sub_self]
  rfl
theorem fresh_upd {H H1 : Hp} {l : Addr} {o : HO} (s : Same H H1) (n : H l = none) : Same H (upd H1 l o) := fun b z e => by
  rw [upd_ne (ne_of_none e n)]
  exact s b z e

theorem iv_eq (l : List Nat) : iv l = (l.map fun n : Nat => (n : Int)).map V.int := by
  unfold iv
  rw [List.map_map]
  rfl
theorem ref_at {ts : List Addr} {i : Nat} {v : V} (h : (ts.map V.ref)[i]? = some v) : ∃ t, ts[i]? = some t ∧ v = .ref t := by
  rw [List.getElem?_map] at h
  obtain ⟨x, hx, rfl⟩ := Option.map_eq_some_iff.mp h
  exact ⟨x, hx, rfl⟩
theorem but_same {H H' H2 : Hp} {D : Addr} (s : Same H H') (n : H D = none) (b : But D H' H2) : Same H H2 := fun x o e => b x o (ne_of_none e n) (s x o e)
theorem take_one {α : Type} {l : List α} {i : Nat} {x : α} (h : l[i]? = some x) : l.take (i + 1) = l.take i ++ [x] := by
  rw [List.take_succ, h]
  rfl

theorem cat_iv {H : Hp} {a b : Addr} {l m : List Nat} {Q : VK} (h1 : H a = some (.tup (iv l))) (h2 : H b = some (.tup (iv m))) (sz : l.length + m.length ≤ 100) (q : ∀ p H', Same H H' → H' p = some (.tup (iv (l ++ m))) → Q (.ref p) H') : rCatA K (.ref a) (.ref b) H Q := by
  refine ⟨a, b, _, _, rfl, rfl, SqT.of h1, SqT.of h2, ?_, fun z => ?_, fun _ z => ?_, fun _ _ p np => q p _ (same_new np) (by rw [upd_same, iv_app])⟩
  · rw [iv_len, iv_len]
    exact Nat.le_of_lt (small1000 (by omega))
  · have : l = [] := List.map_eq_nil_iff.mp z
    subst this
    exact q b H (Same.refl H) h2
  · have : m = [] := List.map_eq_nil_iff.mp z
    subst this
    refine q a H (Same.refl H) ?_
    rw [List.append_nil]
    exact h1
theorem tup_pen {H H' : Hp} {d a x : Addr} {ns : List Int} {c : Int} {xs : List V} (p : Pen K H d a ns c) (b : But d H H') (h : H x = some (.tup xs)) : H' x = some (.tup xs) := by
  obtain ⟨kvs, hd⟩ := pen_at3 p
  exact b _ _ (ne_of h hd (by intro z; cases z)) h

/-! ### rows of rounds told as a list -/
def RL (H : Hp) (R : Addr) (xs : List (List Nat)) : Prop := ∃ ts : List Addr, H R = some (.lst (ts.map V.ref)) ∧ Paired (fun t (x : List Nat) => H t = some (.tup (iv x))) ts xs
theorem paired_snoc {α β : Type} {R : α → β → Prop} {a : α} {b : β} (hr : R a b) : ∀ {l : List α} {m : List β}, Paired R l m → Paired R (l ++ [a]) (m ++ [b])
  | _, _, .nil => .cons hr .nil
  | _, _, .cons h t => .cons h (paired_snoc hr t)
theorem paired_app {α β : Type} {R : α → β → Prop} : ∀ {l l' : List α} {m m' : List β}, Paired R l m → Paired R l' m' → Paired R (l ++ l') (m ++ m')
  | _, _, _, _, .nil, h => h
  | _, _, _, _, .cons h t, h' => .cons h (paired_app t h')
theorem paired_get {α β : Type} {R : α → β → Prop} : ∀ {l : List α} {m : List β} {i : Nat} {a : α}, Paired R l m → l[i]? = some a → ∃ b, m[i]? = some b ∧ R a b
  | _, _, _, _, .nil, e => by simp at e
  | _, _, 0, _, .cons h _, e => by
    have e1 := Option.some.inj e
    subst e1
    exact ⟨_, rfl, h⟩
  | _, _, i + 1, a, .cons _ t, e => paired_get (i := i) (a := a) t e
theorem RL.same {H H' : Hp} {R : Addr} {xs : List (List Nat)} (h : RL H R xs) (s : Same H H') : RL H' R xs := by
  obtain ⟨ts, h1, h2⟩ := h
  exact ⟨ts, s _ _ h1, Paired.mapP h2 fun t x e => s _ _ e⟩
theorem RL.but {H H' : Hp} {R D : Addr} {xs : List (List Nat)} {o : HO} (h : RL H R xs) (b : But D H H') (hd : H D = some o) (n : ∀ xs, o ≠ .tup xs) (nR : R ≠ D) : RL H' R xs := by
  obtain ⟨ts, h1, h2⟩ := h
  refine ⟨ts, b _ _ nR h1, Paired.mapP h2 ?_⟩
  intro t x e
  exact b _ _ (fun z => n _ (by rw [z, hd] at e; exact Option.some.inj e)) e
theorem RL.app {H : Hp} {L u : Addr} {xs : List (List Nat)} {y : List Nat} {acc : List V} (h : RL H L xs) (hu : H u = none) (hx : H L = some (.lst acc)) : RL (upd (upd H u (.tup (iv y))) L (.lst (acc ++ [.ref u]))) L (xs ++ [y]) := by
  obtain ⟨ts, h1, h2⟩ := h
  rw [hx] at h1
  have e1 : acc = ts.map V.ref := by
    injection h1 with h1
    injection h1
  have nL : L ≠ u := ne_of_none hx hu
  refine ⟨ts ++ [u], by rw [upd_same, e1, List.map_append]; rfl, paired_snoc ?_ (Paired.mapP h2 fun b pe z => ?_)⟩
  · rw [upd_ne nL.symm, upd_same]
  · rw [upd_ne (ne_of z hx (by intro z; cases z)), upd_ne (ne_of_none z hu)]
    exact z
theorem RL.app2 {H H4 : Hp} {L p : Addr} {xs : List (List Nat)} {y : List Nat} {acc : List V} (h : RL H L xs) (hx : H L = some (.lst acc)) (s : Same H H4) (hp : H4 p = some (.tup (iv y))) : RL (upd H4 L (.lst (acc ++ [.ref p]))) L (xs ++ [y]) := by
  obtain ⟨ts, h1, h2⟩ := h.same s
  have hx4 := s _ _ hx
  rw [hx4] at h1
  have e1 : acc = ts.map V.ref := by
    injection h1 with h1
    injection h1
  refine ⟨ts ++ [p], by rw [upd_same, e1, List.map_append]; rfl, paired_snoc ?_ (Paired.mapP h2 fun b pe z => ?_)⟩
  · rw [upd_ne (ne_of hp hx4 (by intro z; cases z))]
    exact hp
  · rw [upd_ne (ne_of z hx4 (by intro z; cases z))]
    exact z
theorem RL.ext {H : Hp} {L M : Addr} {xs ys : List (List Nat)} {us vs : List V} (h : RL H L xs) (g : RL H M ys) (hx : H L = some (.lst us)) (hy : H M = some (.lst vs)) : RL (upd H L (.lst (us ++ vs))) L (xs ++ ys) := by
  obtain ⟨ts, h1, h2⟩ := h
  obtain ⟨rs, g1, g2⟩ := g
  rw [hx] at h1
  rw [hy] at g1
  have e1 : us = ts.map V.ref := by
    injection h1 with h1
    injection h1
  have e2 : vs = rs.map V.ref := by
    injection g1 with g1
    injection g1
  refine ⟨ts ++ rs, by rw [upd_same, e1, e2, List.map_append], paired_app (Paired.mapP h2 fun b pe z => ?_) (Paired.mapP g2 fun b pe z => ?_)⟩
  all_goals
    rw [upd_ne (ne_of z hx (by intro z; cases z))]
    exact z
theorem RL.len {H : Hp} {L : Addr} {xs : List (List Nat)} {us : List V} (h : RL H L xs) (hx : H L = some (.lst us)) : us.length = xs.length := by
  obtain ⟨ts, h1, h2⟩ := h
  rw [hx] at h1
  have e1 : us = ts.map V.ref := by
    injection h1 with h1
    injection h1
  rw [e1, List.length_map, Paired.length h2]
theorem RL.lst {H : Hp} {L : Addr} {xs : List (List Nat)} (h : RL H L xs) : ∃ us, H L = some (.lst us) := by
  obtain ⟨ts, h1, _⟩ := h
  exact ⟨_, h1⟩
theorem same_app {H H1 : Hp} {D t : Addr} {o u : HO} (s : Same H H1) (hD : H D = none) (ht : H1 t = none) : Same H (upd (upd H1 t o) D u) := fun b z e => by
  rw [upd_ne (ne_of_none e hD), upd_ne (ne_of_none (s b z e) ht)]
  exact s b z e
theorem none_same {H H' : Hp} {R : Addr} (s : Same H H') (n : H' R = none) : H R = none := by
  cases e : H R with
  | none => rfl
  | some o =>
    rw [s _ _ e] at n
    cases n
def Bd (ms : List Nat) : Prop := ∀ z ∈ ms, 1 ≤ z ∧ z ≤ 1000000
theorem Bd.one {ms : List Nat} (h : Bd ms) : ∀ m ∈ ms, 1 ≤ m := fun m hm => (h m hm).1
theorem Bd.take {ms : List Nat} (h : Bd ms) (i : Nat) : Bd (ms.take i) := fun z hz => h z (List.mem_of_mem_take hz)
theorem pr_small {ms : List Nat} (h : Bd ms) (h6 : ms.length ≤ 6) : pr ms < 2 ^ 120 := by
  have h1 := pr_le (c := 1000000) fun m hm => (h m hm).2
  have h2 : (1000000 : Nat) ^ ms.length ≤ 1000000 ^ 6 := Nat.pow_le_pow_right (by decide) h6
  have h3 : (1000000 : Nat) ^ 6 < 2 ^ 120 := by decide
  omega
theorem sm2000 {x : Nat} (h : x < 2 ^ 120) : ((x : Int)).natAbs < 2 ^ 2000 := by
  rw [Int.natAbs_natCast]
  exact Nat.lt_trans h (by decide +kernel)
theorem iop_mulW {X : Cx} : OpR X (inplaceOp .Mult) (rI CMulW fun i j => .int (i * j)) := opI fun _ _ _ _ _ _ _ hc q => imul_int q hc.ok
/-! ### sizes -/
def rSz : V → Hp → VK → Prop := fun x H Q => ∃ (b : Addr) (ms : List Nat), x = .ref b ∧ H b = some (.tup (iv ms)) ∧ ms.length ≤ 6 ∧ Bd ms ∧ Q (.int ((pr ms : Nat) : Int)) H
theorem ok_size (T : Txt K mg) : Fn P w K mg base 1 "size" ["house"] (sp1 rSz) := by
  refine T.d_size.ok sc_size len1 fun f cdv A outer s H vs Q E hr hg h => ?_
  obtain ⟨_, rfl, b, ms, rfl, hb, h6, bd, q⟩ := h
  refine ⟨_, (pss_cons (ps_set (i := 1) sc_size.nd rfl (by first | exact Or.inl rfl | exact Or.inr rfl) pe_int)
(pss_cons (ps_for PassesOwn.never rfl (piT_K (K := K) rfl (pv 0)) (pg_name (i := 2) sc_size.nd rfl (by first | exact Or.inl rfl | exact Or.inr rfl))
(pss_one (ps_aug (i := 1) sc_size.nd rfl (.inl rfl) (pv 2) iop_mulW)))
(pss_one (ps_ret (pv 1))))), ?_⟩
  refine ⟨_, rfl, b, rfl, ⟨_, SqT.of hb⟩, for_tup (K := K) (a := b) (xs := iv ms) (fun i σ H' => ∃ o : Option V, σ = [some (.ref b), some (.int ((pr (ms.take i) : Nat) : Int)), o] ∧ H' = H) ⟨none, rfl, rfl⟩ (fun i σ H' _ ⟨_, _, e⟩ => by rw [e]; exact SqT.of hb) ?_ ?_⟩
  · rintro i v σ H' hi ⟨o, rfl, rfl⟩
    obtain ⟨x, hx, rfl⟩ := iv_get hi
    have xb := bd x (List.mem_of_getElem? hx)
    have l6 : (ms.take i).length ≤ 6 := by rw [List.length_take]; omega
    refine ⟨_, rfl, _, rfl, _, _, rfl, rfl, mulW_small (sm2000 (pr_small (bd.take i) l6)) (sm2000 (Nat.lt_of_le_of_lt xb.2 (by decide))), ?_⟩
    refine ⟨some (.int (x : Int)), ?_, rfl⟩
    rw [take_one hx, pr_snoc, Int.natCast_mul]
    rfl
  · rintro σ H' ⟨o, rfl, rfl⟩
    rw [iv_len, List.take_length]
    exact ⟨_, rfl, q⟩
theorem ok_law_size (T : Txt K mg) : Fn P w K mg base 1 "_law_size" ["_law_house_here"] (sp1 rSz) := by
  refine T.d_law_size.ok sc_law_size len1 fun f cdv A outer s H vs Q E hr hg h => ?_
  obtain ⟨_, rfl, b, ms, rfl, hb, h6, bd, q⟩ := h
  refine ⟨_, (pss_cons (ps_set (i := 1) sc_law_size.nd rfl (by first | exact Or.inl rfl | exact Or.inr rfl) pe_int)
(pss_cons (ps_for PassesOwn.never rfl (piT_K (K := K) rfl (pv 0)) (pg_name (i := 2) sc_law_size.nd rfl (by first | exact Or.inl rfl | exact Or.inr rfl))
(pss_one (ps_set (i := 1) sc_law_size.nd rfl (by first | exact Or.inl rfl | exact Or.inr rfl) (pe_op op_mulW (pv 1) (pv 2)))))
(pss_one (ps_ret (pv 1))))), ?_⟩
  refine ⟨_, rfl, b, rfl, ⟨_, SqT.of hb⟩, for_tup (K := K) (a := b) (xs := iv ms) (fun i σ H' => ∃ o : Option V, σ = [some (.ref b), some (.int ((pr (ms.take i) : Nat) : Int)), o] ∧ H' = H) ⟨none, rfl, rfl⟩ (fun i σ H' _ ⟨_, _, e⟩ => by rw [e]; exact SqT.of hb) ?_ ?_⟩
  · rintro i v σ H' hi ⟨o, rfl, rfl⟩
    obtain ⟨x, hx, rfl⟩ := iv_get hi
    have xb := bd x (List.mem_of_getElem? hx)
    have l6 : (ms.take i).length ≤ 6 := by rw [List.length_take]; omega
    refine ⟨_, rfl, _, rfl, _, _, rfl, rfl, mulW_small (sm2000 (pr_small (bd.take i) l6)) (sm2000 (Nat.lt_of_le_of_lt xb.2 (by decide))), ?_⟩
    refine ⟨some (.int (x : Int)), ?_, rfl⟩
    rw [take_one hx, pr_snoc, Int.natCast_mul]
    rfl
  · rintro σ H' ⟨o, rfl, rfl⟩
    rw [iv_len, List.take_length]
    exact ⟨_, rfl, q⟩
/-! ### the program's things -/
def spTh (D : Addr) : Sp := fun vs H Q E => ∃ (b : Addr) (ms : List Nat), vs = [.ref b] ∧ H b = some (.tup (iv ms)) ∧ ms.length ≤ 6 ∧ Bd ms ∧ (400 < pr ms → E (.ref D) none H) ∧ (pr ms ≤ 400 → ∀ R H', H R = none → Same H H' → RL H' R (lex ms) → Q (.ref R) H')
theorem stp_take {f : List (List Nat)} {i m : Nat} {a : List Nat} (h : f[i]? = some a) : stp (f.take (i + 1)) m = stp (f.take i) m ++ (List.range m).map fun n => a ++ [n] := by
  unfold stp
  rw [take_one h, List.flatMap_append]
  simp
theorem stp_len (f : List (List Nat)) (m : Nat) : (stp f m).length = f.length * m := flat_len m _ f fun x _ => by rw [List.length_map, List.length_range]
theorem ok_things (T : Txt K mg) {D : Addr} (he : Errs K mg D "TooGreat" 1) : FnX P w K mg base 2 "things" ["house"] (spTh D) := by
  have G_size := ok_size (P := P) (w := w) (base := base) T
  obtain ⟨tk, gM⟩ := T.g_MOST_THINGS
  refine T.d_things.okX sc_things (fun vs H Q E h => ?_) fun f cdv A outer s H vs Q E hr hg h => ?_
  · obtain ⟨b, ms, rfl, _⟩ := h
    rfl
  obtain ⟨b, ms, rfl, hb, h6, bd, qx, q⟩ := h
  refine ⟨_, pss_cons (ps_if (pt_cmpR op_gt (pe_fn G_size (hr.mono (by decide)) hg (by rfl) (pa_cons (pv 0) pa_nil)) (pe_glob (v := .int 400) (by rfl) gM ⟨_, rfl⟩) (nomark _))
(pss_one (ps_raise rfl (takes_of rfl rfl rfl rfl) (pmk_own PySem.F.excBase_ValueError he.own he.g he.kp (raises_own he.ex he.ty) (by rfl))))
pss_nil) (PSs.nox (pss_cons (ps_set (i := 1) sc_things.nd rfl (by first | exact Or.inl rfl | exact Or.inr rfl) (pe_lst (pa_cons (pe_tup pa_nil) pa_nil)))
(pss_cons (ps_for PassesOwn.never rfl (piT_K (K := K) rfl (pv 0)) (pg_name (i := 2) sc_things.nd rfl (by first | exact Or.inl rfl | exact Or.inr rfl))
(pss_one (ps_setLc2 (i := 1) (own := [("ahead", 3), ("number", 4)]) (vs1 := [4]) rfl sc_things.nd rfl rfl (sw_true rfl rfl rfl (by decide +kernel)) (piL_K (K := K) rfl (pv 1)) (blkOk_by (own := [("ahead", 3), ("number", 4)]) (N := N_things) (sc := defScope s_things) (by decide +kernel)) (by decide) (fun _ _ _ _ _ => (pg_name (i := 3) sc_things.nd rfl (by first | exact Or.inl rfl | exact Or.inr rfl))) (fun _ _ _ _ _ => pts_nil) (fun _ _ _ _ _ => (pi_range1 (by rfl) T.n_range (pa_cons (pv 2) pa_nil))) (fun _ _ _ _ _ => (pg_name (i := 4) sc_things.nd rfl (by first | exact Or.inl rfl | exact Or.inr rfl))) (fun _ _ _ _ _ => pts_nil) (fun _ _ _ _ _ => (pe_tup (pa_starK (K := K) rfl (pv 3) (pa_cons (pv 4) pa_nil)))))))
(pss_one (ps_ret (pv 1)))))), ?_⟩
  refine ⟨_, rfl, _, rfl, b, ms, rfl, hb, h6, bd, _, _, rfl, rfl, _, rfl, ite2 (fun e => ?_) (fun e => ?_)⟩
  · have hl : (400 : Int) < (pr ms : Int) := of_decide_eq_true e
    exact qx (by omega)
  have hl : pr ms ≤ 400 := by
    have : ¬ (400 : Int) < (pr ms : Int) := of_decide_eq_false (Bool.eq_false_iff.mpr e)
    omega
  refine ⟨Nat.zero_le _, fun t nt => ⟨(by show 1 ≤ sizeLine; decide), fun R0 nR0 => ?_⟩⟩
  have s0 := (same_new (H := H) (o := .tup []) nt).trans (same_new (o := .lst [.ref t]) nR0)
  have rl0 : RL (upd (upd H t (.tup [])) R0 (.lst [.ref t])) R0 (lex (ms.take 0)) := ⟨[t], upd_same, .cons (by rw [upd_ne (ne_of_none upd_same nR0)]; exact upd_same) .nil⟩
  have nR00 : H R0 = none := none_same (same_new nt) nR0
  generalize upd (upd H t (.tup [])) R0 (.lst [.ref t]) = H0 at *
  refine ⟨_, rfl, b, rfl, ⟨_, SqT.of (s0 _ _ hb)⟩, for_tup (K := K) (a := b) (xs := iv ms) (fun i σ H' => ∃ (o2 : Option V) (R : Addr), σ = [some (.ref b), some (.ref R), o2, none, none] ∧ Same H H' ∧ H R = none ∧ RL H' R (lex (ms.take i)))
    ⟨none, R0, rfl, s0, nR00, rl0⟩ (fun i σ H' _ ⟨_, _, _, s1, _⟩ => SqT.of (s1 _ _ hb)) ?_ ?_⟩
  · rintro i v σ H1 hi ⟨o2, R, rfl, s1, nR, ts, hR, hts⟩
    obtain ⟨x, hx, rfl⟩ := iv_get hi
    have xb := bd x (List.mem_of_getElem? hx)
    have few : (lex (ms.take i)).length * x ≤ 400 := by
      rw [lex_len, ← pr_snoc, ← take_one hx]
      exact Nat.le_trans (pr_take bd.one _) hl
    have tl := Paired.length hts
    refine ⟨_, rfl, R, rfl, ⟨_, SqL.of hR⟩, fun L nL => go_list (K := K) (a := R) (xs := ts.map V.ref) (fun k H' => Same H1 H' ∧ RL H' L (stp ((lex (ms.take i)).take k) x))
      ⟨same_new nL, [], upd_same, .nil⟩ (fun k H' _ ⟨s2, _⟩ => SqL.of (s2 _ _ hR)) ?_ ?_⟩
    · rintro k v H2 hk ⟨s2, rl2⟩
      obtain ⟨u, hu, rfl⟩ := ref_at hk
      obtain ⟨a, ha, hua⟩ := paired_get hts hu
      have kl : k < (lex (ms.take i)).length := (List.getElem?_eq_some_iff.mp ha).1
      refine ⟨rfl, _, rfl, (x : Int), rfl, by omega, by omega, go_range (lo := 0) (n := x) (fun j H' => Same H1 H' ∧ RL H' L (stp ((lex (ms.take i)).take k) x ++ (List.range j).map fun n => a ++ [n])) ⟨s2, by simpa using rl2⟩ ?_ ?_⟩
      · rintro j H3 jl ⟨s3, rl3⟩
        obtain ⟨us, hL3, hus⟩ := id rl3
        have ul := Paired.length hus
        rw [List.length_append, stp_len, List.length_map, List.length_range, List.length_take] at ul
        have ub : us.length ≤ 400 := by
          have h1 : min k (lex (ms.take i)).length = k := by omega
          rw [h1] at ul
          have h2 : (k + 1) * x ≤ (lex (ms.take i)).length * x := Nat.mul_le_mul_right _ kl
          rw [Nat.succ_mul] at h2
          omega
        refine ⟨rfl, _, rfl, u, _, rfl, .inl (SqT.of (s3 _ _ hua)), _, rfl, ?_, fun z nz => ?_⟩
        · rw [List.length_append, iv_len, (lex_mem _ _ (List.mem_of_getElem? ha)).1]
          exact Nat.le_of_lt (small1000 (by rw [List.length_take, List.length_singleton]; omega))
        · have ez : iv a ++ [V.int (0 + (j : Int))] = iv (a ++ [j]) := by
            rw [iv_app, Int.zero_add]
            rfl
          rw [ez]
          refine ⟨us.map V.ref, ?_, ?_, same_app s3 nL nz, ?_⟩
          · rw [upd_ne (ne_of_none hL3 nz)]
            exact hL3
          · rw [List.length_map]
            exact small1000 (by omega)
          · rw [List.range_succ, List.map_append, ← List.append_assoc]
            exact rl3.app nz hL3
      · rintro H3 ⟨s3, rl3⟩
        refine ⟨s3, ?_⟩
        rw [stp_take ha]
        exact rl3
    · rintro H2 ⟨s2, rl2⟩
      rw [List.length_map, tl, List.take_length, ← lex_snoc, ← take_one hx] at rl2
      exact ⟨_, L, rfl, s1.trans s2, none_same s1 nL, rl2⟩
  · rintro σ H1 ⟨o2, R, rfl, s1, nR, rl1⟩
    rw [iv_len, List.take_length] at rl1
    exact ⟨_, rfl, q hl R H1 nR s1 rl1⟩
/-! ### the law's things -/
def rLT : V → Hp → VK → Prop := fun x H Q => ∃ (b : Addr) (ms : List Nat), x = .ref b ∧ H b = some (.tup (iv ms)) ∧ ms.length ≤ 6 ∧ Bd ms ∧ pr ms ≤ 400 ∧ ∀ R H', H R = none → Same H H' → RL H' R (lex ms) → Q (.ref R) H'
theorem iv_rev (l : List Nat) : (iv l).reverse = iv l.reverse := by
  unfold iv
  rw [List.map_reverse]
theorem rev_at {ms : List Nat} {i x : Nat} (h : ms.reverse[i]? = some x) : ms.drop (ms.length - (i + 1)) = x :: ms.drop (ms.length - i) := by
  have il : i < ms.reverse.length := (List.getElem?_eq_some_iff.mp h).1
  rw [List.length_reverse] at il
  rw [List.getElem?_reverse il] at h
  have e1 : ms.length - 1 - i = ms.length - (i + 1) := by omega
  rw [e1] at h
  have hl : ms.length - (i + 1) < ms.length := by omega
  rw [List.drop_eq_getElem_cons hl]
  have e2 : ms.length - (i + 1) + 1 = ms.length - i := by omega
  rw [e2]
  rw [List.getElem?_eq_getElem hl] at h
  rw [Option.some.inj h]
theorem ok_law_things (T : Txt K mg) : Fn P w K mg base 1 "_law_things" ["_law_house_here"] (sp1 rLT) := by
  refine T.d_law_things.ok sc_law_things len1 fun f cdv A outer s H vs Q E hr hg h => ?_
  obtain ⟨_, rfl, b, ms, rfl, hb, h6, bd, hl, q⟩ := h
  refine ⟨_, (pss_cons (ps_set (i := 1) sc_law_things.nd rfl (by first | exact Or.inl rfl | exact Or.inr rfl) (pe_lst (pa_cons (pe_tup pa_nil) pa_nil)))
(pss_cons (ps_for PassesOwn.never rfl (piT_K (K := K) rfl (pe_revT (pv 0))) (pg_name (i := 2) sc_law_things.nd rfl (by first | exact Or.inl rfl | exact Or.inr rfl))
(pss_cons (ps_set (i := 3) sc_law_things.nd rfl (by first | exact Or.inl rfl | exact Or.inr rfl) (pe_lst pa_nil))
(pss_cons (ps_for PassesOwn.never rfl (pi_range1 (by rfl) T.n_range (pa_cons (pv 2) pa_nil)) (pg_name (i := 4) sc_law_things.nd rfl (by first | exact Or.inl rfl | exact Or.inr rfl))
(pss_one (ps_expr (pe_bm PySem.F.plainAttrs_list PySem.F.slot_list_extend PySem.F.type_list_extend mt_extend (pv 3) (pa_cons (pe_lc (own := [("_law_behind", 5)]) rfl sc_law_things.nd (piL_K (K := K) rfl (pv 1)) (blkOk_by (own := [("_law_behind", 5)]) (N := N_law_things) (sc := defScope s_law_things) (by decide +kernel)) (fun _ _ _ _ _ => (pg_name (i := 5) sc_law_things.nd rfl (by first | exact Or.inl rfl | exact Or.inr rfl))) (fun _ _ _ _ _ => pts_nil) (fun _ _ _ _ _ => (pe_op (cat_K (K := K) rfl) (pe_tup (pa_cons (pv 4) pa_nil)) (pv 5)))) pa_nil)))))
(pss_one (ps_set (i := 1) sc_law_things.nd rfl (by first | exact Or.inl rfl | exact Or.inr rfl) (pv 3))))))
(pss_one (ps_ret (pv 1))))), ?_⟩
  refine ⟨Nat.zero_le _, fun t nt => ⟨(by show 1 ≤ sizeLine; decide), fun R0 nR0 => ?_⟩⟩
  have s0 := (same_new (H := H) (o := .tup []) nt).trans (same_new (o := .lst [.ref t]) nR0)
  have rl0 : RL (upd (upd H t (.tup [])) R0 (.lst [.ref t])) R0 (lex (ms.drop (ms.length - 0))) := by
    rw [Nat.sub_zero, List.drop_length]
    exact ⟨[t], upd_same, .cons (by rw [upd_ne (ne_of_none upd_same nR0)]; exact upd_same) .nil⟩
  have nR00 : H R0 = none := none_same (same_new nt) nR0
  generalize upd (upd H t (.tup [])) R0 (.lst [.ref t]) = H0 at *
  refine ⟨_, rfl, b, _, rfl, SqT.of (s0 _ _ hb), fun v nv => ?_⟩
  have s00 := s0.trans (same_new (o := .tup (iv ms).reverse) nv)
  have rl00 := rl0.same (same_new (o := .tup (iv ms).reverse) nv)
  have hv : (upd H0 v (.tup (iv ms).reverse)) v = some (.tup (iv ms).reverse) := upd_same
  generalize upd H0 v (.tup (iv ms).reverse) = H1 at *
  rw [iv_rev] at hv
  refine ⟨v, rfl, ⟨_, SqT.of hv⟩, for_tup (K := K) (a := v) (xs := iv ms.reverse) (fun i σ H' => ∃ (o2 o3 o4 : Option V) (R : Addr), σ = [some (.ref b), some (.ref R), o2, o3, o4, none] ∧ Same H1 H' ∧ H R = none ∧ RL H' R (lex (ms.drop (ms.length - i))))
    ⟨none, none, none, R0, rfl, fun _ _ e => e, nR00, rl00⟩ (fun i σ H' _ ⟨_, _, _, _, _, s1, _⟩ => SqT.of (s1 _ _ hv)) ?_ ?_⟩
  · rintro i w0 σ H2 hi ⟨o2, o3, o4, R, rfl, s2, nR, rl2⟩
    obtain ⟨x, hx, rfl⟩ := iv_get hi
    have xb := bd x (List.mem_reverse.mp (List.mem_of_getElem? hx))
    have ed := rev_at hx
    have few : x * (lex (ms.drop (ms.length - i))).length ≤ 400 := by
      have h1 := pr_drop bd.one (ms.length - (i + 1))
      rw [ed] at h1
      rw [lex_len]
      exact Nat.le_trans h1 hl
    have ln : ∀ y ∈ lex (ms.drop (ms.length - i)), y.length ≤ 6 := fun y hy => by
      have := (lex_mem _ _ hy).1
      rw [List.length_drop] at this
      omega
    generalize eF : lex (ms.drop (ms.length - i)) = F at *
    obtain ⟨ts, hR, hts⟩ := id rl2
    have tl := Paired.length hts
    refine ⟨Nat.zero_le _, fun L nL => ?_⟩
    have rlL0 : RL (upd H2 L (.lst [])) L ((List.range 0).flatMap fun n => F.map (n :: ·)) := ⟨[], upd_same, .nil⟩
    have s02 := s00.trans s2
    have nLH : H L = none := none_same s02 nL
    have nRL : R ≠ L := ne_of_none hR nL
    refine ⟨_, rfl, (x : Int), rfl, by omega, by omega, for_range (lo := 0) (n := x) (fun j σ H' => ∃ o4 : Option V, σ = [some (.ref b), some (.ref R), some (.int (x : Int)), some (.ref L), o4, none] ∧ Same H2 H' ∧ RL H' L ((List.range j).flatMap fun n => F.map (n :: ·)))
      ⟨o4, rfl, same_new nL, rlL0⟩ ?_ ?_⟩
    · rintro j σ H3 jl ⟨o4', rfl, s3, rl3⟩
      obtain ⟨us, hL3⟩ := rl3.lst
      have ul := rl3.len hL3
      rw [flat_len F.length _ _ fun n _ => List.length_map _, List.length_range] at ul
      have ub : us.length + F.length ≤ 400 := by
        have h2 : (j + 1) * F.length ≤ x * F.length := Nat.mul_le_mul_right _ jl
        rw [Nat.succ_mul] at h2
        omega
      refine ⟨_, rfl, .inl ⟨rfl, _, SqL.of hL3⟩, _, rfl, R, rfl, ⟨_, SqL.of (s3 _ _ hR)⟩, fun M nM => lc_list (K := K) (a := R) (xs := ts.map V.ref) (fun k H' => Same H3 H' ∧ RL H' M ((F.take k).map (j :: ·))) ⟨same_new nM, [], upd_same, .nil⟩ (fun k H' _ ⟨s4, _⟩ => SqL.of (s4 _ _ (s3 _ _ hR))) ?_ ?_⟩
      · rintro k v H4 hk ⟨s4, rl4⟩
        obtain ⟨u, hu, rfl⟩ := ref_at hk
        obtain ⟨y, hy, huy⟩ := paired_get hts hu
        have kl : k < F.length := (List.getElem?_eq_some_iff.mp hy).1
        obtain ⟨ws, hM⟩ := rl4.lst
        have wl := rl4.len hM
        rw [List.length_map, List.length_take] at wl
        have yl := ln y (List.mem_of_getElem? hy)
        refine ⟨rfl, _, rfl, (by show 1 ≤ sizeLine; decide), fun z nz => ⟨_, rfl, ?_⟩⟩
        have hz : (upd H4 z (.tup [.int (0 + (j : Int))])) z = some (.tup (iv [j])) := by
          rw [upd_same, Int.zero_add]
          rfl
        have sz := same_new (H := H4) (o := .tup [.int (0 + (j : Int))]) nz
        refine cat_iv hz (sz _ _ (s4 _ _ (s3 _ _ huy))) (by rw [List.length_singleton]; omega) fun p H5 s5 hp5 => ?_
        refine ⟨_, (sz.trans s5) _ _ hM, small1000 (by omega), ?_, ?_⟩
        · exact fresh_upd (s4.trans (sz.trans s5)) nM
        · rw [take_one hy, List.map_append]
          exact rl4.app2 hM (sz.trans s5) hp5
      · rintro H4 ⟨s4, rl4⟩
        rw [List.length_map, tl, List.take_length] at rl4
        obtain ⟨ws, hM⟩ := rl4.lst
        have wl := rl4.len hM
        rw [List.length_map] at wl
        refine ⟨L, M, _, _, rfl, rfl, s4 _ _ hL3, hM, ?_, ?_⟩
        · exact Nat.le_of_lt (small1000 (by omega))
        · refine ⟨_, rfl, fresh_upd (s3.trans s4) nL, ?_⟩
          rw [List.range_succ, List.flatMap_append]
          have e1 : ([j].flatMap fun n => F.map (n :: ·)) = F.map (j :: ·) := by simp
          rw [e1]
          exact (rl3.same s4).ext rl4 (s4 _ _ hL3) hM
    · rintro σ H3 ⟨o4', rfl, s3, rl3⟩
      refine ⟨_, rfl, _, _, _, L, rfl, s2.trans s3, nLH, ?_⟩
      rw [ed]
      show RL H3 L ((List.range x).flatMap fun n => (lex (ms.drop (ms.length - i))).map (n :: ·))
      rw [eF]
      exact rl3
  · rintro σ H2 ⟨o2, o3, o4, R, rfl, s2, nR, rl2⟩
    rw [iv_len, List.length_reverse, Nat.sub_self, List.drop_zero] at rl2
    exact ⟨_, rfl, q R H2 nR (s00.trans s2) rl2⟩

/-! ### an error asked -/
def rEqDK (K : PySem.W.Frag) : R2 := fun x y H Q => ∃ d e, Dp K H x d ∧ Dp K H y e ∧ SeqAt.shaped d = true ∧ SeqAt.shaped e = true ∧ Q (.bl (PyData.eqv d e)) H
theorem eqD_K {X : Cx} {k : Nat} (hr : Room k X.A) (hK : X.K = K) : OpR X (compareOp .Eq) (rEqDK K) := by
  subst hK
  exact op_eqD hr.units
theorem takesN {X : Cx} : Takes X (fun _ _ _ _ => False) := fun _ _ x => by
  obtain ⟨_, _, _, _, _, _, _, _, _, _, _, _, _, _, _, _, z⟩ := x
  exact z.elim
def FL (H : Hp) (L : Addr) (ps : List (Str × Bool)) : Prop := ∃ ts : List Addr, H L = some (.lst (ts.map V.ref)) ∧ Paired (fun t (p : Str × Bool) => H t = some (.tup [.str p.1, .bl p.2])) ts ps
theorem FL.same {H H' : Hp} {L : Addr} {ps : List (Str × Bool)} (h : FL H L ps) (s : Same H H') : FL H' L ps := by
  obtain ⟨ts, h1, h2⟩ := h
  exact ⟨ts, s _ _ h1, Paired.mapP h2 fun t x e => s _ _ e⟩
theorem FL.two {H : Hp} {t1 t2 l : Addr} {a c : Str} {b d : Bool} (n1 : H t1 = none) (n2 : (upd H t1 (.tup [.str a, .bl b])) t2 = none) (nl : (upd (upd H t1 (.tup [.str a, .bl b])) t2 (.tup [.str c, .bl d])) l = none) :
    Same H (upd (upd (upd H t1 (.tup [.str a, .bl b])) t2 (.tup [.str c, .bl d])) l (.lst [.ref t1, .ref t2])) ∧ FL (upd (upd (upd H t1 (.tup [.str a, .bl b])) t2 (.tup [.str c, .bl d])) l (.lst [.ref t1, .ref t2])) l [(a, b), (c, d)] := by
  have s1 := same_new (H := H) (o := .tup [.str a, .bl b]) n1
  have s2 := same_new (o := .tup [.str c, .bl d]) n2
  have s3 := same_new (o := .lst [.ref t1, .ref t2]) nl
  exact ⟨s1.trans (s2.trans s3), [t1, t2], upd_same, .cons ((s2.trans s3) _ _ upd_same) (.cons (s3 _ _ upd_same) .nil)⟩
theorem FL.more {H : Hp} {L z l : Addr} {ps qs : List (Str × Bool)} {us vs : List V} (h : FL H L ps) (g : FL H l qs) (hL : H L = some (.lst us)) (hl : H l = some (.lst vs)) (nz : H z = none) : FL (upd H z (.lst (us ++ vs))) z (ps ++ qs) := by
  obtain ⟨ts, h1, h2⟩ := h
  obtain ⟨rs, g1, g2⟩ := g
  rw [hL] at h1
  rw [hl] at g1
  have e1 : us = ts.map V.ref := by
    injection h1 with h1
    injection h1
  have e2 : vs = rs.map V.ref := by
    injection g1 with g1
    injection g1
  have s := same_new (o := .lst (us ++ vs)) nz
  exact ⟨ts ++ rs, by rw [upd_same, e1, e2, List.map_append], paired_app (Paired.mapP h2 fun b pe w => s _ _ w) (Paired.mapP g2 fun b pe w => s _ _ w)⟩
theorem FL.lst {H : Hp} {L : Addr} {ps : List (Str × Bool)} (h : FL H L ps) : ∃ us, H L = some (.lst us) ∧ us.length = ps.length := by
  obtain ⟨ts, h1, h2⟩ := h
  exact ⟨_, h1, by rw [List.length_map, Paired.length h2]⟩
def rWord (D : Addr) : V → Hp → VK → Prop := fun x H Q => ∃ a : Addr, x = .ref a ∧ H a = some (excO a (.ref D) none) ∧ ∀ R H', Same H H' → H' R = some (.lst [.str "great"]) → Q (.ref R) H'
theorem ok_law_word (T : Txt K mg) {D : Addr} (he : Errs K mg D "TooGreat" 1) : Fn P w K mg base 1 "_law_word" ["_law_caught"] (sp1 (rWord D)) := by
  obtain ⟨C0, g0, k0⟩ := he.ask 0 _ rfl
  obtain ⟨C1, g1, k1⟩ := he.ask 1 _ rfl
  obtain ⟨C2, g2, k2⟩ := he.ask 2 _ rfl
  obtain ⟨C3, g3, k3⟩ := he.ask 3 _ rfl
  obtain ⟨C4, g4, k4⟩ := he.ask 4 _ rfl
  obtain ⟨C5, g5, k5⟩ := he.ask 5 _ rfl
  obtain ⟨C6, g6, k6⟩ := he.ask 6 _ rfl
  obtain ⟨C7, g7, k7⟩ := he.ask 7 _ rfl
  obtain ⟨C8, g8, k8⟩ := he.ask 8 _ rfl
  replace k0 : PySem.W.kitOne K (.ref D) (.ref C0) = some false := k0
  replace k1 : PySem.W.kitOne K (.ref D) (.ref C1) = some true := k1
  replace k2 : PySem.W.kitOne K (.ref D) (.ref C2) = some false := k2
  replace k3 : PySem.W.kitOne K (.ref D) (.ref C3) = some false := k3
  replace k4 : PySem.W.kitOne K (.ref D) (.ref C4) = some false := k4
  replace k5 : PySem.W.kitOne K (.ref D) (.ref C5) = some false := k5
  replace k6 : PySem.W.kitOne K (.ref D) (.ref C6) = some false := k6
  replace k7 : PySem.W.kitOne K (.ref D) (.ref C7) = some false := k7
  replace k8 : PySem.W.kitOne K (.ref D) (.ref C8) = some false := k8
  have k9 := he.val
  refine T.d_law_word.ok sc_law_word len1 fun f cdv A outer s H vs Q E hr hg h => ?_
  obtain ⟨_, rfl, a, rfl, ha, q⟩ := h
  refine ⟨_, (pss_cons (ps_set (i := 1) sc_law_word.nd rfl (by first | exact Or.inl rfl | exact Or.inr rfl) (pe_lst (pa_cons (pe_tup (pa_cons pe_str (pa_cons (pe_callB (call_isX (K := K) rfl he.C) (by rfl) T.n_isinstance (by decide +kernel) (pa_cons (pv 0) (pa_cons (pe_glob (v := .ref C0) (by rfl) g0 rfl) pa_nil))) pa_nil))) (pa_cons (pe_tup (pa_cons pe_str (pa_cons (pe_callB (call_isX (K := K) rfl he.C) (by rfl) T.n_isinstance (by decide +kernel) (pa_cons (pv 0) (pa_cons (pe_glob (v := .ref C1) (by rfl) g1 rfl) pa_nil))) pa_nil))) pa_nil))))
(pss_cons (ps_set (i := 1) sc_law_word.nd rfl (by first | exact Or.inl rfl | exact Or.inr rfl) (pe_op op_cat (pv 1) (pe_lst (pa_cons (pe_tup (pa_cons pe_str (pa_cons (pe_callB (call_isX (K := K) rfl he.C) (by rfl) T.n_isinstance (by decide +kernel) (pa_cons (pv 0) (pa_cons (pe_glob (v := .ref C2) (by rfl) g2 rfl) pa_nil))) pa_nil))) (pa_cons (pe_tup (pa_cons pe_str (pa_cons (pe_callB (call_isX (K := K) rfl he.C) (by rfl) T.n_isinstance (by decide +kernel) (pa_cons (pv 0) (pa_cons (pe_glob (v := .ref C3) (by rfl) g3 rfl) pa_nil))) pa_nil))) pa_nil)))))
(pss_cons (ps_set (i := 1) sc_law_word.nd rfl (by first | exact Or.inl rfl | exact Or.inr rfl) (pe_op op_cat (pv 1) (pe_lst (pa_cons (pe_tup (pa_cons pe_str (pa_cons (pe_callB (call_isX (K := K) rfl he.C) (by rfl) T.n_isinstance (by decide +kernel) (pa_cons (pv 0) (pa_cons (pe_glob (v := .ref C4) (by rfl) g4 rfl) pa_nil))) pa_nil))) (pa_cons (pe_tup (pa_cons pe_str (pa_cons (pe_callB (call_isX (K := K) rfl he.C) (by rfl) T.n_isinstance (by decide +kernel) (pa_cons (pv 0) (pa_cons (pe_glob (v := .ref C5) (by rfl) g5 rfl) pa_nil))) pa_nil))) pa_nil)))))
(pss_cons (ps_set (i := 1) sc_law_word.nd rfl (by first | exact Or.inl rfl | exact Or.inr rfl) (pe_op op_cat (pv 1) (pe_lst (pa_cons (pe_tup (pa_cons pe_str (pa_cons (pe_callB (call_isX (K := K) rfl he.C) (by rfl) T.n_isinstance (by decide +kernel) (pa_cons (pv 0) (pa_cons (pe_glob (v := .ref C6) (by rfl) g6 rfl) pa_nil))) pa_nil))) (pa_cons (pe_tup (pa_cons pe_str (pa_cons (pe_callB (call_isX (K := K) rfl he.C) (by rfl) T.n_isinstance (by decide +kernel) (pa_cons (pv 0) (pa_cons (pe_glob (v := .ref C7) (by rfl) g7 rfl) pa_nil))) pa_nil))) pa_nil)))))
(pss_cons (ps_set (i := 1) sc_law_word.nd rfl (by first | exact Or.inl rfl | exact Or.inr rfl) (pe_op op_cat (pv 1) (pe_lst (pa_cons (pe_tup (pa_cons pe_str (pa_cons (pe_callB (call_isX (K := K) rfl he.C) (by rfl) T.n_isinstance (by decide +kernel) (pa_cons (pv 0) (pa_cons (pe_glob (v := .ref C8) (by rfl) g8 rfl) pa_nil))) pa_nil))) (pa_cons (pe_tup (pa_cons pe_str (pa_cons (pe_not (pe_callB (call_isX (K := K) rfl he.C) (by rfl) T.n_isinstance (by decide +kernel) (pa_cons (pv 0) (pa_cons (pe_bltn (v := .ty "ValueError") (by rfl) T.n_ValueError (by decide +kernel) rfl) pa_nil)))) pa_nil))) pa_nil)))))
(pss_one (ps_ret (pe_lc (own := [("_law_word_here", 2), ("_law_flag", 3)]) (g := gTup K 2 (gCons (gName 2) (gCons (gName 3) gNil))) rfl sc_law_word.nd (piL_K (K := K) rfl (pv 1)) (blkOk_by (own := [("_law_word_here", 2), ("_law_flag", 3)]) (N := N_law_word) (sc := defScope s_law_word) (by decide +kernel)) (fun _ _ _ _ _ => (pg_tup rfl (pgs_cons (pg_name (i := 2) sc_law_word.nd rfl (by first | exact Or.inl rfl | exact Or.inr rfl)) (pgs_cons (pg_name (i := 3) sc_law_word.nd rfl (by first | exact Or.inl rfl | exact Or.inr rfl)) pgs_nil)))) (fun _ _ _ _ _ => (pts_one (pt_val (pv 3)))) (fun _ _ _ _ _ => (pv 2)))))))))), ?_⟩
  refine ⟨_, rfl, a, _, _, _, rfl, ha, fun _ r => r, k0, (by show 2 ≤ sizeLine; decide), fun t1 n1 => ⟨_, rfl, a, _, _, _, rfl, (same_new n1) _ _ ha, fun _ r => r, k1, (by show 2 ≤ sizeLine; decide), fun t2 n2 => ⟨(by show 2 ≤ sizeLine; decide), fun l nl => ?_⟩⟩⟩
  obtain ⟨s1, fl1⟩ := FL.two n1 n2 nl
  generalize upd (upd (upd H t1 _) t2 _) l _ = H1 at *
  have ha1 := s1 _ _ ha
  clear n1 n2 nl
  have L1 : ∃ L, L = l := ⟨l, rfl⟩
  obtain ⟨L1, rfl⟩ := L1
  -- 1
  refine ⟨_, rfl, _, rfl, a, _, _, _, rfl, ha1, fun _ r => r, k2, (by show 2 ≤ sizeLine; decide), fun t1 n1 => ⟨_, rfl, a, _, _, _, rfl, (same_new n1) _ _ ha1, fun _ r => r, k3, (by show 2 ≤ sizeLine; decide), fun t2 n2 => ⟨(by show 2 ≤ sizeLine; decide), fun l nl => ?_⟩⟩⟩
  obtain ⟨r1, fm1⟩ := FL.two n1 n2 nl
  generalize upd (upd (upd H1 t1 _) t2 _) l _ = G1 at *
  obtain ⟨us1, hus1, ul1⟩ := (fl1.same r1).lst
  obtain ⟨vs1, hvs1, vl1⟩ := fm1.lst
  refine ⟨L1, l, _, _, rfl, rfl, hus1, hvs1, by rw [ul1, vl1]; decide, fun L2 nz => ?_⟩
  have fl2 := (fl1.same r1).more fm1 hus1 hvs1 nz
  have s2 := s1.trans (r1.trans (same_new (o := .lst (us1 ++ vs1)) nz))
  generalize upd G1 L2 _ = H2 at *
  have ha2 := s2 _ _ ha
  clear n1 n2 nl nz hus1 hvs1 ul1 vl1
  -- 2
  refine ⟨_, rfl, _, rfl, a, _, _, _, rfl, ha2, fun _ r => r, k4, (by show 2 ≤ sizeLine; decide), fun t1 n1 => ⟨_, rfl, a, _, _, _, rfl, (same_new n1) _ _ ha2, fun _ r => r, k5, (by show 2 ≤ sizeLine; decide), fun t2 n2 => ⟨(by show 2 ≤ sizeLine; decide), fun l nl => ?_⟩⟩⟩
  obtain ⟨r2, fm2⟩ := FL.two n1 n2 nl
  generalize upd (upd (upd H2 t1 _) t2 _) l _ = G2 at *
  obtain ⟨us2, hus2, ul2⟩ := (fl2.same r2).lst
  obtain ⟨vs2, hvs2, vl2⟩ := fm2.lst
  refine ⟨L2, l, _, _, rfl, rfl, hus2, hvs2, by rw [ul2, vl2]; decide, fun L3 nz => ?_⟩
  have fl3 := (fl2.same r2).more fm2 hus2 hvs2 nz
  have s3 := s2.trans (r2.trans (same_new (o := .lst (us2 ++ vs2)) nz))
  generalize upd G2 L3 _ = H3 at *
  have ha3 := s3 _ _ ha
  clear n1 n2 nl nz hus2 hvs2 ul2 vl2
  -- 3
  refine ⟨_, rfl, _, rfl, a, _, _, _, rfl, ha3, fun _ r => r, k6, (by show 2 ≤ sizeLine; decide), fun t1 n1 => ⟨_, rfl, a, _, _, _, rfl, (same_new n1) _ _ ha3, fun _ r => r, k7, (by show 2 ≤ sizeLine; decide), fun t2 n2 => ⟨(by show 2 ≤ sizeLine; decide), fun l nl => ?_⟩⟩⟩
  obtain ⟨r3, fm3⟩ := FL.two n1 n2 nl
  generalize upd (upd (upd H3 t1 _) t2 _) l _ = G3 at *
  obtain ⟨us3, hus3, ul3⟩ := (fl3.same r3).lst
  obtain ⟨vs3, hvs3, vl3⟩ := fm3.lst
  refine ⟨L3, l, _, _, rfl, rfl, hus3, hvs3, by rw [ul3, vl3]; decide, fun L4 nz => ?_⟩
  have fl4 := (fl3.same r3).more fm3 hus3 hvs3 nz
  have s4 := s3.trans (r3.trans (same_new (o := .lst (us3 ++ vs3)) nz))
  generalize upd G3 L4 _ = H4 at *
  have ha4 := s4 _ _ ha
  clear n1 n2 nl nz hus3 hvs3 ul3 vl3
  -- 4
  refine ⟨_, rfl, _, rfl, a, _, _, _, rfl, ha4, fun _ r => r, k8, (by show 2 ≤ sizeLine; decide), fun t1 n1 => ⟨_, rfl, a, _, _, _, rfl, (same_new n1) _ _ ha4, fun _ r => r, k9, true, rfl, (by show 2 ≤ sizeLine; decide), fun t2 n2 => ⟨(by show 2 ≤ sizeLine; decide), fun l nl => ?_⟩⟩⟩
  obtain ⟨r4, fm4⟩ := FL.two n1 n2 nl
  generalize upd (upd (upd H4 t1 _) t2 _) l _ = G4 at *
  obtain ⟨us4, hus4, ul4⟩ := (fl4.same r4).lst
  obtain ⟨vs4, hvs4, vl4⟩ := fm4.lst
  refine ⟨L4, l, _, _, rfl, rfl, hus4, hvs4, by rw [ul4, vl4]; decide, fun L5 nz => ?_⟩
  have fl5 := (fl4.same r4).more fm4 hus4 hvs4 nz
  have s5 := s4.trans (r4.trans (same_new (o := .lst (us4 ++ vs4)) nz))
  generalize upd G4 L5 _ = H5 at *
  have ha5 := s5 _ _ ha
  clear n1 n2 nl nz hus4 hvs4 ul4 vl4
  simp only [List.cons_append, List.nil_append] at fl5
  generalize eps : [(("thing" : Str), false), ("great", true), ("endless", false), ("paper", false), ("fit", false), ("table", false), ("text", false), ("name", false), ("row", false), ("no value", !true)] = ps at fl5
  obtain ⟨ts, hL, hts⟩ := fl5
  have tl := Paired.length hts
  have pl : ps.length = 10 := by rw [← eps]; rfl
  refine ⟨_, rfl, L5, rfl, ⟨_, SqL.of hL⟩, fun M nM => lc_list (K := K) (a := L5) (xs := ts.map V.ref) (fun k H' => Same H5 H' ∧ H' M = some (.lst (((ps.take k).filter (·.2)).map fun p => V.str p.1))) ⟨same_new nM, upd_same⟩ (fun k H' _ ⟨s6, _⟩ => SqL.of (s6 _ _ hL)) ?_ ?_⟩
  · rintro k v H6 hk ⟨s6, hM⟩
    obtain ⟨u, hu, rfl⟩ := ref_at hk
    obtain ⟨p, hp, hup⟩ := paired_get hts hu
    refine ⟨u, _, rfl, SqT.of (s6 _ _ hup), rfl, _, _, rfl, _, _, rfl, rfl, rfl, _, rfl, _, rfl, ite2 (fun e => ?_) (fun e => ?_)⟩
    · have e2 : p.2 = true := e
      refine ⟨_, rfl, _, hM, ?_, fresh_upd s6 nM, ?_⟩
      · rw [List.length_map]
        exact Nat.lt_of_le_of_lt (Nat.le_trans (List.length_filter_le _ _) (by rw [List.length_take]; omega) : _ ≤ 10) (by decide)
      · have ef : [p].filter (·.2) = [p] := by simp [e2]
        rw [upd_same, take_one hp, List.filter_append, ef, List.map_append]
        rfl
    · have e2 : p.2 = false := Bool.eq_false_iff.mpr e
      refine ⟨s6, ?_⟩
      have ef : [p].filter (·.2) = [] := by simp [e2]
      rw [take_one hp, List.filter_append, ef, List.append_nil]
      exact hM
  · rintro H6 ⟨s6, hM⟩
    rw [List.length_map, tl, List.take_length, ← eps] at hM
    exact q M H6 (s5.trans s6) hM
/-! ### the law's own: refused -/
def rRef : V → Hp → VK → Prop := fun x H Q => ∃ (b : Addr) (ms : List Nat), x = .ref b ∧ H b = some (.tup (iv ms)) ∧ ms.length ≤ 6 ∧ Bd ms ∧ 400 < pr ms ∧ ∀ H', Same H H' → Q (.bl true) H'
theorem eq_great {H : Hp} {a b : Addr} {Q : VK} (h1 : H a = some (.lst [.str "great"])) (h2 : H b = some (.lst [.str "great"])) (q : Q (.bl true) H) : rEqDK K (.ref a) (.ref b) H Q :=
  ⟨.list [.str "great"], .list [.str "great"], .lst (SqL.of h1) (.cons (.str _) .nil), .lst (SqL.of h2) (.cons (.str _) .nil), by decide +kernel, by decide +kernel, by rw [show PyData.eqv (.list [.str "great"]) (.list [.str "great"]) = true by decide +kernel]; exact q⟩
theorem ok_law_refused (T : Txt K mg) {D : Addr} (he : Errs K mg D "TooGreat" 1) : Fn P w K mg base 3 "_law_refused" ["_law_house_here"] (sp1 rRef) := by
  have G_things := ok_things (P := P) (w := w) (base := base) T he
  have G_law_word := ok_law_word (P := P) (w := w) (base := base) T he
  obtain ⟨BE, gB, hx⟩ := he.base
  refine T.d_law_refused.ok sc_law_refused len1 fun f cdv A outer s H vs Q E hr hg h => ?_
  obtain ⟨_, rfl, b, ms, rfl, hb, h6, bd, hl, q⟩ := h
  refine ⟨_, (pss_cons (ps_set (i := 1) sc_law_refused.nd rfl (by first | exact Or.inl rfl | exact Or.inr rfl) pe_non)
(pss_cons (ps_try_keep (i := 2) (Wout := fun _ _ _ _ => False) rfl rfl rfl sc_law_refused.nd rfl rfl ⟨by rfl, by decide, .inl gB⟩ takesN (fun W pn xe tk _ => pss_one (ps_expr (pe_fnX G_things (hr.mono (by decide)) hg (by rfl) (fun σ => passAt tk σ) (pa_cons (pv 0) pa_nil)))) (fun a oe cls d pn hz hf => pss_one (ps_set (i := 1) sc_law_refused.nd rfl (by first | exact Or.inl rfl | exact Or.inr rfl) (pv 2))))
(pss_one (ps_ret (pe_and (pe_cmpR op_notN (pv 1) pe_non (nomark _)) (pe_one (pe_cmpR (eqD_K (K := K) hr rfl) (pe_fn G_law_word (hr.mono (by decide)) hg (by rfl) (pa_cons (pv 1) pa_nil)) (pe_lst (pa_cons pe_str pa_nil)) (nomark _)))))))), ?_⟩
  refine ⟨_, rfl, b, ms, rfl, hb, h6, bd, fun _ => ⟨true, hx, fun _ a na => ?_, fun z => by cases z⟩, fun z => absurd hl (by omega)⟩
  have s1 := same_new (H := H) (o := excO a (.ref D) none) na
  refine ⟨_, rfl, _, rfl, rfl, true, rfl, ?_⟩
  refine ⟨_, rfl, _, rfl, a, rfl, upd_same, fun R H2 s2 hR => ⟨(by show 1 ≤ sizeLine; decide), fun l nl => ?_⟩⟩
  exact eq_great ((same_new nl) _ _ hR) upd_same (q _ (s1.trans (s2.trans (same_new nl))))

/-! ### houses of the law -/
abbrev Rws (H : Hp) (ts : List Addr) (xs : List (List Nat)) : Prop := Paired (fun t (x : List Nat) => H t = some (.tup (iv x))) ts xs
theorem rws_same {H H' : Hp} {ts : List Addr} {xs : List (List Nat)} (h : Rws H ts xs) (s : Same H H') : Rws H' ts xs := Paired.mapP h fun t x e => s _ _ e
theorem rws_add {H : Hp} {ts : List Addr} {xs : List (List Nat)} {tt : Addr} (pw : Rws H ts xs) (n : H tt = none) (ys : List V) (xx : List Nat) (e : ys = iv xx) : Same H (upd H tt (.tup ys)) ∧ Rws (upd H tt (.tup ys)) (ts ++ [tt]) (xs ++ [xx]) := by
  subst e
  have s := same_new (H := H) (o := .tup (iv xx)) n
  exact ⟨s, paired_snoc (R := fun t (x : List Nat) => (upd H tt (.tup (iv xx))) t = some (.tup (iv x))) upd_same (rws_same pw s)⟩
theorem new_at {H : Hp} {l : Addr} (n : H l = none) (o : HO) : Same H (upd H l o) ∧ (upd H l o) l = some o := ⟨same_new n, upd_same⟩
theorem rl_pick {H : Hp} {R : Addr} {xs : List (List Nat)} {us : List V} {i : Int} (h : RL H R xs) (hx : H R = some (.lst us)) (h0 : 0 ≤ i) (h1 : i < (us.length : Int)) : ∃ t r, atI us i = some (.ref t) ∧ r ∈ xs ∧ H t = some (.tup (iv r)) := by
  obtain ⟨ts, g1, g2⟩ := h
  rw [hx] at g1
  have e1 : us = ts.map V.ref := by
    injection g1 with g1
    injection g1
  subst e1
  obtain ⟨n, rfl⟩ : ∃ n : Nat, i = n := ⟨i.toNat, by omega⟩
  rw [List.length_map] at h1
  have hn : n < ts.length := by omega
  obtain ⟨r, hr, ht⟩ := paired_get g2 (List.getElem?_eq_getElem hn)
  exact ⟨ts[n], r, atI_nat (j := n) (by rw [List.getElem?_map, List.getElem?_eq_getElem hn]; rfl), List.mem_of_getElem? hr, ht⟩
theorem lst_pen {H H' : Hp} {d a x : Addr} {ns : List Int} {c : Int} {xs : List V} (p : Pen K H d a ns c) (b : But d H H') (h : H x = some (.lst xs)) : H' x = some (.lst xs) := by
  obtain ⟨kvs, hd⟩ := pen_at3 p
  exact b _ _ (ne_of h hd (by intro z; cases z)) h
def okR (f : Nat → Bool) (r : List Nat) : Bool := decide (r.length ≤ 6) && (r.all (fun z => decide (1 ≤ z) && decide (z ≤ 1000000)) && f (pr r))
theorem okR_of {f : Nat → Bool} {r : List Nat} (h : okR f r = true) : r.length ≤ 6 ∧ Bd r ∧ f (pr r) = true := by
  unfold okR at h
  rw [Bool.and_eq_true, Bool.and_eq_true] at h
  refine ⟨of_decide_eq_true h.1, fun z hz => ?_, h.2.2⟩
  have := List.all_eq_true.mp h.2.1 z hz
  rw [Bool.and_eq_true] at this
  exact ⟨of_decide_eq_true this.1, of_decide_eq_true this.2⟩
def rFew (K : PySem.W.Frag) : V → Hp → VK → Prop := fun p H Q => ∃ (d a : Addr) (ns : List Int) (c : Int), p = .ref d ∧ Pen K H d a ns c ∧ c + 20 ≤ 1000000 ∧
  ∀ b H' (ms : List Nat), H' b = some (.tup (iv ms)) → ms.length ≤ 6 → Bd ms → pr ms ≤ 400 → Pen K H' d a ns (c + 20) → But d H H' → Q (.ref b) H'
theorem ok_law_few (T : Txt K mg) : Fn P w K mg base 2 "_law_few" ["_law_pen_here"] (sp1 (rFew K)) := by
  have G_law_draw := ok_law_draw (P := P) (w := w) (base := base) T
  refine T.d_law_few.ok sc_law_few len1 fun f cdv A outer s H vs Q E hr hg h => ?_
  obtain ⟨_, rfl, d, a, ns, c, rfl, hp, hc, q⟩ := h
  refine ⟨_, (pss_cons (ps_set (i := 1) sc_law_few.nd rfl (by first | exact Or.inl rfl | exact Or.inr rfl) (pe_fn G_law_draw (hr.mono (by decide)) hg (by rfl) (pa_cons (pv 0) (pa_cons pe_int pa_nil))))
(pss_cons (ps_if (pt_cmpR op_eq (pv 1) pe_int (nomark _))
(pss_cons (ps_set (i := 2) sc_law_few.nd rfl (by first | exact Or.inl rfl | exact Or.inr rfl) (pe_lst (pa_cons (pe_tup (pa_cons pe_int pa_nil)) (pa_cons (pe_tup (pa_cons pe_int (pa_cons pe_int pa_nil))) (pa_cons (pe_tup (pa_cons pe_int (pa_cons pe_int (pa_cons pe_int (pa_cons pe_int (pa_cons pe_int (pa_cons pe_int pa_nil))))))) (pa_cons (pe_tup (pa_cons pe_int (pa_cons pe_int (pa_cons pe_int pa_nil)))) (pa_cons (pe_tup (pa_cons pe_int (pa_cons pe_int pa_nil))) (pa_cons (pe_tup (pa_cons pe_int (pa_cons pe_int (pa_cons pe_int (pa_cons pe_int (pa_cons pe_int pa_nil)))))) pa_nil))))))))
(pss_cons (ps_set (i := 2) sc_law_few.nd rfl (by first | exact Or.inl rfl | exact Or.inr rfl) (pe_op op_cat (pv 2) (pe_lst (pa_cons (pe_tup (pa_cons pe_int (pa_cons pe_int (pa_cons pe_int (pa_cons pe_int (pa_cons pe_int (pa_cons pe_int pa_nil))))))) (pa_cons (pe_tup pa_nil) (pa_cons (pe_tup (pa_cons pe_int pa_nil)) pa_nil))))))
(pss_one (ps_ret (pe_ix (ixL_K (K := K) rfl) (pv 2) (pe_fn G_law_draw (hr.mono (by decide)) hg (by rfl) (pa_cons (pv 0) (pa_cons (pe_callB (len_K (K := K) rfl) (by rfl) T.n_len (by decide +kernel) (pa_cons (pv 2) pa_nil)) pa_nil))) (fun _ _ => rfl))))))
pss_nil)
(pss_cons (ps_set (i := 3) sc_law_few.nd rfl (by first | exact Or.inl rfl | exact Or.inr rfl) (pe_lst pa_nil))
(pss_cons (ps_set (i := 4) sc_law_few.nd rfl (by first | exact Or.inl rfl | exact Or.inr rfl) pe_int)
(pss_cons (ps_for PassesOwn.never rfl (pi_range1 (by rfl) T.n_range (pa_cons (pe_fn G_law_draw (hr.mono (by decide)) hg (by rfl) (pa_cons (pv 0) (pa_cons pe_int pa_nil))) pa_nil)) (pg_name (i := 5) sc_law_few.nd rfl (by first | exact Or.inl rfl | exact Or.inr rfl))
(pss_cons (ps_set (i := 6) sc_law_few.nd rfl (by first | exact Or.inl rfl | exact Or.inr rfl) (pe_op op_add pe_int (pe_fn G_law_draw (hr.mono (by decide)) hg (by rfl) (pa_cons (pv 0) (pa_cons (pe_callB (call_min2 rfl) (by rfl) T.n_min (by decide +kernel) (pa_cons (pv 4) (pa_cons (pe_ix (ixT_K (K := K) rfl) (pe_tup (pa_cons pe_int (pa_cons pe_int (pa_cons pe_int pa_nil)))) (pe_fn G_law_draw (hr.mono (by decide)) hg (by rfl) (pa_cons (pv 0) (pa_cons pe_int pa_nil))) (fun _ _ => rfl)) pa_nil))) pa_nil)))))
(pss_cons (ps_expr (pe_bm PySem.F.plainAttrs_list PySem.F.slot_list_insert PySem.F.type_list_insert mt_insert (pv 3) (pa_cons (pe_fn G_law_draw (hr.mono (by decide)) hg (by rfl) (pa_cons (pv 0) (pa_cons (pe_op op_add (pe_callB (len_K (K := K) rfl) (by rfl) T.n_len (by decide +kernel) (pa_cons (pv 3) pa_nil)) pe_int) pa_nil))) (pa_cons (pv 6) pa_nil))))
(pss_one (ps_set (i := 4) sc_law_few.nd rfl (by first | exact Or.inl rfl | exact Or.inr rfl) (pe_op op_fdiv (pv 4) (pv 6)))))))
(pss_one (ps_ret (pe_callTy (tupOf_K (K := K) rfl) (by rfl) T.n_tuple (by decide +kernel) (pa_cons (pv 3) pa_nil))))))))), ?_⟩
  refine ⟨_, rfl, _, _, rfl, d, a, ns, c, _, rfl, rfl, hp, by decide, by decide, by omega, fun way H0 w0 w1 hp1 b1 => ?_⟩
  refine ⟨_, rfl, rfl, _, rfl, ite2 (fun e1 => ?_) (fun e1 => ?_)⟩
  · have pw0 : Rws H0 [] [] := .nil
    have z0 : Same H0 H0 := fun _ _ e => e
    refine ⟨(by show 1 ≤ sizeLine; decide), fun t1 m1 => ?_⟩
    obtain ⟨z1, pw1⟩ := rws_add pw0 m1 [.int 400] [400] (by rfl)
    replace z1 := z0.trans z1
    refine ⟨(by show 2 ≤ sizeLine; decide), fun t2 m2 => ?_⟩
    obtain ⟨z2, pw2⟩ := rws_add pw1 m2 [.int 20, .int 20] [20, 20] (by rfl)
    replace z2 := z1.trans z2
    refine ⟨(by show 6 ≤ sizeLine; decide), fun t3 m3 => ?_⟩
    obtain ⟨z3, pw3⟩ := rws_add pw2 m3 [.int 2, .int 2, .int 2, .int 2, .int 5, .int 5] [2, 2, 2, 2, 5, 5] (by rfl)
    replace z3 := z2.trans z3
    refine ⟨(by show 3 ≤ sizeLine; decide), fun t4 m4 => ?_⟩
    obtain ⟨z4, pw4⟩ := rws_add pw3 m4 [.int 1, .int 399, .int 1] [1, 399, 1] (by rfl)
    replace z4 := z3.trans z4
    refine ⟨(by show 2 ≤ sizeLine; decide), fun t5 m5 => ?_⟩
    obtain ⟨z5, pw5⟩ := rws_add pw4 m5 [.int 7, .int 57] [7, 57] (by rfl)
    replace z5 := z4.trans z5
    refine ⟨(by show 5 ≤ sizeLine; decide), fun t6 m6 => ?_⟩
    obtain ⟨z6, pw6⟩ := rws_add pw5 m6 [.int 3, .int 3, .int 3, .int 3, .int 4] [3, 3, 3, 3, 4] (by rfl)
    replace z6 := z5.trans z6
    refine ⟨(by show 6 ≤ sizeLine; decide), fun l1 ml1 => ?_⟩
    obtain ⟨sl1, hl1⟩ := new_at ml1 (.lst [.ref t1, .ref t2, .ref t3, .ref t4, .ref t5, .ref t6])
    have pl1 := rws_same pw6 sl1
    have s7 := z6.trans sl1
    generalize upd (upd (upd (upd (upd (upd (upd H0 t1 _) t2 _) t3 _) t4 _) t5 _) t6 _) l1 _ = H7 at *
    clear z0 z1 z2 z3 z4 z5 z6 pw0 pw1 pw2 pw3 pw4 pw5 pw6 m1 m2 m3 m4 m5 m6 ml1 sl1
    have pw7 : Rws H7 [] [] := .nil
    have z7 : Same H7 H7 := fun _ _ e => e
    refine ⟨_, rfl, ?_⟩
    refine ⟨(by show 6 ≤ sizeLine; decide), fun t8 m8 => ?_⟩
    obtain ⟨z8, pw8⟩ := rws_add pw7 m8 [.int 1, .int 1, .int 1, .int 1, .int 1, .int 1] [1, 1, 1, 1, 1, 1] (by rfl)
    replace z8 := z7.trans z8
    refine ⟨(Nat.zero_le _), fun t9 m9 => ?_⟩
    obtain ⟨z9, pw9⟩ := rws_add pw8 m9 [] [] (by rfl)
    replace z9 := z8.trans z9
    refine ⟨(by show 1 ≤ sizeLine; decide), fun t10 m10 => ?_⟩
    obtain ⟨z10, pw10⟩ := rws_add pw9 m10 [.int 1] [1] (by rfl)
    replace z10 := z9.trans z10
    refine ⟨(by show 3 ≤ sizeLine; decide), fun l2 ml2 => ?_⟩
    have sl2 := same_new (o := .lst [.ref t8, .ref t9, .ref t10]) ml2
    refine ⟨l1, l2, _, _, rfl, rfl, (z10.trans sl2) _ _ hl1, upd_same, (by show 9 ≤ sizeLine; decide), fun l3 ml3 => ?_⟩
    obtain ⟨sl3, hl3⟩ := new_at ml3 (.lst ([.ref t1, .ref t2, .ref t3, .ref t4, .ref t5, .ref t6] ++ [.ref t8, .ref t9, .ref t10]))
    have rl3 : RL _ l3 [[400], [20, 20], [2, 2, 2, 2, 5, 5], [1, 399, 1], [7, 57], [3, 3, 3, 3, 4], [1, 1, 1, 1, 1, 1], [], [1]] := ⟨[t1, t2, t3, t4, t5, t6, t8, t9, t10], hl3, paired_app (rws_same pl1 (z10.trans (sl2.trans sl3))) (rws_same pw10 (sl2.trans sl3))⟩
    have s12 := s7.trans (z10.trans (sl2.trans sl3))
    generalize upd (upd (upd (upd (upd H7 t8 _) t9 _) t10 _) l2 _) l3 _ = H12 at *
    clear pw7 pw8 pw9 pw10 z7 z8 z9 z10 sl2 sl3 ml2 ml3 m8 m9 m10
    have hp12 := hp1.same s12
    refine ⟨_, rfl, _, rfl, _, rfl, l3, _, rfl, .inl (SqL.of hl3), _, _, rfl, d, a, ns, _, _, rfl, rfl, hp12, (by show (0 : Int) < 9; decide), (by show (9 : Int) < 1073741824; decide), by omega, fun x H13 x0 x1 hp13 b13 => ?_⟩
    obtain ⟨t, r, hat, hr1, ht⟩ := rl_pick rl3 hl3 x0 x1
    refine ⟨l3, _, _, _, rfl, rfl, SqL.of (lst_pen hp12 b13 hl3), hat, ?_⟩
    have ok : (([[400], [20, 20], [2, 2, 2, 2, 5, 5], [1, 399, 1], [7, 57], [3, 3, 3, 3, 4], [1, 1, 1, 1, 1, 1], [], [1]] : List (List Nat))).all (okR fun n => decide (n ≤ 400)) = true := by decide +kernel
    obtain ⟨r6, rb, rp⟩ := okR_of (List.all_eq_true.mp ok r hr1)
    exact q t H13 r (tup_pen hp12 b13 ht) r6 rb (of_decide_eq_true rp) (hp13.mono (by omega)) ((b1.trans (But.same s12)).trans b13)
  · refine ⟨Nat.zero_le _, fun D nD => ?_⟩
    have nDd : D ≠ d := by
      obtain ⟨kvs, hdd⟩ := pen_at3 hp1
      exact (ne_of_none hdd nD).symm
    have hp2 : Pen K (upd H0 D (.lst [])) d a ns (c + 1) := hp1.same (same_new nD)
    have b2 : But d H (upd H0 D (.lst [])) := b1.trans (But.same (same_new nD))
    have hD2 : (upd H0 D (.lst [])) D = some (.lst (iv [])) := upd_same
    have bD : But d H0 (upd H0 D (.lst [])) := But.same (same_new nD)
    generalize upd H0 D (.lst []) = H1 at *
    refine ⟨_, rfl, _, _, rfl, d, a, ns, _, _, rfl, rfl, hp2, by decide, by decide, by omega, fun n H2 n0 n1 hp3 b3 => ?_⟩
    obtain ⟨n, rfl⟩ : ∃ m : Nat, n = m := ⟨n.toNat, by omega⟩
    refine ⟨_, rfl, by omega, by omega, for_range (lo := 0) (n := n) (fun i σ H' => ∃ (o5 o6 : Option V) (l : List Nat) (left : Nat), σ = [some (.ref d), some (.int way), none, some (.ref D), some (.int (left : Int)), o5, o6] ∧ Pen K H' d a ns (c + 2 + 3 * i) ∧ But d H0 H' ∧ H' D = some (.lst (iv l)) ∧ l.length = i ∧ Bd l ∧ 1 ≤ left ∧ left * pr l ≤ 400)
      ⟨none, none, [], 400, rfl, hp3.mono (by omega), bD.trans b3, b3 _ _ nDd hD2, rfl, fun z hz => by simp at hz, by decide, by decide⟩ ?_ ?_⟩
    · rintro i σ H3 il ⟨o5, o6, l, left, rfl, hp4, b4, hD4, ll, bl, l1, lp⟩
      have lb : left ≤ 400 := Nat.le_trans (Nat.le_mul_of_pos_right _ (pr_pos bl.one)) lp
      refine ⟨_, rfl, _, rfl, (by show 3 ≤ sizeLine; decide), fun t nt => ?_⟩
      have hp5 := hp4.same (same_new (o := .tup [.int 3, .int 8, .int 30]) nt)
      refine ⟨_, rfl, _, _, rfl, d, a, ns, _, _, rfl, rfl, hp5, by decide, by decide, by omega, fun x H4 x0 x1 hp6 b6 => ?_⟩
      obtain ⟨z, hz, hat⟩ := cell_in (ns := [3, 8, 30]) x0 x1
      have hz2 : 3 ≤ z ∧ z ≤ 30 := by
        simp only [List.mem_cons, List.not_mem_nil, or_false] at hz
        omega
      refine ⟨t, _, _, _, rfl, rfl, SqT.of (tup_pen hp5 b6 upd_same), hat, _, _, rfl, ?_⟩
      obtain ⟨mn, emn, m1, m2, m3⟩ : ∃ mn : Int, (if z < (left : Int) then z else (left : Int)) = mn ∧ 1 ≤ mn ∧ mn ≤ (left : Int) ∧ mn ≤ 30 := by
        by_cases y : z < (left : Int)
        · exact ⟨z, by rw [if_pos y], by omega, by omega, by omega⟩
        · exact ⟨left, by rw [if_neg y], by omega, by omega, by omega⟩
      rw [emn]
      refine ⟨_, _, rfl, d, a, ns, _, _, rfl, rfl, hp6, by omega, by omega, by omega, fun y H5 y0 y1 hp7 b7 => ?_⟩
      obtain ⟨y, rfl⟩ : ∃ m : Nat, y = m := ⟨y.toNat, by omega⟩
      refine ⟨_, _, rfl, rfl, ?_⟩
      have b35 : But d H3 H5 := (But.new nt).trans (b6.trans b7)
      have hD5 := b35 _ _ nDd hD4
      refine ⟨_, rfl, .inl ⟨rfl, _, SqL.of hD5⟩, _, rfl, _, rfl, D, _, rfl, .inl (SqL.of hD5), _, _, rfl, rfl, _, _, rfl, d, a, ns, _, _, rfl, rfl, hp7, by rw [iv_len]; omega, by rw [iv_len]; omega, by omega, fun k H6 k0 k1 hp8 b8 => ?_⟩
      rw [iv_len] at k1
      obtain ⟨k, rfl⟩ : ∃ m : Nat, k = m := ⟨k.toNat, by omega⟩
      have hD6 := b8 _ _ nDd hD5
      refine ⟨_, rfl, D, _, _, _, rfl, rfl, hD6, by rw [iv_len]; exact small1000 (by omega), k0, by omega, ?_⟩
      have ei : (iv l).take ((k : Int)).toNat ++ [V.int (1 + (y : Int))] ++ (iv l).drop ((k : Int)).toNat = iv (l.take k ++ [1 + y] ++ l.drop k) := by
        rw [Int.toNat_natCast, iv_app, iv_app]
        unfold iv
        rw [List.map_take, List.map_drop]
        rfl
      rw [ei]
      refine ⟨_, rfl, _, rfl, _, _, rfl, rfl, ⟨by omega, by omega⟩, ?_⟩
      have xl : 1 + y ≤ left := by omega
      refine ⟨some (.int (0 + (i : Int))), some (.int (1 + (y : Int))), l.take k ++ [1 + y] ++ l.drop k, left / (1 + y), ?_, ?_, but_up (b4.trans (b35.trans b8)) nD, upd_same, ?_, ?_, ?_, ?_⟩
      · have ed : (left : Int) / (1 + (y : Int)) = ((left / (1 + y) : Nat) : Int) := by
          rw [Int.natCast_ediv]
          rfl
        rw [← ed]
        rfl
      · exact pen_up hp1 (b4.trans (b35.trans b8)) (hp8.mono (by omega)) nD
      · rw [List.length_append, List.length_append, List.length_take, List.length_drop, List.length_singleton]
        omega
      · intro w hw
        rcases List.mem_append.mp hw with h1 | h1
        · rcases List.mem_append.mp h1 with h2 | h2
          · exact bl w (List.mem_of_mem_take h2)
          · rw [List.mem_singleton.mp h2]
            omega
        · exact bl w (List.mem_of_mem_drop h1)
      · exact Nat.div_pos xl (by omega)
      · rw [pr_ins, Nat.mul_comm (pr l), ← Nat.mul_assoc]
        exact Nat.le_trans (Nat.mul_le_mul_right _ (Nat.div_mul_le_self left (1 + y))) lp
    · rintro σ H3 ⟨o5, o6, l, left, rfl, hp4, b4, hD4, ll, bl, l1, lp⟩
      refine ⟨_, rfl, D, _, rfl, .inl ⟨SqL.of hD4, fun R nR => ?_⟩⟩
      have p4 : pr l ≤ 400 := Nat.le_trans (Nat.le_mul_of_pos_left _ l1) lp
      exact q R _ l upd_same (by omega) bl p4 ((hp4.same (same_new nR)).mono (by omega)) ((b1.trans b4).trans (But.new nR))

theorem nats_of {hs : List Int} (h : ∀ x ∈ hs, 1 ≤ x ∧ x ≤ 1000000) : ∃ ms : List Nat, hs.map V.int = iv ms ∧ ms.length = hs.length ∧ Bd ms := by
  refine ⟨hs.map Int.toNat, ?_, List.length_map _, fun z hz => ?_⟩
  · unfold iv
    rw [List.map_map]
    refine List.map_congr_left fun x hx => ?_
    have := h x hx
    show V.int x = V.int ((x.toNat : Nat) : Int)
    rw [Int.toNat_of_nonneg (by omega)]
  · obtain ⟨x, hx, rfl⟩ := List.mem_map.mp hz
    have := h x hx
    omega

theorem rl_pen {H H' : Hp} {d a R : Addr} {ns : List Int} {c : Int} {xs : List (List Nat)} (p : Pen K H d a ns c) (b : But d H H') (h : RL H R xs) : RL H' R xs := by
  obtain ⟨kvs, hd⟩ := pen_at3 p
  obtain ⟨us, hR⟩ := h.lst
  exact h.but b hd (by intro xs z; cases z) (ne_of hR hd (by intro z; cases z))
def rMany (K : PySem.W.Frag) : V → Hp → VK → Prop := fun p H Q => ∃ (d a : Addr) (ns : List Int) (c : Int), p = .ref d ∧ Pen K H d a ns c ∧ c + 20 ≤ 1000000 ∧
  ∀ b H' (ms : List Nat), H' b = some (.tup (iv ms)) → ms.length ≤ 6 → Bd ms → 400 < pr ms → Pen K H' d a ns (c + 20) → But d H H' → Q (.ref b) H'
theorem ok_law_many (T : Txt K mg) : Fn P w K mg base 4 "_law_many" ["_law_pen_here"] (sp1 (rMany K)) := by
  have G_law_draw := ok_law_draw (P := P) (w := w) (base := base) T
  have G_law_house := ok_law_house (P := P) (w := w) (base := base) T
  have G_law_size := ok_law_size (P := P) (w := w) (base := base) T
  refine T.d_law_many.ok sc_law_many len1 fun f cdv A outer s H0 vs Q E hr hg h => ?_
  obtain ⟨_, rfl, d, a, ns, c, rfl, hp, hc, q⟩ := h
  refine ⟨_, (pss_cons (ps_set (i := 1) sc_law_many.nd rfl (by first | exact Or.inl rfl | exact Or.inr rfl) (pe_lst (pa_cons (pe_tup (pa_cons pe_int pa_nil)) (pa_cons (pe_tup (pa_cons pe_int (pa_cons pe_int (pa_cons pe_int pa_nil)))) (pa_cons (pe_tup (pa_cons pe_int (pa_cons pe_int pa_nil))) (pa_cons (pe_tup (pa_cons pe_int (pa_cons pe_int (pa_cons pe_int (pa_cons pe_int (pa_cons pe_int (pa_cons pe_int pa_nil))))))) (pa_cons (pe_tup (pa_cons pe_int (pa_cons pe_int pa_nil))) (pa_cons (pe_op op_repN (pe_tup (pa_cons (pe_op op_pow pe_int pe_int) pa_nil)) pe_int) (pa_cons (pe_tup (pa_cons pe_int (pa_cons pe_int (pa_cons pe_int (pa_cons pe_int (pa_cons pe_int pa_nil)))))) pa_nil)))))))))
(pss_cons (ps_set (i := 2) sc_law_many.nd rfl (by first | exact Or.inl rfl | exact Or.inr rfl) (pe_fn G_law_house (hr.mono (by decide)) hg (by rfl) (pa_cons (pv 0) pa_nil)))
(pss_cons (ps_if (PW.pt (pw_or (pt_cmpR op_eq (pe_fn G_law_draw (hr.mono (by decide)) hg (by rfl) (pa_cons (pv 0) (pa_cons pe_int pa_nil))) pe_int (nomark _)) (pw_or1 (pt_cmpR op_lt (pe_fn G_law_size (hr.mono (by decide)) hg (by rfl) (pa_cons (pv 2) pa_nil)) pe_int (nomark _)))))
(pss_one (ps_ret (pe_ix (ixL_K (K := K) rfl) (pv 1) (pe_fn G_law_draw (hr.mono (by decide)) hg (by rfl) (pa_cons (pv 0) (pa_cons (pe_callB (len_K (K := K) rfl) (by rfl) T.n_len (by decide +kernel) (pa_cons (pv 1) pa_nil)) pa_nil))) (fun _ _ => rfl))))
pss_nil)
(pss_one (ps_ret (pv 2)))))), ?_⟩
  have pw0 : Rws H0 [] [] := .nil
  have z0 : Same H0 H0 := fun _ _ e => e
  refine ⟨(by show 1 ≤ sizeLine; decide), fun t1 m1 => ?_⟩
  obtain ⟨z1, pw1⟩ := rws_add pw0 m1 [.int 401] [401] (by rfl)
  replace z1 := z0.trans z1
  refine ⟨(by show 3 ≤ sizeLine; decide), fun t2 m2 => ?_⟩
  obtain ⟨z2, pw2⟩ := rws_add pw1 m2 [.int 1, .int 401, .int 1] [1, 401, 1] (by rfl)
  replace z2 := z1.trans z2
  refine ⟨(by show 2 ≤ sizeLine; decide), fun t3 m3 => ?_⟩
  obtain ⟨z3, pw3⟩ := rws_add pw2 m3 [.int 20, .int 21] [20, 21] (by rfl)
  replace z3 := z2.trans z3
  refine ⟨(by show 6 ≤ sizeLine; decide), fun t4 m4 => ?_⟩
  obtain ⟨z4, pw4⟩ := rws_add pw3 m4 [.int 2, .int 2, .int 2, .int 2, .int 2, .int 13] [2, 2, 2, 2, 2, 13] (by rfl)
  replace z4 := z3.trans z4
  refine ⟨(by show 2 ≤ sizeLine; decide), fun t5 m5 => ?_⟩
  obtain ⟨z5, pw5⟩ := rws_add pw4 m5 [.int 8, .int 51] [8, 51] (by rfl)
  replace z5 := z4.trans z5
  refine ⟨10, 6, rfl, rfl, ⟨by decide, by decide, by decide⟩, (by show 1 ≤ sizeLine; decide), fun u6 m6 => ⟨u6, _, 6, rfl, rfl, upd_same, by decide, fun t6 G6 y6 hp6 => ?_⟩⟩
  have hp6' : G6 t6 = some (.tup (iv [1000000, 1000000, 1000000, 1000000, 1000000, 1000000])) := hp6.trans (by
    show some (HO.tup (List.replicate 6 (V.int ((10 : Int) ^ (6 : Int).toNat)))) = _
    rw [show (10 : Int) ^ (6 : Int).toNat = 1000000 by decide]
    rfl)
  have z6 := z5.trans ((same_new m6).trans y6)
  have pw6 := paired_snoc (R := fun t (x : List Nat) => G6 t = some (.tup (iv x))) hp6' (rws_same pw5 ((same_new m6).trans y6))
  refine ⟨(by show 5 ≤ sizeLine; decide), fun t7 m7 => ?_⟩
  obtain ⟨z7, pw7⟩ := rws_add pw6 m7 [.int 3, .int 3, .int 3, .int 3, .int 5] [3, 3, 3, 3, 5] (by rfl)
  replace z7 := z6.trans z7
  refine ⟨(by show 7 ≤ sizeLine; decide), fun l1 ml1 => ?_⟩
  obtain ⟨sl1, hl1⟩ := new_at ml1 (.lst [.ref t1, .ref t2, .ref t3, .ref t4, .ref t5, .ref t6, .ref t7])
  have rl1 : RL _ l1 [[401], [1, 401, 1], [20, 21], [2, 2, 2, 2, 2, 13], [8, 51], [1000000, 1000000, 1000000, 1000000, 1000000, 1000000], [3, 3, 3, 3, 5]] := ⟨[t1, t2, t3, t4, t5, t6, t7], hl1, rws_same pw7 sl1⟩
  have s8 := z7.trans sl1
  generalize upd (upd G6 t7 _) l1 _ = H8 at *
  clear pw0 pw1 pw2 pw3 pw4 pw5 pw6 pw7 z0 z1 z2 z3 z4 z5 z6 z7 sl1 ml1
  have ok : ([[401], [1, 401, 1], [20, 21], [2, 2, 2, 2, 2, 13], [8, 51], [1000000, 1000000, 1000000, 1000000, 1000000, 1000000], [3, 3, 3, 3, 5]] : List (List Nat)).all (okR fun n => decide (400 < n)) = true := by decide +kernel
  have hp8 := hp.same s8
  refine ⟨_, rfl, _, rfl, d, a, ns, _, rfl, hp8, by omega, fun hb H9 hs hhb h6 hx hp9 b9 => ?_⟩
  obtain ⟨ms, ems, ml, bd⟩ := nats_of hx
  rw [ems] at hhb
  have m6' : ms.length ≤ 6 := by omega
  refine ⟨_, rfl, _, _, rfl, d, a, ns, _, _, rfl, rfl, hp9, by decide, by decide, by omega, fun y H10 y0 y1 hp10 b10 => ?_⟩
  have hl10 := lst_pen hp9 b10 (lst_pen hp8 b9 hl1)
  have rl10 := rl_pen hp9 b10 (rl_pen hp8 b9 rl1)
  have hb10 := tup_pen hp9 b10 hhb
  refine ⟨rfl, _, rfl, ite2 (fun e => ite2 (fun _ => ?_) (fun e => absurd rfl e)) (fun e => ?_)⟩
  · refine ⟨_, rfl, _, rfl, _, rfl, l1, _, rfl, .inl (SqL.of hl10), _, _, rfl, d, a, ns, _, _, rfl, rfl, hp10, (by show (0 : Int) < 7; decide), (by show (7 : Int) < 1073741824; decide), by omega, fun x H11 x0 x1 hp11 b11 => ?_⟩
    obtain ⟨t, r, hat, hr1, ht⟩ := rl_pick rl10 hl10 x0 x1
    refine ⟨l1, _, _, _, rfl, rfl, SqL.of (lst_pen hp10 b11 hl10), hat, ?_⟩
    obtain ⟨r6, rb, rp⟩ := okR_of (List.all_eq_true.mp ok r hr1)
    exact q t H11 r (tup_pen hp10 b11 ht) r6 rb (of_decide_eq_true rp) (hp11.mono (by omega)) ((((But.same s8).trans b9).trans b10).trans b11)
  · refine ⟨_, rfl, _, rfl, hb, ms, rfl, hb10, m6', bd, _, _, rfl, rfl, _, rfl, ite2 (fun e => ?_) (fun e => ?_)⟩
    · refine ⟨_, rfl, _, rfl, _, rfl, l1, _, rfl, .inl (SqL.of hl10), _, _, rfl, d, a, ns, _, _, rfl, rfl, hp10, (by show (0 : Int) < 7; decide), (by show (7 : Int) < 1073741824; decide), by omega, fun x H11 x0 x1 hp11 b11 => ?_⟩
      obtain ⟨t, r, hat, hr1, ht⟩ := rl_pick rl10 hl10 x0 x1
      refine ⟨l1, _, _, _, rfl, rfl, SqL.of (lst_pen hp10 b11 hl10), hat, ?_⟩
      obtain ⟨r6, rb, rp⟩ := okR_of (List.all_eq_true.mp ok r hr1)
      exact q t H11 r (tup_pen hp10 b11 ht) r6 rb (of_decide_eq_true rp) (hp11.mono (by omega)) ((((But.same s8).trans b9).trans b10).trans b11)
    · have hl : 400 < pr ms := by
        have : ¬ (pr ms : Int) < 401 := of_decide_eq_false (Bool.eq_false_iff.mpr e)
        omega
      exact ⟨_, rfl, q hb H10 ms hb10 m6' bd hl (hp10.mono (by omega)) (((But.same s8).trans b9).trans b10)⟩

/-! ### told rows as a text -/
def ni (l : List Nat) : List Int := l.map fun n : Nat => (n : Int)
def listR (xs : List (List Nat)) : PyData := .list (xs.map fun x => rowD (ni x))
theorem dp_rl {H : Hp} : ∀ {ts : List Addr} {xs : List (List Nat)}, Rws H ts xs → DpAll K H (ts.map V.ref) (xs.map fun x => rowD (ni x))
  | _, _, .nil => .nil
  | _, _, .cons h t => .cons (TI.dp ⟨_, rfl, by rw [h, iv_eq]; rfl⟩) (dp_rl t)
theorem small_all {x : Nat} (h : x < 2 ^ 120) : ((x : Int)).natAbs < 2 ^ 1000 := by
  rw [Int.natAbs_natCast]
  exact Nat.lt_trans h (by decide +kernel)
theorem show_rl : ∀ {xs : List (List Nat)}, (∀ x ∈ xs, x.length ≤ 6 ∧ ∀ e ∈ x, e < 2 ^ 120) → PyData.showableAll (xs.map fun x => rowD (ni x)) = true ∧ PyData.hasDictAll (xs.map fun x => rowD (ni x)) = false ∧ PyData.leavesShortAll 1001 (xs.map fun x => rowD (ni x)) = true ∧ PyData.bulkAll (xs.map fun x => rowD (ni x)) ≤ 7 * xs.length
  | [], _ => ⟨rfl, rfl, rfl, Nat.le_refl _⟩
  | x :: r, h => by
    obtain ⟨h1, h2, h3, h4⟩ := show_rl fun y hy => h y (List.mem_cons_of_mem _ hy)
    obtain ⟨s1, s3⟩ := h x List.mem_cons_self
    have hb : ∀ y ∈ ni x, y.natAbs < 2 ^ 1000 := fun y hy => by
      obtain ⟨z, hz, rfl⟩ := List.mem_map.mp hy
      exact small_all (s3 z hz)
    obtain ⟨g1, g2, g3, g4⟩ := show_ints hb
    have nl : (ni x).length = x.length := List.length_map _
    refine ⟨?_, ?_, ?_, ?_⟩
    · show (PyData.showableAll ((ni x).map .int) && PyData.showableAll (r.map fun x => rowD (ni x))) = true
      rw [h1, g1]
      rfl
    · show (PyData.hasDictAll ((ni x).map .int) || PyData.hasDictAll (r.map fun x => rowD (ni x))) = false
      rw [h2, g2]
      rfl
    · show (PyData.leavesShortAll 1001 ((ni x).map .int) && PyData.leavesShortAll 1001 (r.map fun x => rowD (ni x))) = true
      rw [h3, g3]
      rfl
    · show PyData.bulkAll ((ni x).map .int) + 1 + PyData.bulkAll (r.map fun x => rowD (ni x)) ≤ 7 * (r.length + 1)
      rw [g4, nl]
      omega
theorem depth_rl : ∀ xs : List (List Nat), PyData.depthAll (xs.map fun x => rowD (ni x)) ≤ 2
  | [] => by decide
  | x :: r => by
    have h1 := depth_rl r
    have h2 := depth_row (ni x)
    show max (PyData.depth (rowD (ni x))) (PyData.depthAll (r.map fun x => rowD (ni x))) ≤ 2
    omega
theorem repr_rl {H : Hp} {R : Addr} {xs : List (List Nat)} (h : RL H R xs) (hl : xs.length ≤ 400) (g : ∀ x ∈ xs, x.length ≤ 6 ∧ ∀ e ∈ x, e < 2 ^ 120) : Dp K H (.ref R) (listR xs) ∧ (listR xs).showable = true ∧ (listR xs).hasDict = false ∧ (listR xs).depth ≤ 60 ∧ (listR xs).shown.length ≤ sizeLine := by
  obtain ⟨ts, h1, h2⟩ := h
  obtain ⟨s1, s2, s3, s4⟩ := show_rl g
  refine ⟨.lst (SqL.of h1) (dp_rl h2), s1, s2, ?_, ?_⟩
  · have := depth_rl xs
    have e : (listR xs).depth = PyData.depthAll (xs.map fun x => rowD (ni x)) + 1 := by simp [listR, PyData.depth]
    omega
  · have hb2 := PyData.shown_le_bulk 1001 (by decide) (listR xs) s3
    have e : (listR xs).bulk ≤ 7 * 400 := Nat.le_trans s4 (Nat.mul_le_mul_left _ hl)
    exact Nat.le_trans hb2 (Nat.le_trans (Nat.add_le_add_right (Nat.mul_le_mul_left _ e) _) (by decide))
def Gh (ms : List Nat) : Prop := ms.length ≤ 6 ∧ Bd ms ∧ pr ms ≤ 400
theorem repr_lex {H : Hp} {R : Addr} {ms : List Nat} (h : RL H R (lex ms)) (g : Gh ms) : Dp K H (.ref R) (listR (lex ms)) ∧ (listR (lex ms)).showable = true ∧ (listR (lex ms)).hasDict = false ∧ (listR (lex ms)).depth ≤ 60 ∧ (listR (lex ms)).shown.length ≤ sizeLine := by
  obtain ⟨g1, g2, g3⟩ := g
  refine repr_rl h (by rw [lex_len]; exact g3) fun x hx => ?_
  obtain ⟨e1, e2⟩ := lex_mem ms x hx
  refine ⟨by omega, fun e he => ?_⟩
  obtain ⟨m, hm, lt⟩ := e2 e he
  have := (g2 m hm).2
  have : (1000000 : Nat) < 2 ^ 120 := by decide
  omega
def rReprI : List V → Hp → VK → Prop := fun xs H Q => ∃ i : Int, xs = [.int i] ∧ i.natAbs < 2 ^ 1000 ∧ Q (.str (Str.ofString (toString i))) H
theorem call_reprI {X : Cx} : CallR X (.builtin "repr") rReprI := by
  intro pins s σ H xs us Q I r h
  obtain ⟨i, rfl, hm, q⟩ := h
  obtain ⟨u, rfl, t, rfl⟩ := vals1 r
  have hz : i.natAbs.log2 < 1920 := by
    have := log_big hm
    omega
  exact PySem.P.repr_of_int hz ⟨.str _, H, I.tok _, ⟨_, rfl⟩, q⟩
/-! ### what is held -/
def HL (H : Hp) (L : Addr) (es : List (Addr × List Nat)) : Prop := ∃ ts : List Addr, H L = some (.lst (ts.map V.ref)) ∧ Paired (fun t (e : Addr × List Nat) => H t = some (.tup [.str (listR (lex e.2)).shown, .ref e.1]) ∧ RL H e.1 (lex e.2) ∧ Gh e.2 ∧ e.1 ≠ L) ts es
theorem HL.same {H H' : Hp} {L : Addr} {es : List (Addr × List Nat)} (h : HL H L es) (s : Same H H') : HL H' L es := by
  obtain ⟨ts, h1, h2⟩ := h
  exact ⟨ts, s _ _ h1, Paired.mapP h2 fun t x ⟨e1, e2, e3, e4⟩ => ⟨s _ _ e1, e2.same s, e3, e4⟩⟩
theorem HL.pen {H H' : Hp} {L d a : Addr} {ns : List Int} {c : Int} {es : List (Addr × List Nat)} (p : Pen K H d a ns c) (b : But d H H') (h : HL H L es) : HL H' L es := by
  obtain ⟨ts, h1, h2⟩ := h
  exact ⟨ts, lst_pen p b h1, Paired.mapP h2 fun t x ⟨e1, e2, e3, e4⟩ => ⟨tup_pen p b e1, rl_pen p b e2, e3, e4⟩⟩
theorem HL.add {H : Hp} {L t R : Addr} {es : List (Addr × List Nat)} {us : List V} {ms : List Nat} (h : HL H L es) (hL : H L = some (.lst us)) (nt : H t = none) (rl : RL H R (lex ms)) (g : Gh ms) (nR : R ≠ L) :
    HL (upd (upd H t (.tup [.str (listR (lex ms)).shown, .ref R])) L (.lst (us ++ [.ref t]))) L (es ++ [(R, ms)]) := by
  obtain ⟨ts, h1, h2⟩ := h
  rw [hL] at h1
  have e1 : us = ts.map V.ref := by
    injection h1 with h1
    injection h1
  have s := same_new (H := H) (o := .tup [.str (listR (lex ms)).shown, .ref R]) nt
  have hL2 := s _ _ hL
  have old : Paired (fun t' (e : Addr × List Nat) => (upd (upd H t (.tup [.str (listR (lex ms)).shown, .ref R])) L (.lst (us ++ [.ref t]))) t' = some (.tup [.str (listR (lex e.2)).shown, .ref e.1]) ∧ RL (upd (upd H t (.tup [.str (listR (lex ms)).shown, .ref R])) L (.lst (us ++ [.ref t]))) e.1 (lex e.2) ∧ Gh e.2 ∧ e.1 ≠ L) ts es := by
    refine Paired.mapP h2 ?_
    rintro b pe ⟨z1, z2, z3, z4⟩
    refine ⟨?_, ?_, z3, z4⟩
    · rw [upd_ne (ne_of (s _ _ z1) hL2 (by intro z; cases z))]
      exact s _ _ z1
    · exact (z2.same s).but But.upd hL2 (by intro xs z; cases z) z4
  refine ⟨ts ++ [t], by rw [upd_same, e1, List.map_append]; rfl, paired_snoc ⟨?_, ?_, g, nR⟩ old⟩
  · rw [upd_ne (ne_of_none hL nt).symm, upd_same]
  · exact (rl.same s).but But.upd hL2 (by intro xs z; cases z) nR
theorem HL.lst {H : Hp} {L : Addr} {es : List (Addr × List Nat)} (h : HL H L es) : ∃ us, H L = some (.lst us) ∧ us.length = es.length := by
  obtain ⟨ts, h1, h2⟩ := h
  exact ⟨_, h1, by rw [List.length_map, Paired.length h2]⟩
/-! ### the law -/
def spLaw (K : PySem.W.Frag) : Sp := fun vs H Q _ => ∃ (a : Addr) (ns : List Int), vs = [.ref a] ∧ SqL K H a (ns.map V.int) ∧ ns.length ≤ 63 ∧ ∀ H', Q (.bl true) H'
theorem kit_lstK : kitB (tyK .lst) "list" = some true := by decide +kernel
theorem ok_law {f : Addr} {fd : FuncData} (T : Txt K mg) (Fu : Fun K "law" "law" s_law f fd) : FnG P w K mg base CX0 5 f fd ["_law_script"] (spLaw K) := by
  obtain ⟨DE, he⟩ := T.x_TooGreat
  have G_law_pen := ok_law_pen (P := P) (w := w) (base := base) T
  have G_law_few := ok_law_few (P := P) (w := w) (base := base) T
  have G_law_many := ok_law_many (P := P) (w := w) (base := base) T
  have G_law_things := ok_law_things (P := P) (w := w) (base := base) T
  have G_things := ok_things (P := P) (w := w) (base := base) T he
  have G_size := ok_size (P := P) (w := w) (base := base) T
  have G_law_size := ok_law_size (P := P) (w := w) (base := base) T
  have G_law_refused := ok_law_refused (P := P) (w := w) (base := base) T he
  refine fng_mk Fu sc_law (fun vs H Q E h => ?_) (fun cdv A outer s H vs Q E hr hg h => ?_)
  · obtain ⟨a, ns, rfl, _⟩ := h
    rfl
  obtain ⟨a0, ns, rfl, hS, hl, q⟩ := h
  refine ⟨_, PSs.nox (pss_cons (ps_set (i := 1) sc_law.nd rfl (by first | exact Or.inl rfl | exact Or.inr rfl) (pe_fn G_law_pen (hr.mono (by decide)) hg (by rfl) (pa_cons (pv 0) pa_nil)))
(pss_cons (ps_set (i := 2) sc_law.nd rfl (by first | exact Or.inl rfl | exact Or.inr rfl) (pe_lst pa_nil))
(pss_cons (ps_for PassesOwn.never rfl (pi_range1 (by rfl) T.n_range (pa_cons pe_int pa_nil)) (pg_name (i := 3) sc_law.nd rfl (by first | exact Or.inl rfl | exact Or.inr rfl))
(pss_cons (ps_set (i := 4) sc_law.nd rfl (by first | exact Or.inl rfl | exact Or.inr rfl) (pe_fn G_law_few (hr.mono (by decide)) hg (by rfl) (pa_cons (pv 1) pa_nil)))
(pss_cons (ps_set (i := 5) sc_law.nd rfl (by first | exact Or.inl rfl | exact Or.inr rfl) (pe_fn G_law_things (hr.mono (by decide)) hg (by rfl) (pa_cons (pv 4) pa_nil)))
(pss_cons (ps_set (i := 6) sc_law.nd rfl (by first | exact Or.inl rfl | exact Or.inr rfl) (pe_fnX G_things (hr.mono (by decide)) hg (by rfl) pass_no (pa_cons (pv 4) pa_nil)))
(pss_cons (ps_if (PW.pt (pw_or (pt_not (pt_val (pe_callB (isi_K (K := K) rfl) (by rfl) T.n_isinstance (by decide +kernel) (pa_cons (pv 6) (pa_cons (pe_bltn (v := .ty "list") (by rfl) T.n_list (by decide +kernel) rfl) pa_nil))))) (pw_or (pt_cmpR op_ne (pe_callB (call_repr (K := K) hr hg rfl) (by rfl) T.n_repr (by decide +kernel) (pa_cons (pv 6) pa_nil)) (pe_callB (call_repr (K := K) hr hg rfl) (by rfl) T.n_repr (by decide +kernel) (pa_cons (pv 5) pa_nil)) (nomark _)) (pw_or1 (pt_cmpR op_ne (pe_callB call_reprI (by rfl) T.n_repr (by decide +kernel) (pa_cons (pe_fn G_size (hr.mono (by decide)) hg (by rfl) (pa_cons (pv 4) pa_nil)) pa_nil)) (pe_callB call_reprI (by rfl) T.n_repr (by decide +kernel) (pa_cons (pe_callB (len_K (K := K) rfl) (by rfl) T.n_len (by decide +kernel) (pa_cons (pv 5) pa_nil)) pa_nil)) (nomark _))))))
(pss_one (ps_ret pe_bl))
pss_nil)
(pss_cons (ps_expr (pe_bm PySem.F.plainAttrs_list PySem.F.slot_list_append PySem.F.type_list_append mt_append (pv 2) (pa_cons (pe_tup (pa_cons (pe_callB (call_repr (K := K) hr hg rfl) (by rfl) T.n_repr (by decide +kernel) (pa_cons (pv 5) pa_nil)) (pa_cons (pv 6) pa_nil))) pa_nil)))
(pss_cons (ps_expr (pe_bm PySem.F.plainAttrs_list PySem.F.slot_list_append PySem.F.type_list_append mt_append (pe_fnX G_things (hr.mono (by decide)) hg (by rfl) pass_no (pa_cons (pv 4) pa_nil)) (pa_cons pe_non pa_nil)))
(pss_cons (ps_if (pt_cmpR op_ne (pe_callB (call_repr (K := K) hr hg rfl) (by rfl) T.n_repr (by decide +kernel) (pa_cons (pe_fnX G_things (hr.mono (by decide)) hg (by rfl) pass_no (pa_cons (pv 4) pa_nil)) pa_nil)) (pe_callB (call_repr (K := K) hr hg rfl) (by rfl) T.n_repr (by decide +kernel) (pa_cons (pv 5) pa_nil)) (nomark _))
(pss_one (ps_ret pe_bl))
pss_nil)
(pss_cons (ps_set (i := 7) sc_law.nd rfl (by first | exact Or.inl rfl | exact Or.inr rfl) (pe_fn G_law_many (hr.mono (by decide)) hg (by rfl) (pa_cons (pv 1) pa_nil)))
(pss_one (ps_if (PW.pt (pw_or (pt_not (pt_val (pe_fn G_law_refused (hr.mono (by decide)) hg (by rfl) (pa_cons (pv 7) pa_nil)))) (pw_or1 (pt_cmpR op_ne (pe_callB call_reprI (by rfl) T.n_repr (by decide +kernel) (pa_cons (pe_fn G_size (hr.mono (by decide)) hg (by rfl) (pa_cons (pv 7) pa_nil)) pa_nil)) (pe_callB call_reprI (by rfl) T.n_repr (by decide +kernel) (pa_cons (pe_fn G_law_size (hr.mono (by decide)) hg (by rfl) (pa_cons (pv 7) pa_nil)) pa_nil)) (nomark _)))))
(pss_one (ps_ret pe_bl))
pss_nil)))))))))))
(pss_one (ps_ret (pe_cmpR (op_eqLE hr) (pe_lc (own := [("_law_one", 8), ("_law_found", 6)]) (g := gTup K 2 (gCons (gName 8) (gCons (gName 6) gNil))) rfl sc_law.nd (piL_K (K := K) rfl (pv 2)) (blkOk_by (own := [("_law_one", 8), ("_law_found", 6)]) (N := N_law) (sc := defScope s_law) (by decide +kernel)) (fun _ _ _ _ _ => (pg_tup rfl (pgs_cons (pg_name (i := 8) sc_law.nd rfl (by first | exact Or.inl rfl | exact Or.inr rfl)) (pgs_cons (pg_name (i := 6) sc_law.nd rfl (by first | exact Or.inl rfl | exact Or.inr rfl)) pgs_nil)))) (fun _ _ _ _ _ => (pts_one (pt_cmpR op_ne (pe_callB (call_repr (K := K) hr hg rfl) (by rfl) T.n_repr (by decide +kernel) (pa_cons (pv 6) pa_nil)) (pv 8) (nomark _)))) (fun _ _ _ _ _ => (pv 8))) (pe_lst pa_nil) (nomark _))))))), ?_⟩
  refine ⟨_, rfl, _, rfl, a0, ns, rfl, hS, fun d H1 nd sm hp => ?_⟩
  refine ⟨Nat.zero_le _, fun L nL => ?_⟩
  have hp0 := hp.same (same_new (o := .lst []) nL)
  have hl0 : HL (upd H1 L (.lst [])) L [] := ⟨[], upd_same, .nil⟩
  refine ⟨2, rfl, by decide, by decide, for_range (lo := 0) (n := 2) (fun k σ H' => ∃ (o3 o4 o5 o6 o7 : Option V) (es : List (Addr × List Nat)), σ = [some (.ref a0), some (.ref d), some (.ref L), o3, o4, o5, o6, o7, none] ∧ Pen K H' d a0 ns (40 * k) ∧ HL H' L es ∧ es.length = k ∧ But d H1 H')
    ⟨none, none, none, none, none, [], rfl, by simpa using hp0, hl0, rfl, But.new nL⟩ ?_ ?_⟩
  · rintro k σ H2 hk ⟨o3, o4, o5, o6, o7, es, rfl, hp2, hl2, el, bH⟩
    refine ⟨_, rfl, _, rfl, d, a0, ns, _, rfl, hp2, by omega, fun hb H3 ms hhb m6 bd p4 hp3 b3 => ?_⟩
    have hl3 := hl2.pen hp2 b3
    have gh : Gh ms := ⟨m6, bd, p4⟩
    refine ⟨_, rfl, _, rfl, hb, ms, rfl, hhb, m6, bd, p4, fun R H4 nR s4 rl4 => ?_⟩
    refine ⟨_, rfl, hb, ms, rfl, s4 _ _ hhb, m6, bd, fun z => absurd p4 (by omega), fun _ R2 H5 nR2 s5 rl5 => ?_⟩
    have s35 := s4.trans s5
    have rlR5 := rl4.same s5
    have hp5 := hp3.same s35
    have hl5 := hl3.same s35
    have hhb5 := s35 _ _ hhb
    obtain ⟨us2, hR2⟩ := rl5.lst
    obtain ⟨usR, hR5⟩ := rlR5.lst
    have lR := rlR5.len hR5
    rw [lex_len] at lR
    obtain ⟨usL, hL5, lL⟩ := hl5.lst
    obtain ⟨x1, x2, x3, x4, x5⟩ := repr_lex (K := K) rl5 gh
    obtain ⟨y1, y2, y3, y4, y5⟩ := repr_lex (K := K) rlR5 gh
    have big : ((pr ms : Nat) : Int).natAbs < 2 ^ 1000 := small_all (pr_small bd m6)
    try dsimp only [gName]
    refine if_no (fun H' => H' = H5) (fun Q2 q2 => ?_) (fun H' e => ?_)
    · refine or_no (fun H' => H' = H5) (fun Q3 q3 => ?_) (fun H' e => ?_)
      · refine ⟨_, rfl, _, _, _, _, true, rfl, .ty "list", (HasK.lst hR2).ty, kit_ty kit_lstK, true, rfl, ?_⟩
        exact q3 _ rfl
      · obtain rfl : H5 = H' := e.symm
        refine or_no (fun H' => H' = H5) (fun Q3 q3 => ?_) (fun H' e => ?_)
        · refine ⟨_, rfl, R2, _, rfl, x1, x2, x3, x4, x5, _, rfl, R, _, rfl, y1, y2, y3, y4, y5, rfl, _, rfl, ?_⟩
          rw [decide_eq_true rfl]
          exact q3 _ rfl
        · obtain rfl : H5 = H' := e.symm
          refine ⟨_, rfl, _, rfl, hb, ms, rfl, hhb5, m6, bd, _, rfl, big, _, rfl, R, _, rfl, .inl (SqL.of hR5), _, rfl, by rw [lR]; exact big, rfl, _, rfl, ?_⟩
          rw [lR, decide_eq_true rfl]
          exact q2 _ rfl
    obtain rfl : H5 = H' := e.symm
    have nR2L : R2 ≠ L := fun z => by
      rw [z, s4 _ _ (show H3 L = _ from (hl3.lst).choose_spec.1)] at nR2
      cases nR2
    have nRL : R ≠ L := fun z => by
      rw [z, (hl3.lst).choose_spec.1] at nR
      cases nR
    refine ⟨_, rfl, .inl ⟨rfl, _, SqL.of hL5⟩, _, rfl, R, _, rfl, y1, y2, y3, y4, y5, _, rfl, (by show 2 ≤ sizeLine; decide), fun t nt => ?_⟩
    have st := same_new (H := H5) (o := .tup [.str (listR (lex ms)).shown, .ref R2]) nt
    refine ⟨L, _, _, rfl, rfl, st _ _ hL5, small1000 (by omega), ?_⟩
    have b16 := (bH.trans b3).trans (But.same (s35.trans st))
    have hl6 := hl5.add hL5 nt rl5 gh nR2L
    have hL6 := st _ _ hL5
    have rlR6 : RL (upd (upd H5 t (.tup [.str (listR (lex ms)).shown, .ref R2])) L (.lst (usL ++ [.ref t]))) R (lex ms) := (rlR5.same st).but But.upd hL6 (by intro xs z; cases z) nRL
    have hhb6 : (upd (upd H5 t (.tup [.str (listR (lex ms)).shown, .ref R2])) L (.lst (usL ++ [.ref t]))) hb = some (.tup (iv ms)) := by
      rw [upd_ne (ne_of (st _ _ hhb5) hL6 (by intro z; cases z))]
      exact st _ _ hhb5
    have hp6 : Pen K (upd (upd H5 t (.tup [.str (listR (lex ms)).shown, .ref R2])) L (.lst (usL ++ [.ref t]))) d a0 ns (40 * k + 20) := pen_up hp b16 (hp5.same st) nL
    have b6 := but_up (o := .lst (usL ++ [.ref t])) b16 nL
    generalize upd (upd H5 t (.tup [.str (listR (lex ms)).shown, .ref R2])) L (.lst (usL ++ [.ref t])) = H6 at *
    refine ⟨_, rfl, hb, ms, rfl, hhb6, m6, bd, fun z => absurd p4 (by omega), fun _ R3 H7 nR3 s7 rl7 => ?_⟩
    obtain ⟨us3, hR3⟩ := rl7.lst
    have l3 := rl7.len hR3
    rw [lex_len] at l3
    refine ⟨.inl ⟨rfl, _, SqL.of hR3⟩, R3, _, _, rfl, rfl, hR3, small1000 (by omega), ?_⟩
    have s68 : Same H6 (upd H7 R3 (.lst (us3 ++ [.non]))) := fresh_upd s7 nR3
    generalize upd H7 R3 (.lst (us3 ++ [.non])) = H8 at *
    try dsimp only [gName]
    refine if_no (fun H' => Same H8 H') (fun Q2 q2 => ?_) (fun H9 s9 => ?_)
    · refine ⟨_, rfl, hb, ms, rfl, s68 _ _ hhb6, m6, bd, fun z => absurd p4 (by omega), fun _ R4 H9 nR4 s9 rl9 => ?_⟩
      obtain ⟨x1, x2, x3, x4, x5⟩ := repr_lex (K := K) rl9 gh
      obtain ⟨y1, y2, y3, y4, y5⟩ := repr_lex (K := K) (rlR6.same (s68.trans s9)) gh
      refine ⟨R4, _, rfl, x1, x2, x3, x4, x5, _, rfl, R, _, rfl, y1, y2, y3, y4, y5, rfl, _, rfl, ?_⟩
      rw [decide_eq_true rfl]
      exact q2 _ s9
    have s69 := s68.trans s9
    have hp9 := hp6.same s69
    have hl9 := hl6.same s69
    refine ⟨_, rfl, _, rfl, d, a0, ns, _, rfl, hp9, by omega, fun gb H10 gs hgb g6 gbd gp hp10 b10 => ?_⟩
    have hl10 := hl9.pen hp9 b10
    have bigg : ((pr gs : Nat) : Int).natAbs < 2 ^ 1000 := small_all (pr_small gbd g6)
    try dsimp only [gName]
    refine if_no1 (fun H' => Same H10 H') (fun Q2 q2 => ?_) (fun H11 s11 => ?_)
    · refine or_no (fun H' => Same H10 H') (fun Q3 q3 => ?_) (fun H11 s11 => ?_)
      · refine ⟨_, rfl, _, rfl, gb, gs, rfl, hgb, g6, gbd, gp, fun H11 s11 => ⟨true, rfl, ?_⟩⟩
        exact q3 _ s11
      · refine ⟨_, rfl, _, rfl, gb, gs, rfl, s11 _ _ hgb, g6, gbd, _, rfl, bigg, _, rfl, _, rfl, gb, gs, rfl, s11 _ _ hgb, g6, gbd, _, rfl, bigg, rfl, _, rfl, ?_⟩
        rw [decide_eq_true rfl]
        exact q2 _ s11
    · exact ⟨_, _, _, _, _, _, rfl, (hp10.same s11).mono (by omega), hl10.same s11, by rw [List.length_append, el]; rfl, (b6.trans (But.same s69)).trans (b10.trans (But.same s11))⟩
  · rintro σ H2 ⟨o3, o4, o5, o6, o7, es, rfl, hp2, ⟨ts, hL2, hts⟩, el, _⟩
    refine ⟨_, rfl, L, rfl, ⟨_, SqL.of hL2⟩, fun M nM => lc_list (K := K) (a := L) (xs := ts.map V.ref) (fun k H' => Same H2 H' ∧ H' M = some (.lst [])) ⟨same_new nM, upd_same⟩ (fun k H' _ ⟨s3, _⟩ => SqL.of (s3 _ _ hL2)) ?_ ?_⟩
    · rintro k v H3 hk ⟨s3, hM⟩
      obtain ⟨u, hu, rfl⟩ := ref_at hk
      obtain ⟨⟨R, ms⟩, he2, hu2, rl2, gh, _⟩ := paired_get hts hu
      obtain ⟨x1, x2, x3, x4, x5⟩ := repr_lex (K := K) (rl2.same s3) gh
      refine ⟨u, _, rfl, SqT.of (s3 _ _ hu2), rfl, _, _, rfl, _, _, rfl, rfl, rfl, _, rfl, R, _, rfl, x1, x2, x3, x4, x5, _, rfl, rfl, _, rfl, ?_⟩
      rw [decide_eq_true rfl]
      exact ite2 (fun e => absurd e (by decide)) (fun _ => ⟨s3, hM⟩)
    · rintro H3 ⟨s3, hM⟩
      refine ⟨Nat.zero_le _, fun l2 n2 => ⟨M, l2, [], rfl, rfl, (same_new n2) _ _ hM, upd_same, ?_⟩⟩
      exact q _

end
theorem all_mk {l : PySem.W.OpenLaw} {w : World} {K : PySem.W.Frag} {h : Heap} {mg : Str → Option Value} {fa : Addr} (X : K.In h) (G : h.Ns mainGlobals mg) (hfa : mg "law" = some (.ref fa))
    {f1 : Addr} {od1 an1 : Option Addr} {sl1 : Array (Option Value)} {oc1 kV1 dc1 pm1 cd1 ct1 : Value}
    {f2 : Addr} {od2 an2 : Option Addr} {sl2 : Array (Option Value)} {oc2 kV2 dc2 pm2 cd2 ct2 : Value}
    {f3 : Addr} {od3 an3 : Option Addr} {sl3 : Array (Option Value)} {oc3 kV3 dc3 pm3 cd3 ct3 : Value}
    {f4 : Addr} {od4 an4 : Option Addr} {sl4 : Array (Option Value)} {oc4 kV4 dc4 pm4 cd4 ct4 : Value}
    {f5 : Addr} {od5 an5 : Option Addr} {sl5 : Array (Option Value)} {oc5 kV5 dc5 pm5 cd5 ct5 : Value}
    {f6 : Addr} {od6 an6 : Option Addr} {sl6 : Array (Option Value)} {oc6 kV6 dc6 pm6 cd6 ct6 : Value}
    {f7 : Addr} {od7 an7 : Option Addr} {sl7 : Array (Option Value)} {oc7 kV7 dc7 pm7 cd7 ct7 : Value}
    {f8 : Addr} {od8 an8 : Option Addr} {sl8 : Array (Option Value)} {oc8 kV8 dc8 pm8 cd8 ct8 : Value}
    {f9 : Addr} {od9 an9 : Option Addr} {sl9 : Array (Option Value)} {oc9 kV9 dc9 pm9 cd9 ct9 : Value}
    {f10 : Addr} {od10 an10 : Option Addr} {sl10 : Array (Option Value)} {oc10 kV10 dc10 pm10 cd10 ct10 : Value}
    {f11 : Addr} {od11 an11 : Option Addr} {sl11 : Array (Option Value)} {oc11 kV11 dc11 pm11 cd11 ct11 : Value}
    {f12 : Addr} {od12 an12 : Option Addr} {sl12 : Array (Option Value)} {oc12 kV12 dc12 pm12 cd12 ct12 : Value}
    {f13 : Addr} {od13 an13 : Option Addr} {sl13 : Array (Option Value)} {oc13 kV13 dc13 pm13 cd13 ct13 : Value}
    {tk1 : Tok}
    {BE C0 C1 C2 C3 C4 C5 C6 C7 C8 : Addr}
    (a1 : PySem.W.nsIn K mainGlobals "size" = some (some (.ref f1))) (l1 : K.lookup f1 = some ⟨oc1, od1, .func (PySem.W.fnOf "size" "size" (defArgs s_size) (defBody s_size) (defScope s_size) .none kV1 dc1 pm1 an1 cd1 ct1), sl1⟩) (c1 : PySem.W.codeIn K cd1 "size" = true) (k1 : PySem.W.keepIn K (.ref f1) = true)
    (a2 : PySem.W.nsIn K mainGlobals "things" = some (some (.ref f2))) (l2 : K.lookup f2 = some ⟨oc2, od2, .func (PySem.W.fnOf "things" "things" (defArgs s_things) (defBody s_things) (defScope s_things) .none kV2 dc2 pm2 an2 cd2 ct2), sl2⟩) (c2 : PySem.W.codeIn K cd2 "things" = true) (k2 : PySem.W.keepIn K (.ref f2) = true)
    (a3 : PySem.W.nsIn K mainGlobals "_law_pen" = some (some (.ref f3))) (l3 : K.lookup f3 = some ⟨oc3, od3, .func (PySem.W.fnOf "_law_pen" "_law_pen" (defArgs s_law_pen) (defBody s_law_pen) (defScope s_law_pen) .none kV3 dc3 pm3 an3 cd3 ct3), sl3⟩) (c3 : PySem.W.codeIn K cd3 "_law_pen" = true) (k3 : PySem.W.keepIn K (.ref f3) = true)
    (a4 : PySem.W.nsIn K mainGlobals "_law_draw" = some (some (.ref f4))) (l4 : K.lookup f4 = some ⟨oc4, od4, .func (PySem.W.fnOf "_law_draw" "_law_draw" (defArgs s_law_draw) (defBody s_law_draw) (defScope s_law_draw) .none kV4 dc4 pm4 an4 cd4 ct4), sl4⟩) (c4 : PySem.W.codeIn K cd4 "_law_draw" = true) (k4 : PySem.W.keepIn K (.ref f4) = true)
    (a5 : PySem.W.nsIn K mainGlobals "_law_round" = some (some (.ref f5))) (l5 : K.lookup f5 = some ⟨oc5, od5, .func (PySem.W.fnOf "_law_round" "_law_round" (defArgs s_law_round) (defBody s_law_round) (defScope s_law_round) .none kV5 dc5 pm5 an5 cd5 ct5), sl5⟩) (c5 : PySem.W.codeIn K cd5 "_law_round" = true) (k5 : PySem.W.keepIn K (.ref f5) = true)
    (a6 : PySem.W.nsIn K mainGlobals "_law_house" = some (some (.ref f6))) (l6 : K.lookup f6 = some ⟨oc6, od6, .func (PySem.W.fnOf "_law_house" "_law_house" (defArgs s_law_house) (defBody s_law_house) (defScope s_law_house) .none kV6 dc6 pm6 an6 cd6 ct6), sl6⟩) (c6 : PySem.W.codeIn K cd6 "_law_house" = true) (k6 : PySem.W.keepIn K (.ref f6) = true)
    (a7 : PySem.W.nsIn K mainGlobals "_law_word" = some (some (.ref f7))) (l7 : K.lookup f7 = some ⟨oc7, od7, .func (PySem.W.fnOf "_law_word" "_law_word" (defArgs s_law_word) (defBody s_law_word) (defScope s_law_word) .none kV7 dc7 pm7 an7 cd7 ct7), sl7⟩) (c7 : PySem.W.codeIn K cd7 "_law_word" = true) (k7 : PySem.W.keepIn K (.ref f7) = true)
    (a8 : PySem.W.nsIn K mainGlobals "_law_few" = some (some (.ref f8))) (l8 : K.lookup f8 = some ⟨oc8, od8, .func (PySem.W.fnOf "_law_few" "_law_few" (defArgs s_law_few) (defBody s_law_few) (defScope s_law_few) .none kV8 dc8 pm8 an8 cd8 ct8), sl8⟩) (c8 : PySem.W.codeIn K cd8 "_law_few" = true) (k8 : PySem.W.keepIn K (.ref f8) = true)
    (a9 : PySem.W.nsIn K mainGlobals "_law_many" = some (some (.ref f9))) (l9 : K.lookup f9 = some ⟨oc9, od9, .func (PySem.W.fnOf "_law_many" "_law_many" (defArgs s_law_many) (defBody s_law_many) (defScope s_law_many) .none kV9 dc9 pm9 an9 cd9 ct9), sl9⟩) (c9 : PySem.W.codeIn K cd9 "_law_many" = true) (k9 : PySem.W.keepIn K (.ref f9) = true)
    (a10 : PySem.W.nsIn K mainGlobals "_law_size" = some (some (.ref f10))) (l10 : K.lookup f10 = some ⟨oc10, od10, .func (PySem.W.fnOf "_law_size" "_law_size" (defArgs s_law_size) (defBody s_law_size) (defScope s_law_size) .none kV10 dc10 pm10 an10 cd10 ct10), sl10⟩) (c10 : PySem.W.codeIn K cd10 "_law_size" = true) (k10 : PySem.W.keepIn K (.ref f10) = true)
    (a11 : PySem.W.nsIn K mainGlobals "_law_things" = some (some (.ref f11))) (l11 : K.lookup f11 = some ⟨oc11, od11, .func (PySem.W.fnOf "_law_things" "_law_things" (defArgs s_law_things) (defBody s_law_things) (defScope s_law_things) .none kV11 dc11 pm11 an11 cd11 ct11), sl11⟩) (c11 : PySem.W.codeIn K cd11 "_law_things" = true) (k11 : PySem.W.keepIn K (.ref f11) = true)
    (a12 : PySem.W.nsIn K mainGlobals "_law_refused" = some (some (.ref f12))) (l12 : K.lookup f12 = some ⟨oc12, od12, .func (PySem.W.fnOf "_law_refused" "_law_refused" (defArgs s_law_refused) (defBody s_law_refused) (defScope s_law_refused) .none kV12 dc12 pm12 an12 cd12 ct12), sl12⟩) (c12 : PySem.W.codeIn K cd12 "_law_refused" = true) (k12 : PySem.W.keepIn K (.ref f12) = true)
    (a13 : PySem.W.nsIn K mainGlobals "law" = some (some (.ref f13))) (l13 : K.lookup f13 = some ⟨oc13, od13, .func (PySem.W.fnOf "law" "law" (defArgs s_law) (defBody s_law) (defScope s_law) .none kV13 dc13 pm13 an13 cd13 ct13), sl13⟩) (c13 : PySem.W.codeIn K cd13 "law" = true) (k13 : PySem.W.keepIn K (.ref f13) = true)
    (z1 : PySem.W.nsIn K mainGlobals "ValueError" = some none)
    (z2 : PySem.W.nsIn K mainGlobals "abs" = some none)
    (z3 : PySem.W.nsIn K mainGlobals "isinstance" = some none)
    (z4 : PySem.W.nsIn K mainGlobals "len" = some none)
    (z5 : PySem.W.nsIn K mainGlobals "list" = some none)
    (z6 : PySem.W.nsIn K mainGlobals "min" = some none)
    (z7 : PySem.W.nsIn K mainGlobals "range" = some none)
    (z8 : PySem.W.nsIn K mainGlobals "repr" = some none)
    (z9 : PySem.W.nsIn K mainGlobals "tuple" = some none)
    (y1 : PySem.W.nsIn K mainGlobals "MOST_THINGS" = some (some (.int 400 tk1)))
    (cb : PySem.W.nsIn K mainGlobals "HouseError" = some (some (.ref BE)))
    (cbx : PySem.W.subIn K (.ref BE) (.type "BaseException") = some true)
    (cbd : PySem.W.hasDictIn K BE = true)
    (cbt : PySem.W.typeIn K (.ref BE) = some (.type "type"))
    (ca0 : PySem.W.nsIn K mainGlobals "NoThing" = some (some (.ref C0)))
    (ci0 : PySem.W.isClsIn K C0 = true)
    (ct0_ : PySem.W.typeIn K (.ref C0) = some (.type "type"))
    (ca1 : PySem.W.nsIn K mainGlobals "TooGreat" = some (some (.ref C1)))
    (ci1 : PySem.W.isClsIn K C1 = true)
    (ct1_ : PySem.W.typeIn K (.ref C1) = some (.type "type"))
    (ca2 : PySem.W.nsIn K mainGlobals "Endless" = some (some (.ref C2)))
    (ci2 : PySem.W.isClsIn K C2 = true)
    (ct2_ : PySem.W.typeIn K (.ref C2) = some (.type "type"))
    (ca3 : PySem.W.nsIn K mainGlobals "NoPaper" = some (some (.ref C3)))
    (ci3 : PySem.W.isClsIn K C3 = true)
    (ct3_ : PySem.W.typeIn K (.ref C3) = some (.type "type"))
    (ca4 : PySem.W.nsIn K mainGlobals "NoFit" = some (some (.ref C4)))
    (ci4 : PySem.W.isClsIn K C4 = true)
    (ct4_ : PySem.W.typeIn K (.ref C4) = some (.type "type"))
    (ca5 : PySem.W.nsIn K mainGlobals "NoTable" = some (some (.ref C5)))
    (ci5 : PySem.W.isClsIn K C5 = true)
    (ct5_ : PySem.W.typeIn K (.ref C5) = some (.type "type"))
    (ca6 : PySem.W.nsIn K mainGlobals "NoText" = some (some (.ref C6)))
    (ci6 : PySem.W.isClsIn K C6 = true)
    (ct6_ : PySem.W.typeIn K (.ref C6) = some (.type "type"))
    (ca7 : PySem.W.nsIn K mainGlobals "NoName" = some (some (.ref C7)))
    (ci7 : PySem.W.isClsIn K C7 = true)
    (ct7_ : PySem.W.typeIn K (.ref C7) = some (.type "type"))
    (ca8 : PySem.W.nsIn K mainGlobals "NoRow" = some (some (.ref C8)))
    (ci8 : PySem.W.isClsIn K C8 = true)
    (ct8_ : PySem.W.typeIn K (.ref C8) = some (.type "type"))
    (ck1 : PySem.W.keepIn K (.ref C1) = true)
    (cq1 : PySem.W.excIn K C1 [.type "ValueError", .type "Exception", .type "BaseException", .type "object"] "ValueError.__new__" = true)
    (chg1 : PySem.W.findIn K (.ref C1) "__getattribute__" = some (some (.builtin "BaseException.__getattribute__")))
    (chk1 : PySem.W.findIn K (.ref C1) "__getattr__" = some none)
    (chs1 : PySem.W.subIn K (.ref C1) (.type "BaseException") = some true)
    (chd1 : PySem.W.hasDictIn K C1 = true)
    (cha1 : PySem.W.findIn K (.ref C1) "__class__" = some (some (.builtin "object.__class__")))
    (chn1 : PySem.W.specialIn K (.builtin "object.__class__") "__get__" = some (some (.builtin "getset_descriptor.__get__")))
    (cht1 : PySem.W.takesIn K (.builtin "object.__class__") = some true)
    (chm1 : PySem.W.mroIn K C1 (.type "object") = some true)
    (cbs1 : PySem.W.subIn K (.ref C1) (.ref BE) = some true)
    (cv1 : PySem.W.subIn K (.ref C1) (.type "ValueError") = some true)
    (cs1_0 : PySem.W.subIn K (.ref C1) (.ref C0) = some false)
    (cs1_1 : PySem.W.subIn K (.ref C1) (.ref C1) = some true)
    (cs1_2 : PySem.W.subIn K (.ref C1) (.ref C2) = some false)
    (cs1_3 : PySem.W.subIn K (.ref C1) (.ref C3) = some false)
    (cs1_4 : PySem.W.subIn K (.ref C1) (.ref C4) = some false)
    (cs1_5 : PySem.W.subIn K (.ref C1) (.ref C5) = some false)
    (cs1_6 : PySem.W.subIn K (.ref C1) (.ref C6) = some false)
    (cs1_7 : PySem.W.subIn K (.ref C1) (.ref C7) = some false)
    (cs1_8 : PySem.W.subIn K (.ref C1) (.ref C8) = some false) :
    ∃ fd : FuncData, (∀ (s : Shared) (v : Value), BindsTo s fd ⟨[v], []⟩ [("_law_script", v)]) ∧ ∀ base : Heap, K.In base → base.Ns mainGlobals mg → FnG l.prog w K mg base CX0 5 fa fd ["_law_script"] (spLaw K) := by
  have e := hfa.symm.trans (PySem.W.mg_of X G a13)
  cases e
  have T : Txt K mg := ⟨df_mk (PySem.W.mg_of X G a1) l1 c1 k1 (fun _ _ _ _ _ _ us hl => match us, hl with | [_], _ => rfl),
    df_mk (PySem.W.mg_of X G a2) l2 c2 k2 (fun _ _ _ _ _ _ us hl => match us, hl with | [_], _ => rfl),
    df_mk (PySem.W.mg_of X G a3) l3 c3 k3 (fun _ _ _ _ _ _ us hl => match us, hl with | [_], _ => rfl),
    df_mk (PySem.W.mg_of X G a4) l4 c4 k4 (fun _ _ _ _ _ _ us hl => match us, hl with | [_, _], _ => rfl),
    df_mk (PySem.W.mg_of X G a5) l5 c5 k5 (fun _ _ _ _ _ _ us hl => match us, hl with | [_], _ => rfl),
    df_mk (PySem.W.mg_of X G a6) l6 c6 k6 (fun _ _ _ _ _ _ us hl => match us, hl with | [_], _ => rfl),
    df_mk (PySem.W.mg_of X G a7) l7 c7 k7 (fun _ _ _ _ _ _ us hl => match us, hl with | [_], _ => rfl),
    df_mk (PySem.W.mg_of X G a8) l8 c8 k8 (fun _ _ _ _ _ _ us hl => match us, hl with | [_], _ => rfl),
    df_mk (PySem.W.mg_of X G a9) l9 c9 k9 (fun _ _ _ _ _ _ us hl => match us, hl with | [_], _ => rfl),
    df_mk (PySem.W.mg_of X G a10) l10 c10 k10 (fun _ _ _ _ _ _ us hl => match us, hl with | [_], _ => rfl),
    df_mk (PySem.W.mg_of X G a11) l11 c11 k11 (fun _ _ _ _ _ _ us hl => match us, hl with | [_], _ => rfl),
    df_mk (PySem.W.mg_of X G a12) l12 c12 k12 (fun _ _ _ _ _ _ us hl => match us, hl with | [_], _ => rfl),
    df_mk (PySem.W.mg_of X G a13) l13 c13 k13 (fun _ _ _ _ _ _ us hl => match us, hl with | [_], _ => rfl),
    PySem.W.mg_none_of X G z1,
    PySem.W.mg_none_of X G z2,
    PySem.W.mg_none_of X G z3,
    PySem.W.mg_none_of X G z4,
    PySem.W.mg_none_of X G z5,
    PySem.W.mg_none_of X G z6,
    PySem.W.mg_none_of X G z7,
    PySem.W.mg_none_of X G z8,
    PySem.W.mg_none_of X G z9,
    ⟨_, PySem.W.mg_of X G y1⟩,
    ⟨C1, PySem.W.mg_of X G ca1, ck1, cq1, chs1, ct1_, ⟨chg1, chk1, chs1, chd1, cha1, chn1, cht1, chm1⟩, ⟨BE, PySem.W.mg_of X G cb, PySem.W.exm_ref cbx cbd cbt cbs1⟩, ask_mk ⟨_, PySem.W.mg_of X G ca0, kit_no ci0 ct0_ cs1_0 cs1_1⟩ ⟨_, PySem.W.mg_of X G ca1, kit_yes⟩ ⟨_, PySem.W.mg_of X G ca2, kit_no ci2 ct2_ cs1_2 cs1_1⟩ ⟨_, PySem.W.mg_of X G ca3, kit_no ci3 ct3_ cs1_3 cs1_1⟩ ⟨_, PySem.W.mg_of X G ca4, kit_no ci4 ct4_ cs1_4 cs1_1⟩ ⟨_, PySem.W.mg_of X G ca5, kit_no ci5 ct5_ cs1_5 cs1_1⟩ ⟨_, PySem.W.mg_of X G ca6, kit_no ci6 ct6_ cs1_6 cs1_1⟩ ⟨_, PySem.W.mg_of X G ca7, kit_no ci7 ct7_ cs1_7 cs1_1⟩ ⟨_, PySem.W.mg_of X G ca8, kit_no ci8 ct8_ cs1_8 cs1_1⟩, kit_val cv1⟩⟩
  exact ⟨PySem.W.fnOf "law" "law" (defArgs s_law) (defBody s_law) (defScope s_law) .none kV13 dc13 pm13 an13 cd13 ct13, fun s v => .of_eq rfl, fun base _ _ => ok_law T (fun_mk (st := s_law) l13 c13 k13)⟩
end K06
open PySem PySem.W PyProof.Rows
set_option maxRecDepth 100000 in
set_option maxHeartbeats 0 in
theorem PySem.Challenge.cw_commonhouse_k06_things_told_holds : PySem.Challenge.rw_commonhouse_k06_things_told.Holds := by
  w_on; o_law; k_head; (case hw => w_witness2)
  k_fill
  refine Cm.walk_g (l := PySem.Challenge.rw_commonhouse_k06_things_told) (n := 63) (k := 5) (x := "_law_script") (sp := K06.spLaw) rfl (by decide) rfl ⟨rfl, by decide, by decide⟩ (fun w h Y => PySem.W.kIn_of Y) ?F (fun _ _ a ns hl hS => ⟨a, ns, rfl, hS, hl, fun _ => rfl⟩)
  case F =>
    intro w mg fa h KX G hmg
    refine' K06.all_mk KX G hmg ?a1 ?l1 ?c1 ?k1 ?a2 ?l2 ?c2 ?k2 ?a3 ?l3 ?c3 ?k3 ?a4 ?l4 ?c4 ?k4 ?a5 ?l5 ?c5 ?k5 ?a6 ?l6 ?c6 ?k6 ?a7 ?l7 ?c7 ?k7 ?a8 ?l8 ?c8 ?k8 ?a9 ?l9 ?c9 ?k9 ?a10 ?l10 ?c10 ?k10 ?a11 ?l11 ?c11 ?k11 ?a12 ?l12 ?c12 ?k12 ?a13 ?l13 ?c13 ?k13 ?z1 ?z2 ?z3 ?z4 ?z5 ?z6 ?z7 ?z8 ?z9 ?y1 ?cb ?cbx ?cbd ?cbt ?ca0 ?ci0 ?ct0_ ?ca1 ?ci1 ?ct1_ ?ca2 ?ci2 ?ct2_ ?ca3 ?ci3 ?ct3_ ?ca4 ?ci4 ?ct4_ ?ca5 ?ci5 ?ct5_ ?ca6 ?ci6 ?ct6_ ?ca7 ?ci7 ?ct7_ ?ca8 ?ci8 ?ct8_ ?ck1 ?cq1 ?chg1 ?chk1 ?chs1 ?chd1 ?cha1 ?chn1 ?cht1 ?chm1 ?cbs1 ?cv1 ?cs1_0 ?cs1_1 ?cs1_2 ?cs1_3 ?cs1_4 ?cs1_5 ?cs1_6 ?cs1_7 ?cs1_8
    (case a1 => k_is); (case l1 => k_is); (case c1 => k_is); (case k1 => k_is); (case a2 => k_is); (case l2 => k_is)
    (case c2 => k_is); (case k2 => k_is); (case a3 => k_is); (case l3 => k_is); (case c3 => k_is); (case k3 => k_is)
    (case a4 => k_is); (case l4 => k_is); (case c4 => k_is); (case k4 => k_is); (case a5 => k_is); (case l5 => k_is)
    (case c5 => k_is); (case k5 => k_is); (case a6 => k_is); (case l6 => k_is); (case c6 => k_is); (case k6 => k_is)
    (case a7 => k_is); (case l7 => k_is); (case c7 => k_is); (case k7 => k_is); (case a8 => k_is); (case l8 => k_is)
    (case c8 => k_is); (case k8 => k_is); (case a9 => k_is); (case l9 => k_is); (case c9 => k_is); (case k9 => k_is)
    (case a10 => k_is); (case l10 => k_is); (case c10 => k_is); (case k10 => k_is); (case a11 => k_is); (case l11 => k_is)
    (case c11 => k_is); (case k11 => k_is); (case a12 => k_is); (case l12 => k_is); (case c12 => k_is); (case k12 => k_is)
    (case a13 => k_is); (case l13 => k_is); (case c13 => k_is); (case k13 => k_is); (case z1 => k_is); (case z2 => k_is)
    (case z3 => k_is); (case z4 => k_is); (case z5 => k_is); (case z6 => k_is); (case z7 => k_is); (case z8 => k_is)
    (case z9 => k_is); (case y1 => k_is); (case cb => k_is); (case cbx => k_is); (case cbd => k_is); (case cbt => k_is)
    (case ca0 => k_is); (case ci0 => k_is); (case ct0_ => k_is); (case ca1 => k_is); (case ci1 => k_is); (case ct1_ => k_is)
    (case ca2 => k_is); (case ci2 => k_is); (case ct2_ => k_is); (case ca3 => k_is); (case ci3 => k_is); (case ct3_ => k_is)
    (case ca4 => k_is); (case ci4 => k_is); (case ct4_ => k_is); (case ca5 => k_is); (case ci5 => k_is); (case ct5_ => k_is)
    (case ca6 => k_is); (case ci6 => k_is); (case ct6_ => k_is); (case ca7 => k_is); (case ci7 => k_is); (case ct7_ => k_is)
    (case ca8 => k_is); (case ci8 => k_is); (case ct8_ => k_is); (case ck1 => k_is); (case cq1 => k_exc); (case chg1 => k_is)
    (case chk1 => k_is); (case chs1 => k_is); (case chd1 => k_is); (case cha1 => k_is); (case chn1 => k_is); (case cht1 => k_is)
    (case chm1 => k_is); (case cbs1 => k_is); (case cv1 => k_is); (case cs1_0 => k_is); (case cs1_1 => k_is); (case cs1_2 => k_is)
    (case cs1_3 => k_is); (case cs1_4 => k_is); (case cs1_5 => k_is); (case cs1_6 => k_is); (case cs1_7 => k_is); (case cs1_8 => k_is)
