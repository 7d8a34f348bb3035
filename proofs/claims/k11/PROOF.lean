import PyProof.Rows.All
import Wide.All
import OpenK.AllK
import Wide.FinOn
import HandS.Base
import HandS.Call
import HandS.List
import HandS.Comp
import HandS.Ends
import HandS.Dict
import HandS.Iter
import HandS.Words
import HandS.IsInst
import HandS.TupAny
import HandS.TupLe
import HandS.WordsList
import HandS.TupMul
import HandS.Zip
import HandS.Walk
import HandS.Wide
import HandS.Style
import PySem.Challenge.RW_commonhouse_k11_steps_done_and_taken_bac
set_option Elab.async false
set_option linter.all false
set_option maxRecDepth 100000
set_option maxHeartbeats 4000000
namespace Cm
open PySem PySem.Spec PyProof.Rows L2
/-! ### defs by their names -/
/-- the def x of the text stands behind the top by its name -/
def Df (K : PySem.W.Frag) (mg : Str → Option Value) (x : Str) (st : Stmt) (ps : List Str) : Prop :=
  ∃ f fd, Fun K x x st f fd ∧ mg x = some (.ref f) ∧ Binds K fd ps []
theorem df_mk {K : PySem.W.Frag} {mg : Str → Option Value} {x : Str} {st : Stmt} {ps : List Str} {f : Addr} {oc : Value} {od an : Option Addr} {osl : Array (Option Value)} {kV doc pm cdv ct : Value} (hm : mg x = some (.ref f))
    (l : K.lookup f = some ⟨oc, od, .func (PySem.W.fnOf x x (defArgs st) (defBody st) (defScope st) .none kV doc pm an cdv ct), osl⟩) (c : PySem.W.codeIn K cdv x = true) (k : PySem.W.keepIn K (.ref f) = true)
    (h : ∀ (kV doc pm : Value) (an : Option Addr) (cdv ct : Value) (us : List Value), us.length = ps.length → bindArgs (PySem.W.fnOf x x (defArgs st) (defBody st) (defScope st) .none kV doc pm an cdv ct) ⟨us, []⟩ = pure (ps.zip us)) : Df K mg x st ps :=
  ⟨f, _, fun_mk l c k, hm, (fun_mk l c k).binds h⟩
/-! ### a promise that is kept where no repr runs around (the recursion guards are empty) -/
structure FnG (P : Program) (w : World) (K : PySem.W.Frag) (mg : Str → Option Value) (base : Heap) (CX : CXT) (k : Nat) (f : Addr) (fd : FuncData) (ps : List Str) (sp : Sp) : Prop where
  len : ∀ vs H Q E, sp vs H Q E → vs.length = ps.length
  go : ∀ (A : Around) (outer : List Env) (s : Shared) (H : Hp) (args : Args) (us : List Value) (vs : List V) (Q : VK) (E : XK), Room k A → A.guards = some [] → Env0 P w K mg base A outer s H → BindsTo s fd args (ps.zip us) → Vals vs us → sp vs H Q E →
    codeAny (model P w) A (.call (.ref f) args) (CR CX outer P w H s Q E) s
section
variable {P : Program} {w : World} {K : PySem.W.Frag} {mg : Str → Option Value} {base : Heap} {CX : CXT}
/-- a def's body keeps its promise there -/
theorem fng_mk {k : Nat} {f : Addr} {x qual : Str} {st : Stmt} {fd : FuncData} {N ps : List Str} {sp : Sp} (F : Fun K x qual st f fd) (S : FnScope N ps (defScope st))
    (len : ∀ vs H Q E, sp vs H Q E → vs.length = ps.length)
    (body : ∀ (cdv : Value) (A : Around) (outer : List Env) (s : Shared) (H : Hp) (vs : List V) (Q : VK) (E : XK), Room k (A.deeper (envOfC qual (defScope st) s.heap.objs.size f cdv)) → A.guards = some [] → sp vs H Q E →
      ∃ t, PSs (cxOf CX P w K mg base N qual (defScope st) f cdv A outer s H E) (defBody st) t ∧ t { nx := fun _ H' => Q .non H', rt := Q } (start N vs) H) : FnG P w K mg base CX (k + 1) f fd ps sp := by
  obtain ⟨oc, od, kV, doc, pm, an, cdv, ct, osl, hfd, lk, hcd⟩ := F.ex
  subst hfd
  refine ⟨len, fun A outer s H args us vs Q E room gd env bind rel prom => ?_⟩
  have llen := len _ _ _ _ prom
  have inK : K.In s.heap := env.mod.kin.keeps fun b o e => (env.bs b o e).1
  have nolim : s.heap.NoLimit := env.mod.nolimit.keeps fun b o e => (env.bs b o e).1
  have kinds : ∀ y ∈ ps.zip us, (defScope st).names.lookup y.1 = some .local ∨ ((defScope st).names.lookup y.1 = some .cell ∧ ((cellsFrom (s.heap.objs.size + 1) (defScope st).names []).lookup y.1).isSome = true) := by
    rintro ⟨n, v⟩ hy
    rcases S.par n (List.of_mem_zip hy).1 with z | z
    · exact .inl z
    · exact .inr ⟨z, PySem.W.cellsFrom_some _ _ _ (.inl z)⟩
  refine codeAny_call_function room.depth (inK _ _ lk) rfl S.co S.gen rfl (PySem.W.codeRec_of inK hcd) (bind _ _ _ _ ?_)
  refine wpAny_newFunctionEnv_cells S.kind kinds fun fenv hfe s1 ent => ?_
  subst hfe
  refine ⟨nolim.keeps ent.toInCall.keep, codeAny_func ?_⟩
  obtain ⟨t, ht, hq⟩ := body cdv A outer s H vs Q E (room.deeper _) gd prom
  have I0 : Inv (cxOf CX P w K mg base N qual (defScope st) f cdv A outer s H E) [] (start N vs) H s1 := inv_start S room.hd env llen rel ent
  refine wpAny_mono (ht.run [] s1 (start N vs) H _ I0 hq) (fun fl s' out => ?_) fun e s' out => out
  cases fl with
  | ret u =>
    obtain ⟨v, σ', H', J, rv, q⟩ := out
    exact ⟨v, H', J.os, J.bare, J.base, J.hok, rv, q⟩
  | next =>
    obtain ⟨σ', H', J, q⟩ := out
    exact ⟨V.non, H', J.os, J.bare, J.base, J.hok, rfl, q⟩
  | brk =>
    obtain ⟨_, _, _, q⟩ := out
    exact q.elim
  | cont =>
    obtain ⟨_, _, _, q⟩ := out
    exact q.elim
end
/-- the def x keeps the promise sp; no exception leaves it -/
def Fn (P : Program) (w : World) (K : PySem.W.Frag) (mg : Str → Option Value) (base : Heap) (k : Nat) (x : Str) (ps : List Str) (sp : Sp) : Prop :=
  ∃ f fd, FnG P w K mg base CX0 k f fd ps sp ∧ mg x = some (.ref f) ∧ PySem.W.keepIn K (.ref f) = true ∧ Binds K fd ps []
section
variable {P : Program} {w : World} {K : PySem.W.Frag} {mg : Str → Option Value} {base : Heap}
theorem Df.ok {x : Str} {st : Stmt} {ps N : List Str} {k : Nat} {sp : Sp} (D : Df K mg x st ps) (S : FnScope N ps (defScope st)) (len : ∀ vs H Q E, sp vs H Q E → vs.length = ps.length)
    (hbody : ∀ (f : Addr) (cdv : Value) (A : Around) (outer : List Env) (s : Shared) (H : Hp) (vs : List V) (Q : VK) (E : XK), Room k (A.deeper (envOfC x (defScope st) s.heap.objs.size f cdv)) → A.guards = some [] → sp vs H Q E →
      ∃ t, PSs (cxOf CX0 P w K mg base N x (defScope st) f cdv A outer s H E).nox (defBody st) t ∧ t { nx := fun _ H' => Q .non H', rt := Q } (start N vs) H) : Fn P w K mg base (k + 1) x ps sp := by
  obtain ⟨f, fd, F, hm, hb⟩ := D
  refine ⟨f, fd, fng_mk F S len fun cdv A outer s H vs Q E hr hg h => ?_, hm, F.kp, hb⟩
  obtain ⟨t, ht, q⟩ := hbody f cdv A outer s H vs Q E hr hg h
  exact ⟨t, ht.nox, q⟩
end
section
variable {X : Cx} {k : Nat} {x : Str} {ps : List Str} {sp : Sp} {e : Expr} {es : List Expr} {t : TA} {p pos : Pos}
theorem run_g {CX : CXT} {f : Addr} {fd : FuncData} {E : XK} {pins : List (Addr × Obj)} {σ : L2.St} {H : Hp} {s : Shared} {Q : VK} {us : List Value} {vs : List V} (F : FnG X.prog X.w X.K X.mg X.base CX k f fd ps sp) (hr : Room k X.A) (hg : X.A.guards = some [])
    (hb : Binds X.K fd ps []) (hx : Passes CX X E) (I : Inv X pins σ H s) (r : Vals vs us) (h : sp (vs ++ []) H Q E) : wpAny (model X.prog X.w) X.A (call (.ref f) us) (EP X pins σ Q) X.xe s := by
  rw [List.append_nil] at h
  have hl : (us ++ []).length = ps.length := by
    rw [List.append_nil, ← r.length]
    exact F.len _ _ _ _ h
  have hb2 := hb s us I.kIn hl
  rw [List.append_nil] at hb2
  refine wpAny_call (codeAny_mono (F.go X.A X.stack s H ⟨us, []⟩ us vs Q E hr hg I.env0 hb2 r h) fun r s' hq => ?_)
  cases r with
  | error e => exact hx pins σ H s e s' I hq
  | ok fl =>
    cases fl with
    | ret u => exact I.after hq
    | next => exact hq.elim
    | brk => exact hq.elim
    | cont => exact hq.elim
theorem pe_fn (F : Fn X.prog X.w X.K X.mg X.base k x ps sp) (hr : Room k X.A) (hgd : X.A.guards = some []) (hg : Gl X x) (ha : PA X (e :: es) t) (hdb : (x == ("__debug__" : Str)) = false := by decide)
    (he : starEach (e :: es) X.env = (false, eval e X.env) :: starEach es X.env := by rfl) (hpl : (backTo pos (starEach es X.env)).any (·.1) = false := by rfl) : PE X (.Call (.Name x p) (e :: es) [] pos) (tCall sp [] E0 t) := by
  obtain ⟨f, fd, F, hm, hk, hb⟩ := F
  refine ⟨fun pins s σ H Q I h => ?_⟩
  refine wpAny_Call_Name_kw (ld_glob I hg hm ?_ hdb)
  refine PySem.W.callWith_K (h₀ := X.base) I.ok.mod.kin hk (thn (ha.run pos pins s σ H _ I h) fun us s1 out => ?_) he hpl
  obtain ⟨vs, H1, I1, r, q⟩ := out
  exact ⟨I1.kIn, run_g F hr hgd hb pass0 I1 r q⟩
end
/-! ### promises by the number of arguments -/
def sp1 (R : V → Hp → VK → Prop) : Sp := fun vs H Q _ => ∃ a, vs = [a] ∧ R a H Q
def sp2 (R : V → V → Hp → VK → Prop) : Sp := fun vs H Q _ => ∃ a b, vs = [a, b] ∧ R a b H Q
def sp3 (R : V → V → V → Hp → VK → Prop) : Sp := fun vs H Q _ => ∃ a b c, vs = [a, b, c] ∧ R a b c H Q
def sp4 (R : V → V → V → V → Hp → VK → Prop) : Sp := fun vs H Q _ => ∃ a b c d, vs = [a, b, c, d] ∧ R a b c d H Q
theorem len1 {R : V → Hp → VK → Prop} {x : Str} : ∀ vs H Q E, sp1 R vs H Q E → vs.length = [x].length := by
  rintro vs H Q E ⟨a, rfl, _⟩
  rfl
theorem len2 {R : V → V → Hp → VK → Prop} {x y : Str} : ∀ vs H Q E, sp2 R vs H Q E → vs.length = [x, y].length := by
  rintro vs H Q E ⟨a, b, rfl, _⟩
  rfl
theorem len3 {R : V → V → V → Hp → VK → Prop} {x y z : Str} : ∀ vs H Q E, sp3 R vs H Q E → vs.length = [x, y, z].length := by
  rintro vs H Q E ⟨a, b, c, rfl, _⟩
  rfl
theorem len4 {R : V → V → V → V → Hp → VK → Prop} {x y z u : Str} : ∀ vs H Q E, sp4 R vs H Q E → vs.length = [x, y, z, u].length := by
  rintro vs H Q E ⟨a, b, c, d, rfl, _⟩
  rfl
/-! ### heaps -/
/-- all but the object at d is kept -/
def But (d : Addr) (H H' : Hp) : Prop := ∀ b o, b ≠ d → H b = some o → H' b = some o
theorem But.refl (d : Addr) (H : Hp) : But d H H := fun _ _ _ h => h
theorem But.trans {d : Addr} {H H1 H2 : Hp} (a : But d H H1) (b : But d H1 H2) : But d H H2 := fun c o n h => b c o n (a c o n h)
theorem But.upd {d : Addr} {H : Hp} {o : HO} : But d H (L2.upd H d o) := fun b u n h => by
  rw [upd_ne n]
  exact h
theorem But.new {d p : Addr} {H : Hp} {o : HO} (n : H p = none) : But d H (L2.upd H p o) := fun b u _ h => by
  rw [upd_ne (ne_of_none h n)]
  exact h
theorem But.same {d : Addr} {H H1 : Hp} (a : Same H H1) : But d H H1 := fun b o _ h => a b o h
theorem same_new {H : Hp} {p : Addr} {o : HO} (h : H p = none) : Same H (L2.upd H p o) := fun b x e => by
  rw [upd_ne (ne_of_none e h)]
  exact e
theorem sqt_of_same {K : PySem.W.Frag} {H H' : Hp} {a : Addr} {xs : List V} (e : Same H H') (h : SqT K H a xs) : SqT K H' a xs := by
  rcases h with (h | ⟨o, h⟩) | h
  · exact .inl (.inl (e _ _ h))
  · exact .inl (.inr ⟨o, e _ _ h⟩)
  · exact .inr h
/-- abs -/
theorem abs_eq (i : Int) : (if i < 0 then -i else i) = (i.natAbs : Int) := by
  split <;> omega
theorem qNS {c : Prop} [Decidable c] (hc : c) {Q : Bool → Hp → Prop} {H : Hp} (q : Q false H) : Q (!decide c) H := by
  rw [decide_eq_true hc]
  exact q
theorem qN {c : Prop} [Decidable c] (hc : ¬ c) {Q : Bool → Hp → Prop} {H : Hp} (q : Q false H) : Q (decide c) H := by
  rw [decide_eq_false hc]
  exact q
theorem qS {c : Prop} [Decidable c] (hc : c) {Q : VK} {H : Hp} (q : Q (.bl true) H) : Q (.bl (decide c)) H := by
  rw [decide_eq_true hc]
  exact q
theorem iteN {c A B : Prop} [Decidable c] (hc : ¬ c) (h : B) : if decide c = true then A else B := by
  rw [decide_eq_false hc]
  exact iteF h
theorem iteS {c A B : Prop} [Decidable c] (hc : c) (h : A) : if decide c = true then A else B := by
  rw [decide_eq_true hc]
  exact iteT h
/-! ### an if that is not taken -/
theorem if_no {c : TT} {t r : TS} {D : Ends} {σ : L2.St} {H : Hp} (R : Hp → Prop) (h : ∀ Q : Bool → Hp → Prop, (∀ H', R H' → Q false H') → c σ H Q) (k : ∀ H', R H' → r D σ H') : tSeq (tIfS c t tNext) r D σ H := by
  show c σ H _
  exact h _ fun H' q => iteF (k H' q)
/-- the last if of a block that is not taken -/
theorem if_no1 {c : TT} {t : TS} {D : Ends} {σ : L2.St} {H : Hp} (R : Hp → Prop) (h : ∀ Q : Bool → Hp → Prop, (∀ H', R H' → Q false H') → c σ H Q) (k : ∀ H', R H' → D.nx σ H') : tIfS c t tNext D σ H := by
  show c σ H _
  exact h _ fun H' q => iteF (k H' q)
theorem or_no {t u : TT} {σ : L2.St} {H : Hp} {Q : Bool → Hp → Prop} (R : Hp → Prop) (h : ∀ Q : Bool → Hp → Prop, (∀ H', R H' → Q false H') → t σ H Q) (k : ∀ H', R H' → u σ H' Q) : tOr t u σ H Q := by
  show t σ H _
  exact h _ fun H' q => iteF (k H' q)
end Cm

set_option Elab.async false
set_option linter.all false
set_option maxRecDepth 100000
set_option maxHeartbeats 4000000
namespace Cm
open PySem PySem.Spec PyProof.Rows L2
/-! ### the end of a law whose promise is kept where no repr runs around -/
/-- the heap that is tracked at the law's entry: the script alone, where it is none of the module's own objects -/
def scriptH (K : PySem.W.Frag) (a : Addr) (vs : List Value) (ns : List Int) : Hp := fun b =>
  if b = a ∧ K.lookup a = none then some (.frz { cls := .type "list", data := .seq vs.toArray } (.lst (ns.map V.int))) else none
theorem scriptH_some {K : PySem.W.Frag} {a b : Addr} {vs : List Value} {ns : List Int} {u : HO} (h : scriptH K a vs ns b = some u) :
    b = a ∧ K.lookup a = none ∧ u = .frz { cls := .type "list", data := .seq vs.toArray } (.lst (ns.map V.int)) := by
  unfold scriptH at h
  split at h
  · rename_i z
    exact ⟨z.1, z.2, (Option.some.inj h).symm⟩
  · cases h
theorem scriptH_free {K : PySem.W.Frag} {a b : Addr} {vs : List Value} {ns : List Int} (h : b ≠ a ∨ K.lookup a ≠ none) : scriptH K a vs ns b = none := by
  unfold scriptH
  split
  · rename_i z
    rcases h with h | h
    · exact absurd z.1 h
    · exact absurd z.2 h
  · rfl
theorem call_law_g {P : Program} {w : World} {K : PySem.W.Frag} {mg mb : Str → Option Value} {k : Nat} {fa a : Addr} {fd : FuncData} {x : Str} {sp : Sp} {s1 : Shared} {vs : List Value} {ns : List Int}
    (inK : K.In s1.heap) (glob : s1.heap.Ns mainGlobals mg) (blt : s1.heap.Ns builtinsNs mb) (bltEq : ∀ x : Str, x ≠ "__name__" → mb x = bootBuiltins x) (nolim : s1.heap.NoLimit) (nogen : s1.gens = #[])
    (scr : s1.heap.get? a = some { cls := .type "list", data := .seq vs.toArray }) (hns : IntsAre vs ns) (short : ns.length ≤ sizeLine) (room : Room k callerA)
    (F : ∀ base : Heap, K.In base → base.Ns mainGlobals mg → FnG P w K mg base CX0 k fa fd [x] sp) (bind : ∀ (s : Shared) (u : Value), BindsTo s fd ⟨[u], []⟩ [(x, u)])
    (prom : ∀ H : Hp, SqL K H a (ns.map V.int) → sp [.ref a] H (fun v _ => v = .bl true) fun _ _ _ => False) :
    codeAny (model P w) callerA (.call (.ref fa) ⟨[.ref a], []⟩) (fun r s' => r = .ok (.ret (.bool true)) ∧ OldK s1.heap s'.heap ∧ s'.os = s1.os ∧ AllBare s'.gens) s1 := by
  have rel := vals_ints hns
  have vlen := hns.length
  -- what the script's address holds, in the abstract heap
  have hS : SqL K (scriptH K a vs ns) a (ns.map V.int) := by
    cases hk : K.lookup a with
    | none =>
      refine .inl (.inr ⟨{ cls := .type "list", data := .seq vs.toArray }, ?_⟩)
      unfold scriptH
      exact if_pos ⟨rfl, hk⟩
    | some o =>
      have e := inK a o hk
      rw [scr] at e
      cases e
      exact .inr ⟨_, vs.toArray, _, hk, rfl, rfl, rfl, by rw [List.size_toArray, vlen]; exact short, by simpa using rel⟩
  have hok : HOk P w (scriptH K a vs ns) s1.heap := by
    intro b u e
    obtain ⟨rfl, _, rfl⟩ := scriptH_some e
    exact ⟨scr, by rw [List.length_map]; exact short, vs, _, rel, scr⟩
  -- a namespace is no list, so it is not tracked
  have free : ∀ {b : Addr} {o : Obj} {es : Array DictEntry} {ep : Nat}, s1.heap.get? b = some o → o.data = .dict es ep → scriptH K a vs ns b = none := by
    intro b o es ep e d
    by_cases hb : b = a
    · rw [hb, scr] at e
      cases e
      cases (show Data.seq vs.toArray _ = Data.dict es ep from d)
    · exact scriptH_free (.inl hb)
  have nsOf : ∀ {b : Addr} {m : Str → Option Value}, s1.heap.Ns b m → (hidT s1.heap (scriptH K a vs ns)).Ns b m := by
    rintro b m ⟨o, es, ep, e, d, r⟩
    exact ⟨o, es, ep, hidT_get e (free e d), d, r⟩
  have inKb : K.In (hidT s1.heap (scriptH K a vs ns)) := by
    intro b o e
    refine hidT_get (inK b o e) ?_
    by_cases hb : b = a
    · refine scriptH_free (.inr fun z => ?_)
      rw [hb, z] at e
      cases e
    · exact scriptH_free (.inl hb)
  obtain ⟨mc, lim1, lim2⟩ := nolim
  have env : Env0 P w K mg (hidT s1.heap (scriptH K a vs ns)) callerA [] s1 (scriptH K a vs ns) :=
    ⟨rfl, ⟨inKb, nsOf glob, ⟨mb, nsOf blt, bltEq⟩, ⟨mc, nsOf lim1, lim2⟩⟩, fun b o e => of_hidT e, Nat.le_of_eq (hidT_size _ _), trivial, fun b hb => (nomatch (show b ∈ ([] : List Addr) from hb)), hok, .of_eq nogen⟩
  refine codeAny_mono ((F _ inKb (nsOf glob)).go callerA [] s1 _ ⟨[.ref a], []⟩ [.ref a] [.ref a] _ _ room rfl env (bind s1 (.ref a)) (.cons rfl .nil) (prom _ hS)) fun r s' out => ?_
  cases r with
  | error e => exact out.elim
  | ok fl =>
    cases fl with
    | next => exact out.elim
    | brk => exact out.elim
    | cont => exact out.elim
    | ret u =>
      obtain ⟨v, H', os, bare, un, hok', rv, q⟩ := out
      have q' : v = .bl true := q
      subst q'
      obtain rfl : u = Value.bool true := rv
      refine ⟨rfl, OldK.of_keep fun b o e => ?_, os, bare⟩
      cases hb : scriptH K a vs ns b with
      | none => exact un.keep b o e hb (fun z => (nomatch (show b ∈ ([] : List Addr) from z))) (fun z => (nomatch z))
      | some u =>
        obtain ⟨rfl, _, rfl⟩ := scriptH_some hb
        obtain ⟨e2, _⟩ := hok' _ _ (un.frzs _ _ _ hb)
        rw [scr] at e
        cases e
        exact e2
theorem walk_g {l : PySem.W.OpenLaw} {n k : Nat} {q : Program} {loose : List Str} {XP : (Str → Option Value) → Heap → Prop} {YP : World → Heap → Prop} {d : DefRec} {K : Params → PySem.W.Frag} {sp : PySem.W.Frag → Sp} {x : Str}
    (most : l.most = some n) (line : n ≤ sizeLine) (nodef : d.params.defaults = []) (room : Room k callerA) (hY : ∀ (w : World) (h : Heap), YP w h → (K w.params).In h)
    (F : ∀ (w : World) (mg : Str → Option Value) (fa : Addr) (h : Heap), (K w.params).In h → h.Ns mainGlobals mg → mg d.name = some (.ref fa) →
      ∃ fd : FuncData, (∀ (s : Shared) (u : Value), BindsTo s fd ⟨[u], []⟩ [(x, u)]) ∧ ∀ base : Heap, (K w.params).In base → base.Ns mainGlobals mg → FnG l.prog w (K w.params) mg base CX0 k fa fd [x] (sp (K w.params)))
    (prom : ∀ (K : PySem.W.Frag) (H : Hp) (a : Addr) (ns : List Int), ns.length ≤ n → SqL K H a (ns.map V.int) → sp K [.ref a] H (fun v _ => v = .bl true) fun _ _ _ => False) :
    PySem.W.WalkO q loose XP YP l.row.toRowW d [] (fun f vs => PySem.call f vs) := by
  refine Att.attach_call most nodef fun w s0 s1 mg mb fa o pm cd doc a vs ns G Y ho hd hcd hmg hobj hints hlen hg => ?_
  obtain ⟨fd, hb, hF⟩ := F w mg fa _ (hY w _ Y) G.T.g hmg
  exact call_law_g (hY w _ Y) G.T.g G.T.b G.T.builtins G.T.nolimit hg hobj hints (Nat.le_trans hlen line) room hF hb fun H hS => prom _ H a ns hlen hS
/-! ### repr -/
/-- repr of data: None, truths, numbers, texts, lists and tuples of them -/
def rRepr (K : PySem.W.Frag) : List V → Hp → VK → Prop := fun xs H Q => ∃ (a : Addr) (d : PyData), xs = [.ref a] ∧ Dp K H (.ref a) d ∧ d.showable = true ∧ d.hasDict = false ∧ d.depth ≤ 60 ∧ d.shown.length ≤ sizeLine ∧ Q (.str d.shown) H
theorem call_repr {X : Cx} {K : PySem.W.Frag} {k : Nat} (hr : Room k X.A) (hg : X.A.guards = some []) (hK : X.K = K) : CallR X (.builtin "repr") (rRepr K) := by
  subst hK
  intro pins s σ H xs us Q I r h
  obtain ⟨a, d, rfl, hd, sh, nd, dp, sz, q⟩ := h
  obtain ⟨u, rfl, ru⟩ := vals1 r
  obtain ⟨as, rd⟩ := Dp.reads I d _ _ hd ru
  cases ru
  refine repr_of_reads' rd sh (fun z => absurd (nd.symm.trans z) Bool.false_ne_true) hg (by have := hr.units; omega) (fun _ _ e => e) (fun h' u tk keep => ?_) sz
  exact ⟨.str d.shown, H, I.kept keep, ⟨_, rfl⟩, q⟩
end Cm

set_option Elab.async false
set_option linter.all false
set_option maxRecDepth 100000
set_option maxHeartbeats 4000000
namespace Cm
open PySem PySem.Spec PyProof.Rows L2
/-! ### kinds of things -/
inductive Kd where
  | non | bl (b : Bool) | int (i : Int) | str (s : Str) | lst | tup (xs : List V) | dct
inductive HasK (H : Hp) : V → Kd → Prop where
  | non : HasK H .non .non
  | bl (b : Bool) : HasK H (.bl b) (.bl b)
  | int (i : Int) : HasK H (.int i) (.int i)
  | str (s : Str) : HasK H (.str s) (.str s)
  | lst {a : Addr} {xs : List V} (h : H a = some (.lst xs)) : HasK H (.ref a) .lst
  | tup {a : Addr} {xs : List V} (h : H a = some (.tup xs)) : HasK H (.ref a) (.tup xs)
  | dct {a : Addr} {kvs : List (Key × V)} (h : H a = some (.dK kvs)) : HasK H (.ref a) .dct
/-- tuples stay, lists stay lists, dicts dicts -/
structure Ext (H H' : Hp) : Prop where
  t : ∀ b xs, H b = some (.tup xs) → H' b = some (.tup xs)
  l : ∀ b xs, H b = some (.lst xs) → ∃ ys, H' b = some (.lst ys)
  d : ∀ b kvs, H b = some (.dK kvs) → ∃ kvs', H' b = some (.dK kvs')
theorem Ext.refl (H : Hp) : Ext H H := ⟨fun _ _ h => h, fun _ _ h => ⟨_, h⟩, fun _ _ h => ⟨_, h⟩⟩
theorem Ext.trans {H H1 H2 : Hp} (a : Ext H H1) (b : Ext H1 H2) : Ext H H2 :=
  ⟨fun x xs h => b.t x xs (a.t x xs h), fun x xs h => let ⟨ys, e⟩ := a.l x xs h; b.l x ys e, fun x xs h => let ⟨ys, e⟩ := a.d x xs h; b.d x ys e⟩
theorem Ext.same {H H' : Hp} (h : Same H H') : Ext H H' := ⟨fun b _ e => h b _ e, fun b _ e => ⟨_, h b _ e⟩, fun b _ e => ⟨_, h b _ e⟩⟩
theorem Ext.lst {H : Hp} {a : Addr} {xs ys : List V} (h : H a = some (.lst xs)) : Ext H (upd H a (.lst ys)) := by
  refine ⟨fun b zs e => ?_, fun b zs e => ?_, fun b zs e => ?_⟩
  · rw [upd_ne (ne_of e h (by intro z; cases z))]
    exact e
  · by_cases hb : b = a
    · exact ⟨ys, by rw [hb, upd_same]⟩
    · exact ⟨zs, by rw [upd_ne hb]; exact e⟩
  · exact ⟨zs, by rw [upd_ne (ne_of e h (by intro z; cases z))]; exact e⟩
theorem HasK.ext {H H' : Hp} {v : V} {k : Kd} (h : HasK H v k) (e : Ext H H') : HasK H' v k := by
  cases h with
  | non => exact .non
  | bl b => exact .bl b
  | int i => exact .int i
  | str s => exact .str s
  | lst h => obtain ⟨ys, q⟩ := e.l _ _ h; exact .lst q
  | tup h => exact .tup (e.t _ _ h)
  | dct h => obtain ⟨ys, q⟩ := e.d _ _ h; exact .dct q
def tyK : Kd → String
  | .non => "NoneType" | .bl _ => "bool" | .int _ => "int" | .str _ => "str" | .lst => "list" | .tup _ => "tuple" | .dct => "dict"
theorem HasK.ty {K : PySem.W.Frag} {H : Hp} {v : V} {k : Kd} (h : HasK H v k) : TyX K H v (.type (tyK k)) := by
  cases h with
  | non => exact .base .non
  | bl b => exact .base (.bl b)
  | int i => exact .base (.int i)
  | str s => exact .base (.str s)
  | lst h => exact .base (.lst h)
  | tup h => exact .base (.tup h)
  | dct h => exact .base (.dK h)
def isTupK : Kd → Bool
  | .tup _ => true | _ => false
def isIntK : Kd → Bool
  | .int _ => true | .bl _ => true | _ => false
def isBoolK : Kd → Bool
  | .bl _ => true | _ => false
def isStrK : Kd → Bool
  | .str _ => true | _ => false
def wholeK : Kd → Bool
  | .int _ => true | _ => false
theorem kit_tup : ∀ k : Kd, kitB (tyK k) "tuple" = some (isTupK k)
  | .non => (by decide +kernel : kitB "NoneType" "tuple" = some false)
  | .bl _ => (by decide +kernel : kitB "bool" "tuple" = some false)
  | .int _ => (by decide +kernel : kitB "int" "tuple" = some false)
  | .str _ => (by decide +kernel : kitB "str" "tuple" = some false)
  | .lst => (by decide +kernel : kitB "list" "tuple" = some false)
  | .tup _ => (by decide +kernel : kitB "tuple" "tuple" = some true)
  | .dct => (by decide +kernel : kitB "dict" "tuple" = some false)
theorem kit_int : ∀ k : Kd, kitB (tyK k) "int" = some (isIntK k)
  | .non => (by decide +kernel : kitB "NoneType" "int" = some false)
  | .bl _ => (by decide +kernel : kitB "bool" "int" = some true)
  | .int _ => (by decide +kernel : kitB "int" "int" = some true)
  | .str _ => (by decide +kernel : kitB "str" "int" = some false)
  | .lst => (by decide +kernel : kitB "list" "int" = some false)
  | .tup _ => (by decide +kernel : kitB "tuple" "int" = some false)
  | .dct => (by decide +kernel : kitB "dict" "int" = some false)
theorem kit_bool : ∀ k : Kd, kitB (tyK k) "bool" = some (isBoolK k)
  | .non => (by decide +kernel : kitB "NoneType" "bool" = some false)
  | .bl _ => (by decide +kernel : kitB "bool" "bool" = some true)
  | .int _ => (by decide +kernel : kitB "int" "bool" = some false)
  | .str _ => (by decide +kernel : kitB "str" "bool" = some false)
  | .lst => (by decide +kernel : kitB "list" "bool" = some false)
  | .tup _ => (by decide +kernel : kitB "tuple" "bool" = some false)
  | .dct => (by decide +kernel : kitB "dict" "bool" = some false)
theorem kit_str : ∀ k : Kd, kitB (tyK k) "str" = some (isStrK k)
  | .non => (by decide +kernel : kitB "NoneType" "str" = some false)
  | .bl _ => (by decide +kernel : kitB "bool" "str" = some false)
  | .int _ => (by decide +kernel : kitB "int" "str" = some false)
  | .str _ => (by decide +kernel : kitB "str" "str" = some true)
  | .lst => (by decide +kernel : kitB "list" "str" = some false)
  | .tup _ => (by decide +kernel : kitB "tuple" "str" = some false)
  | .dct => (by decide +kernel : kitB "dict" "str" = some false)
section
variable {X : Cx} {K : PySem.W.Frag}
/-! ### the rules of the layer over a named K (so that they serve within a comprehension too) -/
theorem isi_K (hK : X.K = K) : CallR X (.builtin "isinstance") (rIsi K) := by
  subst hK
  exact call_isi
def rLenK (K : PySem.W.Frag) : List V → Hp → VK → Prop := fun xs H Q => ∃ p ys, xs = [.ref p] ∧ (SqL K H p ys ∨ SqT K H p ys) ∧ Q (.int ys.length) H
theorem len_K (hK : X.K = K) : CallR X (.builtin "len") (rLenK K) := by
  subst hK
  exact call_len_seq
theorem sl_K (hK : X.K = K) : SlR X (rSlA K) := by
  subst hK
  exact sl_tupA
theorem cat_K (hK : X.K = K) : OpR X (binaryOp .Add) (rCatA K) := by
  subst hK
  exact op_catA
theorem ixT_K (hK : X.K = K) : IxR X (rIxT K) := by
  subst hK
  exact ix_tup
theorem ixL_K (hK : X.K = K) : IxR X (rIxL K) := by
  subst hK
  exact ix_list
def rTupOf (K : PySem.W.Frag) : List V → Hp → VK → Prop := fun xs H Q => ∃ p ys, xs = [.ref p] ∧ ((SqL K H p ys ∧ ∀ l, H l = none → Q (.ref l) (upd H l (.tup ys))) ∨ (SqT K H p ys ∧ Q (.ref p) H))
/-! ### x == 'text', whatever x is -/
def eqK : Kd → Str → Bool
  | .str w, s => decide (w = s)
  | _, _ => false
theorem dict_eq_declines_text (l : Addr) (es : Array DictEntry) (n : Nat) (dd : Option Addr) (sl : Array (Option Value)) (b : Str) (u : Tok) :
    Meets (Builtin.«dict.__eq__» ⟨[.ref l, .str b u], []⟩) (fun _ R s => s.heap.get? l = some { cls := .type "dict", dict := dd, data := .dict es n, slots := sl } ∧ R (.ok (.ret .notImplemented)) s) :=
  .of_wp fun prog w A R s h => by obtain ⟨hp, g, d, tk, os⟩ := s; obtain ⟨hl, h⟩ := h; have f1 := F.sub_str_dict; wp_walk using AutoSeq1.wpAny_loadPart' hl; exact ⟨_, rfl, h⟩
theorem str_eq_declines_dict (b : Str) (u : Tok) (l : Addr) (c : Value) (es : Array DictEntry) (n : Nat) (dd : Option Addr) (sl : Array (Option Value)) :
    Meets (Builtin.«str.__eq__» ⟨[.str b u, .ref l], []⟩) (fun _ R s => s.heap.get? l = some { cls := c, dict := dd, data := .dict es n, slots := sl } ∧ R (.ok (.ret .notImplemented)) s) :=
  .of_wp fun prog w A R s h => by obtain ⟨hp, g, d, tk, os⟩ := s; obtain ⟨hl, h⟩ := h; wp_walk using AutoSeq1.wpAny_loadPart' hl, wpAny_load hl; exact ⟨_, rfl, h⟩
theorem rc_dict_str {A : Around} {s : Shared} {l : Addr} {o : Obj} {es : Array DictEntry} {n : Nat} (b : Str) (u : Tok) (ho : s.heap.get? l = some o) (hc : o.cls = .type "dict") (hd : o.data = .dict es n) (hu : A.units < cLine) : SeqAt.RcAt A s (.ref l) (.str b u) false := fun prog w E Q h => by
  obtain ⟨cls, dd, data, sl⟩ := o
  simp only at hc hd
  subst hc hd
  exact SeqAt.rc_eq_decline_or (k := false) ⟨_, ho, rfl⟩ (typeIs_str s b u) (by decide) F.sub_str_dict F.slot_dict_eq F.slot_str_eq_refl
    (fun _ hq => call_meets F.slot_dict_eq ⟨_, ho, rfl⟩ F.entry_dict_eq (F.args_dict_eq_2 _ _) (dict_eq_declines_text l es n dd sl b u) ⟨ho, hq⟩)
    (fun _ hq => call_meets F.slot_str_eq_refl (typeIs_str s b u) F.entry_str_eq (F.args_str_eq_2 _ _) (str_eq_declines_dict b u l (.type "dict") es n dd sl) ⟨ho, hq⟩)
    (fun _ hq => wpAny_pure hq) (.inr hu) h
def rEqK : R2 := fun x y H Q => ∃ k s, HasK H x k ∧ y = .str s ∧ Q (.bl (eqK k s)) H
theorem op_eqK {k : Nat} (hr : Room k X.A) : OpR X (compareOp .Eq) rEqK := by
  intro pins s σ H x y v u Q I rx ry h
  obtain ⟨kd, w, hk, rfl, q⟩ := h
  have hu := hr.units0
  cases hk with
  | non => exact op_eq pins s σ H _ _ v u Q I rx ry ⟨rfl, by simpa [eqK] using q⟩
  | bl b => exact op_eq pins s σ H _ _ v u Q I rx ry ⟨rfl, by simpa [eqK] using q⟩
  | int i => exact op_eq pins s σ H _ _ v u Q I rx ry ⟨rfl, by simpa [eqK] using q⟩
  | str z => exact op_eq pins s σ H _ _ v u Q I rx ry ⟨rfl, by simpa [eqK] using q⟩
  | lst h =>
    cases rx
    obtain ⟨t, rfl⟩ := ry
    obtain ⟨its, r, p, _⟩ := I.list (SqL.of h)
    exact SeqAt.RcAt.list_str w t p.isList hu _ _ _ _ ⟨.bl false, H, I, rfl, q⟩
  | tup h =>
    cases rx
    obtain ⟨t, rfl⟩ := ry
    obtain ⟨its, r, p, _⟩ := I.tuple (SqT.of h)
    exact SeqAt.RcAt.tuple_str w t p hu _ _ _ _ ⟨.bl false, H, I, rfl, q⟩
  | @dct a kvs h =>
    cases rx
    obtain ⟨t, rfl⟩ := ry
    obtain ⟨_, _, vs, _, o, es, ep, h1, h2, h3, _⟩ := (show ObjOk X.prog X.w H s.heap a (.dK kvs) from I.hok a _ h)
    exact rc_dict_str w t h1 h2.1 h3 hu _ _ _ _ ⟨.bl false, H, I, rfl, q⟩
/-! ### t == () -/
def rEqE : R2 := fun x y H Q => ∃ a b xs, x = .ref a ∧ y = .ref b ∧ H a = some (.tup xs) ∧ H b = some (.tup []) ∧ Q (.bl xs.isEmpty) H
theorem op_eqE {k : Nat} (hr : Room k X.A) : OpR X (compareOp .Eq) rEqE := by
  intro pins s σ H x y v u Q I rx ry h
  obtain ⟨a, b, xs, rfl, rfl, ha, hb, q⟩ := h
  cases rx
  cases ry
  obtain ⟨its, r1, p1, _⟩ := I.tuple (SqT.of ha)
  obtain ⟨its2, r2, p2, _⟩ := I.tuple (SqT.of hb)
  cases r2
  refine SeqAt.eq_tupleAt (e := fun _ => true) p1 p2 hr.units0 (fun j h1 h2 => absurd h2 (by simp)) ?_
  have hl := r1.length
  have e : ((List.range (min its.toArray.size ([] : List Value).toArray.size)).all (fun _ => true) && its.toArray.size == ([] : List Value).toArray.size) = xs.isEmpty := by
    cases xs with
    | nil =>
      cases r1
      rfl
    | cons x t =>
      cases r1
      simp
  rw [e]
  exact ⟨.bl _, H, I, rfl, q⟩
end
/-! ### t[::-1] -/
section
variable {prog : Program} {w : World} {A : Around} {E : Value → Shared → Prop} {s : Shared}
theorem back_applied {sl : Addr} {vk : Value} {n : Nat} {Q : Int × Int × Nat → Shared → Prop} (hs : s.heap.IsSliceOf sl .none .none vk) (pk : IsPart vk (some (-1))) (h : Q ((n : Int) - 1, -1, n) s) :
    wpAny (model prog w) A (Builtin.Slice.sliceApplied (.ref sl) (pure (n : Int))) Q E s := by
  obtain ⟨os, hos, hcs, hds⟩ := _root_.id hs
  unfold Builtin.Slice.sliceApplied Builtin.Slice.sliceFields
  refine wpAny_bind (wpAny_bind (wpAny_field hos hds (x := .none) rfl (wpAny_bind (wpAny_field hos hds (x := .none) rfl (wpAny_bind (wpAny_field hos hds (x := vk) rfl (wpAny_pure ?_)))))))
  refine wpAny_bind (HT.slicePart_ pk ?_)
  show wpAny _ _ (if ((-1 : Int) == 0) = true then _ else _) _ _ s
  rw [if_neg (by decide)]
  refine wpAny_bind (slicePart_none (wpAny_bind (slicePart_none (wpAny_bind (wpAny_pure ?_)))))
  have e1 : Builtin.Slice.sliceAdjust none none (-1) (n : Int) = ((n : Int) - 1, -1) := rfl
  have e2 : Builtin.Slice.slicePlaces ((n : Int) - 1) (-1) (-1) = n := by
    unfold Builtin.Slice.slicePlaces
    have h1 : ¬ ((-1 : Int) > 0) := by omega
    simp only [h1, if_false]
    split
    · rw [show (- (-1 : Int)) = 1 from rfl, Int.ediv_one]
      omega
    · omega
  show wpAny _ _ (pure ((Builtin.Slice.sliceAdjust none none (-1) (n : Int)).1, (-1 : Int), Builtin.Slice.slicePlaces (Builtin.Slice.sliceAdjust none none (-1) (n : Int)).1 (Builtin.Slice.sliceAdjust none none (-1) (n : Int)).2 (-1))) _ _ s
  rw [e1]
  show wpAny _ _ (pure ((n : Int) - 1, (-1 : Int), Builtin.Slice.slicePlaces ((n : Int) - 1) (-1) (-1))) _ _ s
  rw [e2]
  exact wpAny_pure h
theorem fm_some {α β : Type} {f : α → Option β} {g : α → β} : ∀ {l : List α}, (∀ a ∈ l, f a = some (g a)) → l.filterMap f = l.map g
  | [], _ => rfl
  | a :: r, h => by
    rw [List.filterMap_cons, h a (List.mem_cons.mpr (.inl rfl))]
    show g a :: r.filterMap f = g a :: r.map g
    rw [fm_some fun x hx => h x (List.mem_cons.mpr (.inr hx))]
theorem back_pick (xs : Array Value) : ((List.range xs.size).filterMap fun (m : Nat) => xs[(((xs.size : Int) - 1) + (m : Int) * (-1)).toNat]?).toArray = xs.toList.reverse.toArray := by
  congr 1
  have e : ((List.range xs.size).filterMap fun (m : Nat) => xs[(((xs.size : Int) - 1) + (m : Int) * (-1)).toNat]?) = (List.range xs.size).map (fun m => (xs.toList[xs.size - 1 - m]?).getD .none) := by
    refine fm_some fun m hm => ?_
    have hlt := List.mem_range.mp hm
    have e1 : (((xs.size : Int) - 1) + (m : Int) * (-1)).toNat = xs.size - 1 - m := by omega
    rw [e1, ← Array.getElem?_toList, List.getElem?_eq_getElem (by rw [Array.length_toList]; omega)]
    rfl
  rw [e]
  refine List.ext_getElem (by simp) fun i h1 h2 => ?_
  have h3 : i < xs.size := by simpa using h1
  rw [List.getElem_map, List.getElem_range, List.getElem_reverse, List.getElem?_eq_getElem (by rw [Array.length_toList]; omega)]
  simp
theorem tup_back {t sl : Addr} {items : Array Value} {vk : Value} {Q : Value → Shared → Prop} (ht : IsTup s.heap t items) (hs : s.heap.IsSliceOf sl .none .none vk) (pk : IsPart vk (some (-1)))
    (h : Q (.ref s.heap.objs.size) { s with heap := s.heap.push { cls := .type "tuple", data := .seq items.toList.reverse.toArray } }) (hsz : items.size ≤ sizeLine) : wpAny (model prog w) A (getItem (.ref t) (.ref sl)) Q E s := by
  have fits : sizeOk (.seq items.toList.reverse.toArray) := by
    show items.toList.reverse.toArray.size ≤ sizeLine
    rw [List.size_toArray, List.length_reverse, Array.length_toList]
    exact hsz
  obtain ⟨os, hos, hcs, hds⟩ := _root_.id hs
  have hTs : s.TypeIs (.ref sl) "slice" := ⟨os, hos, hcs⟩
  unfold getItem
  try with_reducible refine wpAny_holding ?_
  first | refine wpAny_bind (wpAny_pure ?_) | skip
  refine wpAny_bind (wpAny_sequenceKey ht.typeIs (by decide) ?_)
  refine wpAny_bind (wpAny_callSpecial?_slot (name := Str.ofString "__getitem__") ht.typeIs PyProof.Rows.slot_tuple_getitem (wpAny_call_entry PyProof.Rows.slot_tuple_getitem ht.typeIs entry_tuple_getitem ?_ (args_tuple_getitem _ _)))
  show wpAny _ _ (Builtin.Tuple.tupleItemsOf (.ref t) >>= _) _ _ s
  refine wpAny_bind (tupleItemsOf_ ht (wpAny_bind (wpAny_typeOf hTs ?_)))
  rw [if_pos (by decide)]
  refine wpAny_bind (back_applied (n := items.size) hs pk ?_)
  have hno : ¬ ((((items.size : Int) - 1) == 0 && (-1 : Int) == 1 && items.size == items.size) = true) := by simp
  show wpAny _ _ (if (((items.size : Int) - 1) == 0 && (-1 : Int) == 1 && items.size == items.size) = true then _ else _) _ _ s
  rw [if_neg hno, back_pick]
  first
    | exact wpAny_bind (m := Builtin.Tuple.tupleExact _) (wpAny_newObj_type (wpAny_pure ⟨_, rfl, wpAny_pure h⟩) fits)
    | exact wpAny_bind (m := Builtin.Tuple.tupleExact _) (wpAny_newObj_type (wpAny_bind (wpAny_pure (wpAny_pure ⟨_, rfl, wpAny_pure h⟩))) fits)
    | exact wpAny_bind (wpAny_bind (m := Builtin.Tuple.tupleExact _) (wpAny_newObj_type (wpAny_pure (wpAny_pure ⟨_, rfl, wpAny_pure h⟩)) fits))
    | exact wpAny_bind (wpAny_bind (m := Builtin.Tuple.tupleExact _) (wpAny_newObj_type (wpAny_pure ⟨_, rfl, wpAny_pure h⟩) fits))
end
section
variable {X : Cx}
def tRevT (K : PySem.W.Frag) (te : TE) : TE := fun σ H Q => te σ H fun x H1 => ∃ a xs, x = .ref a ∧ SqT K H1 a xs ∧ ∀ p, H1 p = none → Q (.ref p) (upd H1 p (.tup xs.reverse))
theorem pe_revT {e : Expr} {te : TE} {k : Nat} {p1 p2 p3 pos : Pos} (he : PE X e te) : PE X (.Subscript e (.Slice none none (some (.UnaryOp .USub (.Constant (.int 1) k p1) p2)) p3) pos) (tRevT X.K te) := by
  refine ⟨fun pins s σ H Q I h => Subscript_ (thn (he.run pins s σ H _ I h) fun v s1 out => ?_)⟩
  obtain ⟨x, H1, I1, r1, a, xs, rfl, hx, q⟩ := out
  cases r1
  have part : PO X (some (.UnaryOp .USub (.Constant (.int 1) k p1) p2)) (tPart (tUn (rU fun i => .int (-i)) (tC (.int 1)))) := po_some (pe_un un_neg pe_int)
  refine wpAny_Slice ?_
  rw [evalPart_none]
  refine wpAny_pure (wpAny_pure ?_)
  refine thn (part.run pins s1 σ H1 (fun o H4 => o = some (-1) ∧ H4 = H1) I1 ⟨1, rfl, -1, rfl, rfl, rfl⟩) fun vk s4 out => ?_
  obtain ⟨o, H4, I4, pk, rfl, rfl⟩ := out
  have I5 : Inv X pins σ H4 { s4 with heap := s4.heap.push { cls := .type "slice", data := .fields #[.none, .none, vk] } } := I4.kept (t' := s4.toks) fun b ob z => Heap.get?_push_of_some _ z
  obtain ⟨its, r, ht, hz⟩ := I5.tuple hx
  have hlen := r.length
  show wpAny (model X.prog X.w) X.A (subscriptTail e (.Slice none none (some (.UnaryOp .USub (.Constant (.int 1) k p1) p2)) p3) (.ref a) (.ref s4.heap.objs.size)) (EP X pins σ Q) X.xe { s4 with heap := s4.heap.push { cls := .type "slice", data := .fields #[.none, .none, vk] } }
  refine tail_any (ops := [.ref a, .ref s4.heap.objs.size]) ht.typeIs PyProof.Rows.slot_tuple_getitem.lookup ?_ (by with_unfolding_all rfl)
  refine tup_back ht (Heap.IsSliceOf.new _ .none .none vk) pk ?_ (by rw [List.size_toArray]; omega)
  refine ⟨.ref _, _, I5.laid (t' := s4.toks) (o := .tup xs.reverse) (fun b ob z => Heap.get?_push_of_some _ z) (Nat.le_refl _) ?_, rfl, q _ (I5.hok.fresh (Nat.le_refl _))⟩
  exact ⟨by rw [List.length_reverse]; exact hz, _, r.reverse, _, Heap.get?_push_size _ rfl, rfl, 0, rfl⟩
end
section
end
end Cm

set_option Elab.async false
set_option linter.all false
set_option maxRecDepth 100000
set_option maxHeartbeats 4000000
namespace Cm
open PySem PySem.Spec PyProof.Rows L2
/-! ### the drawing list: left, seed, count -/
def LP (H : Hp) (p : Addr) : Prop := ∃ x y z : Int, H p = some (.lst [.int x, .int y, .int z])
theorem LP.same {H H' : Hp} {p : Addr} (h : LP H p) (s : Same H H') : LP H' p := by
  obtain ⟨x, y, z, e⟩ := h
  exact ⟨x, y, z, s _ _ e⟩
theorem LP.but {H H' : Hp} {p q : Addr} (h : LP H p) (s : But q H H') (n : p ≠ q) : LP H' p := by
  obtain ⟨x, y, z, e⟩ := h
  exact ⟨x, y, z, s _ _ n e⟩
def rPenL (K : PySem.W.Frag) : V → V → Hp → VK → Prop := fun x y H Q => ∃ (a : Addr) (ns : List Int) (k : Int), x = .ref a ∧ y = .int k ∧ SqL K H a (ns.map V.int) ∧ 0 ≤ k ∧ ∀ p H', H p = none → Same H H' → LP H' p → Q (.ref p) H'
def rDrawL : V → V → Hp → VK → Prop := fun a b H Q => ∃ (p : Addr) (many : Int), a = .ref p ∧ b = .int many ∧ LP H p ∧ 0 < many ∧ many < 1073741824 ∧ ∀ r H', 0 ≤ r → r < many → LP H' p → But p H H' → Ext H H' → Q (.int r) H'
theorem cellL {ns : List Int} {i : Int} (h0 : 0 ≤ i) (h1 : i < ((ns.map V.int).length : Int)) : ∃ z, atI (ns.map V.int) i = some (.int z) := by
  rw [List.length_map] at h1
  have hj : i.toNat < ns.length := by omega
  refine ⟨ns[i.toNat], ?_⟩
  have e : ((i.toNat : Nat) : Int) = i := by omega
  have q : atI (ns.map V.int) ((i.toNat : Nat) : Int) = some (.int ns[i.toNat]) := atI_nat (by rw [List.getElem?_map, List.getElem?_eq_getElem hj]; rfl)
  rw [e] at q
  exact q
theorem eq_yes {i j : Int} (e : decide (V.int i = V.int j) = true) : i = j := V.int.inj (of_decide_eq_true e)
theorem eq_no {i j : Int} (e : ¬ decide (V.int i = V.int j) = true) : i ≠ j := fun z => e (by rw [z]; exact decide_eq_true rfl)
theorem ne_yes {i j : Int} (e : (!decide (V.int i = V.int j)) = true) : i ≠ j := fun z => by
  rw [z, decide_eq_true rfl] at e
  exact Bool.noConfusion e
theorem ne_no {i j : Int} (e : ¬ (!decide (V.int i = V.int j)) = true) : i = j := by
  by_cases h : i = j
  · exact h
  · exact absurd (by rw [decide_eq_false fun z => h (V.int.inj z)]; rfl) e
theorem q587 : (0 : Int) < 2147483587 := by decide
theorem q647 : (0 : Int) < 2147483647 := by decide
theorem q629 : (0 : Int) < 2147483629 := by decide
theorem q521 : (0 : Int) < 65521 := by decide
theorem p15 : (0 : Int) < 10 ^ (15 : Int).toNat := by decide
end Cm

set_option Elab.async false
set_option linter.all false
set_option maxRecDepth 100000
set_option maxHeartbeats 4000000
namespace Cm
open PySem PySem.Spec PyProof.Rows L2
/-! ### what a step is, by kinds -/
def numK (many : Int) : Kd → Bool
  | .int i => decide (0 ≤ i) && decide (i < many)
  | _ => false
def unlikeK (many : Int) : Kd → Kd → Bool
  | .int i, .int j => (decide (0 ≤ i) && decide (i < many)) && ((decide (0 ≤ j) && decide (j < many)) && !decide (V.int i = V.int j))
  | _, _ => false
def addK (many : Int) : List Kd → Bool
  | [a, b, c] => unlikeK many a b && wholeK c
  | _ => false
def swapK (many : Int) : List Kd → Bool
  | [a, b] => unlikeK many a b
  | _ => false
def turnK (many : Int) : List Kd → Bool
  | [a] => numK many a
  | _ => false
def stepK (many : Int) : List Kd → Bool
  | [] => false
  | k :: r => if eqK k "add" = true then addK many r else if eqK k "swap" = true then swapK many r else if eqK k "turn" = true then turnK many r else false
def stepO (many : Int) : Option (List Kd) → Bool
  | none => false
  | some ks => stepK many ks
/-- the kinds of a tuple's items; none of what is no tuple -/
def KsOf (H : Hp) (v : V) : Option (List Kd) → Prop
  | none => ∃ k, HasK H v k ∧ isTupK k = false
  | some ks => ∃ a xs, v = .ref a ∧ H a = some (.tup xs) ∧ Paired (HasK H) xs ks
theorem KsOf.ext {H H' : Hp} {v : V} : ∀ {o : Option (List Kd)}, KsOf H v o → Ext H H' → KsOf H' v o
  | none, ⟨k, h1, h2⟩, e => ⟨k, h1.ext e, h2⟩
  | some ks, ⟨a, xs, h1, h2, h3⟩, e => ⟨a, xs, h1, e.t _ _ h2, Paired.mapP h3 fun _ _ z => z.ext e⟩
/-- a tuple of at most n things of known kinds -/
def TK (n : Nat) (H : Hp) (v : V) : Prop := ∃ a xs, v = .ref a ∧ H a = some (.tup xs) ∧ xs.length ≤ n ∧ ∀ x ∈ xs, ∃ k, HasK H x k
theorem TK.ext {n : Nat} {H H' : Hp} {v : V} (h : TK n H v) (e : Ext H H') : TK n H' v := by
  obtain ⟨a, xs, h1, h2, h3, h4⟩ := h
  exact ⟨a, xs, h1, e.t _ _ h2, h3, fun x hx => let ⟨k, q⟩ := h4 x hx; ⟨k, q.ext e⟩⟩
/-- a thing of known kind, a tuple of such things -/
def Gd (H : Hp) (v : V) : Prop := ∃ o, KsOf H v o
theorem Gd.ext {H H' : Hp} {v : V} (h : Gd H v) (e : Ext H H') : Gd H' v := let ⟨o, q⟩ := h; ⟨o, q.ext e⟩
theorem kinds_of {H : Hp} : ∀ {xs : List V}, (∀ x ∈ xs, ∃ k, HasK H x k) → ∃ ks, Paired (HasK H) xs ks
  | [], _ => ⟨[], .nil⟩
  | x :: r, h => by
    obtain ⟨k, hk⟩ := h x (List.mem_cons.mpr (.inl rfl))
    obtain ⟨ks, hks⟩ := kinds_of fun y hy => h y (List.mem_cons.mpr (.inr hy))
    exact ⟨k :: ks, .cons hk hks⟩
theorem TK.gd {n : Nat} {H : Hp} {v : V} (h : TK n H v) : Gd H v := by
  obtain ⟨a, xs, h1, h2, _, h4⟩ := h
  obtain ⟨ks, hks⟩ := kinds_of h4
  exact ⟨some ks, a, xs, h1, h2, hks⟩
theorem HasK.gd {H : Hp} {v : V} {k : Kd} (h : HasK H v k) (hk : isTupK k = false) : Gd H v := ⟨none, k, h, hk⟩
/-! ### slices and sums of such tuples -/
theorem cut_mem {xs : List V} {lo hi : Option Int} {x : V} (h : x ∈ cutV xs lo hi) : x ∈ xs := List.mem_of_mem_drop (List.mem_of_mem_take h)
theorem sl_TK {K : PySem.W.Frag} {n : Nat} {H : Hp} {v : V} {lo hi : Option Int} {Q : VK} (h : TK n H v) (q : ∀ v' H', Same H H' → TK n H' v' → Q v' H') : rSlA K v lo hi H Q := by
  obtain ⟨a, xs, rfl, h2, h3, h4⟩ := id h
  refine ⟨a, xs, rfl, SqT.of h2, fun _ => q _ _ (Same.refl H) h, fun _ p hp => q _ _ (same_new hp) ⟨p, _, rfl, upd_same, Nat.le_trans (cutV_length _ _ _) h3, fun x hx => ?_⟩⟩
  obtain ⟨k, hk⟩ := h4 x (cut_mem hx)
  exact ⟨k, hk.ext (Ext.same (same_new hp))⟩
theorem cat_TK {K : PySem.W.Frag} {n m : Nat} {H : Hp} {v u : V} {Q : VK} (h : TK n H v) (h' : TK m H u) (hs : n + m ≤ 1000) (q : ∀ v' H', Same H H' → TK (n + m) H' v' → Q v' H') : rCatA K v u H Q := by
  obtain ⟨a, xs, rfl, h2, h3, h4⟩ := id h
  obtain ⟨b, ys, rfl, k2, k3, k4⟩ := id h'
  have up1 : TK (n + m) H (.ref a) := ⟨a, xs, rfl, h2, by omega, h4⟩
  have up2 : TK (n + m) H (.ref b) := ⟨b, ys, rfl, k2, by omega, k4⟩
  refine ⟨a, b, xs, ys, rfl, rfl, SqT.of h2, SqT.of k2, Nat.le_of_lt (small1000 (by omega)), fun _ => q _ _ (Same.refl H) up2, fun _ _ => q _ _ (Same.refl H) up1, fun _ _ p hp => q _ _ (same_new hp) ⟨p, _, rfl, upd_same, ?_, fun x hx => ?_⟩⟩
  · rw [List.length_append]
    omega
  · rcases List.mem_append.mp hx with z | z
    · obtain ⟨k, hk⟩ := h4 x z
      exact ⟨k, hk.ext (Ext.same (same_new hp))⟩
    · obtain ⟨k, hk⟩ := k4 x z
      exact ⟨k, hk.ext (Ext.same (same_new hp))⟩
theorem one_TK {H : Hp} {p : Addr} {x : V} {k : Kd} (hp : H p = none) (hk : HasK H x k) : TK 1 (upd H p (.tup [x])) (.ref p) :=
  ⟨p, [x], rfl, upd_same, Nat.le_refl _, fun y hy => ⟨k, by rw [List.mem_singleton.mp hy]; exact hk.ext (Ext.same (same_new hp))⟩⟩
/-! ### a step by kinds: what isn't whole makes none -/
theorem not_whole_num {many : Int} {k : Kd} (h : wholeK k = false) : numK many k = false := by cases k <;> first | rfl | exact absurd h (by simp [wholeK])
theorem not_whole_l {many : Int} {k k' : Kd} (h : wholeK k = false) : unlikeK many k k' = false := by cases k <;> first | rfl | exact absurd h (by simp [wholeK])
theorem not_whole_r {many : Int} {k k' : Kd} (h : wholeK k' = false) : unlikeK many k k' = false := by
  cases k <;> cases k' <;> first | rfl | exact absurd h (by simp [wholeK])
theorem step_not_whole {many : Int} {k0 : Kd} {r : List Kd} {k : Kd} (hm : k ∈ r) (h : wholeK k = false) : stepK many (k0 :: r) = false := by
  have ha : addK many r = false := by
    rcases r with _ | ⟨a, _ | ⟨b, _ | ⟨c, _ | ⟨d, r⟩⟩⟩⟩ <;> first | rfl | skip
    show (unlikeK many a b && wholeK c) = false
    rcases List.mem_cons.mp hm with rfl | hm
    · rw [not_whole_l h]
      rfl
    rcases List.mem_cons.mp hm with rfl | hm
    · rw [not_whole_r h]
      rfl
    rw [List.mem_singleton.mp hm] at h
    rw [h, Bool.and_false]
  have hs : swapK many r = false := by
    rcases r with _ | ⟨a, _ | ⟨b, _ | ⟨c, r⟩⟩⟩ <;> first | rfl | skip
    show unlikeK many a b = false
    rcases List.mem_cons.mp hm with rfl | hm
    · exact not_whole_l h
    rw [List.mem_singleton.mp hm] at h
    exact not_whole_r h
  have ht : turnK many r = false := by
    rcases r with _ | ⟨a, _ | ⟨b, r⟩⟩ <;> first | rfl | skip
    show numK many a = false
    rw [List.mem_singleton.mp hm] at h
    exact not_whole_num h
  show (if eqK k0 "add" = true then addK many r else if eqK k0 "swap" = true then swapK many r else if eqK k0 "turn" = true then turnK many r else false) = false
  rw [ha, hs, ht]
  split
  · rfl
  · split
    · rfl
    · split <;> rfl
theorem step_not_str {many : Int} {k0 : Kd} {r : List Kd} (h : isStrK k0 = false) : stepK many (k0 :: r) = false := by
  have e : ∀ s, eqK k0 s = false := fun s => by cases k0 <;> first | rfl | exact absurd h (by simp [isStrK])
  show (if eqK k0 "add" = true then addK many r else if eqK k0 "swap" = true then swapK many r else if eqK k0 "turn" = true then turnK many r else false) = false
  rw [e, e, e]
  rfl
theorem whole_int {k : Kd} (h : wholeK k = true) : ∃ i, k = .int i := by
  cases k <;> first | exact ⟨_, rfl⟩ | exact absurd h (by simp [wholeK])
theorem all_ints {H : Hp} : ∀ {xs : List V} {ks : List Kd}, Paired (HasK H) xs ks → (∀ k ∈ ks, wholeK k = true) → ∃ ns : List Int, xs = ns.map V.int ∧ ks = ns.map Kd.int
  | _, _, .nil, _ => ⟨[], rfl, rfl⟩
  | _, _, .cons h t, hw => by
    obtain ⟨i, rfl⟩ := whole_int (hw _ (List.mem_cons.mpr (.inl rfl)))
    obtain ⟨ns, rfl, rfl⟩ := all_ints t fun k hk => hw k (List.mem_cons.mpr (.inr hk))
    cases h
    exact ⟨i :: ns, rfl, rfl⟩
end Cm

set_option Elab.async false
set_option linter.all false
set_option maxRecDepth 100000
set_option maxHeartbeats 4000000
namespace Cm
open PySem PySem.Spec PyProof.Rows L2
/-! ### (z,) * n -/
theorem tuple_mul1 (l : Addr) (items : Array Value) (n : Nat) (dd : Option Addr) (sl : Array (Option Value)) (u : Tok) :
    Meets (Builtin.«tuple.__mul__» ⟨[.ref l, .int 1 u], []⟩) (fun _ R s => s.heap.get? l = some { cls := .type "tuple", dict := dd, data := .seq items n, slots := sl } ∧ R (.ok (.ret (Value.ref l))) s) :=
  .of_wp fun P0 w0 A0 R0 s0 pre => by
    obtain ⟨hp0, g0, d0, tk0, os0⟩ := s0
    obtain ⟨hat, post⟩ := pre
    have f1 := AutoSeq1.idx_int
    wp_walk using wpAny_loadPart' hat
    exact ⟨_, rfl, post⟩
theorem tuple_mul0 (l : Addr) (items : Array Value) (n : Nat) (dd : Option Addr) (sl : Array (Option Value)) (u : Tok) (hi : items.isEmpty = false) :
    Meets (Builtin.«tuple.__mul__» ⟨[.ref l, .int 0 u], []⟩) (fun _ R s => s.heap.get? l = some { cls := .type "tuple", dict := dd, data := .seq items n, slots := sl } ∧
      R (.ok (.ret (Value.ref s.heap.objs.size))) { s with heap := s.heap.push { cls := Value.type "tuple", data := Data.seq #[] }, toks := s.toks }) :=
  .of_wp fun P0 w0 A0 R0 s0 pre => by
    obtain ⟨hp0, g0, d0, tk0, os0⟩ := s0
    obtain ⟨hat, post⟩ := pre
    have f1 := AutoSeq1.idx_int
    wp_walk using wpAny_loadPart' hat
    have c1 : (items.isEmpty || (0 : Int) == 1) = false := by rw [hi]; rfl
    have c2 : (decide ((0 : Int) ≤ 0) || items.isEmpty) = true := by rw [hi]; rfl
    exact ⟨_, rfl, post⟩
def rRepN : R2 := fun x y H Q => ∃ (l : Addr) (z : V) (n : Nat), x = .ref l ∧ y = .int n ∧ H l = some (.tup [z]) ∧ n ≤ 1000 ∧ ∀ p H', Same H H' → H' p = some (.tup (List.replicate n z)) → Q (.ref p) H'
theorem rep_flat (z : V) : ∀ n : Nat, (List.replicate n [z]).flatten = List.replicate n z
  | 0 => rfl
  | n + 1 => by
    rw [List.replicate_succ, List.flatten_cons, rep_flat z n]
    rfl
theorem op_repN {X : Cx} : OpR X (binaryOp .Mult) rRepN := by
  intro pins s σ H x y v u Q I rx ry h
  obtain ⟨l, z, n, rfl, rfl, hl, hn, q⟩ := h
  match n, hn, q, ry with
  | 0, hn, q, ry =>
    cases rx
    obtain ⟨t, rfl⟩ := ry
    obtain ⟨its, r, ⟨⟨cls, dd, data, sl⟩, ho, hc, n, hd⟩, hs⟩ := I.tuple (SqT.of hl)
    simp only at hc hd
    subst hc hd
    have hi : its.toArray.isEmpty = false := by
      cases r
      rfl
    refine wpAny_binaryOp_repeat_ref (T := "tuple") (U := "int") (by decide) ⟨_, ho, rfl⟩ (fun s' => typeIs_int s' _ t) noFill_tuple_mul F.fills_int_mul F.slot_int_rmul repeat_tuple F.slot_int_index.lookup
      (call_meets F.slot_int_rmul (typeIs_int s _ t) F.entry_int_rmul (F.args_int_rmul_2 _ _) (int_rmul_tuple _ t l its.toArray n dd sl)
        ⟨ho, rfl, ⟨_, ho, rfl⟩, call_meets F.slot_tuple_mul ⟨_, ho, rfl⟩ F.entry_tuple_mul (F.args_tuple_mul_2 _ _) (tuple_mul0 l its.toArray n dd sl t hi) ⟨ho, ?_⟩⟩)
    refine ⟨.ref s.heap.objs.size, _, I.laid (t' := s.toks) (o := .tup []) (fun b ob q => Heap.get?_push_of_some _ q) (Nat.le_refl _) ?_, rfl, q _ _ (same_new (I.hok.fresh (Nat.le_refl _))) upd_same⟩
    exact ⟨Nat.zero_le _, [], .nil, IsTup.new _ _⟩
  | 1, hn, q, ry =>
    cases rx
    obtain ⟨t, rfl⟩ := ry
    obtain ⟨its, r, ⟨⟨cls, dd, data, sl⟩, ho, hc, n, hd⟩, hs⟩ := I.tuple (SqT.of hl)
    simp only at hc hd
    subst hc hd
    refine wpAny_binaryOp_repeat_ref (T := "tuple") (U := "int") (by decide) ⟨_, ho, rfl⟩ (fun s' => typeIs_int s' _ t) noFill_tuple_mul F.fills_int_mul F.slot_int_rmul repeat_tuple F.slot_int_index.lookup
      (call_meets F.slot_int_rmul (typeIs_int s _ t) F.entry_int_rmul (F.args_int_rmul_2 _ _) (int_rmul_tuple _ t l its.toArray n dd sl)
        ⟨ho, rfl, ⟨_, ho, rfl⟩, call_meets F.slot_tuple_mul ⟨_, ho, rfl⟩ F.entry_tuple_mul (F.args_tuple_mul_2 _ _) (tuple_mul1 l its.toArray n dd sl t) ⟨ho, ?_⟩⟩)
    exact ⟨.ref l, H, I, rfl, q _ _ (Same.refl H) hl⟩
  | n + 2, hn, q, ry =>
    refine op_repT pins s σ H _ _ v u Q I rx ry ⟨l, _, [z], rfl, rfl, SqT.of hl, by simp, by omega, by omega, by simp, fun p hp => ?_⟩
    refine q p _ (same_new hp) ?_
    rw [upd_same, show (((n + 2 : Nat) : Int)).toNat = n + 2 from rfl, rep_flat]
theorem walk_zipT {K : PySem.W.Frag} {a b : Addr} {xs ys : List V} {n : Nat} (hn : n = min xs.length ys.length) : Walk (RZ.ItzT K a b) n (fun H => SqT K H a xs ∧ SqT K H b ys) (YPair (fun i => xs[i]?) (fun i => ys[i]?)) := by
  subst hn
  constructor
  · intro i G hi g
    exact ⟨xs, ys, _, _, g.1, g.2, List.getElem?_eq_getElem (Nat.lt_of_lt_of_le hi (Nat.min_le_left _ _)), List.getElem?_eq_getElem (Nat.lt_of_lt_of_le hi (Nat.min_le_right _ _))⟩
  · intro G g
    refine ⟨xs, ys, g.1, g.2, ?_⟩
    omega
  · rintro i G v G' _ g ⟨t, p, r, e1, e2, e3, e4, e5⟩
    exact ⟨t, p, r, e1, e2, e3, e4 _ g.1, e5 _ g.2⟩
end Cm

set_option Elab.async false
set_option linter.all false
set_option maxRecDepth 100000
set_option maxHeartbeats 4000000
namespace Cm
open PySem PySem.Spec PyProof.Rows L2
/-! ### rows and steps, as numbers -/
abbrev Rs := List (List Int)
inductive St3 where
  | add (i j : Nat) (z : Int) | swap (i j : Nat) | turn (i : Nat)
def St3.vals : St3 → List V
  | .add i j z => [.str "add", .int i, .int j, .int z]
  | .swap i j => [.str "swap", .int i, .int j]
  | .turn i => [.str "turn", .int i]
def St3.ok (m : Nat) : St3 → Prop
  | .add i j z => i < m ∧ j < m ∧ i ≠ j ∧ z.natAbs < 2 ^ 100
  | .swap i j => i < m ∧ j < m ∧ i ≠ j
  | .turn i => i < m
def St3.back : St3 → St3
  | .add i j z => .add i j (-z)
  | .swap i j => .swap i j
  | .turn i => .turn i
theorem back_ok {m : Nat} : ∀ {st : St3}, st.ok m → st.back.ok m
  | .add i j z, ⟨h1, h2, h3, h4⟩ => ⟨h1, h2, h3, by rw [Int.natAbs_neg]; exact h4⟩
  | .swap _ _, h => h
  | .turn _, h => h
def row (rs : Rs) (i : Nat) : List Int := rs[i]?.getD []
def St3.run : St3 → Rs → Rs
  | .add i j z, rs => rs.set i (List.zipWith (fun x y => x + z * y) (row rs i) (row rs j))
  | .swap i j, rs => (rs.set i (row rs j)).set j (row rs i)
  | .turn i, rs => rs.set i ((row rs i).map fun x => -x)
structure RB (m w b : Nat) (rs : Rs) : Prop where
  len : rs.length = m
  wide : ∀ r ∈ rs, r.length = w
  small : ∀ r ∈ rs, ∀ x ∈ r, x.natAbs < 2 ^ b
theorem row_at {rs : Rs} {i : Nat} (h : i < rs.length) : rs[i]? = some (row rs i) := by
  unfold row
  rw [List.getElem?_eq_getElem h]
  rfl
theorem row_mem {rs : Rs} {i : Nat} (h : i < rs.length) : row rs i ∈ rs := List.mem_of_getElem? (row_at h)
theorem RB.mono {m w b c : Nat} {rs : Rs} (h : RB m w b rs) (hb : b ≤ c) : RB m w c rs :=
  ⟨h.len, h.wide, fun r hr x hx => Nat.lt_of_lt_of_le (h.small r hr x hx) (Nat.pow_le_pow_right (by decide) hb)⟩
theorem mem_set {rs : Rs} {i : Nat} {r x : List Int} (h : x ∈ rs.set i r) : x ∈ rs ∨ x = r := by
  rcases List.mem_or_eq_of_mem_set h with z | z
  · exact .inl z
  · exact .inr z
theorem RB.set {m w b : Nat} {rs : Rs} {i : Nat} {r : List Int} (h : RB m w b rs) (h1 : r.length = w) (h2 : ∀ x ∈ r, x.natAbs < 2 ^ b) : RB m w b (rs.set i r) :=
  ⟨by rw [List.length_set]; exact h.len, fun x hx => by
    rcases mem_set hx with z | z
    · exact h.wide x z
    · rw [z]; exact h1, fun x hx => by
    rcases mem_set hx with z | z
    · exact h.small x z
    · rw [z]; exact h2⟩
theorem mem_zipWith {f : Int → Int → Int} : ∀ {xs ys : List Int} {z : Int}, z ∈ List.zipWith f xs ys → ∃ x y, x ∈ xs ∧ y ∈ ys ∧ z = f x y
  | [], _, _, h => by simp at h
  | _ :: _, [], _, h => by simp at h
  | x :: xs, y :: ys, z, h => by
    rw [List.zipWith_cons_cons] at h
    rcases List.mem_cons.mp h with e | e
    · exact ⟨x, y, List.mem_cons.mpr (.inl rfl), List.mem_cons.mpr (.inl rfl), e⟩
    · obtain ⟨a, c, h1, h2, h3⟩ := mem_zipWith e
      exact ⟨a, c, List.mem_cons.mpr (.inr h1), List.mem_cons.mpr (.inr h2), h3⟩
theorem add_small {b : Nat} {x y z : Int} (hx : x.natAbs < 2 ^ b) (hy : y.natAbs < 2 ^ b) (hz : z.natAbs < 2 ^ 100) : (x + z * y).natAbs < 2 ^ (b + 101) := by
  have h1 : (x + z * y).natAbs ≤ x.natAbs + z.natAbs * y.natAbs := by
    rw [← Int.natAbs_mul]
    exact Int.natAbs_add_le _ _
  have h2 : z.natAbs * y.natAbs ≤ 2 ^ 100 * 2 ^ b := Nat.mul_le_mul (Nat.le_of_lt hz) (Nat.le_of_lt hy)
  have e : 2 ^ (b + 101) = 2 ^ 101 * 2 ^ b := by rw [Nat.pow_add, Nat.mul_comm]
  rw [e]
  have h3 : (2 : Nat) ^ 101 * 2 ^ b = 2 ^ 100 * 2 ^ b + 2 ^ 100 * 2 ^ b := by
    rw [show (2 : Nat) ^ 101 = 2 ^ 100 + 2 ^ 100 from by decide, Nat.add_mul]
  have h4 : 2 ^ b ≤ 2 ^ 100 * 2 ^ b := Nat.le_mul_of_pos_left _ (by decide)
  omega
theorem run_RB {m w b : Nat} {rs : Rs} : ∀ {st : St3}, st.ok m → RB m w b rs → RB m w (b + 101) (st.run rs)
  | .add i j z, ⟨h1, h2, h3, h4⟩, h => by
    have li : i < rs.length := by rw [h.len]; exact h1
    have lj : j < rs.length := by rw [h.len]; exact h2
    refine (h.mono (by omega)).set ?_ fun x hx => ?_
    · rw [List.length_zipWith, h.wide _ (row_mem li), h.wide _ (row_mem lj), Nat.min_self]
    · obtain ⟨p, q, hp, hq, rfl⟩ := mem_zipWith hx
      exact add_small (h.small _ (row_mem li) p hp) (h.small _ (row_mem lj) q hq) h4
  | .swap i j, ⟨h1, h2, h3⟩, h => by
    have li : i < rs.length := by rw [h.len]; exact h1
    have lj : j < rs.length := by rw [h.len]; exact h2
    have hm := h.mono (c := b + 101) (by omega)
    exact (hm.set (hm.wide _ (row_mem lj)) (hm.small _ (row_mem lj))).set (hm.wide _ (row_mem li)) (hm.small _ (row_mem li))
  | .turn i, h1, h => by
    have li : i < rs.length := by rw [h.len]; exact h1
    have hm := h.mono (c := b + 101) (by omega)
    refine hm.set (by rw [List.length_map]; exact hm.wide _ (row_mem li)) fun x hx => ?_
    obtain ⟨y, hy, rfl⟩ := List.mem_map.mp hx
    rw [Int.natAbs_neg]
    exact hm.small _ (row_mem li) y hy
theorem row_set_same {rs : Rs} {i : Nat} {r : List Int} (h : i < rs.length) : row (rs.set i r) i = r := by
  unfold row
  rw [List.getElem?_set_self h]
  rfl
theorem row_set_ne {rs : Rs} {i j : Nat} {r : List Int} (h : i ≠ j) : row (rs.set i r) j = row rs j := by
  unfold row
  rw [List.getElem?_set_ne h]
theorem set_row {rs : Rs} {i : Nat} (h : i < rs.length) : rs.set i (row rs i) = rs := by
  refine List.ext_getElem? fun k => ?_
  by_cases hk : i = k
  · subst hk
    rw [List.getElem?_set_self h, row_at h]
  · rw [List.getElem?_set_ne hk]
theorem zip_back {z : Int} : ∀ {xs ys : List Int}, xs.length = ys.length → List.zipWith (fun x y => x + -z * y) (List.zipWith (fun x y => x + z * y) xs ys) ys = xs
  | [], [], _ => rfl
  | x :: xs, y :: ys, h => by
    rw [List.zipWith_cons_cons, List.zipWith_cons_cons, zip_back (Nat.succ.inj h)]
    congr 1
    rw [Int.neg_mul]
    omega
theorem neg_back : ∀ xs : List Int, (xs.map fun x => -x).map (fun x => -x) = xs
  | [] => rfl
  | x :: xs => by
    rw [List.map_cons, List.map_cons, neg_back xs, Int.neg_neg]
theorem run_back {m w b : Nat} {rs : Rs} : ∀ {st : St3}, st.ok m → RB m w b rs → st.back.run (st.run rs) = rs
  | .add i j z, ⟨h1, h2, h3, h4⟩, h => by
    have li : i < rs.length := by rw [h.len]; exact h1
    have lj : j < rs.length := by rw [h.len]; exact h2
    show (rs.set i _).set i (List.zipWith (fun x y => x + -z * y) (row (rs.set i _) i) (row (rs.set i _) j)) = rs
    rw [row_set_same li, row_set_ne h3, zip_back (by rw [h.wide _ (row_mem li), h.wide _ (row_mem lj)]), List.set_set, set_row li]
  | .swap i j, ⟨h1, h2, h3⟩, h => by
    have li : i < rs.length := by rw [h.len]; exact h1
    have lj : j < rs.length := by rw [h.len]; exact h2
    show (((rs.set i (row rs j)).set j (row rs i)).set i (row ((rs.set i (row rs j)).set j (row rs i)) j)).set j (row ((rs.set i (row rs j)).set j (row rs i)) i) = rs
    have e1 : row ((rs.set i (row rs j)).set j (row rs i)) j = row rs i := row_set_same (by rw [List.length_set]; exact lj)
    have e2 : row ((rs.set i (row rs j)).set j (row rs i)) i = row rs j := by
      rw [row_set_ne (Ne.symm h3), row_set_same li]
    rw [e1, e2, List.set_comm _ _ (Ne.symm h3), List.set_set, List.set_set, set_row li, set_row lj]
  | .turn i, h1, h => by
    have li : i < rs.length := by rw [h.len]; exact h1
    show (rs.set i _).set i ((row (rs.set i _) i).map fun x => -x) = rs
    rw [row_set_same li, neg_back, List.set_set, set_row li]
theorem mulW_small {i j : Int} (hi : i.natAbs < 2 ^ 2000) (hj : j.natAbs < 2 ^ 2000) : CMulW i j := by
  show i.natAbs.log2 + j.natAbs.log2 < 1000000
  have l : ∀ n : Nat, n < 2 ^ 2000 → n.log2 < 2001 := fun n h => by
    by_cases hn : n = 0
    · subst hn; decide
    · exact Nat.lt_succ_of_lt ((Nat.log2_lt hn).mpr h)
  have := l _ hi
  have := l _ hj
  omega
/-! ### the way back, step by step -/
inductive Undo (m w : Nat) : List St3 → Rs → Rs → Prop where
  | nil {r : Rs} : Undo m w [] r r
  | cons {b : St3} {bs : List St3} {cur r0 : Rs} {k : Nat} : b.ok m → RB m w k cur → k ≤ 1000 → Undo m w bs (b.run cur) r0 → Undo m w (b :: bs) cur r0
/-! ### as data -/
def rowD (r : List Int) : PyData := .tuple (r.map .int)
def rowsD (rs : Rs) : PyData := .tuple (rs.map rowD)
def St3.data : St3 → PyData
  | .add i j z => .tuple [.str "add", .int i, .int j, .int z]
  | .swap i j => .tuple [.str "swap", .int i, .int j]
  | .turn i => .tuple [.str "turn", .int i]
theorem lay_ints : ∀ r : List Int, PyData.canLayAll0 (r.map .int) = true
  | [] => rfl
  | x :: r => by
    show (PyData.canLay0 (.int x) && PyData.canLayAll0 (r.map .int)) = true
    rw [lay_ints r]
    rfl
theorem lay_rows : ∀ rs : Rs, PyData.canLayAll0 (rs.map rowD) = true
  | [] => rfl
  | x :: r => by
    show (PyData.canLayAll0 (x.map .int) && PyData.canLayAll0 (r.map rowD)) = true
    rw [lay_rows r, lay_ints x]
    rfl
theorem depth_ints : ∀ r : List Int, PyData.depthAll (r.map .int) ≤ 1
  | [] => by decide
  | x :: r => by
    have := depth_ints r
    show max (PyData.depth (.int x)) (PyData.depthAll (r.map .int)) ≤ 1
    have h2 : PyData.depth (.int x) ≤ 1 := by simp [PyData.depth]
    omega
theorem depth_row (r : List Int) : (rowD r).depth ≤ 2 := by
  have := depth_ints r
  have e : (rowD r).depth = PyData.depthAll (r.map .int) + 1 := by simp [rowD, PyData.depth]
  omega
theorem depth_rowsA : ∀ rs : Rs, PyData.depthAll (rs.map rowD) ≤ 2
  | [] => by decide
  | x :: r => by
    have h1 := depth_rowsA r
    have h2 := depth_row x
    show max (PyData.depth (rowD x)) (PyData.depthAll (r.map rowD)) ≤ 2
    omega
theorem depth_rows (rs : Rs) : (rowsD rs).depth ≤ 3 := by
  have := depth_rowsA rs
  have e : (rowsD rs).depth = PyData.depthAll (rs.map rowD) + 1 := by simp [rowsD, PyData.depth]
  omega
theorem shaped_rows (rs : Rs) : SeqAt.shaped (rowsD rs) = true := by
  have := depth_rows rs
  show (PyData.canLayAll0 (rs.map rowD) && decide ((rowsD rs).depth ≤ 64)) = true
  rw [lay_rows, decide_eq_true (by omega)]
  rfl
theorem eqv_rows (rs : Rs) : PyData.eqv (rowsD rs) (rowsD rs) = true := SeqAt.eqv_refl _ (SeqAt.canLay_of_shaped (shaped_rows rs))
theorem shaped_list (rs : Rs) : SeqAt.shaped (.list (rs.map rowD)) = true := by
  have := depth_rowsA rs
  have e : (PyData.list (rs.map rowD)).depth = PyData.depthAll (rs.map rowD) + 1 := by simp [PyData.depth]
  show (PyData.canLayAll0 (rs.map rowD) && decide ((PyData.list (rs.map rowD)).depth ≤ 64)) = true
  rw [lay_rows, decide_eq_true (by omega)]
  rfl
theorem log_big {i : Int} (h : i.natAbs < 2 ^ 1000) : i.natAbs.log2 < 1000 := PySem.Flt.log2_lt_of (by decide) h
theorem int_text {i : Int} (h : i.natAbs < 2 ^ 1000) : (PyData.shown (.int i)).length ≤ 1001 := by
  show (Str.ofString (toString i)).length ≤ 1001
  rw [PySem.ofString_length]
  exact PySem.int_text_length_le (by decide) (log_big h)
theorem show_ints : ∀ {r : List Int}, (∀ x ∈ r, x.natAbs < 2 ^ 1000) → PyData.showableAll (r.map .int) = true ∧ PyData.hasDictAll (r.map .int) = false ∧ PyData.leavesShortAll 1001 (r.map .int) = true ∧ PyData.bulkAll (r.map .int) = r.length
  | [], _ => ⟨rfl, rfl, rfl, rfl⟩
  | x :: r, h => by
    obtain ⟨h1, h2, h3, h4⟩ := show_ints fun y hy => h y (List.mem_cons.mpr (.inr hy))
    have s1 := h x (List.mem_cons.mpr (.inl rfl))
    have l1 := log_big s1
    refine ⟨?_, ?_, ?_, ?_⟩
    · show (decide (x.natAbs.log2 < 1920) && PyData.showableAll (r.map .int)) = true
      rw [h1, decide_eq_true (by omega)]
      rfl
    · show (PyData.hasDict (.int x) || PyData.hasDictAll (r.map .int)) = false
      rw [h2]
      rfl
    · show (decide ((PyData.shown (.int x)).length ≤ 1001) && PyData.leavesShortAll 1001 (r.map .int)) = true
      rw [h3, decide_eq_true (int_text s1)]
      rfl
    · show PyData.bulk (.int x) + 1 + PyData.bulkAll (r.map .int) = r.length + 1
      rw [h4]
      show 0 + 1 + r.length = _
      omega
theorem show_rows {w : Nat} : ∀ {rs : Rs}, (∀ r ∈ rs, r.length = w ∧ ∀ x ∈ r, x.natAbs < 2 ^ 1000) → PyData.showableAll (rs.map rowD) = true ∧ PyData.hasDictAll (rs.map rowD) = false ∧ PyData.leavesShortAll 1001 (rs.map rowD) = true ∧ PyData.bulkAll (rs.map rowD) = (w + 1) * rs.length
  | [], _ => ⟨rfl, rfl, rfl, rfl⟩
  | x :: r, h => by
    obtain ⟨h1, h2, h3, h4⟩ := show_rows fun y hy => h y (List.mem_cons.mpr (.inr hy))
    obtain ⟨hw, s1⟩ := h x (List.mem_cons.mpr (.inl rfl))
    obtain ⟨i1, i2, i3, i4⟩ := show_ints s1
    refine ⟨?_, ?_, ?_, ?_⟩
    · show (PyData.showableAll (x.map .int) && PyData.showableAll (r.map rowD)) = true
      rw [h1, i1]
      rfl
    · show (PyData.hasDictAll (x.map .int) || PyData.hasDictAll (r.map rowD)) = false
      rw [h2, i2]
      rfl
    · show (PyData.leavesShortAll 1001 (x.map .int) && PyData.leavesShortAll 1001 (r.map rowD)) = true
      rw [h3, i3]
      rfl
    · show PyData.bulkAll (x.map .int) + 1 + PyData.bulkAll (r.map rowD) = (w + 1) * (r.length + 1)
      rw [h4, i4, hw, Nat.mul_add, Nat.mul_one]
      omega
theorem show_pair {w m k b : Nat} {rs : Rs} {st : St3} (h : RB m w b rs) (hb : b ≤ 1000) (hm : m ≤ 14) (hw : w ≤ 12) (hs : st.ok k) (hk : k ≤ 14) :
    (PyData.tuple [rowsD rs, st.data]).showable = true ∧ (PyData.tuple [rowsD rs, st.data]).hasDict = false ∧ (PyData.tuple [rowsD rs, st.data]).depth ≤ 60 ∧ (PyData.tuple [rowsD rs, st.data]).shown.length ≤ sizeLine := by
  have hr := h.mono hb
  obtain ⟨h1, h2, h3, h4⟩ := show_rows (rs := rs) (w := w) fun r z => ⟨hr.wide r z, hr.small r z⟩
  have hst : st.data.showable = true ∧ st.data.hasDict = false ∧ st.data.depth ≤ 2 ∧ PyData.leavesShort 1001 st.data = true ∧ st.data.bulk ≤ 8 := by
    have nb : ∀ i : Nat, i < k → ((i : Int)).natAbs < 2 ^ 1000 := fun i hi => Nat.lt_of_lt_of_le (show i < 2 ^ 4 by have : (2 : Nat) ^ 4 = 16 := rfl; omega) (Nat.pow_le_pow_right (by decide) (by decide))
    have sd : ∀ i : Int, i.natAbs < 2 ^ 1000 → decide (i.natAbs.log2 < 1920) = true := fun i hi => decide_eq_true (Nat.lt_trans (log_big hi) (by decide))
    have td : ∀ i : Int, i.natAbs < 2 ^ 1000 → decide ((PyData.shown (.int i)).length ≤ 1001) = true := fun i hi => decide_eq_true (int_text hi)
    cases st with
    | add i j z =>
      obtain ⟨o1, o2, o3, o4⟩ := hs
      have oz : z.natAbs < 2 ^ 1000 := Nat.lt_trans o4 (Nat.pow_lt_pow_right (by decide) (by decide))
      refine ⟨?_, rfl, by simp [St3.data, PyData.depth, PyData.depthAll], ?_, ?_⟩
      · show (PyData.showable (.str "add") && (decide (((i : Nat) : Int).natAbs.log2 < 1920) && (decide (((j : Nat) : Int).natAbs.log2 < 1920) && (decide (z.natAbs.log2 < 1920) && true)))) = true
        rw [sd _ (nb i o1), sd _ (nb j o2), sd _ oz]
        rfl
      · show (PyData.leavesShort 1001 (.str "add") && (decide ((PyData.shown (.int i)).length ≤ 1001) && (decide ((PyData.shown (.int j)).length ≤ 1001) && (decide ((PyData.shown (.int z)).length ≤ 1001) && true)))) = true
        rw [td _ (nb i o1), td _ (nb j o2), td _ oz]
        decide +kernel
      · exact (by decide +kernel : PyData.bulk (.str "add") + 1 + (0 + 1 + (0 + 1 + (0 + 1 + 0))) ≤ 8)
    | swap i j =>
      obtain ⟨o1, o2, o3⟩ := hs
      refine ⟨?_, rfl, by simp [St3.data, PyData.depth, PyData.depthAll], ?_, ?_⟩
      · show (PyData.showable (.str "swap") && (decide (((i : Nat) : Int).natAbs.log2 < 1920) && (decide (((j : Nat) : Int).natAbs.log2 < 1920) && true))) = true
        rw [sd _ (nb i o1), sd _ (nb j o2)]
        rfl
      · show (PyData.leavesShort 1001 (.str "swap") && (decide ((PyData.shown (.int i)).length ≤ 1001) && (decide ((PyData.shown (.int j)).length ≤ 1001) && true))) = true
        rw [td _ (nb i o1), td _ (nb j o2)]
        decide +kernel
      · exact (by decide +kernel : PyData.bulk (.str "swap") + 1 + (0 + 1 + (0 + 1 + 0)) ≤ 8)
    | turn i =>
      refine ⟨?_, rfl, by simp [St3.data, PyData.depth, PyData.depthAll], ?_, ?_⟩
      · show (PyData.showable (.str "turn") && (decide (((i : Nat) : Int).natAbs.log2 < 1920) && true)) = true
        rw [sd _ (nb i hs)]
        rfl
      · show (PyData.leavesShort 1001 (.str "turn") && (decide ((PyData.shown (.int i)).length ≤ 1001) && true)) = true
        rw [td _ (nb i hs)]
        decide +kernel
      · exact (by decide +kernel : PyData.bulk (.str "turn") + 1 + (0 + 1 + 0) ≤ 8)
  obtain ⟨s1, s2, s3, s4, s5⟩ := hst
  have hd := depth_rows rs
  refine ⟨?_, ?_, ?_, ?_⟩
  · show (PyData.showableAll (rs.map rowD) && (st.data.showable && true)) = true
    rw [h1, s1]
    rfl
  · show (PyData.hasDictAll (rs.map rowD) || (st.data.hasDict || false)) = false
    rw [h2, s2]
    rfl
  · have e : (PyData.tuple [rowsD rs, st.data]).depth = max (rowsD rs).depth (max st.data.depth 0) + 1 := by simp [PyData.depth, PyData.depthAll]
    omega
  · have hl : PyData.leavesShort 1001 (.tuple [rowsD rs, st.data]) = true := by
      show (PyData.leavesShortAll 1001 (rs.map rowD) && (PyData.leavesShort 1001 st.data && true)) = true
      rw [h3, s4]
      rfl
    have hb2 := PyData.shown_le_bulk 1001 (by decide) _ hl
    have e : (PyData.tuple [rowsD rs, st.data]).bulk = (w + 1) * rs.length + 1 + (st.data.bulk + 1 + 0) := by
      show PyData.bulkAll (rs.map rowD) + 1 + (st.data.bulk + 1 + 0) = _
      rw [h4]
    rw [e] at hb2
    have hp : (w + 1) * rs.length ≤ 13 * 14 := Nat.mul_le_mul (by omega) (by rw [h.len]; exact hm)
    refine Nat.le_trans hb2 (Nat.le_trans (show (1001 + 2) * ((w + 1) * rs.length + 1 + (st.data.bulk + 1 + 0)) + 1001 ≤ (1001 + 2) * 200 + 1001 from Nat.add_le_add_right (Nat.mul_le_mul_left _ (by omega)) _) (by decide))
/-! ### on the heap -/
def TI (H : Hp) (v : V) (ns : List Int) : Prop := ∃ a, v = .ref a ∧ H a = some (.tup (ns.map V.int))
theorem TI.ext {H H' : Hp} {v : V} {ns : List Int} (h : TI H v ns) (e : Ext H H') : TI H' v ns := let ⟨a, h1, h2⟩ := h; ⟨a, h1, e.t _ _ h2⟩
def TT (H : Hp) (v : V) (rs : Rs) : Prop := ∃ a xs, v = .ref a ∧ H a = some (.tup xs) ∧ Paired (TI H) xs rs
theorem TT.ext {H H' : Hp} {v : V} {rs : Rs} (h : TT H v rs) (e : Ext H H') : TT H' v rs := let ⟨a, xs, h1, h2, h3⟩ := h; ⟨a, xs, h1, e.t _ _ h2, Paired.mapP h3 fun _ _ z => z.ext e⟩
def SV (H : Hp) (v : V) (st : St3) : Prop := ∃ a, v = .ref a ∧ H a = some (.tup st.vals)
theorem SV.ext {H H' : Hp} {v : V} {st : St3} (h : SV H v st) (e : Ext H H') : SV H' v st := let ⟨a, h1, h2⟩ := h; ⟨a, h1, e.t _ _ h2⟩
theorem dp_ints {K : PySem.W.Frag} {H : Hp} : ∀ ns : List Int, DpAll K H (ns.map V.int) (ns.map .int)
  | [] => .nil
  | x :: r => .cons (.int x) (dp_ints r)
theorem TI.dp {K : PySem.W.Frag} {H : Hp} {v : V} {ns : List Int} (h : TI H v ns) : Dp K H v (rowD ns) := by
  obtain ⟨a, rfl, h2⟩ := h
  exact .tup (SqT.of h2) (dp_ints ns)
theorem dp_rows {K : PySem.W.Frag} {H : Hp} : ∀ {xs : List V} {rs : Rs}, Paired (TI H) xs rs → DpAll K H xs (rs.map rowD)
  | _, _, .nil => .nil
  | _, _, .cons h t => .cons h.dp (dp_rows t)
theorem TT.dp {K : PySem.W.Frag} {H : Hp} {v : V} {rs : Rs} (h : TT H v rs) : Dp K H v (rowsD rs) := by
  obtain ⟨a, xs, rfl, h2, h3⟩ := h
  exact .tup (SqT.of h2) (dp_rows h3)
theorem SV.dp {K : PySem.W.Frag} {H : Hp} {v : V} : ∀ {st : St3}, SV H v st → Dp K H v st.data
  | .add i j z, ⟨a, e, h⟩ => by
    subst e
    exact .tup (SqT.of h) (.cons (.str _) (.cons (.int _) (.cons (.int _) (.cons (.int _) .nil))))
  | .swap i j, ⟨a, e, h⟩ => by
    subst e
    exact .tup (SqT.of h) (.cons (.str _) (.cons (.int _) (.cons (.int _) .nil)))
  | .turn i, ⟨a, e, h⟩ => by
    subst e
    exact .tup (SqT.of h) (.cons (.str _) (.cons (.int _) .nil))
theorem paired_app {α β : Type} {R : α → β → Prop} : ∀ {l : List α} {m : List β} {a : α} {b : β}, Paired R l m → R a b → Paired R (l ++ [a]) (m ++ [b])
  | _, _, _, _, .nil, h => .cons h .nil
  | _, _, _, _, .cons h t, q => .cons h (paired_app t q)
theorem paired_set {α β : Type} {R : α → β → Prop} : ∀ {l : List α} {m : List β} {i : Nat} {a : α} {b : β}, Paired R l m → R a b → Paired R (l.set i a) (m.set i b)
  | _, _, _, _, _, .nil, _ => .nil
  | _, _, 0, _, _, .cons _ t, q => .cons q t
  | _, _, i + 1, _, _, .cons h t, q => .cons h (paired_set (i := i) t q)
theorem paired_look {α β : Type} {R : α → β → Prop} : ∀ {l : List α} {m : List β} {i : Nat} {b : β}, Paired R l m → m[i]? = some b → ∃ a, l[i]? = some a ∧ R a b
  | _, _, _, _, .nil, e => by simp at e
  | _, _, 0, _, .cons h _, e => by
    have e1 := Option.some.inj e
    subst e1
    exact ⟨_, rfl, h⟩
  | _, _, i + 1, _, .cons _ t, e => paired_look (i := i) t e
/-! ### over a named K -/
section
variable {X : Cx} {K : PySem.W.Frag}
theorem tupOf_K (hK : X.K = K) : CallR X (.type "tuple") (rTupOf K) := by
  subst hK
  exact call_tuple_of
def rListOf (K : PySem.W.Frag) : List V → Hp → VK → Prop := fun xs H Q => ∃ p ys, xs = [.ref p] ∧ (SqL K H p ys ∨ SqT K H p ys) ∧ ∀ l, H l = none → Q (.ref l) (upd H l (.lst ys))
theorem listOf_K (hK : X.K = K) : CallR X (.type "list") (rListOf K) := by
  subst hK
  exact call_list_of
def rNeK (K : PySem.W.Frag) : R2 := fun x y H Q => ∃ d e, Dp K H x d ∧ Dp K H y e ∧ SeqAt.shaped d = true ∧ SeqAt.shaped e = true ∧ Q (.bl (!PyData.eqv d e)) H
theorem neD_K {k : Nat} (hr : Room k X.A) (hK : X.K = K) : OpR X (compareOp .NotEq) (rNeK K) := by
  subst hK
  exact op_neD hr.units
end
theorem ix_nat {n i : Nat} (h : i < n) : ixN n (i : Int) = some i := by
  unfold ixN
  rw [if_pos (by omega), if_pos (by omega), Int.toNat_natCast]
theorem take_app {l : List Int} {k : Nat} {v : Int} (h : l[k]? = some v) : (l.take k).map V.int ++ [V.int v] = (l.take (k + 1)).map V.int := by
  rw [List.take_succ, h, List.map_append]
  rfl
theorem int_at {l : List Int} {k : Nat} {x : V} (h : (l.map V.int)[k]? = some x) : ∃ v, x = .int v ∧ l[k]? = some v := by
  rw [List.getElem?_map] at h
  cases hk : l[k]? with
  | none =>
    rw [hk] at h
    cases h
  | some v =>
    rw [hk] at h
    exact ⟨v, (Option.some.inj h).symm, rfl⟩
theorem fresh_same {H H' : Hp} {D : Addr} {o : HO} (s : Same H H') (n : H D = none) : Same H (upd H' D o) := fun b u e => by
  rw [upd_ne (ne_of_none e n)]
  exact s b u e
/-- the i-th row, by its place -/
theorem row_look {H : Hp} {xs : List V} {rs : Rs} {i : Nat} (h : Paired (TI H) xs rs) (hi : i < rs.length) : ∃ p, xs[i]? = some (.ref p) ∧ H p = some (.tup ((row rs i).map V.int)) := by
  obtain ⟨v, h1, p, rfl, h2⟩ := paired_look h (row_at hi)
  exact ⟨p, h1, h2⟩
theorem zip_at {f : Int → Int → Int} {xs ys : List Int} {k : Nat} {x y : Int} (hx : xs[k]? = some x) (hy : ys[k]? = some y) : (List.zipWith f xs ys)[k]? = some (f x y) := by
  rw [List.getElem?_zipWith, hx, hy]
theorem len_small {l : List Int} {k w : Nat} (h : l.length = w) (hw : w ≤ 12) : ((l.take k).map V.int).length < sizeLine := by
  rw [List.length_map, List.length_take]
  exact small1000 (by omega)
def St3.kinds : St3 → List Kd
  | .add i j z => [.str "add", .int i, .int j, .int z]
  | .swap i j => [.str "swap", .int i, .int j]
  | .turn i => [.str "turn", .int i]
theorem kinds_at {H : Hp} {a : Addr} : ∀ {st : St3}, H a = some (.tup st.vals) → KsOf H (.ref a) (some st.kinds)
  | .add i j z, h => ⟨a, _, rfl, h, .cons (.str _) (.cons (.int _) (.cons (.int _) (.cons (.int _) .nil)))⟩
  | .swap i j, h => ⟨a, _, rfl, h, .cons (.str _) (.cons (.int _) (.cons (.int _) .nil))⟩
  | .turn i, h => ⟨a, _, rfl, h, .cons (.str _) (.cons (.int _) .nil)⟩
theorem unlike_yes {m i j : Nat} (h1 : i < m) (h2 : j < m) (h3 : i ≠ j) : unlikeK m (.int i) (.int j) = true := by
  show ((decide ((0 : Int) ≤ i) && decide ((i : Int) < m)) && ((decide ((0 : Int) ≤ j) && decide ((j : Int) < m)) && !decide (V.int i = V.int j))) = true
  rw [decide_eq_true (by omega), decide_eq_true (by omega), decide_eq_true (by omega), decide_eq_true (by omega), decide_eq_false (fun e => h3 (by have := V.int.inj e; omega))]
  rfl
theorem kinds_ok {m : Nat} : ∀ {st : St3}, st.ok m → stepO m (some st.kinds) = true
  | .add i j z, ⟨h1, h2, h3, _⟩ => by
    show (unlikeK m (.int i) (.int j) && true) = true
    rw [unlike_yes h1 h2 h3]
    rfl
  | .swap i j, ⟨h1, h2, h3⟩ => by
    show unlikeK m (.int i) (.int j) = true
    exact unlike_yes h1 h2 h3
  | .turn i, h => by
    have h : i < m := h
    show (decide ((0 : Int) ≤ i) && decide ((i : Int) < m)) = true
    rw [decide_eq_true (by omega), decide_eq_true (by omega)]
    rfl
def St3.word : St3 → Str
  | .add _ _ _ => "add"
  | .swap _ _ => "swap"
  | .turn _ => "turn"
theorem word_at (st : St3) : st.vals[0]? = some (.str st.word) := by cases st <;> rfl
theorem back_word (st : St3) : st.back.word = st.word := by cases st <;> rfl
theorem paired_first {α β : Type} {R : α → β → Prop} : ∀ {l : List α} {m : List β} {i : Nat} {a : α}, Paired R l m → l[i]? = some a → ∃ b, m[i]? = some b ∧ R a b
  | _, _, _, _, .nil, e => by simp at e
  | _, _, 0, _, .cons h _, e => by
    have e1 := Option.some.inj e
    subst e1
    exact ⟨_, rfl, h⟩
  | _, _, i + 1, a, .cons _ t, e => paired_first (i := i) (a := a) t e
theorem cut1 (x : V) (r : List V) : HT.sIx (x :: r).length 0 (some 1) = 1 := by
  have := HT.sIx_nat (x :: r).length 0 1
  rw [show ((1 : Nat) : Int) = 1 from rfl] at this
  rw [this, List.length_cons]
  omega
theorem cutR (x : V) (r : List V) : cutV (x :: r) (some 1) none = r := by
  unfold cutV
  rw [cut1, HT.sIx_none]
  show (r.take ((x :: r).length - 1)) = r
  rw [List.length_cons, Nat.add_sub_cancel]
  exact List.take_length
theorem sl_rest {K : PySem.W.Frag} {H : Hp} {a : Addr} {x : V} {r : List V} {Q : VK} {σ : L2.St} (h : H a = some (.tup (x :: r))) (q : ∀ p H', Same H H' → H' p = some (.tup r) → Q (.ref p) H') : tNoPart σ H (fun u H3 => rSlA K (.ref a) (some 1) u H3 Q) := by
  refine ⟨a, _, rfl, SqT.of h, fun z => ?_, fun _ p hp => q p _ (same_new hp) (by rw [upd_same, cutR])⟩
  have := z.1
  rw [cut1] at this
  exact absurd this (by decide)
/-! ### lists of lists, apart from D -/
def LI (D : Addr) (H : Hp) (v : V) (ns : List Int) : Prop := ∃ a, v = .ref a ∧ a ≠ D ∧ H a = some (.lst (ns.map V.int))
theorem LI.same {D : Addr} {H H' : Hp} {v : V} {ns : List Int} (h : LI D H v ns) (s : Same H H') : LI D H' v ns := let ⟨a, h1, h2, h3⟩ := h; ⟨a, h1, h2, s _ _ h3⟩
theorem LI.put {D : Addr} {H : Hp} {v : V} {ns : List Int} {o : HO} (h : LI D H v ns) : LI D (upd H D o) v ns := by
  obtain ⟨a, h1, h2, h3⟩ := h
  exact ⟨a, h1, h2, by rw [upd_ne h2]; exact h3⟩
theorem take_row {rs : Rs} {k : Nat} {r : List Int} (h : rs[k]? = some r) : rs.take (k + 1) = rs.take k ++ [r] := by
  rw [List.take_succ, h]
  rfl
/-! ### drawn rows -/
theorem but_fresh {p D : Addr} {H H' : Hp} {o : HO} (b : But p H H') (n : H D = none) : But p H (upd H' D o) := fun c u hc e => by
  rw [upd_ne (ne_of_none e n)]
  exact b c u hc e
theorem ext_fresh {D : Addr} {H H' : Hp} {o : HO} (x : Ext H H') (n : H D = none) : Ext H (upd H' D o) := by
  refine ⟨fun b xs e => ?_, fun b xs e => ?_, fun b xs e => ?_⟩
  · rw [upd_ne (ne_of_none e n)]
    exact x.t b xs e
  · rw [upd_ne (ne_of_none e n)]
    exact x.l b xs e
  · rw [upd_ne (ne_of_none e n)]
    exact x.d b xs e
theorem LP.put {H : Hp} {p D : Addr} {o : HO} (h : LP H p) (n : D ≠ p) : LP (upd H D o) p := by
  obtain ⟨x, y, z, e⟩ := h
  exact ⟨x, y, z, by rw [upd_ne (Ne.symm n)]; exact e⟩
theorem lp_ne {H : Hp} {p D : Addr} (h : LP H p) (n : H D = none) : D ≠ p := by
  obtain ⟨x, y, z, e⟩ := h
  exact (ne_of_none e n).symm
theorem RB.app {k w b : Nat} {rs : Rs} {r : List Int} (h : RB k w b rs) (h1 : r.length = w) (h2 : ∀ x ∈ r, x.natAbs < 2 ^ b) : RB (k + 1) w b (rs ++ [r]) :=
  ⟨by rw [List.length_append, h.len]; rfl, fun x hx => by
    rcases List.mem_append.mp hx with z | z
    · exact h.wide x z
    · rw [List.mem_singleton.mp z]; exact h1, fun x hx => by
    rcases List.mem_append.mp hx with z | z
    · exact h.small x z
    · rw [List.mem_singleton.mp z]; exact h2⟩
theorem eqv_nil (rs : Rs) : PyData.eqv (.list (rs.map rowD)) (.list []) = decide (rs = []) := by
  cases rs with
  | nil => rfl
  | cons x r => rfl
theorem mul_small {k : Nat} {c x : Int} (c0 : -2 ≤ c) (c1 : c ≤ 2) (h : x.natAbs < 2 ^ (30 + k)) : (c * x).natAbs < 2 ^ (30 + (k + 1)) := by
  rw [Int.natAbs_mul, show 30 + (k + 1) = (30 + k) + 1 from rfl, Nat.pow_succ, Nat.mul_comm]
  have hc : c.natAbs ≤ 2 := by omega
  have h1 : x.natAbs * c.natAbs ≤ x.natAbs * 2 := Nat.mul_le_mul_left _ hc
  omega
theorem app_ints {ns : List Int} {z : Int} : ns.map V.int ++ [V.int z] = (ns ++ [z]).map V.int := by
  rw [List.map_append]
  rfl
theorem paired_cat {α β : Type} {R : α → β → Prop} : ∀ {l l' : List α} {m m' : List β}, Paired R l m → Paired R l' m' → Paired R (l ++ l') (m ++ m')
  | _, _, _, _, .nil, q => q
  | _, _, _, _, .cons h t, q => .cons h (paired_cat t q)
theorem cat_rows {K : PySem.W.Frag} {H : Hp} {v u : V} {rs rs' : Rs} {Q : VK} (h : TT H v rs) (h' : TT H u rs') (hs : rs.length + rs'.length ≤ 1000) (q : ∀ v' H', Same H H' → TT H' v' (rs ++ rs') → Q v' H') : rCatA K v u H Q := by
  obtain ⟨a, xs, rfl, h2, h3⟩ := id h
  obtain ⟨b, ys, rfl, g2, g3⟩ := id h'
  have l1 : xs.length = rs.length := Paired.length h3
  have l2 : ys.length = rs'.length := Paired.length g3
  refine ⟨a, b, xs, ys, rfl, rfl, SqT.of h2, SqT.of g2, Nat.le_of_lt (small1000 (by omega)), fun e => ?_, fun _ e => ?_, fun _ _ p hp => ?_⟩
  · have er : rs = [] := List.eq_nil_of_length_eq_zero (by rw [← l1, e]; rfl)
    subst er
    exact q _ _ (Same.refl H) h'
  · have er : rs' = [] := List.eq_nil_of_length_eq_zero (by rw [← l2, e]; rfl)
    subst er
    rw [List.append_nil] at q
    exact q _ _ (Same.refl H) h
  · have x := Ext.same (same_new (o := .tup (xs ++ ys)) hp)
    exact q _ _ (same_new hp) ⟨p, _, rfl, upd_same, paired_cat (Paired.mapP h3 fun _ _ z => z.ext x) (Paired.mapP g3 fun _ _ z => z.ext x)⟩
theorem but_free {p D : Addr} {H H' : Hp} (b : But p H H') (l : LP H' p) (n : H' D = none) : H D = none := by
  cases e : H D with
  | none => rfl
  | some o =>
    rw [b D o (lp_ne l n) e] at n
    cases n
theorem drop_at {bs : List St3} {i : Nat} {b : St3} (h : bs[i]? = some b) : bs.drop i = b :: bs.drop (i + 1) := by
  obtain ⟨hi, e⟩ := List.getElem?_eq_some_iff.mp h
  rw [List.drop_eq_getElem_cons hi, e]
end Cm

set_option Elab.async false
set_option linter.all false
set_option maxRecDepth 100000
set_option maxHeartbeats 4000000
namespace K11
open PySem PySem.Spec PyProof.Rows L2 Cm
def topS (i : Nat) : Stmt := PySem.Challenge.pw_commonhouse_k11_steps_done_and_taken_bac.main.body.getD i (.Pass ⟨0, 0, 0, 0⟩)
abbrev s_is_whole : Stmt := topS 1
abbrev N_is_whole : List Str := ["thing"]
theorem sc_is_whole : FnScope N_is_whole ["thing"] (defScope s_is_whole) := ⟨rfl, rfl, rfl, by decide +kernel, rfl, by decide +kernel, by decide +kernel⟩
abbrev s_is_number_of_row : Stmt := topS 3
abbrev N_is_number_of_row : List Str := ["many", "thing"]
theorem sc_is_number_of_row : FnScope N_is_number_of_row ["many", "thing"] (defScope s_is_number_of_row) := ⟨rfl, rfl, rfl, by decide +kernel, rfl, by decide +kernel, by decide +kernel⟩
abbrev s_are_unlike_rows : Stmt := topS 4
abbrev N_are_unlike_rows : List Str := ["many", "one", "other"]
theorem sc_are_unlike_rows : FnScope N_are_unlike_rows ["many", "one", "other"] (defScope s_are_unlike_rows) := ⟨rfl, rfl, rfl, by decide +kernel, rfl, by decide +kernel, by decide +kernel⟩
abbrev s_is_step : Stmt := topS 5
abbrev N_is_step : List Str := ["many", "thing"]
theorem sc_is_step : FnScope N_is_step ["many", "thing"] (defScope s_is_step) := ⟨rfl, rfl, rfl, by decide +kernel, rfl, by decide +kernel, by decide +kernel⟩
abbrev s_stepped : Stmt := topS 6
abbrev N_stepped : List Str := ["rows", "step", "behind", "at", "x", "y"]
theorem sc_stepped : FnScope N_stepped ["rows", "step"] (defScope s_stepped) := ⟨rfl, rfl, rfl, by decide +kernel, rfl, by decide +kernel, by decide +kernel⟩
abbrev s_taken_back : Stmt := topS 7
abbrev N_taken_back : List Str := ["step"]
theorem sc_taken_back : FnScope N_taken_back ["step"] (defScope s_taken_back) := ⟨rfl, rfl, rfl, by decide +kernel, rfl, by decide +kernel, by decide +kernel⟩
abbrev s_law_pen : Stmt := topS 9
abbrev N_law_pen : List Str := ["_law_script", "_law_k", "_law_cell"]
theorem sc_law_pen : FnScope N_law_pen ["_law_script", "_law_k"] (defScope s_law_pen) := ⟨rfl, rfl, rfl, by decide +kernel, rfl, by decide +kernel, by decide +kernel⟩
abbrev s_law_draw : Stmt := topS 10
abbrev N_law_draw : List Str := ["_law_pen_here", "_law_many", "_law_found", "_law_number_here"]
theorem sc_law_draw : FnScope N_law_draw ["_law_pen_here", "_law_many"] (defScope s_law_draw) := ⟨rfl, rfl, rfl, by decide +kernel, rfl, by decide +kernel, by decide +kernel⟩
abbrev s_law_number : Stmt := topS 11
abbrev N_law_number : List Str := ["_law_pen_here", "_law_way", "_law_sign"]
theorem sc_law_number : FnScope N_law_number ["_law_pen_here"] (defScope s_law_number) := ⟨rfl, rfl, rfl, by decide +kernel, rfl, by decide +kernel, by decide +kernel⟩
abbrev s_law_rows : Stmt := topS 12
abbrev N_law_rows : List Str := ["_law_pen_here", "_law_wide", "_law_most", "_law_found", "_law_k", "_law_row", "_law_way", "_law_other", "_law_many", "_law_at", "_law_number_here"]
theorem sc_law_rows : FnScope N_law_rows ["_law_pen_here", "_law_wide", "_law_most"] (defScope s_law_rows) := ⟨rfl, rfl, rfl, by decide +kernel, rfl, by decide +kernel, by decide +kernel⟩
abbrev s_law_step : Stmt := topS 13
abbrev N_law_step : List Str := ["_law_pen_here", "_law_many", "_law_way", "_law_i", "_law_j", "_law_number_here"]
theorem sc_law_step : FnScope N_law_step ["_law_pen_here", "_law_many"] (defScope s_law_step) := ⟨rfl, rfl, rfl, by decide +kernel, rfl, by decide +kernel, by decide +kernel⟩
abbrev s_law_due : Stmt := topS 14
abbrev N_law_due : List Str := ["_law_rows_here", "_law_step_here", "_law_found", "_law_i", "_law_j", "_law_often", "_law_row", "_law_number_here", "_law_one", "_law_other"]
theorem sc_law_due : FnScope N_law_due ["_law_rows_here", "_law_step_here"] (defScope s_law_due) := ⟨rfl, rfl, rfl, by decide +kernel, rfl, by decide +kernel, by decide +kernel⟩
abbrev s_law_are_rows : Stmt := topS 15
abbrev N_law_are_rows : List Str := ["_law_found", "_law_wide", "_law_row", "_law_number_here"]
theorem sc_law_are_rows : FnScope N_law_are_rows ["_law_found", "_law_wide"] (defScope s_law_are_rows) := ⟨rfl, rfl, rfl, by decide +kernel, rfl, by decide +kernel, by decide +kernel⟩
abbrev s_law_is_back : Stmt := topS 16
abbrev N_law_is_back : List Str := ["_law_many", "_law_step_here", "_law_told"]
theorem sc_law_is_back : FnScope N_law_is_back ["_law_many", "_law_step_here", "_law_told"] (defScope s_law_is_back) := ⟨rfl, rfl, rfl, by decide +kernel, rfl, by decide +kernel, by decide +kernel⟩
abbrev s_law : Stmt := topS 17
abbrev N_law : List Str := ["_law_script", "_law_k", "_law_pen_here", "_law_wide", "_law_rows_here", "_law_here", "_law_done", "_law_lap", "_law_step_here", "_law_kept", "_law_later", "_law_back", "_law_at"]
theorem sc_law : FnScope N_law ["_law_script"] (defScope s_law) := ⟨rfl, rfl, rfl, by decide +kernel, rfl, by decide +kernel, by decide +kernel⟩
structure Txt (K : PySem.W.Frag) (mg : Str → Option Value) : Prop where
  d_is_whole : Df K mg "is_whole" s_is_whole ["thing"]
  d_is_number_of_row : Df K mg "is_number_of_row" s_is_number_of_row ["many", "thing"]
  d_are_unlike_rows : Df K mg "are_unlike_rows" s_are_unlike_rows ["many", "one", "other"]
  d_is_step : Df K mg "is_step" s_is_step ["many", "thing"]
  d_stepped : Df K mg "stepped" s_stepped ["rows", "step"]
  d_taken_back : Df K mg "taken_back" s_taken_back ["step"]
  d_law_pen : Df K mg "_law_pen" s_law_pen ["_law_script", "_law_k"]
  d_law_draw : Df K mg "_law_draw" s_law_draw ["_law_pen_here", "_law_many"]
  d_law_number : Df K mg "_law_number" s_law_number ["_law_pen_here"]
  d_law_rows : Df K mg "_law_rows" s_law_rows ["_law_pen_here", "_law_wide", "_law_most"]
  d_law_step : Df K mg "_law_step" s_law_step ["_law_pen_here", "_law_many"]
  d_law_due : Df K mg "_law_due" s_law_due ["_law_rows_here", "_law_step_here"]
  d_law_are_rows : Df K mg "_law_are_rows" s_law_are_rows ["_law_found", "_law_wide"]
  d_law_is_back : Df K mg "_law_is_back" s_law_is_back ["_law_many", "_law_step_here", "_law_told"]
  d_law : Df K mg "law" s_law ["_law_script"]
  n_abs : mg "abs" = none
  n_bool : mg "bool" = none
  n_int : mg "int" = none
  n_isinstance : mg "isinstance" = none
  n_len : mg "len" = none
  n_list : mg "list" = none
  n_max : mg "max" = none
  n_min : mg "min" = none
  n_range : mg "range" = none
  n_repr : mg "repr" = none
  n_tuple : mg "tuple" = none
  n_zip : mg "zip" = none
section
variable {P : Program} {w : World} {K : PySem.W.Frag} {mg : Str → Option Value} {base : Heap}
theorem ok_law_pen (T : Txt K mg) : Fn P w K mg base 1 "_law_pen" ["_law_script", "_law_k"] (sp2 (rPenL K)) := by
  refine T.d_law_pen.ok sc_law_pen len2 fun f cdv A outer s H vs Q E hr hg h => ?_
  obtain ⟨_, _, rfl, a, ns, k, rfl, rfl, hS, k0, q⟩ := h
  refine ⟨_, (pss_cons (ps_set (i := 2) sc_law_pen.nd rfl (by first | exact Or.inl rfl | exact Or.inr rfl) (pe_op op_add (pe_op op_mul pe_int (pv 1)) pe_int))
(pss_cons (ps_if (pt_cmpR op_lt (pv 1) (pe_callB (len_K (K := K) rfl) (by rfl) T.n_len (by decide +kernel) (pa_cons (pv 0) pa_nil)) (nomark _))
(pss_one (ps_set (i := 2) sc_law_pen.nd rfl (by first | exact Or.inl rfl | exact Or.inr rfl) (pe_ix (ixL_K (K := K) rfl) (pv 0) (pv 1) (fun _ _ => rfl))))
(pss_one (ps_if (pt_cmpR op_gt (pe_callB (len_K (K := K) rfl) (by rfl) T.n_len (by decide +kernel) (pa_cons (pv 0) pa_nil)) pe_int (nomark _))
(pss_one (ps_set (i := 2) sc_law_pen.nd rfl (by first | exact Or.inl rfl | exact Or.inr rfl) (pe_op op_add (pe_op op_mod (pe_ix (ixL_K (K := K) rfl) (pv 0) (pe_op op_mod (pv 1) (pe_callB (len_K (K := K) rfl) (by rfl) T.n_len (by decide +kernel) (pa_cons (pv 0) pa_nil))) (fun _ _ => rfl)) (pe_op op_pow pe_int pe_int)) (pe_op op_mul pe_int (pv 1)))))
pss_nil)))
(pss_cons (ps_if (pt_cmpR op_ge (pe_callB call_abs (by rfl) T.n_abs (by decide +kernel) (pa_cons (pv 2) pa_nil)) (pe_op op_pow pe_int pe_int) (nomark _))
(pss_one (ps_ret (pe_lst (pa_cons (pe_op op_sub (pe_callB call_abs (by rfl) T.n_abs (by decide +kernel) (pa_cons (pv 2) pa_nil)) (pe_op op_pow pe_int pe_int)) (pa_cons (pe_op op_mod (pv 2) pe_int) (pa_cons pe_int pa_nil))))))
pss_nil)
(pss_one (ps_ret (pe_lst (pa_cons pe_int (pa_cons (pe_op op_add (pe_op op_mod (pv 2) pe_int) (pe_op op_mul pe_int (pv 1))) (pa_cons pe_int pa_nil))))))))), ?_⟩
  refine ⟨_, rfl, _, _, rfl, rfl, .inl ⟨by decide, by decide⟩, _, _, rfl, rfl, ?_⟩
  refine ⟨_, rfl, _, rfl, a, _, rfl, .inl hS, _, _, rfl, rfl, _, rfl, ite2 (fun e1 => ?_) (fun e1 => ?_)⟩
  · obtain ⟨z, hz⟩ := cellL (ns := ns) k0 (of_decide_eq_true e1)
    refine ⟨_, rfl, _, rfl, a, _, _, _, rfl, rfl, hS, hz, ?_⟩
    refine ⟨_, rfl, _, rfl, 10, 18, rfl, rfl, ⟨by decide, by decide, by decide⟩, _, _, rfl, rfl, _, rfl, ite2 (fun e2 => ?_) (fun e2 => ?_)⟩
    · refine ⟨_, rfl, _, rfl, 10, 18, rfl, rfl, ⟨by decide, by decide, by decide⟩, _, _, rfl, rfl, _, rfl, _, _, rfl, rfl, q587, (by show 3 ≤ sizeLine; decide), fun p hp => ?_⟩
      exact q p _ hp (same_new hp) ⟨_, _, _, upd_same⟩
    · refine ⟨_, rfl, _, _, rfl, rfl, q587, _, rfl, _, _, rfl, rfl, .inl ⟨by decide, by decide⟩, _, _, rfl, rfl, (by show 3 ≤ sizeLine; decide), fun p hp => ?_⟩
      exact q p _ hp (same_new hp) ⟨_, _, _, upd_same⟩
  · refine ⟨_, rfl, a, _, rfl, .inl hS, _, _, rfl, rfl, _, rfl, ite2 (fun e3 => ?_) (fun e3 => ?_)⟩
    · have hl : (0 : Int) < ((ns.map V.int).length : Int) := of_decide_eq_true e3
      obtain ⟨z, hz⟩ := cellL (ns := ns) (i := k % ((ns.map V.int).length : Int)) (Int.emod_nonneg _ (by omega)) (Int.emod_lt_of_pos _ hl)
      refine ⟨_, rfl, _, rfl, _, rfl, a, _, rfl, .inl hS, _, _, rfl, rfl, hl, a, _, _, _, rfl, rfl, hS, hz, 10, 15, rfl, rfl, ⟨by decide, by decide, by decide⟩, _, _, rfl, rfl, p15, _, rfl, _, _, rfl, rfl, .inl ⟨by decide, by decide⟩, _, _, rfl, rfl, ?_⟩
      refine ⟨_, rfl, _, rfl, 10, 18, rfl, rfl, ⟨by decide, by decide, by decide⟩, _, _, rfl, rfl, _, rfl, ite2 (fun e2 => ?_) (fun e2 => ?_)⟩
      · refine ⟨_, rfl, _, rfl, 10, 18, rfl, rfl, ⟨by decide, by decide, by decide⟩, _, _, rfl, rfl, _, rfl, _, _, rfl, rfl, q587, (by show 3 ≤ sizeLine; decide), fun p hp => ?_⟩
        exact q p _ hp (same_new hp) ⟨_, _, _, upd_same⟩
      · refine ⟨_, rfl, _, _, rfl, rfl, q587, _, rfl, _, _, rfl, rfl, .inl ⟨by decide, by decide⟩, _, _, rfl, rfl, (by show 3 ≤ sizeLine; decide), fun p hp => ?_⟩
        exact q p _ hp (same_new hp) ⟨_, _, _, upd_same⟩
    · refine ⟨_, rfl, _, rfl, 10, 18, rfl, rfl, ⟨by decide, by decide, by decide⟩, _, _, rfl, rfl, _, rfl, ite2 (fun e2 => ?_) (fun e2 => ?_)⟩
      · refine ⟨_, rfl, _, rfl, 10, 18, rfl, rfl, ⟨by decide, by decide, by decide⟩, _, _, rfl, rfl, _, rfl, _, _, rfl, rfl, q587, (by show 3 ≤ sizeLine; decide), fun p hp => ?_⟩
        exact q p _ hp (same_new hp) ⟨_, _, _, upd_same⟩
      · refine ⟨_, rfl, _, _, rfl, rfl, q587, _, rfl, _, _, rfl, rfl, .inl ⟨by decide, by decide⟩, _, _, rfl, rfl, (by show 3 ≤ sizeLine; decide), fun p hp => ?_⟩
        exact q p _ hp (same_new hp) ⟨_, _, _, upd_same⟩
theorem ok_law_draw (T : Txt K mg) : Fn P w K mg base 1 "_law_draw" ["_law_pen_here", "_law_many"] (sp2 rDrawL) := by
  refine T.d_law_draw.ok sc_law_draw len2 fun f cdv A outer s H vs Q E hr hg h => ?_
  obtain ⟨_, _, rfl, p, many, rfl, rfl, ⟨x, y, z, hp⟩, p0, p1, q⟩ := h
  refine ⟨_, (pss_cons (ps_asg (pe_op op_add (pe_ix (ixL_K (K := K) rfl) (pv 0) pe_int (fun _ _ => rfl)) pe_int) (pg_sub (pv 0) pe_int set_list))
(pss_cons (ps_if (pt_cmpR op_gt (pe_ix (ixL_K (K := K) rfl) (pv 0) pe_int (fun _ _ => rfl)) pe_int (nomark _))
(pss_cons (ps_set (i := 2) sc_law_draw.nd rfl (by first | exact Or.inl rfl | exact Or.inr rfl) (pe_op op_mod (pe_ix (ixL_K (K := K) rfl) (pv 0) pe_int (fun _ _ => rfl)) (pv 1)))
(pss_cons (ps_asg (pe_op op_fdiv (pe_ix (ixL_K (K := K) rfl) (pv 0) pe_int (fun _ _ => rfl)) (pv 1)) (pg_sub (pv 0) pe_int set_list))
(pss_one (ps_ret (pv 2)))))
pss_nil)
(pss_cons (ps_set (i := 3) sc_law_draw.nd rfl (by first | exact Or.inl rfl | exact Or.inr rfl) (pe_op op_mod (pe_op op_mul (pe_op op_add (pe_op op_add (pe_ix (ixL_K (K := K) rfl) (pv 0) pe_int (fun _ _ => rfl)) (pe_op op_mul pe_int (pe_ix (ixL_K (K := K) rfl) (pv 0) pe_int (fun _ _ => rfl)))) pe_int) pe_int) pe_int))
(pss_cons (ps_set (i := 3) sc_law_draw.nd rfl (by first | exact Or.inl rfl | exact Or.inr rfl) (pe_op op_mod (pe_op op_add (pe_op op_mul (pv 3) (pv 3)) (pe_op op_mul pe_int (pe_ix (ixL_K (K := K) rfl) (pv 0) pe_int (fun _ _ => rfl)))) pe_int))
(pss_one (ps_ret (pe_op op_mod (pe_op op_fdiv (pe_op op_mod (pe_op op_mul (pv 3) (pe_op op_add (pe_op op_mod (pv 3) pe_int) pe_int)) pe_int) pe_int) (pv 1)))))))), ?_⟩
  refine ⟨_, rfl, p, _, 2, _, rfl, rfl, SqL.of hp, atI_nat (j := 2) rfl, _, _, rfl, rfl, _, rfl, p, _, 2, 2, rfl, rfl, hp, rfl, ?_⟩
  have h1 : (upd H p (.lst [.int x, .int y, .int (z + 1)])) p = some (.lst [.int x, .int y, .int (z + 1)]) := upd_same
  have e1 : ([.int x, .int y, .int z] : List V).set 2 (.int (z + 1)) = [.int x, .int y, .int (z + 1)] := rfl
  refine ⟨_, rfl, p, _, 0, _, rfl, rfl, SqL.of h1, atI_nat (j := 0) rfl, _, _, rfl, rfl, _, rfl, ite2 (fun e => ?_) (fun e => ?_)⟩
  · refine ⟨_, rfl, p, _, 0, _, rfl, rfl, SqL.of h1, atI_nat (j := 0) rfl, _, rfl, _, _, rfl, rfl, p0, ?_⟩
    refine ⟨_, rfl, p, _, 0, _, rfl, rfl, SqL.of h1, atI_nat (j := 0) rfl, _, rfl, _, _, rfl, rfl, ⟨p0, p1⟩, _, rfl, p, _, 0, 0, rfl, rfl, h1, rfl, ?_⟩
    refine ⟨_, rfl, ?_⟩
    exact q _ _ (Int.emod_nonneg _ (by omega)) (Int.emod_lt_of_pos _ p0) ⟨_, _, _, upd_same⟩ (But.trans But.upd But.upd) ((Ext.lst hp).trans (Ext.lst h1))
  · refine ⟨_, rfl, p, _, 1, _, rfl, rfl, SqL.of h1, atI_nat (j := 1) rfl, _, rfl, p, _, 2, _, rfl, rfl, SqL.of h1, atI_nat (j := 2) rfl, _, _, rfl, rfl, .inl ⟨by decide, by decide⟩, _, _, rfl, rfl, _, _, rfl, rfl, _, _, rfl, rfl, .inr ⟨by decide, by decide⟩, _, _, rfl, rfl, q647, ?_⟩
    have a1 := Int.emod_nonneg ((y + 50021 * (z + 1) + 19) * 48271) (show (2147483647 : Int) ≠ 0 by decide)
    have a2 := Int.emod_lt_of_pos ((y + 50021 * (z + 1) + 19) * 48271) q647
    refine ⟨_, rfl, _, rfl, _, _, rfl, rfl, .inl ⟨by omega, by omega⟩, _, rfl, p, _, 2, _, rfl, rfl, SqL.of h1, atI_nat (j := 2) rfl, _, _, rfl, rfl, .inl ⟨by decide, by decide⟩, _, _, rfl, rfl, _, _, rfl, rfl, q629, ?_⟩
    generalize (y + 50021 * (z + 1) + 19) * 48271 % 2147483647 = u at *
    have b1 := Int.emod_nonneg (u * u + 69621 * (z + 1)) (show (2147483629 : Int) ≠ 0 by decide)
    have b2 := Int.emod_lt_of_pos (u * u + 69621 * (z + 1)) q629
    refine ⟨_, rfl, _, rfl, _, _, rfl, rfl, q521, _, _, rfl, rfl, _, _, rfl, rfl, .inl ⟨by omega, by omega⟩, _, _, rfl, rfl, q587, _, _, rfl, rfl, ⟨by decide, by decide⟩, _, rfl, _, _, rfl, rfl, p0, ?_⟩
    exact q _ _ (Int.emod_nonneg _ (by omega)) (Int.emod_lt_of_pos _ p0) ⟨_, _, _, h1⟩ But.upd (Ext.lst hp)

/-! ### is_whole, is_step -/
def rWholeK : V → Hp → VK → Prop := fun x H Q => ∃ k, HasK H x k ∧ Q (.bl (wholeK k)) H
theorem ok_is_whole (T : Txt K mg) : Fn P w K mg base 1 "is_whole" ["thing"] (sp1 rWholeK) := by
  refine T.d_is_whole.ok sc_is_whole len1 fun f cdv A outer s H vs Q E hr hg h => ?_
  obtain ⟨_, rfl, k, hk, q⟩ := h
  refine ⟨_, (pss_one (ps_ret (pe_and (pe_callB (isi_K (K := K) rfl) (by rfl) T.n_isinstance (by decide +kernel) (pa_cons (pv 0) (pa_cons (pe_bltn (v := .ty "int") (by rfl) T.n_int (by decide +kernel) rfl) pa_nil))) (pe_one (pe_not (pe_callB (isi_K (K := K) rfl) (by rfl) T.n_isinstance (by decide +kernel) (pa_cons (pv 0) (pa_cons (pe_bltn (v := .ty "bool") (by rfl) T.n_bool (by decide +kernel) rfl) pa_nil)))))))), ?_⟩
  refine ⟨_, rfl, _, _, _, _, _, rfl, .ty "int", hk.ty, kit_ty (kit_int k), _, rfl, ite2 (fun e => ?_) (fun e => ?_)⟩
  · refine ⟨_, rfl, _, _, _, _, _, rfl, .ty "bool", hk.ty, kit_ty (kit_bool k), _, rfl, ?_⟩
    have ez : wholeK k = !isBoolK k := by
      cases k <;> first | rfl | exact absurd e (by simp [isIntK])
    rw [← ez]
    exact q
  · have ez : wholeK k = false := by
      cases k <;> first | rfl | exact absurd rfl e
    rw [ez] at q
    exact q
def rNumK : V → V → Hp → VK → Prop := fun x y H Q => ∃ (many : Int) (k : Kd), x = .int many ∧ HasK H y k ∧ Q (.bl (numK many k)) H
theorem ok_is_number_of_row (T : Txt K mg) : Fn P w K mg base 2 "is_number_of_row" ["many", "thing"] (sp2 rNumK) := by
  have G_is_whole := ok_is_whole (P := P) (w := w) (base := base) T
  refine T.d_is_number_of_row.ok sc_is_number_of_row len2 fun f cdv A outer s H vs Q E hr hg h => ?_
  obtain ⟨_, y, rfl, many, k, rfl, hk, q⟩ := h
  refine ⟨_, (pss_one (ps_ret (pe_and (pe_fn G_is_whole (hr.mono (by decide)) hg (by rfl) (pa_cons (pv 1) pa_nil)) (pe_one (pe_chain op_le op_lt pe_int (pv 1) (pv 0)))))), ?_⟩
  refine ⟨_, rfl, _, rfl, k, hk, _, rfl, ite2 (fun e => ?_) (fun e => ?_)⟩
  · obtain ⟨i, rfl⟩ := whole_int e
    cases hk
    refine ⟨_, rfl, 0, i, rfl, rfl, _, rfl, ite2 (fun e2 => ?_) (fun e2 => ?_)⟩
    · refine ⟨_, rfl, _, _, rfl, rfl, ?_⟩
      have ez : numK many (.int i) = decide (i < many) := by
        show (decide (0 ≤ i) && decide (i < many)) = _
        rw [e2, Bool.true_and]
      rw [ez] at q
      exact q
    · have ez : numK many (.int i) = false := by
        show (decide (0 ≤ i) && decide (i < many)) = _
        rw [Bool.eq_false_iff.mpr e2, Bool.false_and]
      rw [ez] at q
      exact q
  · rw [not_whole_num (Bool.eq_false_iff.mpr e)] at q
    exact q
def rUnlikeK : V → V → V → Hp → VK → Prop := fun x y z H Q => ∃ (many : Int) (k k' : Kd), x = .int many ∧ HasK H y k ∧ HasK H z k' ∧ Q (.bl (unlikeK many k k')) H
theorem num_int {many : Int} {k : Kd} (h : numK many k = true) : ∃ i, k = .int i := by
  cases k <;> first | exact ⟨_, rfl⟩ | exact absurd h (by simp [numK])
theorem ok_are_unlike_rows (T : Txt K mg) : Fn P w K mg base 3 "are_unlike_rows" ["many", "one", "other"] (sp3 rUnlikeK) := by
  have G_is_number_of_row := ok_is_number_of_row (P := P) (w := w) (base := base) T
  refine T.d_are_unlike_rows.ok sc_are_unlike_rows len3 fun f cdv A outer s H vs Q E hr hg h => ?_
  obtain ⟨_, y, z, rfl, many, k, k', rfl, hk, hk', q⟩ := h
  refine ⟨_, (pss_one (ps_ret (pe_and (pe_fn G_is_number_of_row (hr.mono (by decide)) hg (by rfl) (pa_cons (pv 0) (pa_cons (pv 1) pa_nil))) (pe_and (pe_fn G_is_number_of_row (hr.mono (by decide)) hg (by rfl) (pa_cons (pv 0) (pa_cons (pv 2) pa_nil))) (pe_one (pe_cmpR op_ne (pv 1) (pv 2) (nomark _))))))), ?_⟩
  refine ⟨_, rfl, _, rfl, _, _, rfl, many, k, rfl, hk, _, rfl, ite2 (fun e => ?_) (fun e => ?_)⟩
  · obtain ⟨i, rfl⟩ := num_int e
    refine ⟨_, rfl, _, rfl, _, _, rfl, many, k', rfl, hk', _, rfl, ite2 (fun e2 => ?_) (fun e2 => ?_)⟩
    · obtain ⟨j, rfl⟩ := num_int e2
      cases hk
      cases hk'
      refine ⟨_, rfl, _, rfl, rfl, ?_⟩
      have ez : unlikeK many (.int i) (.int j) = !decide (V.int i = V.int j) := by
        show (numK many (.int i) && (numK many (.int j) && _)) = _
        rw [e, e2, Bool.true_and, Bool.true_and]
      rw [ez] at q
      exact q
    · have ez : unlikeK many (.int i) k' = false := by
        cases k' with
        | int j =>
          show (numK many (.int i) && (numK many (.int j) && _)) = _
          rw [Bool.eq_false_iff.mpr e2, Bool.false_and, Bool.and_false]
        | _ => rfl
      rw [ez] at q
      exact q
  · have ez : unlikeK many k k' = false := by
      cases k with
      | int i =>
        cases k' with
        | int j =>
          show (numK many (.int i) && (numK many (.int j) && _)) = _
          rw [Bool.eq_false_iff.mpr e, Bool.false_and]
        | _ => rfl
      | _ => rfl
    rw [ez] at q
    exact q
def rStepK : V → V → Hp → VK → Prop := fun x y H Q => ∃ (many : Int) (o : Option (List Kd)), x = .int many ∧ KsOf H y o ∧ Q (.bl (stepO many o)) H
theorem ok_is_step (T : Txt K mg) : Fn P w K mg base 4 "is_step" ["many", "thing"] (sp2 rStepK) := by
  have G_is_whole := ok_is_whole (P := P) (w := w) (base := base) T
  have G_is_number_of_row := ok_is_number_of_row (P := P) (w := w) (base := base) T
  have G_are_unlike_rows := ok_are_unlike_rows (P := P) (w := w) (base := base) T
  refine T.d_is_step.ok sc_is_step len2 fun f cdv A outer s H vs Q E hr hg h => ?_
  obtain ⟨_, y, rfl, many, o, rfl, hk, q⟩ := h
  refine ⟨_, (pss_cons (ps_if (PW.pt (pw_or (pt_not (pt_val (pe_callB (isi_K (K := K) rfl) (by rfl) T.n_isinstance (by decide +kernel) (pa_cons (pv 1) (pa_cons (pe_bltn (v := .ty "tuple") (by rfl) T.n_tuple (by decide +kernel) rfl) pa_nil))))) (pw_or1 (pt_cmpR op_eq (pe_callB (len_K (K := K) rfl) (by rfl) T.n_len (by decide +kernel) (pa_cons (pv 1) pa_nil)) pe_int (nomark _)))))
(pss_one (ps_ret pe_bl))
pss_nil)
(pss_cons (ps_if (pt_cmpR (op_eqK hr) (pe_ix (ixT_K (K := K) rfl) (pv 1) pe_int (fun _ _ => rfl)) pe_str (nomark _))
(pss_one (ps_ret (pe_and (pe_cmpR op_eq (pe_callB (len_K (K := K) rfl) (by rfl) T.n_len (by decide +kernel) (pa_cons (pv 1) pa_nil)) pe_int (nomark _)) (pe_and (pe_fn G_are_unlike_rows (hr.mono (by decide)) hg (by rfl) (pa_cons (pv 0) (pa_cons (pe_ix (ixT_K (K := K) rfl) (pv 1) pe_int (fun _ _ => rfl)) (pa_cons (pe_ix (ixT_K (K := K) rfl) (pv 1) pe_int (fun _ _ => rfl)) pa_nil)))) (pe_one (pe_fn G_is_whole (hr.mono (by decide)) hg (by rfl) (pa_cons (pe_ix (ixT_K (K := K) rfl) (pv 1) pe_int (fun _ _ => rfl)) pa_nil)))))))
pss_nil)
(pss_cons (ps_if (pt_cmpR (op_eqK hr) (pe_ix (ixT_K (K := K) rfl) (pv 1) pe_int (fun _ _ => rfl)) pe_str (nomark _))
(pss_one (ps_ret (pe_and (pe_cmpR op_eq (pe_callB (len_K (K := K) rfl) (by rfl) T.n_len (by decide +kernel) (pa_cons (pv 1) pa_nil)) pe_int (nomark _)) (pe_one (pe_fn G_are_unlike_rows (hr.mono (by decide)) hg (by rfl) (pa_cons (pv 0) (pa_cons (pe_ix (ixT_K (K := K) rfl) (pv 1) pe_int (fun _ _ => rfl)) (pa_cons (pe_ix (ixT_K (K := K) rfl) (pv 1) pe_int (fun _ _ => rfl)) pa_nil))))))))
pss_nil)
(pss_cons (ps_if (pt_cmpR (op_eqK hr) (pe_ix (ixT_K (K := K) rfl) (pv 1) pe_int (fun _ _ => rfl)) pe_str (nomark _))
(pss_one (ps_ret (pe_and (pe_cmpR op_eq (pe_callB (len_K (K := K) rfl) (by rfl) T.n_len (by decide +kernel) (pa_cons (pv 1) pa_nil)) pe_int (nomark _)) (pe_one (pe_fn G_is_number_of_row (hr.mono (by decide)) hg (by rfl) (pa_cons (pv 0) (pa_cons (pe_ix (ixT_K (K := K) rfl) (pv 1) pe_int (fun _ _ => rfl)) pa_nil)))))))
pss_nil)
(pss_one (ps_ret pe_bl)))))), ?_⟩
  cases o with
  | none =>
    obtain ⟨k, hk, hn⟩ := hk
    refine ⟨_, rfl, _, _, _, _, false, rfl, .ty "tuple", hk.ty, kit_ty (by rw [kit_tup, hn]), false, rfl, iteT ?_⟩
    exact q
  | some ks =>
    obtain ⟨a, xs, rfl, ha, hp⟩ := hk
    have hpl : xs.length = ks.length := Paired.length hp
    refine ⟨_, rfl, _, _, _, _, true, rfl, .ty "tuple", (HasK.tup ha).ty, kit_ty (kit_tup (.tup xs)), true, rfl, iteF ?_⟩
    refine ⟨_, rfl, a, _, rfl, .inr (SqT.of ha), rfl, _, rfl, ite2 (fun e => ?_) (fun e => ?_)⟩
    · have e0 : (xs.length : Int) = 0 := eq_yes e
      have ex : ks = [] := List.length_eq_zero_iff.mp (by omega)
      subst ex
      exact q
    · cases hp with
      | nil => exact absurd (decide_eq_true rfl) e
      | @cons x0 k0 xr kr h0 hr0 =>
        have hrl : xr.length = kr.length := Paired.length hr0
        refine ⟨_, rfl, a, _, 0, _, rfl, rfl, SqT.of ha, atI_nat (j := 0) rfl, k0, "add", h0, rfl, _, rfl, ite2 (fun e1 => ?_) (fun e1 => ?_)⟩
        · have ez : stepO many (some (k0 :: kr)) = addK many kr := if_pos e1
          rw [ez] at q
          refine ⟨_, rfl, a, _, rfl, .inr (SqT.of ha), rfl, _, rfl, ite2 (fun e2 => ?_) (fun e2 => ?_)⟩
          · have el : ((x0 :: xr).length : Int) = 4 := eq_yes e2
            cases hr0 with
            | nil => exact absurd el (by simp)
            | @cons x1 k1 xr kr h1 hr1 =>
              cases hr1 with
              | nil => exact absurd el (by simp)
              | @cons x2 k2 xr kr h2 hr2 =>
                cases hr2 with
                | nil => exact absurd el (by simp)
                | @cons x3 k3 xr kr h3 hr3 =>
                  cases hr3 with
                  | cons h4 hr4 => exact absurd el (by simp only [List.length_cons]; omega)
                  | nil =>
                    refine ⟨_, rfl, _, rfl, a, _, 1, _, rfl, rfl, SqT.of ha, atI_nat (j := 1) rfl, _, rfl, a, _, 2, _, rfl, rfl, SqT.of ha, atI_nat (j := 2) rfl, _, _, _, rfl, many, k1, k2, rfl, h1, h2, _, rfl, ite2 (fun e3 => ?_) (fun e3 => ?_)⟩
                    · refine ⟨_, rfl, a, _, 3, _, rfl, rfl, SqT.of ha, atI_nat (j := 3) rfl, _, rfl, k3, h3, ?_⟩
                      have ew : addK many [k1, k2, k3] = wholeK k3 := by
                        show (unlikeK many k1 k2 && wholeK k3) = _
                        rw [e3, Bool.true_and]
                      rw [ew] at q
                      exact q
                    · have ew : addK many [k1, k2, k3] = false := by
                        show (unlikeK many k1 k2 && wholeK k3) = _
                        rw [Bool.eq_false_iff.mpr e3, Bool.false_and]
                      rw [ew] at q
                      exact q
          · have el : ((x0 :: xr).length : Int) ≠ 4 := eq_no e2
            have ew : addK many kr = false := by
              rcases kr with _ | ⟨k1, _ | ⟨k2, _ | ⟨k3, _ | ⟨k4, kr⟩⟩⟩⟩ <;> first | rfl | skip
              exact absurd (by simp only [List.length_cons, hrl, List.length_nil]; rfl) el
            rw [ew] at q
            exact q
        refine ⟨_, rfl, a, _, 0, _, rfl, rfl, SqT.of ha, atI_nat (j := 0) rfl, k0, "swap", h0, rfl, _, rfl, ite2 (fun e2 => ?_) (fun e2 => ?_)⟩
        · have ez : stepO many (some (k0 :: kr)) = swapK many kr := (if_neg e1).trans (if_pos e2)
          rw [ez] at q
          refine ⟨_, rfl, a, _, rfl, .inr (SqT.of ha), rfl, _, rfl, ite2 (fun e3 => ?_) (fun e3 => ?_)⟩
          · have el : ((x0 :: xr).length : Int) = 3 := eq_yes e3
            cases hr0 with
            | nil => exact absurd el (by simp)
            | @cons x1 k1 xr kr h1 hr1 =>
              cases hr1 with
              | nil => exact absurd el (by simp)
              | @cons x2 k2 xr kr h2 hr2 =>
                cases hr2 with
                | cons h4 hr4 => exact absurd el (by simp only [List.length_cons]; omega)
                | nil =>
                  refine ⟨_, rfl, _, rfl, a, _, 1, _, rfl, rfl, SqT.of ha, atI_nat (j := 1) rfl, _, rfl, a, _, 2, _, rfl, rfl, SqT.of ha, atI_nat (j := 2) rfl, _, _, _, rfl, many, k1, k2, rfl, h1, h2, ?_⟩
                  exact q
          · have el : ((x0 :: xr).length : Int) ≠ 3 := eq_no e3
            have ew : swapK many kr = false := by
              rcases kr with _ | ⟨k1, _ | ⟨k2, _ | ⟨k3, kr⟩⟩⟩ <;> first | rfl | skip
              exact absurd (by simp only [List.length_cons, hrl, List.length_nil]; rfl) el
            rw [ew] at q
            exact q
        refine ⟨_, rfl, a, _, 0, _, rfl, rfl, SqT.of ha, atI_nat (j := 0) rfl, k0, "turn", h0, rfl, _, rfl, ite2 (fun e3 => ?_) (fun e3 => ?_)⟩
        · have ez : stepO many (some (k0 :: kr)) = turnK many kr := ((if_neg e1).trans (if_neg e2)).trans (if_pos e3)
          rw [ez] at q
          refine ⟨_, rfl, a, _, rfl, .inr (SqT.of ha), rfl, _, rfl, ite2 (fun e4 => ?_) (fun e4 => ?_)⟩
          · have el : ((x0 :: xr).length : Int) = 2 := eq_yes e4
            cases hr0 with
            | nil => exact absurd el (by simp)
            | @cons x1 k1 xr kr h1 hr1 =>
              cases hr1 with
              | cons h4 hr4 => exact absurd el (by simp only [List.length_cons]; omega)
              | nil =>
                refine ⟨_, rfl, _, rfl, a, _, 1, _, rfl, rfl, SqT.of ha, atI_nat (j := 1) rfl, _, _, rfl, many, k1, rfl, h1, ?_⟩
                exact q
          · have el : ((x0 :: xr).length : Int) ≠ 2 := eq_no e4
            have ew : turnK many kr = false := by
              rcases kr with _ | ⟨k1, _ | ⟨k2, kr⟩⟩ <;> first | rfl | skip
              exact absurd (by simp only [List.length_cons, hrl, List.length_nil]; rfl) el
            rw [ew] at q
            exact q
        · have ez : stepO many (some (k0 :: kr)) = false := ((if_neg e1).trans (if_neg e2)).trans (if_neg e3)
          rw [ez] at q
          exact q

def rBack : V → Hp → VK → Prop := fun x H Q => ∃ st : St3, SV H x st ∧ ∀ v H', Same H H' → SV H' v st.back → Q v H'
theorem s_ta : ¬ (("turn" : Str) = "add") := by decide +kernel
theorem s_ts : ¬ (("turn" : Str) = "swap") := by decide +kernel
theorem s_sa : ¬ (("swap" : Str) = "add") := by decide +kernel
theorem ne_str {x y : Str} (h : ¬ x = y) : ¬ V.str x = V.str y := fun e => h (V.str.inj e)
theorem ok_taken_back (T : Txt K mg) : Fn P w K mg base 1 "taken_back" ["step"] (sp1 rBack) := by
  refine T.d_taken_back.ok sc_taken_back len1 fun f cdv A outer s H vs Q E hr hg h => ?_
  obtain ⟨_, rfl, st, ⟨a, rfl, ha⟩, q⟩ := h
  refine ⟨_, (pss_cons (ps_if (pt_cmpR op_eq (pe_ix (ixT_K (K := K) rfl) (pv 0) pe_int (fun _ _ => rfl)) pe_str (nomark _))
(pss_one (ps_ret (pe_tup (pa_cons pe_str (pa_cons (pe_ix (ixT_K (K := K) rfl) (pv 0) pe_int (fun _ _ => rfl)) (pa_cons (pe_ix (ixT_K (K := K) rfl) (pv 0) pe_int (fun _ _ => rfl)) (pa_cons (pe_un un_neg (pe_ix (ixT_K (K := K) rfl) (pv 0) pe_int (fun _ _ => rfl))) pa_nil)))))))
pss_nil)
(pss_one (ps_ret (pv 0)))), ?_⟩
  cases st with
  | add i j z =>
    refine ⟨_, rfl, a, _, 0, _, rfl, rfl, SqT.of ha, atI_nat (j := 0) rfl, rfl, _, rfl, iteS rfl ?_⟩
    refine ⟨_, rfl, a, _, 1, _, rfl, rfl, SqT.of ha, atI_nat (j := 1) rfl, _, rfl, a, _, 2, _, rfl, rfl, SqT.of ha, atI_nat (j := 2) rfl, _, rfl, a, _, 3, _, rfl, rfl, SqT.of ha, atI_nat (j := 3) rfl, _, rfl, (by show 4 ≤ sizeLine; decide), fun p hp => ?_⟩
    exact q _ _ (same_new hp) ⟨p, rfl, upd_same⟩
  | swap i j =>
    refine ⟨_, rfl, a, _, 0, _, rfl, rfl, SqT.of ha, atI_nat (j := 0) rfl, rfl, _, rfl, iteN (ne_str s_sa) ?_⟩
    exact ⟨_, rfl, q _ _ (Same.refl H) ⟨a, rfl, ha⟩⟩
  | turn i =>
    refine ⟨_, rfl, a, _, 0, _, rfl, rfl, SqT.of ha, atI_nat (j := 0) rfl, rfl, _, rfl, iteN (ne_str s_ta) ?_⟩
    exact ⟨_, rfl, q _ _ (Same.refl H) ⟨a, rfl, ha⟩⟩

def rStepped : V → V → Hp → VK → Prop := fun x y H Q => ∃ (m w b : Nat) (rs : Rs) (st : St3), TT H x rs ∧ SV H y st ∧ st.ok m ∧ RB m w b rs ∧ b ≤ 1000 ∧ m ≤ 14 ∧ w ≤ 12 ∧ ∀ v H', Same H H' → TT H' v (st.run rs) → Q v H'
theorem big_of {b : Nat} {x : Int} (h : x.natAbs < 2 ^ b) (hb : b ≤ 1000) : x.natAbs < 2 ^ 2000 := Nat.lt_of_lt_of_le h (Nat.pow_le_pow_right (by decide) (by omega))
theorem ok_stepped (T : Txt K mg) : Fn P w K mg base 1 "stepped" ["rows", "step"] (sp2 rStepped) := by
  refine T.d_stepped.ok sc_stepped len2 fun f cdv A outer s H vs Q E hr hg h => ?_
  obtain ⟨_, _, rfl, m, wd, b, rs, st, ⟨ra, xs, rfl, hra, hp⟩, ⟨a, rfl, ha⟩, hok, hb, hb1, hm, hw, q⟩ := h
  refine ⟨_, (pss_cons (ps_set (i := 2) sc_stepped.nd rfl (by first | exact Or.inl rfl | exact Or.inr rfl) (pe_callTy (listOf_K (K := K) rfl) (by rfl) T.n_list (by decide +kernel) (pa_cons (pv 0) pa_nil)))
(pss_cons (ps_set (i := 3) sc_stepped.nd rfl (by first | exact Or.inl rfl | exact Or.inr rfl) (pe_ix (ixT_K (K := K) rfl) (pv 1) pe_int (fun _ _ => rfl)))
(pss_cons (ps_if (pt_cmpR op_eq (pe_ix (ixT_K (K := K) rfl) (pv 1) pe_int (fun _ _ => rfl)) pe_str (nomark _))
(pss_one (ps_asg (pe_callTy (tupOf_K (K := K) rfl) (by rfl) T.n_tuple (by decide +kernel) (pa_cons (pe_lc (own := [("x", 4), ("y", 5)]) (g := gTup K 2 (gCons (gName 4) (gCons (gName 5) gNil))) rfl sc_stepped.nd (RZ.pi_zipA (by rfl) T.n_zip (pa_cons (pe_ix (ixT_K (K := K) rfl) (pv 0) (pv 3) (fun _ _ => rfl)) (pa_cons (pe_ix (ixT_K (K := K) rfl) (pv 0) (pe_ix (ixT_K (K := K) rfl) (pv 1) pe_int (fun _ _ => rfl)) (fun _ _ => rfl)) pa_nil))) (blkOk_by (own := [("x", 4), ("y", 5)]) (N := N_stepped) (sc := defScope s_stepped) (by decide +kernel)) (fun _ _ _ _ _ => (pg_tup rfl (pgs_cons (pg_name (i := 4) sc_stepped.nd rfl (by first | exact Or.inl rfl | exact Or.inr rfl)) (pgs_cons (pg_name (i := 5) sc_stepped.nd rfl (by first | exact Or.inl rfl | exact Or.inr rfl)) pgs_nil)))) (fun _ _ _ _ _ => pts_nil) (fun _ _ _ _ _ => (pe_op op_add (pv 4) (pe_op op_mulW (pe_ix (ixT_K (K := K) rfl) (pv 1) pe_int (fun _ _ => rfl)) (pv 5))))) pa_nil)) (pg_sub (pv 2) (pv 3) set_list)))
(pss_one (ps_if (pt_cmpR op_eq (pe_ix (ixT_K (K := K) rfl) (pv 1) pe_int (fun _ _ => rfl)) pe_str (nomark _))
(pss_one (ps_asg (pe_tup (pa_cons (pe_ix (ixT_K (K := K) rfl) (pv 0) (pe_ix (ixT_K (K := K) rfl) (pv 1) pe_int (fun _ _ => rfl)) (fun _ _ => rfl)) (pa_cons (pe_ix (ixT_K (K := K) rfl) (pv 0) (pv 3) (fun _ _ => rfl)) pa_nil))) (pg_tup rfl (pgs_cons (pg_sub (pv 2) (pv 3) set_list) (pgs_cons (pg_sub (pv 2) (pe_ix (ixT_K (K := K) rfl) (pv 1) pe_int (fun _ _ => rfl)) set_list) pgs_nil)))))
(pss_one (ps_asg (pe_callTy (tupOf_K (K := K) rfl) (by rfl) T.n_tuple (by decide +kernel) (pa_cons (pe_lc (own := [("x", 4)]) rfl sc_stepped.nd (pi_tup (pe_ix (ixT_K (K := K) rfl) (pv 0) (pv 3) (fun _ _ => rfl))) (blkOk_by (own := [("x", 4)]) (N := N_stepped) (sc := defScope s_stepped) (by decide +kernel)) (fun _ _ _ _ _ => (pg_name (i := 4) sc_stepped.nd rfl (by first | exact Or.inl rfl | exact Or.inr rfl))) (fun _ _ _ _ _ => pts_nil) (fun _ _ _ _ _ => (pe_un un_neg (pv 4)))) pa_nil)) (pg_sub (pv 2) (pv 3) set_list))))))
(pss_one (ps_ret (pe_callTy (tupOf_K (K := K) rfl) (by rfl) T.n_tuple (by decide +kernel) (pa_cons (pv 2) pa_nil))))))), ?_⟩
  refine ⟨_, rfl, ra, xs, rfl, .inr (SqT.of hra), fun L nL => ?_⟩
  have s1 : Same H (upd H L (.lst xs)) := same_new nL
  have hL : (upd H L (.lst xs)) L = some (.lst xs) := upd_same
  have hxl : xs.length = m := by rw [Paired.length hp]; exact hb.len
  have ha1 := s1 _ _ ha
  have hra1 := s1 _ _ hra
  have hp1 : Paired (TI (upd H L (.lst xs))) xs rs := Paired.mapP hp fun _ _ z => z.ext (Ext.same s1)
  generalize upd H L (.lst xs) = H1 at *
  cases st with
  | add i j z =>
    obtain ⟨o1, o2, o3, o4⟩ := hok
    have li : i < rs.length := by rw [hb.len]; exact o1
    have lj : j < rs.length := by rw [hb.len]; exact o2
    obtain ⟨pi, hxi, hpi⟩ := row_look hp1 li
    obtain ⟨pj, hxj, hpj⟩ := row_look hp1 lj
    have wi := hb.wide _ (row_mem li)
    have wj := hb.wide _ (row_mem lj)
    refine ⟨_, rfl, a, _, 1, _, rfl, rfl, SqT.of ha1, atI_nat (j := 1) rfl, ?_⟩
    refine ⟨_, rfl, a, _, 0, _, rfl, rfl, SqT.of ha1, atI_nat (j := 0) rfl, rfl, _, rfl, iteS rfl ?_⟩
    refine ⟨_, rfl, _, rfl, ra, _, _, _, rfl, rfl, SqT.of hra1, atI_nat (j := i) hxi, _, rfl, _, rfl, a, _, 2, _, rfl, rfl, SqT.of ha1, atI_nat (j := 2) rfl, ra, _, _, _, rfl, rfl, SqT.of hra1, atI_nat (j := j) hxj, ?_⟩
    refine ⟨pi, pj, _, _, rfl, .inr ⟨SqT.of hpi, SqT.of hpj, fun D nD => lc_it (walk_zipT (K := K) (a := pi) (b := pj) (xs := (row rs i).map V.int) (ys := (row rs j).map V.int) (n := wd) (by rw [List.length_map, List.length_map, wi, wj, Nat.min_self]))
      (fun k H' => Same H1 H' ∧ H' D = some (.lst (((List.zipWith (fun x y => x + z * y) (row rs i) (row rs j)).take k).map V.int))) ⟨same_new nD, upd_same⟩ (fun k H' _ h => ⟨SqT.of (h.1 _ _ hpi), SqT.of (h.1 _ _ hpj)⟩) ?_ ?_⟩⟩
    · rintro k v H2 H3 hk ⟨s2, hD⟩ ⟨t, x, y, rfl, nt, rfl, ex, ey⟩
      obtain ⟨x, rfl, ex2⟩ := int_at ex
      obtain ⟨y, rfl, ey2⟩ := int_at ey
      have s3 : Same H2 (upd H2 t (.tup [.int x, .int y])) := same_new nt
      have sx := hb.small _ (row_mem li) x (List.mem_of_getElem? ex2)
      have sy := hb.small _ (row_mem lj) y (List.mem_of_getElem? ey2)
      refine ⟨t, _, rfl, SqT.of upd_same, rfl, _, _, rfl, _, _, rfl, rfl, rfl, ?_⟩
      refine ⟨_, rfl, _, rfl, a, _, 3, _, rfl, rfl, SqT.of (s3 _ _ (s2 _ _ ha1)), atI_nat (j := 3) rfl, _, rfl, _, _, rfl, rfl, mulW_small (big_of o4 (by decide)) (big_of sy hb1), _, _, rfl, rfl, ?_⟩
      refine ⟨_, s3 _ _ hD, len_small (w := wd) (by rw [List.length_zipWith, wi, wj, Nat.min_self]) hw, fresh_same (s2.trans s3) nD, ?_⟩
      rw [upd_same, ← take_app (zip_at ex2 ey2)]
    · rintro H2 ⟨s2, hD⟩
      have hD' : H2 D = some (.lst ((List.zipWith (fun x y => x + z * y) (row rs i) (row rs j)).map V.int)) := by
        rw [hD, List.take_of_length_le (by rw [List.length_zipWith, wi, wj, Nat.min_self]; exact Nat.le_refl _)]
      refine ⟨D, _, rfl, .inl ⟨SqL.of hD', fun p np => ?_⟩⟩
      have s3 : Same H2 (upd H2 p (.tup ((List.zipWith (fun x y => x + z * y) (row rs i) (row rs j)).map V.int))) := same_new np
      have s13 := s2.trans s3
      refine ⟨_, rfl, _, rfl, L, xs, _, i, rfl, rfl, s13 _ _ hL, ix_nat (by rw [hxl]; exact o1), ?_⟩
      refine ⟨_, rfl, L, _, rfl, .inl ⟨SqL.of upd_same, fun R nR => ?_⟩⟩
      have x3 := Ext.lst (ys := xs.set i (.ref p)) (s13 _ _ hL)
      have x4 : Ext H1 _ := (Ext.same s13).trans (x3.trans (Ext.same (same_new (o := .tup (xs.set i (.ref p))) nR)))
      refine q _ _ ((fresh_same (s1.trans s13) nL).trans (same_new nR)) ⟨R, _, rfl, upd_same, paired_set (Paired.mapP hp1 fun _ _ z => z.ext x4) ⟨p, rfl, ?_⟩⟩
      exact (x3.trans (Ext.same (same_new nR))).t _ _ upd_same
  | swap i j =>
    obtain ⟨o1, o2, o3⟩ := hok
    have li : i < rs.length := by rw [hb.len]; exact o1
    have lj : j < rs.length := by rw [hb.len]; exact o2
    obtain ⟨pi, hxi, hpi⟩ := row_look hp1 li
    obtain ⟨pj, hxj, hpj⟩ := row_look hp1 lj
    refine ⟨_, rfl, a, _, 1, _, rfl, rfl, SqT.of ha1, atI_nat (j := 1) rfl, ?_⟩
    refine ⟨_, rfl, a, _, 0, _, rfl, rfl, SqT.of ha1, atI_nat (j := 0) rfl, rfl, _, rfl, iteN (ne_str s_sa) ?_⟩
    refine ⟨_, rfl, a, _, 0, _, rfl, rfl, SqT.of ha1, atI_nat (j := 0) rfl, rfl, _, rfl, iteS rfl ?_⟩
    refine ⟨_, rfl, _, rfl, a, _, 2, _, rfl, rfl, SqT.of ha1, atI_nat (j := 2) rfl, ra, _, _, _, rfl, rfl, SqT.of hra1, atI_nat (j := j) hxj, _, rfl, _, rfl, ra, _, _, _, rfl, rfl, SqT.of hra1, atI_nat (j := i) hxi, (by show 2 ≤ sizeLine; decide), fun t nt => ?_⟩
    have s3 : Same H1 (upd H1 t (.tup [.ref pj, .ref pi])) := same_new nt
    refine ⟨t, _, rfl, SqT.of upd_same, rfl, _, _, rfl, ?_⟩
    refine ⟨_, rfl, _, rfl, L, xs, _, i, rfl, rfl, s3 _ _ hL, ix_nat (by rw [hxl]; exact o1), ?_⟩
    have x3 := Ext.lst (ys := xs.set i (.ref pj)) (s3 _ _ hL)
    refine ⟨_, _, rfl, ?_⟩
    refine ⟨_, rfl, _, rfl, a, _, 2, _, rfl, rfl, SqT.of (x3.t _ _ (s3 _ _ ha1)), atI_nat (j := 2) rfl, L, _, _, j, rfl, rfl, upd_same, ix_nat (by rw [List.length_set, hxl]; exact o2), rfl, ?_⟩
    have hL4 : (upd (upd H1 t (.tup [.ref pj, .ref pi])) L (.lst (xs.set i (.ref pj)))) L = some (.lst (xs.set i (.ref pj))) := upd_same
    have x4 := x3.trans (Ext.lst (ys := (xs.set i (.ref pj)).set j (.ref pi)) hL4)
    refine ⟨_, rfl, L, _, rfl, .inl ⟨SqL.of upd_same, fun R nR => ?_⟩⟩
    have x5 : Ext H1 _ := (Ext.same s3).trans (x4.trans (Ext.same (same_new (o := .tup ((xs.set i (.ref pj)).set j (.ref pi))) nR)))
    refine q _ _ ((fresh_same (fresh_same (s1.trans s3) nL) nL).trans (same_new nR)) ⟨R, _, rfl, upd_same, paired_set (paired_set (Paired.mapP hp1 fun _ _ z => z.ext x5) ⟨pj, rfl, x5.t _ _ hpj⟩) ⟨pi, rfl, x5.t _ _ hpi⟩⟩
  | turn i =>
    have li : i < rs.length := by rw [hb.len]; exact hok
    obtain ⟨pi, hxi, hpi⟩ := row_look hp1 li
    have wi := hb.wide _ (row_mem li)
    refine ⟨_, rfl, a, _, 1, _, rfl, rfl, SqT.of ha1, atI_nat (j := 1) rfl, ?_⟩
    refine ⟨_, rfl, a, _, 0, _, rfl, rfl, SqT.of ha1, atI_nat (j := 0) rfl, rfl, _, rfl, iteN (ne_str s_ta) ?_⟩
    refine ⟨_, rfl, a, _, 0, _, rfl, rfl, SqT.of ha1, atI_nat (j := 0) rfl, rfl, _, rfl, iteN (ne_str s_ts) ?_⟩
    refine ⟨_, rfl, _, rfl, ra, _, _, _, rfl, rfl, SqT.of hra1, atI_nat (j := i) hxi, pi, rfl, ⟨_, SqT.of hpi⟩, fun D nD => lc_tup (K := K) (a := pi) (xs := (row rs i).map V.int)
      (fun k H' => Same H1 H' ∧ H' D = some (.lst ((((row rs i).map fun x => -x).take k).map V.int))) ⟨same_new nD, upd_same⟩ (fun k H' _ h => SqT.of (h.1 _ _ hpi)) ?_ ?_⟩
    · rintro k v H2 ex ⟨s2, hD⟩
      obtain ⟨x, rfl, ex2⟩ := int_at ex
      refine ⟨rfl, _, rfl, _, rfl, ?_⟩
      refine ⟨_, hD, len_small (w := wd) (by rw [List.length_map, wi]) hw, fresh_same s2 nD, ?_⟩
      rw [upd_same, ← take_app (v := -x) (by rw [List.getElem?_map, ex2]; rfl)]
    · rintro H2 ⟨s2, hD⟩
      have hD' : H2 D = some (.lst (((row rs i).map fun x => -x).map V.int)) := by
        rw [hD, List.take_of_length_le (by rw [List.length_map, List.length_map]; exact Nat.le_refl _)]
      refine ⟨D, _, rfl, .inl ⟨SqL.of hD', fun p np => ?_⟩⟩
      have s3 : Same H2 (upd H2 p (.tup (((row rs i).map fun x => -x).map V.int))) := same_new np
      have s13 := s2.trans s3
      refine ⟨_, rfl, _, rfl, L, xs, _, i, rfl, rfl, s13 _ _ hL, ix_nat (by rw [hxl]; exact hok), ?_⟩
      refine ⟨_, rfl, L, _, rfl, .inl ⟨SqL.of upd_same, fun R nR => ?_⟩⟩
      have x3 := Ext.lst (ys := xs.set i (.ref p)) (s13 _ _ hL)
      have x4 : Ext H1 _ := (Ext.same s13).trans (x3.trans (Ext.same (same_new (o := .tup (xs.set i (.ref p))) nR)))
      refine q _ _ ((fresh_same (s1.trans s13) nL).trans (same_new nR)) ⟨R, _, rfl, upd_same, paired_set (Paired.mapP hp1 fun _ _ z => z.ext x4) ⟨p, rfl, ?_⟩⟩
      exact (x3.trans (Ext.same (same_new nR))).t _ _ upd_same

theorem sgn_small {r t : Int} (r0 : 0 ≤ r) (r1 : r < 2) (t0 : 0 ≤ t) (t1 : t < 1073741824) : ((1 - 2 * r) * t).natAbs < 2 ^ 30 := by
  have h : r = 0 ∨ r = 1 := by omega
  rcases h with rfl | rfl
  · rw [show (1 - 2 * 0 : Int) = 1 from rfl, Int.one_mul]
    have : (2 : Nat) ^ 30 = 1073741824 := rfl
    omega
  · rw [show (1 - 2 * 1 : Int) = -1 from rfl, Int.neg_one_mul]
    have : (2 : Nat) ^ 30 = 1073741824 := rfl
    omega
def rNum11 : V → Hp → VK → Prop := fun x H Q => ∃ p, x = .ref p ∧ LP H p ∧ ∀ z H', z.natAbs < 2 ^ 30 → LP H' p → But p H H' → Ext H H' → Q (.int z) H'
theorem six_at {w : Int} (h0 : 0 ≤ w) (h1 : w < 6) : ∃ v : Int, atI ([.int 4, .int 4, .int 4, .int 2, .int 100, .int 13] : List V) w = some (.int v) ∧ 0 < v ∧ v ≤ 100 := by
  have h : w = 0 ∨ w = 1 ∨ w = 2 ∨ w = 3 ∨ w = 4 ∨ w = 5 := by omega
  rcases h with rfl | rfl | rfl | rfl | rfl | rfl
  · exact ⟨4, rfl, by decide, by decide⟩
  · exact ⟨4, rfl, by decide, by decide⟩
  · exact ⟨4, rfl, by decide, by decide⟩
  · exact ⟨2, rfl, by decide, by decide⟩
  · exact ⟨100, rfl, by decide, by decide⟩
  · exact ⟨13, rfl, by decide, by decide⟩
theorem ok_law_number (T : Txt K mg) : Fn P w K mg base 2 "_law_number" ["_law_pen_here"] (sp1 rNum11) := by
  have G_law_draw := ok_law_draw (P := P) (w := w) (base := base) T
  refine T.d_law_number.ok sc_law_number len1 fun f cdv A outer s H vs Q E hr hg h => ?_
  obtain ⟨_, rfl, p, rfl, lp, q⟩ := h
  refine ⟨_, (pss_cons (ps_set (i := 1) sc_law_number.nd rfl (by first | exact Or.inl rfl | exact Or.inr rfl) (pe_fn G_law_draw (hr.mono (by decide)) hg (by rfl) (pa_cons (pv 0) (pa_cons pe_int pa_nil))))
(pss_cons (ps_set (i := 2) sc_law_number.nd rfl (by first | exact Or.inl rfl | exact Or.inr rfl) (pe_op op_sub pe_int (pe_op op_mul pe_int (pe_fn G_law_draw (hr.mono (by decide)) hg (by rfl) (pa_cons (pv 0) (pa_cons pe_int pa_nil))))))
(pss_cons (ps_if (pt_cmpR op_eq (pv 1) pe_int (nomark _))
(pss_one (ps_ret (pe_op op_mul (pv 2) (pe_op op_sub (pe_op op_sub (pe_op op_pow pe_int pe_int) pe_int) (pe_fn G_law_draw (hr.mono (by decide)) hg (by rfl) (pa_cons (pv 0) (pa_cons pe_int pa_nil)))))))
pss_nil)
(pss_cons (ps_if (pt_cmpR op_eq (pv 1) pe_int (nomark _))
(pss_one (ps_ret (pe_op op_mul (pv 2) (pe_op op_add (pe_op op_mul (pe_fn G_law_draw (hr.mono (by decide)) hg (by rfl) (pa_cons (pv 0) (pa_cons pe_int pa_nil))) pe_int) (pe_fn G_law_draw (hr.mono (by decide)) hg (by rfl) (pa_cons (pv 0) (pa_cons pe_int pa_nil)))))))
pss_nil)
(pss_one (ps_ret (pe_op op_mul (pv 2) (pe_fn G_law_draw (hr.mono (by decide)) hg (by rfl) (pa_cons (pv 0) (pa_cons (pe_ix (ixL_K (K := K) rfl) (pe_lst (pa_cons pe_int (pa_cons pe_int (pa_cons pe_int (pa_cons pe_int (pa_cons pe_int (pa_cons pe_int pa_nil))))))) (pv 1) (fun _ _ => rfl)) pa_nil)))))))))), ?_⟩
  refine ⟨_, rfl, _, _, rfl, p, _, rfl, rfl, lp, by decide, by decide, fun y H1 y0 y1 lp1 b1 x1 => ?_⟩
  refine ⟨_, rfl, _, _, rfl, p, _, rfl, rfl, lp1, by decide, by decide, fun r H2 r0 r1 lp2 b2 x2 => ?_⟩
  refine ⟨_, _, rfl, rfl, .inl ⟨by decide, by decide⟩, _, _, rfl, rfl, ?_⟩
  have b12 := b1.trans b2
  have x12 := x1.trans x2
  refine ⟨_, rfl, rfl, _, rfl, ite2 (fun e => ?_) (fun e => ?_)⟩
  · refine ⟨_, rfl, 10, 9, rfl, rfl, ⟨by decide, by decide, by decide⟩, _, _, rfl, rfl, _, rfl, _, _, rfl, p, _, rfl, rfl, lp2, by decide, by decide, fun t H3 t0 t1 lp3 b3 x3 => ?_⟩
    refine ⟨_, _, rfl, rfl, _, _, rfl, rfl, .inl ⟨by omega, by omega⟩, ?_⟩
    have e9 : (10 : Int) ^ (9 : Int).toNat = 1000000000 := by decide
    exact q _ _ (sgn_small r0 r1 (by rw [e9]; omega) (by rw [e9]; omega)) lp3 (b12.trans b3) (x12.trans x3)
  have n7 := eq_no e
  refine ⟨_, rfl, rfl, _, rfl, ite2 (fun e => ?_) (fun e => ?_)⟩
  · refine ⟨_, rfl, _, rfl, _, _, rfl, p, _, rfl, rfl, lp2, by decide, by decide, fun t H3 t0 t1 lp3 b3 x3 => ?_⟩
    refine ⟨_, _, rfl, rfl, .inr ⟨by decide, by decide⟩, _, rfl, _, _, rfl, p, _, rfl, rfl, lp3, by decide, by decide, fun u H4 u0 u1 lp4 b4 x4 => ?_⟩
    refine ⟨_, _, rfl, rfl, _, _, rfl, rfl, .inl ⟨by omega, by omega⟩, ?_⟩
    exact q _ _ (sgn_small r0 r1 (by omega) (by omega)) lp4 ((b12.trans b3).trans b4) ((x12.trans x3).trans x4)
  have n6 := eq_no e
  obtain ⟨v, hv, v0, v1⟩ := six_at (w := y) y0 (by omega)
  refine ⟨_, rfl, _, rfl, (by show 6 ≤ sizeLine; decide), fun l nl => ?_⟩
  have s3 := same_new (o := .lst [.int 4, .int 4, .int 4, .int 2, .int 100, .int 13]) nl
  refine ⟨_, rfl, l, _, y, _, rfl, rfl, SqL.of upd_same, hv, _, _, rfl, p, v, rfl, rfl, lp2.same s3, v0, by omega, fun t H4 t0 t1 lp4 b4 x4 => ?_⟩
  refine ⟨_, _, rfl, rfl, .inl ⟨by omega, by omega⟩, ?_⟩
  exact q _ _ (sgn_small r0 r1 t0 (by omega)) lp4 ((b12.trans (But.same s3)).trans b4) ((x12.trans (Ext.same s3)).trans x4)
/-! ### a step drawn -/
theorem turn_mod {i r m : Int} (i0 : 0 ≤ i) (i1 : i < m) (r0 : 0 ≤ r) (r1 : r < m - 1) : 0 ≤ (i + 1 + r) % m ∧ (i + 1 + r) % m < m ∧ (i + 1 + r) % m ≠ i := by
  by_cases h : i + 1 + r < m
  · rw [Int.emod_eq_of_lt (by omega) h]
    omega
  · have e : (i + 1 + r) % m = i + 1 + r - m := by
      have e1 : i + 1 + r = (i + 1 + r - m) + m * 1 := by omega
      rw [e1, Int.add_mul_emod_self_left, Int.emod_eq_of_lt (by omega) (by omega)]
      omega
    rw [e]
    omega
def rStep11 : V → V → Hp → VK → Prop := fun x y H Q => ∃ (p : Addr) (m : Nat), x = .ref p ∧ y = .int m ∧ LP H p ∧ 1 ≤ m ∧ m ≤ 14 ∧ ∀ v H' st, SV H' v st → st.ok m → LP H' p → But p H H' → Ext H H' → Q v H'
theorem ok_law_step (T : Txt K mg) : Fn P w K mg base 2 "_law_step" ["_law_pen_here", "_law_many"] (sp2 rStep11) := by
  have G_law_draw := ok_law_draw (P := P) (w := w) (base := base) T
  refine T.d_law_step.ok sc_law_step len2 fun f cdv A outer s H vs Q E hr hg h => ?_
  obtain ⟨_, _, rfl, p, m, rfl, rfl, lp, m1, m14, q⟩ := h
  refine ⟨_, (pss_cons (ps_set (i := 2) sc_law_step.nd rfl (by first | exact Or.inl rfl | exact Or.inr rfl) (pe_fn G_law_draw (hr.mono (by decide)) hg (by rfl) (pa_cons (pv 0) (pa_cons pe_int pa_nil))))
(pss_cons (ps_set (i := 3) sc_law_step.nd rfl (by first | exact Or.inl rfl | exact Or.inr rfl) (pe_fn G_law_draw (hr.mono (by decide)) hg (by rfl) (pa_cons (pv 0) (pa_cons (pv 1) pa_nil))))
(pss_cons (ps_if (PW.pt (pw_or (pt_cmpR op_eq (pv 2) pe_int (nomark _)) (pw_or1 (pt_cmpR op_eq (pv 1) pe_int (nomark _)))))
(pss_one (ps_ret (pe_tup (pa_cons pe_str (pa_cons (pv 3) pa_nil)))))
pss_nil)
(pss_cons (ps_set (i := 4) sc_law_step.nd rfl (by first | exact Or.inl rfl | exact Or.inr rfl) (pe_op op_mod (pe_op op_add (pe_op op_add (pv 3) pe_int) (pe_fn G_law_draw (hr.mono (by decide)) hg (by rfl) (pa_cons (pv 0) (pa_cons (pe_op op_sub (pv 1) pe_int) pa_nil)))) (pv 1)))
(pss_cons (ps_if (pt_cmpR op_eq (pv 2) pe_int (nomark _))
(pss_one (ps_ret (pe_tup (pa_cons pe_str (pa_cons (pv 3) (pa_cons (pv 4) pa_nil))))))
pss_nil)
(pss_cons (ps_set (i := 5) sc_law_step.nd rfl (by first | exact Or.inl rfl | exact Or.inr rfl) (pe_op op_sub (pe_fn G_law_draw (hr.mono (by decide)) hg (by rfl) (pa_cons (pv 0) (pa_cons pe_int pa_nil))) pe_int))
(pss_cons (ps_if (pt_cmpR op_eq (pe_fn G_law_draw (hr.mono (by decide)) hg (by rfl) (pa_cons (pv 0) (pa_cons pe_int pa_nil))) pe_int (nomark _))
(pss_one (ps_set (i := 5) sc_law_step.nd rfl (by first | exact Or.inl rfl | exact Or.inr rfl) (pe_op op_mul (pe_op op_sub (pe_op op_sub (pe_op op_pow pe_int pe_int) pe_int) (pe_fn G_law_draw (hr.mono (by decide)) hg (by rfl) (pa_cons (pv 0) (pa_cons pe_int pa_nil)))) (pe_op op_sub pe_int (pe_op op_mul pe_int (pe_fn G_law_draw (hr.mono (by decide)) hg (by rfl) (pa_cons (pv 0) (pa_cons pe_int pa_nil))))))))
pss_nil)
(pss_one (ps_ret (pe_tup (pa_cons pe_str (pa_cons (pv 3) (pa_cons (pv 4) (pa_cons (pv 5) pa_nil)))))))))))))), ?_⟩
  refine ⟨_, rfl, _, _, rfl, p, _, rfl, rfl, lp, by decide, by decide, fun y H1 y0 y1 lp1 b1 x1 => ?_⟩
  refine ⟨_, rfl, _, rfl, _, _, rfl, p, _, rfl, rfl, lp1, by omega, by omega, fun i H2 i0 i1 lp2 b2 x2 => ?_⟩
  have b12 := b1.trans b2
  have x12 := x1.trans x2
  obtain ⟨i, rfl⟩ : ∃ n : Nat, i = n := ⟨i.toNat, by omega⟩
  have hi : i < m := by omega
  have turn : ∀ t : Addr, H2 t = none → Q (.ref t) (upd H2 t (.tup [.str "turn", .int i])) := fun t nt =>
    q _ _ (.turn i) ⟨t, rfl, upd_same⟩ hi (lp2.same (same_new nt)) (b12.trans (But.new nt)) (x12.trans (Ext.same (same_new nt)))
  refine ⟨_, rfl, rfl, _, rfl, ite2 (fun e => ?_) (fun e => ?_)⟩
  · exact ⟨_, rfl, (by show 2 ≤ sizeLine; decide), fun t nt => turn t nt⟩
  refine ⟨_, rfl, rfl, _, rfl, ite2 (fun e2 => ?_) (fun e2 => ?_)⟩
  · exact ⟨_, rfl, (by show 2 ≤ sizeLine; decide), fun t nt => turn t nt⟩
  have nm := eq_no e2
  refine ⟨_, rfl, _, _, rfl, rfl, _, rfl, _, rfl, _, _, rfl, rfl, _, _, rfl, p, _, rfl, rfl, lp2, by omega, by omega, fun r H3 r0 r1 lp3 b3 x3 => ?_⟩
  refine ⟨_, _, rfl, rfl, _, rfl, _, _, rfl, rfl, by omega, ?_⟩
  obtain ⟨j0, j1, jn⟩ := turn_mod (i := (i : Int)) (m := (m : Int)) (by omega) (by omega) r0 (by omega)
  obtain ⟨j, ej⟩ : ∃ n : Nat, ((i : Int) + 1 + r) % (m : Int) = n := ⟨(((i : Int) + 1 + r) % (m : Int)).toNat, by omega⟩
  rw [ej] at j0 j1 jn
  have hj : j < m := by omega
  have hij : i ≠ j := by omega
  have b13 := b12.trans b3
  have x13 := x12.trans x3
  refine ⟨_, rfl, rfl, _, rfl, ite2 (fun e => ?_) (fun e => ?_)⟩
  · refine ⟨_, rfl, _, rfl, (by show 3 ≤ sizeLine; decide), fun t nt => ?_⟩
    exact q _ _ (.swap i j) ⟨t, rfl, upd_same.trans (by show some (HO.tup [.str "swap", .int i, .int (((i : Int) + 1 + r) % (m : Int))]) = _; rw [ej]; rfl)⟩ ⟨hi, hj, hij⟩ (lp3.same (same_new nt)) (b13.trans (But.new nt)) (x13.trans (Ext.same (same_new nt)))
  refine ⟨_, rfl, _, _, rfl, p, _, rfl, rfl, lp3, by decide, by decide, fun u H4 u0 u1 lp4 b4 x4 => ?_⟩
  refine ⟨_, _, rfl, rfl, ?_⟩
  refine ⟨_, rfl, _, _, rfl, p, _, rfl, rfl, lp4, by decide, by decide, fun o H5 o0 o1 lp5 b5 x5 => ?_⟩
  have b15 := (b13.trans b4).trans b5
  have x15 := (x13.trans x4).trans x5
  refine ⟨rfl, _, rfl, ite2 (fun e => ?_) (fun e => ?_)⟩
  · refine ⟨10, 30, rfl, rfl, ⟨by decide, by decide, by decide⟩, _, _, rfl, rfl, _, rfl, _, _, rfl, p, _, rfl, rfl, lp5, by decide, by decide, fun d H6 d0 d1 lp6 b6 x6 => ?_⟩
    refine ⟨_, _, rfl, rfl, _, rfl, _, _, rfl, p, _, rfl, rfl, lp6, by decide, by decide, fun g H7 g0 g1 lp7 b7 x7 => ?_⟩
    refine ⟨_, _, rfl, rfl, .inl ⟨by decide, by decide⟩, _, _, rfl, rfl, _, _, rfl, rfl, .inr ⟨by omega, by omega⟩, ?_⟩
    refine ⟨_, rfl, _, rfl, _, rfl, (by show 4 ≤ sizeLine; decide), fun t nt => ?_⟩
    refine q _ _ (.add i j ((10 ^ (30 : Int).toNat - 1 - d) * (1 - 2 * g))) ⟨t, rfl, upd_same.trans (by show some (HO.tup [.str "add", .int i, .int (((i : Int) + 1 + r) % (m : Int)), .int ((10 ^ (30 : Int).toNat - 1 - d) * (1 - 2 * g))]) = _; rw [ej]; rfl)⟩ ⟨hi, hj, hij, ?_⟩ (lp7.same (same_new nt)) (((b15.trans b6).trans b7).trans (But.new nt)) (((x15.trans x6).trans x7).trans (Ext.same (same_new nt)))
    have e30 : (10 : Int) ^ (30 : Int).toNat = 1000000000000000000000000000000 := by decide
    have e100 : (2 : Nat) ^ 100 = 1267650600228229401496703205376 := by decide
    rw [e30, e100]
    have hg : g = 0 ∨ g = 1 := by omega
    rcases hg with rfl | rfl <;> omega
  · refine ⟨_, rfl, _, rfl, _, rfl, (by show 4 ≤ sizeLine; decide), fun t nt => ?_⟩
    refine q _ _ (.add i j (u - 4)) ⟨t, rfl, upd_same.trans (by show some (HO.tup [.str "add", .int i, .int (((i : Int) + 1 + r) % (m : Int)), .int (u - 4)]) = _; rw [ej]; rfl)⟩ ⟨hi, hj, hij, ?_⟩ (lp5.same (same_new nt)) (b15.trans (But.new nt)) (x15.trans (Ext.same (same_new nt)))
    have e100 : (2 : Nat) ^ 100 = 1267650600228229401496703205376 := by decide
    rw [e100]
    omega

/-! ### the law's own looks -/
def rIsBack : V → V → V → Hp → VK → Prop := fun x y z H Q => ∃ (m : Nat) (st : St3), x = .int m ∧ SV H y st ∧ SV H z st.back ∧ st.ok m ∧ Q (.bl true) H
theorem ok_law_is_back (T : Txt K mg) : Fn P w K mg base 5 "_law_is_back" ["_law_many", "_law_step_here", "_law_told"] (sp3 rIsBack) := by
  have G_is_step := ok_is_step (P := P) (w := w) (base := base) T
  refine T.d_law_is_back.ok sc_law_is_back len3 fun f cdv A outer s H vs Q E hr hg h => ?_
  obtain ⟨_, _, _, rfl, m, st, rfl, ⟨a, rfl, ha⟩, ⟨c, rfl, hc⟩, hok, q⟩ := h
  refine ⟨_, (pss_cons (ps_if (PW.pt (pw_or (pt_not (pt_val (pe_callB (isi_K (K := K) rfl) (by rfl) T.n_isinstance (by decide +kernel) (pa_cons (pv 2) (pa_cons (pe_bltn (v := .ty "tuple") (by rfl) T.n_tuple (by decide +kernel) rfl) pa_nil))))) (pw_or1 (pt_cmpR op_isnot_bl (pe_fn G_is_step (hr.mono (by decide)) hg (by rfl) (pa_cons (pv 0) (pa_cons (pv 2) pa_nil))) pe_bl (nomark _)))))
(pss_one (ps_ret pe_bl))
pss_nil)
(pss_one (ps_ret (pe_cmpR op_eq (pe_ix (ixT_K (K := K) rfl) (pv 2) pe_int (fun _ _ => rfl)) (pe_ix (ixT_K (K := K) rfl) (pv 1) pe_int (fun _ _ => rfl)) (nomark _))))), ?_⟩
  refine if_no (fun H' => H' = H) (fun Q2 q2 => ?_) (fun H' e => ?_)
  · refine or_no (fun H' => H' = H) (fun Q3 q3 => ?_) (fun H' e => ?_)
    · refine ⟨_, rfl, _, _, _, _, true, rfl, .ty "tuple", (HasK.tup hc).ty, kit_ty (kit_tup (.tup _)), true, rfl, ?_⟩
      exact q3 _ rfl
    · subst e
      refine ⟨_, rfl, _, rfl, _, _, rfl, m, some st.back.kinds, rfl, kinds_at hc, ?_⟩
      rw [kinds_ok (back_ok hok)]
      exact ⟨_, _, rfl, rfl, _, rfl, q2 _ rfl⟩
  · subst e
    refine ⟨_, rfl, c, _, 0, _, rfl, rfl, SqT.of hc, atI_nat (j := 0) (word_at _), _, rfl, a, _, 0, _, rfl, rfl, SqT.of ha, atI_nat (j := 0) (word_at _), rfl, ?_⟩
    rw [back_word, decide_eq_true rfl]
    exact q
def rAre : V → V → Hp → VK → Prop := fun x y H Q => ∃ (wd : Nat) (rs : Rs), TT H x rs ∧ y = .int wd ∧ (∀ r ∈ rs, r.length = wd) ∧ wd ≤ 12 ∧ ∀ H', Same H H' → Q (.bl true) H'
theorem ok_law_are_rows (T : Txt K mg) : Fn P w K mg base 1 "_law_are_rows" ["_law_found", "_law_wide"] (sp2 rAre) := by
  refine T.d_law_are_rows.ok sc_law_are_rows len2 fun f cdv A outer s H vs Q E hr hg h => ?_
  obtain ⟨_, _, rfl, wd, rs, ⟨a, xs, rfl, ha, hp⟩, rfl, hw, hw12, q⟩ := h
  refine ⟨_, (pss_cons (ps_if (pt_not (pt_val (pe_callB (isi_K (K := K) rfl) (by rfl) T.n_isinstance (by decide +kernel) (pa_cons (pv 0) (pa_cons (pe_bltn (v := .ty "tuple") (by rfl) T.n_tuple (by decide +kernel) rfl) pa_nil)))))
(pss_one (ps_ret pe_bl))
pss_nil)
(pss_cons (ps_for PassesOwn.never rfl (pi_tup (pv 0)) (pg_name (i := 2) sc_law_are_rows.nd rfl (by first | exact Or.inl rfl | exact Or.inr rfl))
(pss_cons (ps_if (PW.pt (pw_or (pt_not (pt_val (pe_callB (isi_K (K := K) rfl) (by rfl) T.n_isinstance (by decide +kernel) (pa_cons (pv 2) (pa_cons (pe_bltn (v := .ty "tuple") (by rfl) T.n_tuple (by decide +kernel) rfl) pa_nil))))) (pw_or1 (pt_cmpR op_ne (pe_callB (len_K (K := K) rfl) (by rfl) T.n_len (by decide +kernel) (pa_cons (pv 2) pa_nil)) (pv 1) (nomark _)))))
(pss_one (ps_ret pe_bl))
pss_nil)
(pss_one (ps_if (pt_cmpR (neD_K (K := K) hr rfl) (pe_lc (own := [("_law_number_here", 3)]) rfl sc_law_are_rows.nd (pi_tup (pv 2)) (blkOk_by (own := [("_law_number_here", 3)]) (N := N_law_are_rows) (sc := defScope s_law_are_rows) (by decide +kernel)) (fun _ _ _ _ _ => (pg_name (i := 3) sc_law_are_rows.nd rfl (by first | exact Or.inl rfl | exact Or.inr rfl))) (fun _ _ _ _ _ => (pts_one (PW.pt (pw_or (pt_val (pe_callB (isi_K (K := K) rfl) (by rfl) T.n_isinstance (by decide +kernel) (pa_cons (pv 3) (pa_cons (pe_bltn (v := .ty "bool") (by rfl) T.n_bool (by decide +kernel) rfl) pa_nil)))) (pw_or1 (pt_not (pt_val (pe_callB (isi_K (K := K) rfl) (by rfl) T.n_isinstance (by decide +kernel) (pa_cons (pv 3) (pa_cons (pe_bltn (v := .ty "int") (by rfl) T.n_int (by decide +kernel) rfl) pa_nil)))))))))) (fun _ _ _ _ _ => (pv 3))) (pe_lst pa_nil) (nomark _))
(pss_one (ps_ret pe_bl))
pss_nil))))
(pss_one (ps_ret pe_bl)))), ?_⟩
  refine ⟨_, rfl, _, _, _, _, true, rfl, .ty "tuple", (HasK.tup ha).ty, kit_ty (kit_tup (.tup _)), true, rfl, iteF ?_⟩
  refine ⟨_, rfl, a, rfl, ⟨_, SqT.of ha⟩, for_tup (K := K) (a := a) (xs := xs) (fun _ σ H' => (∃ o2, σ = [some (.ref a), some (.int wd), o2, none]) ∧ Same H H') ⟨⟨_, rfl⟩, Same.refl H⟩ (fun _ σ H' _ h => SqT.of (h.2 _ _ ha)) ?_ ?_⟩
  · rintro k v σ H1 hv ⟨⟨o2, rfl⟩, s1⟩
    obtain ⟨r, hr1, pr, rfl, hpr⟩ := paired_first hp hv
    have hpr1 := s1 _ _ hpr
    have hrw := hw r (List.mem_of_getElem? hr1)
    try dsimp only [gName]
    refine if_no (fun H' => H' = H1) (fun Q2 q2 => ?_) (fun H9 e => ?_)
    · refine or_no (fun H' => H' = H1) (fun Q3 q3 => ?_) (fun H' e => ?_)
      · refine ⟨_, rfl, _, _, _, _, true, rfl, .ty "tuple", (HasK.tup hpr1).ty, kit_ty (kit_tup (.tup _)), true, rfl, ?_⟩
        exact q3 _ rfl
      · subst e
        refine ⟨_, rfl, pr, _, rfl, .inr (SqT.of hpr1), _, rfl, rfl, _, rfl, ?_⟩
        rw [decide_eq_true (by rw [List.length_map, hrw])]
        exact q2 _ rfl
    · obtain rfl : H1 = H9 := e.symm
      refine if_no1 (fun H' => Same H1 H') (fun Q2 q2 => ?_) (fun H' s2 => ?_)
      · refine ⟨_, rfl, pr, rfl, ⟨_, SqT.of hpr1⟩, fun D nD => lc_tup (K := K) (a := pr) (xs := r.map V.int) (fun _ H' => Same H1 H' ∧ H' D = some (.lst [])) ⟨same_new nD, upd_same⟩ (fun _ H' _ h => SqT.of (h.1 _ _ hpr1)) ?_ ?_⟩
        · rintro i x H2 hx ⟨s2, hD⟩
          obtain ⟨z, rfl, _⟩ := int_at hx
          refine ⟨rfl, _, rfl, _, _, _, _, false, rfl, .ty "bool", (HasK.int z).ty, kit_ty (kit_bool (.int z)), false, rfl, iteF ?_⟩
          refine ⟨_, rfl, _, _, _, _, true, rfl, .ty "int", (HasK.int z).ty, kit_ty (kit_int (.int z)), true, rfl, iteF ?_⟩
          exact ⟨s2, hD⟩
        · rintro H2 ⟨s2, hD⟩
          refine ⟨Nat.zero_le _, fun M nM => ?_⟩
          refine ⟨.list [], .list [], .lst (SqL.of (same_new nM _ _ hD)) .nil, .lst (SqL.of upd_same) .nil, rfl, rfl, _, rfl, ?_⟩
          exact q2 _ (s2.trans (same_new nM))
      · exact ⟨⟨_, rfl⟩, s1.trans s2⟩
  · rintro σ H1 ⟨⟨o2, rfl⟩, s1⟩
    exact q _ s1

theorem s_st : ¬ (("swap" : Str) = "turn") := by decide +kernel
theorem s_at : ¬ (("add" : Str) = "turn") := by decide +kernel
theorem s_as : ¬ (("add" : Str) = "swap") := by decide +kernel
/-! ### what is due -/
theorem ok_law_due (T : Txt K mg) : Fn P w K mg base 1 "_law_due" ["_law_rows_here", "_law_step_here"] (sp2 rStepped) := by
  refine T.d_law_due.ok sc_law_due len2 fun f cdv A outer s H vs Q E hr hg h => ?_
  obtain ⟨_, _, rfl, m, wd, b, rs, st, ⟨ra, xs, rfl, hra, hp⟩, ⟨a, rfl, ha⟩, hok, hb, hb1, hm, hw, q⟩ := h
  refine ⟨_, (pss_cons (ps_setLc (i := 2) (own := [("_law_row", 6)]) rfl sc_law_due.nd rfl rfl (sw_true rfl rfl rfl (by decide +kernel)) (pi_tup (pv 0)) (blkOk_by (own := [("_law_row", 6)]) (N := N_law_due) (sc := defScope s_law_due) (by decide +kernel)) (fun _ _ _ _ _ => (pg_name (i := 6) sc_law_due.nd rfl (by first | exact Or.inl rfl | exact Or.inr rfl))) (fun _ _ _ _ _ => pts_nil) (fun _ _ _ _ _ => (pe_callTy (listOf_K (K := K) rfl) (by rfl) T.n_list (by decide +kernel) (pa_cons (pv 6) pa_nil))))
(pss_cons (ps_if (pt_cmpR op_eq (pe_ix (ixT_K (K := K) rfl) (pv 1) pe_int (fun _ _ => rfl)) pe_str (nomark _))
(pss_one (ps_asg (pe_lc (own := [("_law_number_here", 7)]) rfl sc_law_due.nd (pi_tup (pe_ix (ixT_K (K := K) rfl) (pv 0) (pe_ix (ixT_K (K := K) rfl) (pv 1) pe_int (fun _ _ => rfl)) (fun _ _ => rfl))) (blkOk_by (own := [("_law_number_here", 7)]) (N := N_law_due) (sc := defScope s_law_due) (by decide +kernel)) (fun _ _ _ _ _ => (pg_name (i := 7) sc_law_due.nd rfl (by first | exact Or.inl rfl | exact Or.inr rfl))) (fun _ _ _ _ _ => pts_nil) (fun _ _ _ _ _ => (pe_op op_sub pe_int (pv 7)))) (pg_sub (pv 2) (pe_ix (ixT_K (K := K) rfl) (pv 1) pe_int (fun _ _ => rfl)) set_list)))
(pss_one (ps_if (pt_cmpR op_eq (pe_ix (ixT_K (K := K) rfl) (pv 1) pe_int (fun _ _ => rfl)) pe_str (nomark _))
(pss_cons (ps_asg (pe_callTy (listOf_K (K := K) rfl) (by rfl) T.n_list (by decide +kernel) (pa_cons (pe_ix (ixT_K (K := K) rfl) (pv 0) (pe_ix (ixT_K (K := K) rfl) (pv 1) pe_int (fun _ _ => rfl)) (fun _ _ => rfl)) pa_nil)) (pg_sub (pv 2) (pe_ix (ixT_K (K := K) rfl) (pv 1) pe_int (fun _ _ => rfl)) set_list))
(pss_one (ps_asg (pe_callTy (listOf_K (K := K) rfl) (by rfl) T.n_list (by decide +kernel) (pa_cons (pe_ix (ixT_K (K := K) rfl) (pv 0) (pe_ix (ixT_K (K := K) rfl) (pv 1) pe_int (fun _ _ => rfl)) (fun _ _ => rfl)) pa_nil)) (pg_sub (pv 2) (pe_ix (ixT_K (K := K) rfl) (pv 1) pe_int (fun _ _ => rfl)) set_list))))
(pss_cons (ps_asg (pe_slice (sl_K (K := K) rfl) (pv 1) (po_some pe_int) po_none) (pg_tup rfl (pgs_cons (pg_name (i := 3) sc_law_due.nd rfl (by first | exact Or.inl rfl | exact Or.inr rfl)) (pgs_cons (pg_name (i := 4) sc_law_due.nd rfl (by first | exact Or.inl rfl | exact Or.inr rfl)) (pgs_cons (pg_name (i := 5) sc_law_due.nd rfl (by first | exact Or.inl rfl | exact Or.inr rfl)) pgs_nil)))))
(pss_one (ps_asg (pe_lc (own := [("_law_one", 8), ("_law_other", 9)]) (g := gTup K 2 (gCons (gName 8) (gCons (gName 9) gNil))) rfl sc_law_due.nd (RZ.pi_zipA (by rfl) T.n_zip (pa_cons (pe_ix (ixT_K (K := K) rfl) (pv 0) (pv 3) (fun _ _ => rfl)) (pa_cons (pe_ix (ixT_K (K := K) rfl) (pv 0) (pv 4) (fun _ _ => rfl)) pa_nil))) (blkOk_by (own := [("_law_one", 8), ("_law_other", 9)]) (N := N_law_due) (sc := defScope s_law_due) (by decide +kernel)) (fun _ _ _ _ _ => (pg_tup rfl (pgs_cons (pg_name (i := 8) sc_law_due.nd rfl (by first | exact Or.inl rfl | exact Or.inr rfl)) (pgs_cons (pg_name (i := 9) sc_law_due.nd rfl (by first | exact Or.inl rfl | exact Or.inr rfl)) pgs_nil)))) (fun _ _ _ _ _ => pts_nil) (fun _ _ _ _ _ => (pe_op op_add (pv 8) (pe_op op_mulW (pv 5) (pv 9))))) (pg_sub (pv 2) (pv 3) set_list)))))))
(pss_one (ps_ret (pe_callTy (tupOf_K (K := K) rfl) (by rfl) T.n_tuple (by decide +kernel) (pa_cons (pe_lc (own := [("_law_row", 6)]) rfl sc_law_due.nd (pi_list (pv 2)) (blkOk_by (own := [("_law_row", 6)]) (N := N_law_due) (sc := defScope s_law_due) (by decide +kernel)) (fun _ _ _ _ _ => (pg_name (i := 6) sc_law_due.nd rfl (by first | exact Or.inl rfl | exact Or.inr rfl))) (fun _ _ _ _ _ => pts_nil) (fun _ _ _ _ _ => (pe_callTy (tupOf_K (K := K) rfl) (by rfl) T.n_tuple (by decide +kernel) (pa_cons (pv 6) pa_nil)))) pa_nil)))))), ?_⟩
  have hxl : xs.length = rs.length := Paired.length hp
  have hrl := hb.len
  have hrun := (run_RB hok hb).len
  refine ⟨_, rfl, ra, rfl, ⟨_, SqT.of hra⟩, fun D nD => lc_tup (K := K) (a := ra) (xs := xs) (fun k H' => Same H H' ∧ ∃ ys, H' D = some (.lst ys) ∧ Paired (LI D H') ys (rs.take k)) ⟨same_new nD, [], upd_same, .nil⟩ (fun k H' _ h => SqT.of (h.1 _ _ hra)) ?_ ?_⟩
  · rintro k v H1 hv ⟨s1, ys, hD, hy⟩
    obtain ⟨r, hr1, p, rfl, hpr⟩ := paired_first hp hv
    refine ⟨rfl, _, rfl, p, _, rfl, .inr (SqT.of (s1 _ _ hpr)), fun l nl => ?_⟩
    have s2 := same_new (o := .lst (r.map V.int)) nl
    refine ⟨ys, s2 _ _ hD, ?_, fresh_same (s1.trans s2) nD, _, upd_same, ?_⟩
    · rw [Paired.length hy, List.length_take]
      exact small1000 (by omega)
    · rw [take_row hr1]
      exact paired_app (Paired.mapP hy fun _ _ z => (z.same s2).put) (LI.put ⟨l, rfl, (ne_of_none hD nl).symm, upd_same⟩)
  rintro H1 ⟨s1, ys, hD, hy⟩
  rw [hxl, List.take_length] at hy
  have hyl : ys.length = rs.length := Paired.length hy
  have ha1 := s1 _ _ ha
  have hra1 := s1 _ _ hra
  have hp1 : Paired (TI H1) xs rs := Paired.mapP hp fun _ _ z => z.ext (Ext.same s1)
  cases st with
  | turn i =>
    have li : i < rs.length := by rw [hb.len]; exact hok
    obtain ⟨pi, hxi, hpi⟩ := row_look hp1 li
    have wi := hb.wide _ (row_mem li)
    refine ⟨_, rfl, a, _, 0, _, rfl, rfl, SqT.of ha1, atI_nat (j := 0) rfl, rfl, _, rfl, iteS rfl ?_⟩
    refine ⟨_, rfl, _, rfl, a, _, 1, _, rfl, rfl, SqT.of ha1, atI_nat (j := 1) rfl, ra, _, _, _, rfl, rfl, SqT.of hra1, atI_nat (j := i) hxi, pi, rfl, ⟨_, SqT.of hpi⟩, fun E nE => lc_tup (K := K) (a := pi) (xs := (row rs i).map V.int)
      (fun k H' => Same H1 H' ∧ H' E = some (.lst ((((row rs i).map fun x => -x).take k).map V.int))) ⟨same_new nE, upd_same⟩ (fun k H' _ h => SqT.of (h.1 _ _ hpi)) ?_ ?_⟩
    · rintro k v H2 ex ⟨s2, hE⟩
      obtain ⟨x, rfl, ex2⟩ := int_at ex
      refine ⟨rfl, _, rfl, _, _, rfl, rfl, ?_⟩
      refine ⟨_, hE, len_small (w := wd) (by rw [List.length_map, wi]) hw, fresh_same s2 nE, ?_⟩
      rw [upd_same, ← take_app (v := -x) (by rw [List.getElem?_map, ex2]; rfl), ← Int.zero_sub]
    rintro H2 ⟨s2, hE⟩
    rw [List.take_of_length_le (by rw [List.length_map, List.length_map]; exact Nat.le_refl _)] at hE
    refine ⟨_, rfl, _, rfl, a, _, 1, _, rfl, rfl, SqT.of (s2 _ _ ha1), atI_nat (j := 1) rfl, D, ys, _, i, rfl, rfl, s2 _ _ hD, ix_nat (by rw [hyl]; exact li), ?_⟩
    have nED : E ≠ D := (ne_of_none hD nE).symm
    have s5 : Same H (upd H2 D (.lst (ys.set i (.ref E)))) := fresh_same (s1.trans s2) nD
    have hD5 : (upd H2 D (.lst (ys.set i (.ref E)))) D = some (.lst (ys.set i (.ref E))) := upd_same
    have hp5 : Paired (LI D (upd H2 D (.lst (ys.set i (.ref E))))) (ys.set i (.ref E)) ((St3.turn i).run rs) := paired_set (Paired.mapP hy fun _ _ z => (z.same s2).put) (LI.put ⟨E, rfl, nED, hE⟩)
    generalize upd H2 D (.lst (ys.set i (.ref E))) = H5 at *
    refine ⟨_, rfl, D, rfl, ⟨_, SqL.of hD5⟩, fun M nM => lc_list (K := K) (a := D) (xs := ys.set i (.ref E)) (fun k H' => Same H5 H' ∧ ∃ zs, H' M = some (.lst zs) ∧ Paired (TI H') zs (((St3.turn i).run rs).take k)) ⟨same_new nM, [], upd_same, .nil⟩ (fun k H' _ h => SqL.of (h.1 _ _ hD5)) ?_ ?_⟩
    · rintro k v H6 hv ⟨s6, zs, hM, hz⟩
      obtain ⟨r, hr1, l, rfl, nl, hl⟩ := paired_first hp5 hv
      refine ⟨rfl, _, rfl, l, _, rfl, .inl ⟨SqL.of (s6 _ _ hl), fun p np => ?_⟩⟩
      have s7 := same_new (o := .tup (r.map V.int)) np
      have x7 := (Ext.same s7).trans (Ext.lst (ys := zs ++ [.ref p]) (s7 _ _ hM))
      refine ⟨zs, s7 _ _ hM, ?_, fresh_same (s6.trans s7) nM, _, upd_same, ?_⟩
      · rw [Paired.length hz, List.length_take]
        exact small1000 (by omega)
      · rw [take_row hr1]
        refine paired_app (Paired.mapP hz fun _ _ z => z.ext x7) ⟨p, rfl, ?_⟩
        exact (Ext.lst (s7 _ _ hM)).t _ _ upd_same
    · rintro H6 ⟨s6, zs, hM, hz⟩
      rw [List.take_of_length_le (by rw [Paired.length hp5]; exact Nat.le_refl _)] at hz
      refine ⟨M, _, rfl, .inl ⟨SqL.of hM, fun R nR => ?_⟩⟩
      exact q _ _ ((s5.trans s6).trans (same_new nR)) ⟨R, _, rfl, upd_same, Paired.mapP hz fun _ _ z => z.ext (Ext.same (same_new nR))⟩
  | swap i j =>
    obtain ⟨o1, o2, o3⟩ := hok
    have li : i < rs.length := by rw [hb.len]; exact o1
    have lj : j < rs.length := by rw [hb.len]; exact o2
    obtain ⟨pi, hxi, hpi⟩ := row_look hp1 li
    obtain ⟨pj, hxj, hpj⟩ := row_look hp1 lj
    refine ⟨_, rfl, a, _, 0, _, rfl, rfl, SqT.of ha1, atI_nat (j := 0) rfl, rfl, _, rfl, iteN (ne_str s_st) ?_⟩
    refine ⟨_, rfl, a, _, 0, _, rfl, rfl, SqT.of ha1, atI_nat (j := 0) rfl, rfl, _, rfl, iteS rfl ?_⟩
    refine ⟨_, rfl, _, rfl, a, _, 2, _, rfl, rfl, SqT.of ha1, atI_nat (j := 2) rfl, ra, _, _, _, rfl, rfl, SqT.of hra1, atI_nat (j := j) hxj, pj, _, rfl, .inr (SqT.of hpj), fun E nE => ?_⟩
    have s2 := same_new (o := .lst ((row rs j).map V.int)) nE
    refine ⟨_, rfl, _, rfl, a, _, 1, _, rfl, rfl, SqT.of (s2 _ _ ha1), atI_nat (j := 1) rfl, D, ys, _, i, rfl, rfl, s2 _ _ hD, ix_nat (by rw [hyl]; exact li), ?_⟩
    have nED : E ≠ D := (ne_of_none hD nE).symm
    have s3 : Same H (upd (upd H1 E (.lst ((row rs j).map V.int))) D (.lst (ys.set i (.ref E)))) := fresh_same (s1.trans s2) nD
    have hD3 : (upd (upd H1 E (.lst ((row rs j).map V.int))) D (.lst (ys.set i (.ref E)))) D = some (.lst (ys.set i (.ref E))) := upd_same
    have x3 : Ext H1 (upd (upd H1 E (.lst ((row rs j).map V.int))) D (.lst (ys.set i (.ref E)))) := (Ext.same s2).trans (Ext.lst (s2 _ _ hD))
    have hp3 : Paired (LI D (upd (upd H1 E (.lst ((row rs j).map V.int))) D (.lst (ys.set i (.ref E))))) (ys.set i (.ref E)) (rs.set i (row rs j)) := paired_set (Paired.mapP hy fun _ _ z => (z.same s2).put) (LI.put ⟨E, rfl, nED, upd_same⟩)
    generalize upd (upd H1 E (.lst ((row rs j).map V.int))) D (.lst (ys.set i (.ref E))) = H3 at *
    refine ⟨_, rfl, _, rfl, a, _, 1, _, rfl, rfl, SqT.of (x3.t _ _ ha1), atI_nat (j := 1) rfl, ra, _, _, _, rfl, rfl, SqT.of (x3.t _ _ hra1), atI_nat (j := i) hxi, pi, _, rfl, .inr (SqT.of (x3.t _ _ hpi)), fun F nF => ?_⟩
    have s4 := same_new (o := .lst ((row rs i).map V.int)) nF
    refine ⟨_, rfl, _, rfl, a, _, 2, _, rfl, rfl, SqT.of (s4 _ _ (x3.t _ _ ha1)), atI_nat (j := 2) rfl, D, _, _, j, rfl, rfl, s4 _ _ hD3, ix_nat (by rw [List.length_set, hyl]; exact lj), ?_⟩
    have nFD : F ≠ D := (ne_of_none hD3 nF).symm
    have s5 : Same H (upd (upd H3 F (.lst ((row rs i).map V.int))) D (.lst ((ys.set i (.ref E)).set j (.ref F)))) := fresh_same (s3.trans s4) nD
    have hD5 : (upd (upd H3 F (.lst ((row rs i).map V.int))) D (.lst ((ys.set i (.ref E)).set j (.ref F)))) D = some (.lst ((ys.set i (.ref E)).set j (.ref F))) := upd_same
    have hp5 : Paired (LI D (upd (upd H3 F (.lst ((row rs i).map V.int))) D (.lst ((ys.set i (.ref E)).set j (.ref F))))) ((ys.set i (.ref E)).set j (.ref F)) ((St3.swap i j).run rs) := paired_set (Paired.mapP hp3 fun _ _ z => (z.same s4).put) (LI.put ⟨F, rfl, nFD, upd_same⟩)
    generalize upd (upd H3 F (.lst ((row rs i).map V.int))) D (.lst ((ys.set i (.ref E)).set j (.ref F))) = H5 at *
    refine ⟨_, rfl, D, rfl, ⟨_, SqL.of hD5⟩, fun M nM => lc_list (K := K) (a := D) (xs := (ys.set i (.ref E)).set j (.ref F)) (fun k H' => Same H5 H' ∧ ∃ zs, H' M = some (.lst zs) ∧ Paired (TI H') zs (((St3.swap i j).run rs).take k)) ⟨same_new nM, [], upd_same, .nil⟩ (fun k H' _ h => SqL.of (h.1 _ _ hD5)) ?_ ?_⟩
    · rintro k v H6 hv ⟨s6, zs, hM, hz⟩
      obtain ⟨r, hr1, l, rfl, nl, hl⟩ := paired_first hp5 hv
      refine ⟨rfl, _, rfl, l, _, rfl, .inl ⟨SqL.of (s6 _ _ hl), fun p np => ?_⟩⟩
      have s7 := same_new (o := .tup (r.map V.int)) np
      have x7 := (Ext.same s7).trans (Ext.lst (ys := zs ++ [.ref p]) (s7 _ _ hM))
      refine ⟨zs, s7 _ _ hM, ?_, fresh_same (s6.trans s7) nM, _, upd_same, ?_⟩
      · rw [Paired.length hz, List.length_take]
        exact small1000 (by omega)
      · rw [take_row hr1]
        refine paired_app (Paired.mapP hz fun _ _ z => z.ext x7) ⟨p, rfl, ?_⟩
        exact (Ext.lst (s7 _ _ hM)).t _ _ upd_same
    · rintro H6 ⟨s6, zs, hM, hz⟩
      rw [List.take_of_length_le (by rw [Paired.length hp5]; exact Nat.le_refl _)] at hz
      refine ⟨M, _, rfl, .inl ⟨SqL.of hM, fun R nR => ?_⟩⟩
      exact q _ _ ((s5.trans s6).trans (same_new nR)) ⟨R, _, rfl, upd_same, Paired.mapP hz fun _ _ z => z.ext (Ext.same (same_new nR))⟩
  | add i j z =>
    obtain ⟨o1, o2, o3, o4⟩ := hok
    have li : i < rs.length := by rw [hb.len]; exact o1
    have lj : j < rs.length := by rw [hb.len]; exact o2
    obtain ⟨pi, hxi, hpi⟩ := row_look hp1 li
    obtain ⟨pj, hxj, hpj⟩ := row_look hp1 lj
    have wi := hb.wide _ (row_mem li)
    have wj := hb.wide _ (row_mem lj)
    refine ⟨_, rfl, a, _, 0, _, rfl, rfl, SqT.of ha1, atI_nat (j := 0) rfl, rfl, _, rfl, iteN (ne_str s_at) ?_⟩
    refine ⟨_, rfl, a, _, 0, _, rfl, rfl, SqT.of ha1, atI_nat (j := 0) rfl, rfl, _, rfl, iteN (ne_str s_as) ?_⟩
    refine ⟨_, rfl, 1, rfl, ?_⟩
    refine sl_rest ha1 fun t H2 s2 ht => ?_
    refine ⟨t, _, rfl, SqT.of ht, rfl, _, _, rfl, _, _, rfl, _, _, rfl, rfl, ?_⟩
    have hra2 := s2 _ _ hra1
    have hpi2 := s2 _ _ hpi
    have hpj2 := s2 _ _ hpj
    refine ⟨_, rfl, _, rfl, ra, _, _, _, rfl, rfl, SqT.of hra2, atI_nat (j := i) hxi, _, rfl, _, rfl, ra, _, _, _, rfl, rfl, SqT.of hra2, atI_nat (j := j) hxj, ?_⟩
    refine ⟨pi, pj, _, _, rfl, .inr ⟨SqT.of hpi2, SqT.of hpj2, fun E nE => lc_it (walk_zipT (K := K) (a := pi) (b := pj) (xs := (row rs i).map V.int) (ys := (row rs j).map V.int) (n := wd) (by rw [List.length_map, List.length_map, wi, wj, Nat.min_self]))
      (fun k H' => Same H2 H' ∧ H' E = some (.lst (((List.zipWith (fun x y => x + z * y) (row rs i) (row rs j)).take k).map V.int))) ⟨same_new nE, upd_same⟩ (fun k H' _ h => ⟨SqT.of (h.1 _ _ hpi2), SqT.of (h.1 _ _ hpj2)⟩) ?_ ?_⟩⟩
    · rintro k v H3 H4 hk ⟨s3, hE⟩ ⟨t, x, y, rfl, nt, rfl, ex, ey⟩
      obtain ⟨x, rfl, ex2⟩ := int_at ex
      obtain ⟨y, rfl, ey2⟩ := int_at ey
      have s4 : Same H3 (upd H3 t (.tup [.int x, .int y])) := same_new nt
      have sy := hb.small _ (row_mem lj) y (List.mem_of_getElem? ey2)
      refine ⟨t, _, rfl, SqT.of upd_same, rfl, _, _, rfl, _, _, rfl, rfl, rfl, ?_⟩
      refine ⟨_, rfl, _, rfl, _, rfl, _, _, rfl, rfl, mulW_small (big_of o4 (by decide)) (big_of sy hb1), _, _, rfl, rfl, ?_⟩
      refine ⟨_, s4 _ _ hE, len_small (w := wd) (by rw [List.length_zipWith, wi, wj, Nat.min_self]) hw, fresh_same (s3.trans s4) nE, ?_⟩
      rw [upd_same, ← take_app (zip_at ex2 ey2)]
    rintro H3 ⟨s3, hE⟩
    rw [List.take_of_length_le (by rw [List.length_zipWith, wi, wj, Nat.min_self]; exact Nat.le_refl _)] at hE
    have s23 := s2.trans s3
    refine ⟨_, rfl, _, rfl, D, ys, _, i, rfl, rfl, s23 _ _ hD, ix_nat (by rw [hyl]; exact li), ?_⟩
    have nED : E ≠ D := (ne_of_none (s2 _ _ hD) nE).symm
    have s5 : Same H (upd H3 D (.lst (ys.set i (.ref E)))) := fresh_same (s1.trans s23) nD
    have hD5 : (upd H3 D (.lst (ys.set i (.ref E)))) D = some (.lst (ys.set i (.ref E))) := upd_same
    have hp5 : Paired (LI D (upd H3 D (.lst (ys.set i (.ref E))))) (ys.set i (.ref E)) ((St3.add i j z).run rs) := paired_set (Paired.mapP hy fun _ _ z => (z.same s23).put) (LI.put ⟨E, rfl, nED, hE⟩)
    generalize upd H3 D (.lst (ys.set i (.ref E))) = H5 at *
    refine ⟨_, rfl, D, rfl, ⟨_, SqL.of hD5⟩, fun M nM => lc_list (K := K) (a := D) (xs := ys.set i (.ref E)) (fun k H' => Same H5 H' ∧ ∃ zs, H' M = some (.lst zs) ∧ Paired (TI H') zs (((St3.add i j z).run rs).take k)) ⟨same_new nM, [], upd_same, .nil⟩ (fun k H' _ h => SqL.of (h.1 _ _ hD5)) ?_ ?_⟩
    · rintro k v H6 hv ⟨s6, zs, hM, hz⟩
      obtain ⟨r, hr1, l, rfl, nl, hl⟩ := paired_first hp5 hv
      refine ⟨rfl, _, rfl, l, _, rfl, .inl ⟨SqL.of (s6 _ _ hl), fun p np => ?_⟩⟩
      have s7 := same_new (o := .tup (r.map V.int)) np
      have x7 := (Ext.same s7).trans (Ext.lst (ys := zs ++ [.ref p]) (s7 _ _ hM))
      refine ⟨zs, s7 _ _ hM, ?_, fresh_same (s6.trans s7) nM, _, upd_same, ?_⟩
      · rw [Paired.length hz, List.length_take]
        exact small1000 (by omega)
      · rw [take_row hr1]
        refine paired_app (Paired.mapP hz fun _ _ z => z.ext x7) ⟨p, rfl, ?_⟩
        exact (Ext.lst (s7 _ _ hM)).t _ _ upd_same
    · rintro H6 ⟨s6, zs, hM, hz⟩
      rw [List.take_of_length_le (by rw [Paired.length hp5]; exact Nat.le_refl _)] at hz
      refine ⟨M, _, rfl, .inl ⟨SqL.of hM, fun R nR => ?_⟩⟩
      exact q _ _ ((s5.trans s6).trans (same_new nR)) ⟨R, _, rfl, upd_same, Paired.mapP hz fun _ _ z => z.ext (Ext.same (same_new nR))⟩

/-! ### rows drawn -/
def rRows : V → V → V → Hp → VK → Prop := fun x y z H Q => ∃ (p : Addr) (wd : Nat), x = .ref p ∧ y = .int wd ∧ z = .int 13 ∧ LP H p ∧ wd ≤ 12 ∧ ∀ v H' rs n, n ≤ 13 → TT H' v rs → RB n wd 43 rs → LP H' p → But p H H' → Ext H H' → Q v H'
theorem ok_law_rows (T : Txt K mg) : Fn P w K mg base 3 "_law_rows" ["_law_pen_here", "_law_wide", "_law_most"] (sp3 rRows) := by
  have G_law_draw := ok_law_draw (P := P) (w := w) (base := base) T
  have G_law_number := ok_law_number (P := P) (w := w) (base := base) T
  refine T.d_law_rows.ok sc_law_rows len3 fun f cdv A outer s H vs Q E hr hg h => ?_
  obtain ⟨_, _, _, rfl, p, wd, rfl, rfl, rfl, lp, hw, q⟩ := h
  refine ⟨_, (pss_cons (ps_set (i := 3) sc_law_rows.nd rfl (by first | exact Or.inl rfl | exact Or.inr rfl) (pe_lst pa_nil))
(pss_cons (ps_for PassesOwn.never rfl (pi_range1 (by rfl) T.n_range (pa_cons (pe_fn G_law_draw (hr.mono (by decide)) hg (by rfl) (pa_cons (pv 0) (pa_cons (pe_op op_add (pv 2) pe_int) pa_nil))) pa_nil)) (pg_name (i := 4) sc_law_rows.nd rfl (by first | exact Or.inl rfl | exact Or.inr rfl))
(pss_cons (ps_set (i := 5) sc_law_rows.nd rfl (by first | exact Or.inl rfl | exact Or.inr rfl) (pe_callTy (tupOf_K (K := K) rfl) (by rfl) T.n_tuple (by decide +kernel) (pa_cons (pe_lc (own := [("_law_at", 9)]) rfl sc_law_rows.nd (pi_range1 (by rfl) T.n_range (pa_cons (pv 1) pa_nil)) (blkOk_by (own := [("_law_at", 9)]) (N := N_law_rows) (sc := defScope s_law_rows) (by decide +kernel)) (fun _ _ _ _ _ => (pg_name (i := 9) sc_law_rows.nd rfl (by first | exact Or.inl rfl | exact Or.inr rfl))) (fun _ _ _ _ _ => pts_nil) (fun _ _ _ _ _ => (pe_fn G_law_number (hr.mono (by decide)) hg (by rfl) (pa_cons (pv 0) pa_nil)))) pa_nil)))
(pss_cons (ps_set (i := 6) sc_law_rows.nd rfl (by first | exact Or.inl rfl | exact Or.inr rfl) (pe_fn G_law_draw (hr.mono (by decide)) hg (by rfl) (pa_cons (pv 0) (pa_cons pe_int pa_nil))))
(pss_cons (ps_if (pt_cmpR op_eq (pv 6) pe_int (nomark _))
(pss_one (ps_set (i := 5) sc_law_rows.nd rfl (by first | exact Or.inl rfl | exact Or.inr rfl) (pe_op op_repN (pe_tup (pa_cons pe_int pa_nil)) (pv 1))))
pss_nil)
(pss_cons (ps_if (PW.pt (pw_and (pt_cmpR op_eq (pv 6) pe_int (nomark _)) (pw_and1 (pt_cmpR (neD_K (K := K) hr rfl) (pv 3) (pe_lst pa_nil) (nomark _)))))
(pss_cons (ps_set (i := 7) sc_law_rows.nd rfl (by first | exact Or.inl rfl | exact Or.inr rfl) (pe_ix (ixL_K (K := K) rfl) (pv 3) (pe_fn G_law_draw (hr.mono (by decide)) hg (by rfl) (pa_cons (pv 0) (pa_cons (pe_callB (len_K (K := K) rfl) (by rfl) T.n_len (by decide +kernel) (pa_cons (pv 3) pa_nil)) pa_nil))) (fun _ _ => rfl)))
(pss_cons (ps_set (i := 8) sc_law_rows.nd rfl (by first | exact Or.inl rfl | exact Or.inr rfl) (pe_op op_sub (pe_fn G_law_draw (hr.mono (by decide)) hg (by rfl) (pa_cons (pv 0) (pa_cons pe_int pa_nil))) pe_int))
(pss_one (ps_set (i := 5) sc_law_rows.nd rfl (by first | exact Or.inl rfl | exact Or.inr rfl) (pe_callTy (tupOf_K (K := K) rfl) (by rfl) T.n_tuple (by decide +kernel) (pa_cons (pe_lc (own := [("_law_number_here", 10)]) rfl sc_law_rows.nd (pi_tup (pv 7)) (blkOk_by (own := [("_law_number_here", 10)]) (N := N_law_rows) (sc := defScope s_law_rows) (by decide +kernel)) (fun _ _ _ _ _ => (pg_name (i := 10) sc_law_rows.nd rfl (by first | exact Or.inl rfl | exact Or.inr rfl))) (fun _ _ _ _ _ => pts_nil) (fun _ _ _ _ _ => (pe_op op_mul (pv 8) (pv 10)))) pa_nil))))))
pss_nil)
(pss_one (ps_expr (pe_bm PySem.F.plainAttrs_list PySem.F.slot_list_append PySem.F.type_list_append mt_append (pv 3) (pa_cons (pv 5) pa_nil)))))))))
(pss_one (ps_ret (pe_callTy (tupOf_K (K := K) rfl) (by rfl) T.n_tuple (by decide +kernel) (pa_cons (pv 3) pa_nil)))))), ?_⟩
  refine ⟨Nat.zero_le _, fun F nF => ?_⟩
  have nFp := lp_ne lp nF
  refine ⟨_, rfl, _, rfl, _, _, rfl, rfl, _, _, rfl, p, _, rfl, rfl, lp.same (same_new nF), by decide, by decide, fun n H1 n0 n1 lp1 b1 x1 => ?_⟩
  have b01 := (But.new (d := p) (o := .lst []) nF).trans b1
  have x01 := (Ext.same (same_new (o := .lst []) nF)).trans x1
  have hF1 : H1 F = some (.lst []) := b1 _ _ nFp upd_same
  refine ⟨n, rfl, by omega, by omega, for_range (lo := 0) (fun k σ H' => (∃ o4 o5 o6 o7 o8, σ = [some (.ref p), some (.int wd), some (.int 13), some (.ref F), o4, o5, o6, o7, o8, none, none]) ∧ LP H' p ∧ But p H H' ∧ Ext H H' ∧ ∃ xs rs, H' F = some (.lst xs) ∧ Paired (TI H') xs rs ∧ RB k wd (30 + k) rs)
    ⟨⟨_, _, _, _, _, rfl⟩, lp1, b01, x01, [], [], hF1, .nil, ⟨rfl, by simp, by simp⟩⟩ ?_ ?_⟩
  · rintro k σ H2 hk ⟨⟨o4, o5, o6, o7, o8, rfl⟩, lp2, b2, x2, xs, rs, hF2, hp2, hb2⟩
    refine ⟨_, rfl, _, rfl, by omega, by omega, fun D nD => lc_range (lo := 0) (n := wd) (fun i H' => LP H' p ∧ But p H2 H' ∧ Ext H2 H' ∧ ∃ ns : List Int, H' D = some (.lst (ns.map V.int)) ∧ ns.length = i ∧ ∀ x ∈ ns, x.natAbs < 2 ^ 30) ⟨lp2.same (same_new nD), But.new nD, Ext.same (same_new nD), [], upd_same, rfl, by simp⟩ ?_ ?_⟩
    · rintro i Hi hi ⟨lpi, bi, xi, ns, hDi, hni, hsi⟩
      have nDp := lp_ne lp2 nD
      refine ⟨rfl, _, rfl, _, rfl, p, rfl, lpi, fun z Hz hz lpz bz xz => ?_⟩
      refine ⟨_, bz _ _ nDp hDi, ?_, lpz.put nDp, but_fresh (bi.trans bz) nD, ext_fresh (xi.trans xz) nD, ns ++ [z], ?_, ?_, ?_⟩
      · rw [List.length_map]
        exact small1000 (by omega)
      · rw [upd_same, app_ints]
      · rw [List.length_append, hni]
        rfl
      · intro x hx
        rcases List.mem_append.mp hx with e | e
        · exact hsi x e
        · rw [List.mem_singleton.mp e]
          exact hz
    rintro H3 ⟨lpD, bD, xD, ns0, hD, hn0, hs0⟩
    refine ⟨D, _, rfl, .inl ⟨SqL.of hD, fun R nR => ?_⟩⟩
    have sR := same_new (o := .tup (ns0.map V.int)) nR
    have hR : (upd H3 R (.tup (ns0.map V.int))) R = some (.tup (ns0.map V.int)) := upd_same
    have lp3 := lpD.same sR
    have b3 := (b2.trans bD).trans (But.same sR)
    have x23 := xD.trans (Ext.same sR)
    have hF3 : (upd H3 R (.tup (ns0.map V.int))) F = some (.lst xs) := sR _ _ (bD _ _ nFp hF2)
    generalize upd H3 R (.tup (ns0.map V.int)) = H4 at *
    refine ⟨_, rfl, _, _, rfl, p, _, rfl, rfl, lp3, by decide, by decide, fun y H5 y0 y1 lp5 b5 x5 => ?_⟩
    have b05 := b3.trans b5
    have x25 := x23.trans x5
    have hF5 := b5 _ _ nFp hF3
    have hR5 := x5.t _ _ hR
    have pow30 : ∀ x : Int, x.natAbs < 2 ^ 30 → x.natAbs < 2 ^ (30 + (k + 1)) := fun x h => Nat.lt_of_lt_of_le h (Nat.pow_le_pow_right (by decide) (by omega))
    refine ⟨_, rfl, rfl, _, rfl, ite2 (fun e => ?_) (fun e => ?_)⟩
    · have ey := eq_yes e
      refine ⟨(by show 1 ≤ sizeLine; decide), fun t nt => ?_⟩
      have st := same_new (o := .tup [.int 0]) nt
      refine ⟨_, rfl, t, .int 0, wd, rfl, rfl, upd_same, by omega, fun u H6 s6 hu => ?_⟩
      have s56 := st.trans s6
      refine ⟨_, rfl, rfl, _, rfl, ?_⟩
      rw [decide_eq_false (by intro z; have := V.int.inj z; omega)]
      refine iteF ?_
      have lp9 := lp5.same s56
      have b9 := b05.trans (But.same s56)
      have x9 := (x2.trans x25).trans (Ext.same s56)
      have hF9 := s56 _ _ hF5
      have hp9 : Paired (TI H6) xs rs := Paired.mapP hp2 fun _ _ z => z.ext (x25.trans (Ext.same s56))
      have hb9 := hb2
      have hu2 : TI H6 (.ref u) (List.replicate wd 0) := ⟨u, rfl, by rw [hu, List.map_replicate]⟩
      refine ⟨_, rfl, .inl ⟨rfl, _, SqL.of hF9⟩, _, rfl, F, _, _, rfl, rfl, hF9, ?_, ⟨⟨_, _, _, _, _, rfl⟩, lp9.put nFp, but_fresh b9 nF, ext_fresh x9 nF, _, _, upd_same, paired_app (Paired.mapP hp9 fun _ _ z => z.ext (Ext.lst hF9)) (TI.ext hu2 (Ext.lst hF9)), (hb9.mono (by omega)).app (List.length_replicate ..) (fun x hx => by rw [(List.mem_replicate.mp hx).2]; exact Nat.pow_pos (by decide))⟩⟩
      rw [Paired.length hp9, hb9.len]
      exact small1000 (by omega)
    have plain : TI H5 (.ref R) ns0 := ⟨R, rfl, hR5⟩
    refine ⟨_, rfl, rfl, _, rfl, ite2 (fun e1 => ?_) (fun e1 => ?_)⟩
    · refine ⟨_, rfl, Nat.zero_le _, fun Z nZ => ?_⟩
      have sZ := same_new (o := .lst []) nZ
      have lp6 := lp5.same sZ
      have b06 := b05.trans (But.same sZ)
      have x26 := x25.trans (Ext.same sZ)
      have hF6 := sZ _ _ hF5
      have hp6 : Paired (TI (upd H5 Z (.lst []))) xs rs := Paired.mapP hp2 fun _ _ z => z.ext x26
      refine ⟨.list (rs.map rowD), .list [], .lst (SqL.of hF6) (dp_rows hp6), .lst (SqL.of upd_same) .nil, shaped_list rs, rfl, _, rfl, ?_⟩
      have plain6 := plain.ext (Ext.same sZ)
      generalize upd H5 Z (.lst []) = H6 at *
      rw [eqv_nil]
      refine ite2 (fun e2 => ?_) (fun e2 => ?_)
      · have hxl : xs.length = k := by rw [Paired.length hp2]; exact hb2.len
        have hrn : 0 < rs.length := by
          cases rs with
          | nil => exact absurd e2 (by simp)
          | cons a b => exact Nat.succ_pos _
        have hxp : 0 < xs.length := by rw [Paired.length hp2]; exact hrn
        refine ⟨_, rfl, _, rfl, _, rfl, F, _, rfl, .inl (SqL.of hF6), _, _, rfl, p, _, rfl, rfl, lp6, by omega, by omega, fun d H7 d0 d1 lp7 b7 x7 => ?_⟩
        obtain ⟨d, rfl⟩ : ∃ n : Nat, d = n := ⟨d.toNat, by omega⟩
        have hdl : d < xs.length := by omega
        have hxd : xs[d]? = some xs[d] := List.getElem?_eq_getElem hdl
        generalize xs[d] = vd at hxd
        obtain ⟨r, hr1, po, rfl, hpo⟩ := paired_first hp6 hxd
        have hrm := List.mem_of_getElem? hr1
        refine ⟨F, _, _, _, rfl, rfl, SqL.of (b7 _ _ nFp hF6), atI_nat (j := d) hxd, ?_⟩
        refine ⟨_, rfl, _, _, rfl, p, _, rfl, rfl, lp7, by decide, by decide, fun c H8 c0 c1 lp8 b8 x8 => ?_⟩
        refine ⟨_, _, rfl, rfl, ?_⟩
        have hpo8 := (x7.trans x8).t _ _ hpo
        refine ⟨_, rfl, po, rfl, ⟨_, SqT.of hpo8⟩, fun D2 nD2 => lc_tup (K := K) (a := po) (xs := r.map V.int) (fun i H' => Same H8 H' ∧ H' D2 = some (.lst (((r.map fun n => (c - 2) * n).take i).map V.int))) ⟨same_new nD2, upd_same⟩ (fun i H' _ h => SqT.of (h.1 _ _ hpo8)) ?_ ?_⟩
        · rintro i v Hi ex ⟨si, hDi⟩
          obtain ⟨x, rfl, ex2⟩ := int_at ex
          refine ⟨rfl, _, rfl, _, rfl, _, _, rfl, rfl, .inl ⟨by omega, by omega⟩, ?_⟩
          refine ⟨_, hDi, len_small (w := wd) (by rw [List.length_map]; exact hb2.wide _ hrm) hw, fresh_same si nD2, ?_⟩
          rw [upd_same, ← take_app (v := (c - 2) * x) (by rw [List.getElem?_map, ex2]; rfl)]
        rintro H10 ⟨s10, hD2⟩
        rw [List.take_of_length_le (by rw [List.length_map, List.length_map]; exact Nat.le_refl _)] at hD2
        refine ⟨D2, _, rfl, .inl ⟨SqL.of hD2, fun R2 nR2 => ?_⟩⟩
        have sR2 := same_new (o := .tup ((r.map fun n => (c - 2) * n).map V.int)) nR2
        have hR2 : TI (upd H10 R2 (.tup ((r.map fun n => (c - 2) * n).map V.int))) (.ref R2) (r.map fun n => (c - 2) * n) := ⟨R2, rfl, upd_same⟩
        have s9 := s10.trans sR2
        have lp9 := lp8.same s9
        have b9 := ((b06.trans b7).trans b8).trans (But.same s9)
        have x69 := (x7.trans x8).trans (Ext.same s9)
        have x9 := (x2.trans x26).trans x69
        have hF9 := s9 _ _ (b8 _ _ nFp (b7 _ _ nFp hF6))
        have hp9 := Paired.mapP hp6 fun _ _ z => TI.ext z x69
        have hb9 := hb2
        generalize upd H10 R2 (.tup ((r.map fun n => (c - 2) * n).map V.int)) = H9 at *
        refine ⟨_, rfl, .inl ⟨rfl, _, SqL.of hF9⟩, _, rfl, F, _, _, rfl, rfl, hF9, ?_, ⟨⟨_, _, _, _, _, rfl⟩, lp9.put nFp, but_fresh b9 nF, ext_fresh x9 nF, _, _, upd_same, paired_app (Paired.mapP hp9 fun _ _ z => z.ext (Ext.lst hF9)) (TI.ext hR2 (Ext.lst hF9)), (hb9.mono (by omega)).app (by rw [List.length_map]; exact hb2.wide _ hrm) (fun x hx => by obtain ⟨y, hy, rfl⟩ := List.mem_map.mp hx; exact mul_small (by omega) (by omega) (hb2.small _ hrm y hy))⟩⟩
        rw [Paired.length hp9, hb9.len]
        exact small1000 (by omega)
      · have lp9 := lp6
        have b9 := b06
        have x9 := x2.trans x26
        have hF9 := hF6
        have hp9 := hp6
        have hb9 := hb2
        refine ⟨_, rfl, .inl ⟨rfl, _, SqL.of hF9⟩, _, rfl, F, _, _, rfl, rfl, hF9, ?_, ⟨⟨_, _, _, _, _, rfl⟩, lp9.put nFp, but_fresh b9 nF, ext_fresh x9 nF, _, _, upd_same, paired_app (Paired.mapP hp9 fun _ _ z => z.ext (Ext.lst hF9)) (TI.ext plain6 (Ext.lst hF9)), (hb9.mono (by omega)).app hn0 (fun x hx => pow30 x (hs0 x hx))⟩⟩
        rw [Paired.length hp9, hb9.len]
        exact small1000 (by omega)
    · have lp9 := lp5
      have b9 := b05
      have x9 := x2.trans x25
      have hF9 := hF5
      have hp9 : Paired (TI H5) xs rs := Paired.mapP hp2 fun _ _ z => z.ext x25
      have hb9 := hb2
      refine ⟨_, rfl, .inl ⟨rfl, _, SqL.of hF9⟩, _, rfl, F, _, _, rfl, rfl, hF9, ?_, ⟨⟨_, _, _, _, _, rfl⟩, lp9.put nFp, but_fresh b9 nF, ext_fresh x9 nF, _, _, upd_same, paired_app (Paired.mapP hp9 fun _ _ z => z.ext (Ext.lst hF9)) (TI.ext plain (Ext.lst hF9)), (hb9.mono (by omega)).app hn0 (fun x hx => pow30 x (hs0 x hx))⟩⟩
      rw [Paired.length hp9, hb9.len]
      exact small1000 (by omega)
  · rintro σ H2 ⟨⟨o4, o5, o6, o7, o8, rfl⟩, lp2, b2, x2, xs, rs, hF2, hp2, hb2⟩
    refine ⟨_, rfl, F, _, rfl, .inl ⟨SqL.of hF2, fun R nR => ?_⟩⟩
    have sR := same_new (o := .tup xs) nR
    exact q _ _ rs n.toNat (by omega) ⟨R, xs, rfl, upd_same, Paired.mapP hp2 fun _ _ z => z.ext (Ext.same sR)⟩ (hb2.mono (by omega)) (lp2.same sR) (b2.trans (But.same sR)) (x2.trans (Ext.same sR))

/-! ### the law -/
theorem sql_same {H H' : Hp} {a : Addr} {xs : List V} (s : Same H H') (h : SqL K H a xs) : SqL K H' a xs := by
  rcases h with (z | ⟨o, z⟩) | z
  · exact .inl (.inl (s _ _ z))
  · exact .inl (.inr ⟨o, s _ _ z⟩)
  · exact .inr z
theorem same_pen {H H1 H2 : Hp} {p : Addr} (n : H p = none) (s : Same H H1) (b : But p H1 H2) : Same H H2 := fun c o e => b c o (ne_of_none e n) (s c o e)
def spLaw (K : PySem.W.Frag) : Sp := fun vs H Q _ => ∃ (a : Addr) (ns : List Int), vs = [.ref a] ∧ SqL K H a (ns.map V.int) ∧ ns.length ≤ 63 ∧ ∀ H', Q (.bl true) H'
theorem ok_law {f : Addr} {fd : FuncData} (T : Txt K mg) (F : Fun K "law" "law" s_law f fd) : FnG P w K mg base CX0 6 f fd ["_law_script"] (spLaw K) := by
  have G_law_pen := ok_law_pen (P := P) (w := w) (base := base) T
  have G_law_draw := ok_law_draw (P := P) (w := w) (base := base) T
  have G_law_number := ok_law_number (P := P) (w := w) (base := base) T
  have G_law_rows := ok_law_rows (P := P) (w := w) (base := base) T
  have G_law_step := ok_law_step (P := P) (w := w) (base := base) T
  have G_law_due := ok_law_due (P := P) (w := w) (base := base) T
  have G_law_are_rows := ok_law_are_rows (P := P) (w := w) (base := base) T
  have G_law_is_back := ok_law_is_back (P := P) (w := w) (base := base) T
  have G_stepped := ok_stepped (P := P) (w := w) (base := base) T
  have G_taken_back := ok_taken_back (P := P) (w := w) (base := base) T
  refine fng_mk F sc_law (fun vs H Q E h => ?_) (fun cdv A outer s H vs Q E hr hg h => ?_)
  · obtain ⟨a, ns, rfl, _⟩ := h
    rfl
  obtain ⟨a, ns, rfl, hS, hl, q⟩ := h
  refine ⟨_, PSs.nox (pss_cons (ps_for PassesOwn.never rfl (pi_range1 (by rfl) T.n_range (pa_cons (pe_callB (call_max2 rfl) (by rfl) T.n_max (by decide +kernel) (pa_cons pe_int (pa_cons (pe_callB (call_min2 rfl) (by rfl) T.n_min (by decide +kernel) (pa_cons pe_int (pa_cons (pe_callB (len_K (K := K) rfl) (by rfl) T.n_len (by decide +kernel) (pa_cons (pv 0) pa_nil)) pa_nil))) pa_nil))) pa_nil)) (pg_name (i := 1) sc_law.nd rfl (by first | exact Or.inl rfl | exact Or.inr rfl))
(pss_cons (ps_set (i := 2) sc_law.nd rfl (by first | exact Or.inl rfl | exact Or.inr rfl) (pe_fn G_law_pen (hr.mono (by decide)) hg (by rfl) (pa_cons (pv 0) (pa_cons (pv 1) pa_nil))))
(pss_cons (ps_set (i := 3) sc_law.nd rfl (by first | exact Or.inl rfl | exact Or.inr rfl) (pe_fn G_law_draw (hr.mono (by decide)) hg (by rfl) (pa_cons (pv 2) (pa_cons pe_int pa_nil))))
(pss_cons (ps_set (i := 4) sc_law.nd rfl (by first | exact Or.inl rfl | exact Or.inr rfl) (pe_op (cat_K (K := K) rfl) (pe_fn G_law_rows (hr.mono (by decide)) hg (by rfl) (pa_cons (pv 2) (pa_cons (pv 3) (pa_cons pe_int pa_nil)))) (pe_tup (pa_cons (pe_callTy (tupOf_K (K := K) rfl) (by rfl) T.n_tuple (by decide +kernel) (pa_cons (pe_lc (own := [("_law_at", 12)]) rfl sc_law.nd (pi_range1 (by rfl) T.n_range (pa_cons (pv 3) pa_nil)) (blkOk_by (own := [("_law_at", 12)]) (N := N_law) (sc := defScope s_law) (by decide +kernel)) (fun _ _ _ _ _ => (pg_name (i := 12) sc_law.nd rfl (by first | exact Or.inl rfl | exact Or.inr rfl))) (fun _ _ _ _ _ => pts_nil) (fun _ _ _ _ _ => (pe_fn G_law_number (hr.mono (by decide)) hg (by rfl) (pa_cons (pv 2) pa_nil)))) pa_nil)) pa_nil))))
(pss_cons (ps_set (i := 5) sc_law.nd rfl (by first | exact Or.inl rfl | exact Or.inr rfl) (pv 4))
(pss_cons (ps_set (i := 6) sc_law.nd rfl (by first | exact Or.inl rfl | exact Or.inr rfl) (pe_lst pa_nil))
(pss_cons (ps_for PassesOwn.never rfl (pi_range1 (by rfl) T.n_range (pa_cons pe_int pa_nil)) (pg_name (i := 7) sc_law.nd rfl (by first | exact Or.inl rfl | exact Or.inr rfl))
(pss_cons (ps_set (i := 8) sc_law.nd rfl (by first | exact Or.inl rfl | exact Or.inr rfl) (pe_fn G_law_step (hr.mono (by decide)) hg (by rfl) (pa_cons (pv 2) (pa_cons (pe_callB (len_K (K := K) rfl) (by rfl) T.n_len (by decide +kernel) (pa_cons (pv 4) pa_nil)) pa_nil))))
(pss_cons (ps_set (i := 9) sc_law.nd rfl (by first | exact Or.inl rfl | exact Or.inr rfl) (pe_callB (call_repr (K := K) hr hg rfl) (by rfl) T.n_repr (by decide +kernel) (pa_cons (pe_tup (pa_cons (pv 5) (pa_cons (pv 8) pa_nil))) pa_nil)))
(pss_cons (ps_set (i := 10) sc_law.nd rfl (by first | exact Or.inl rfl | exact Or.inr rfl) (pe_fn G_stepped (hr.mono (by decide)) hg (by rfl) (pa_cons (pv 5) (pa_cons (pv 8) pa_nil))))
(pss_cons (ps_set (i := 11) sc_law.nd rfl (by first | exact Or.inl rfl | exact Or.inr rfl) (pe_fn G_taken_back (hr.mono (by decide)) hg (by rfl) (pa_cons (pv 8) pa_nil)))
(pss_cons (ps_if (PW.pt (pw_or (pt_not (pt_val (pe_fn G_law_are_rows (hr.mono (by decide)) hg (by rfl) (pa_cons (pv 10) (pa_cons (pv 3) pa_nil))))) (pw_or1 (pt_cmpR (neD_K (K := K) hr rfl) (pv 10) (pe_fn G_law_due (hr.mono (by decide)) hg (by rfl) (pa_cons (pv 5) (pa_cons (pv 8) pa_nil))) (nomark _)))))
(pss_one (ps_ret pe_bl))
pss_nil)
(pss_cons (ps_if (PW.pt (pw_or (pt_cmpR op_ne (pe_callB (call_repr (K := K) hr hg rfl) (by rfl) T.n_repr (by decide +kernel) (pa_cons (pe_tup (pa_cons (pv 5) (pa_cons (pv 8) pa_nil))) pa_nil)) (pv 9) (nomark _)) (pw_or1 (pt_not (pt_val (pe_fn G_law_is_back (hr.mono (by decide)) hg (by rfl) (pa_cons (pe_callB (len_K (K := K) rfl) (by rfl) T.n_len (by decide +kernel) (pa_cons (pv 4) pa_nil)) (pa_cons (pv 8) (pa_cons (pv 11) pa_nil)))))))))
(pss_one (ps_ret pe_bl))
pss_nil)
(pss_cons (ps_if (PW.pt (pw_or (pt_cmpR (neD_K (K := K) hr rfl) (pe_fn G_stepped (hr.mono (by decide)) hg (by rfl) (pa_cons (pv 10) (pa_cons (pv 11) pa_nil))) (pv 5) (nomark _)) (pw_or1 (pt_cmpR (neD_K (K := K) hr rfl) (pe_fn G_law_due (hr.mono (by decide)) hg (by rfl) (pa_cons (pv 10) (pa_cons (pv 11) pa_nil))) (pv 5) (nomark _)))))
(pss_one (ps_ret pe_bl))
pss_nil)
(pss_cons (ps_expr (pe_bm PySem.F.plainAttrs_list PySem.F.slot_list_append PySem.F.type_list_append mt_append (pv 6) (pa_cons (pv 11) pa_nil)))
(pss_one (ps_set (i := 5) sc_law.nd rfl (by first | exact Or.inl rfl | exact Or.inr rfl) (pv 10))))))))))))
(pss_cons (ps_for PassesOwn.never rfl (pi_list (pe_revL (pv 6))) (pg_name (i := 11) sc_law.nd rfl (by first | exact Or.inl rfl | exact Or.inr rfl))
(pss_one (ps_set (i := 5) sc_law.nd rfl (by first | exact Or.inl rfl | exact Or.inr rfl) (pe_fn G_stepped (hr.mono (by decide)) hg (by rfl) (pa_cons (pv 5) (pa_cons (pv 11) pa_nil))))))
(pss_one (ps_if (pt_cmpR (neD_K (K := K) hr rfl) (pv 5) (pv 4) (nomark _))
(pss_one (ps_ret pe_bl))
pss_nil))))))))))
(pss_one (ps_ret pe_bl))), ?_⟩
  have hsl : ((ns.map V.int).length : Int) ≤ 63 := by
    rw [List.length_map]
    omega
  refine ⟨_, rfl, a, _, rfl, .inl hS, _, _, rfl, _, _, rfl, _, rfl, ?_, ?_, for_range (lo := 0) (fun _ σ H' => (∃ o1 o2 o3 o4 o5 o6 o7 o8 o9 o10 o11, σ = [some (.ref a), o1, o2, o3, o4, o5, o6, o7, o8, o9, o10, o11, none]) ∧ SqL K H' a (ns.map V.int))
    ⟨⟨_, _, _, _, _, _, _, _, _, _, _, rfl⟩, hS⟩ ?_ ?_⟩
  · repeat' split
    all_goals omega
  · repeat' split
    all_goals omega
  · rintro k σ H2 hk ⟨⟨o1, o2, o3, o4, o5, o6, o7, o8, o9, o10, o11, rfl⟩, hS2⟩
    refine ⟨_, rfl, _, rfl, _, _, rfl, a, ns, _, rfl, rfl, hS2, by omega, fun p H3 np s3 lp3 => ?_⟩
    refine ⟨_, rfl, _, _, rfl, p, _, rfl, rfl, lp3, by decide, by decide, fun wd H4 w0 w1 lp4 b4 x4 => ?_⟩
    obtain ⟨wd, rfl⟩ : ∃ n : Nat, wd = n := ⟨wd.toNat, by omega⟩
    have hw : wd ≤ 12 := by omega
    refine ⟨_, rfl, _, rfl, _, _, _, rfl, p, wd, rfl, rfl, rfl, lp4, hw, fun v5 H5 rs5 n5 hn5 tt5 hb5 lp5 b5 x5 => ?_⟩
    refine ⟨_, rfl, _, rfl, by omega, by omega, fun D nD => lc_range (lo := 0) (n := wd) (fun i H' => LP H' p ∧ But p H5 H' ∧ Ext H5 H' ∧ ∃ ns : List Int, H' D = some (.lst (ns.map V.int)) ∧ ns.length = i ∧ ∀ x ∈ ns, x.natAbs < 2 ^ 30) ⟨lp5.same (same_new nD), But.new nD, Ext.same (same_new nD), [], upd_same, rfl, by simp⟩ ?_ ?_⟩
    · rintro i Hi hi ⟨lpi, bi, xi, ns, hDi, hni, hsi⟩
      have nDp := lp_ne lp5 nD
      refine ⟨rfl, _, rfl, _, rfl, p, rfl, lpi, fun z Hz hz lpz bz xz => ?_⟩
      refine ⟨_, bz _ _ nDp hDi, ?_, lpz.put nDp, but_fresh (bi.trans bz) nD, ext_fresh (xi.trans xz) nD, ns ++ [z], ?_, ?_, ?_⟩
      · rw [List.length_map]
        exact small1000 (by omega)
      · rw [upd_same, app_ints]
      · rw [List.length_append, hni]
        rfl
      · intro x hx
        rcases List.mem_append.mp hx with e | e
        · exact hsi x e
        · rw [List.mem_singleton.mp e]
          exact hz
    rintro H6 ⟨lpD, bD, xD, ns0, hD, hn0, hs0⟩
    refine ⟨D, _, rfl, .inl ⟨SqL.of hD, fun R nR => ?_⟩⟩
    have sR := same_new (o := .tup (ns0.map V.int)) nR
    have hR : (upd H6 R (.tup (ns0.map V.int))) R = some (.tup (ns0.map V.int)) := upd_same
    have lp7 := lpD.same sR
    have b7 := ((b4.trans b5).trans bD).trans (But.same sR)
    have x57 := xD.trans (Ext.same sR)
    generalize upd H6 R (.tup (ns0.map V.int)) = H7 at *
    refine ⟨(by show 1 ≤ sizeLine; decide), fun t nt => ?_⟩
    have s8 := same_new (o := .tup [.ref R]) nt
    have tt8 : TT (upd H7 t (.tup [.ref R])) (.ref t) [ns0] := ⟨t, _, rfl, upd_same, .cons ⟨R, rfl, s8 _ _ hR⟩ .nil⟩
    refine cat_rows (tt5.ext (x57.trans (Ext.same s8))) tt8 (by rw [hb5.len]; show n5 + 1 ≤ 1000; omega) fun v9 H9 s9 tt9 => ?_
    have lp9 := (lp7.same s8).same s9
    have b9 := (b7.trans (But.same s8)).trans (But.same s9)
    have hb9 : RB (n5 + 1) wd 43 (rs5 ++ [ns0]) := hb5.app hn0 fun x hx => Nat.lt_of_lt_of_le (hs0 x hx) (Nat.pow_le_pow_right (by decide) (by omega))
    generalize rs5 ++ [ns0] = rs0 at *
    obtain ⟨ra, xs, rfl, hra, hp9⟩ := id tt9
    have hxl : xs.length = n5 + 1 := by rw [Paired.length hp9]; exact hb9.len
    rw [← hxl] at hb9
    have hm1 : 1 ≤ xs.length := by omega
    have hm : xs.length ≤ 14 := by omega
    -- here, done
    refine ⟨_, rfl, Nat.zero_le _, fun M nM => ?_⟩
    have nM3 : H3 M = none := but_free b9 lp9 nM
    have nMp : M ≠ p := lp_ne lp9 nM
    have sM := same_new (o := .lst []) nM
    refine ⟨8, rfl, by decide, by decide, for_range (lo := 0) (n := 8) (fun n σ H' => ∃ (hv : V) (o7 o8 o9 o10 o11 : Option V) (cur : Rs) (bs : List St3) (ds : List V), σ = [some (.ref a), some (.int (0 + k)), some (.ref p), some (.int wd), some (.ref ra), some hv, some (.ref M), o7, o8, o9, o10, o11, none] ∧
        LP H' p ∧ But p H3 H' ∧ TT H' (.ref ra) rs0 ∧ H' ra = some (.tup xs) ∧ TT H' hv cur ∧ RB xs.length wd (43 + 101 * n) cur ∧ H' M = some (.lst ds) ∧ Paired (SV H') ds.reverse bs ∧ Undo xs.length wd bs cur rs0 ∧ ds.length ≤ n)
      ⟨_, _, _, _, _, _, rs0, [], [], rfl, lp9.same sM, but_fresh b9 nM3, tt9.ext (Ext.same sM), sM _ _ hra, tt9.ext (Ext.same sM), hb9, upd_same, .nil, .nil, Nat.le_refl _⟩ ?_ ?_⟩
    · rintro n σ G1 hn ⟨hv, o7, o8, o9, o10, o11, cur, bs, ds, rfl, lpG, bG, ttR, hraG, ttC, hbC, hM, hds, hun, hdl⟩
      refine ⟨_, rfl, _, rfl, ra, xs, rfl, .inr (SqT.of hraG), _, _, rfl, p, xs.length, rfl, rfl, lpG, hm1, hm, fun sv G2 st svG hok lpG2 bG2 xG2 => ?_⟩
      have b2 := bG.trans bG2
      have ttR2 := ttR.ext xG2
      have hra2 := xG2.t _ _ hraG
      have ttC2 := ttC.ext xG2
      have hM2 := bG2 _ _ nMp hM
      have hds2 : Paired (SV G2) ds.reverse bs := Paired.mapP hds fun _ _ z => z.ext xG2
      clear ttR hraG ttC hM hds
      have hbb : 43 + 101 * n ≤ 1000 := by omega
      have hbb2 : 43 + 101 * n + 101 ≤ 1000 := by omega
      obtain ⟨sh1, sh2, sh3, sh4⟩ := show_pair hbC hbb hm hw hok hm
      have hbN := run_RB hok hbC
      have hback := run_back hok hbC
      -- kept
      refine ⟨_, rfl, _, rfl, (by show 2 ≤ sizeLine; decide), fun t1 nt1 => ?_⟩
      have c1 := same_new (o := .tup [hv, sv]) nt1
      refine ⟨t1, _, rfl, .tup (SqT.of upd_same) (.cons (ttC2.ext (Ext.same c1)).dp (.cons (svG.ext (Ext.same c1)).dp .nil)), sh1, sh2, sh3, sh4, ?_⟩
      generalize upd G2 t1 (.tup [hv, sv]) = G3 at *
      -- later, back
      refine ⟨_, rfl, _, rfl, _, _, rfl, xs.length, wd, _, cur, st, ttC2.ext (Ext.same c1), svG.ext (Ext.same c1), hok, hbC, hbb, hm, hw, fun lv G4 c4 ttL => ?_⟩
      have c14 := c1.trans c4
      refine ⟨_, rfl, _, rfl, st, svG.ext (Ext.same c14), fun bv G5 c5 svB => ?_⟩
      have c15 := c14.trans c5
      have ttL5 := ttL.ext (Ext.same c5)
      have ttC5 := ttC2.ext (Ext.same c15)
      have sv5 := svG.ext (Ext.same c15)
      have hra5 := c15 _ _ hra2
      try dsimp only [gName]
      refine if_no (fun H' => Same G5 H') (fun Q2 q2 => ?_) (fun G6 c6 => ?_)
      · refine or_no (fun H' => Same G5 H') (fun Q3 q3 => ?_) (fun G6 c6 => ?_)
        · exact ⟨_, rfl, _, rfl, _, _, rfl, wd, _, ttL5, rfl, hbN.wide, hw, fun H' z => ⟨_, rfl, q3 _ z⟩⟩
        · refine ⟨_, rfl, _, rfl, _, rfl, _, _, rfl, xs.length, wd, _, cur, st, ttC5.ext (Ext.same c6), sv5.ext (Ext.same c6), hok, hbC, hbb, hm, hw, fun v7 G7 c7 tt7 => ?_⟩
          refine ⟨_, _, (ttL5.ext (Ext.same (c6.trans c7))).dp, tt7.dp, shaped_rows _, shaped_rows _, _, rfl, ?_⟩
          rw [eqv_rows]
          exact q2 _ (c6.trans c7)
      have c16 := c15.trans c6
      refine if_no (fun H' => Same G6 H') (fun Q2 q2 => ?_) (fun G7 c7 => ?_)
      · refine or_no (fun H' => Same G6 H') (fun Q3 q3 => ?_) (fun G7 c7 => ?_)
        · refine ⟨_, rfl, _, rfl, (by show 2 ≤ sizeLine; decide), fun t2 nt2 => ?_⟩
          have d1 := same_new (o := .tup [hv, sv]) nt2
          refine ⟨t2, _, rfl, .tup (SqT.of upd_same) (.cons ((ttC5.ext (Ext.same c6)).ext (Ext.same d1)).dp (.cons ((sv5.ext (Ext.same c6)).ext (Ext.same d1)).dp .nil)), sh1, sh2, sh3, sh4, _, rfl, rfl, _, rfl, ?_⟩
          rw [decide_eq_true rfl]
          exact q3 _ d1
        · have c17 := c6.trans c7
          refine ⟨_, rfl, ra, xs, rfl, .inr (SqT.of (c17 _ _ hra5)), _, rfl, _, rfl, _, _, _, rfl, xs.length, st, rfl, sv5.ext (Ext.same c17), svB.ext (Ext.same c17), hok, _, rfl, ?_⟩
          exact q2 _ c7
      have c57 := c6.trans c7
      refine if_no (fun H' => Same G7 H') (fun Q2 q2 => ?_) (fun G8 c8 => ?_)
      · refine or_no (fun H' => Same G7 H') (fun Q3 q3 => ?_) (fun G8 c8 => ?_)
        · refine ⟨_, rfl, _, rfl, _, _, rfl, xs.length, wd, _, _, st.back, ttL5.ext (Ext.same c57), svB.ext (Ext.same c57), back_ok hok, hbN, hbb2, hm, hw, fun v8 G8 c8 tt8 => ?_⟩
          rw [hback] at tt8
          refine ⟨_, rfl, _, _, tt8.dp, (ttC5.ext (Ext.same (c57.trans c8))).dp, shaped_rows _, shaped_rows _, _, rfl, ?_⟩
          rw [eqv_rows]
          exact q3 _ c8
        · have c58 := c57.trans c8
          refine ⟨_, rfl, _, rfl, _, _, rfl, xs.length, wd, _, _, st.back, ttL5.ext (Ext.same c58), svB.ext (Ext.same c58), back_ok hok, hbN, hbb2, hm, hw, fun v9 G9 c9 tt9 => ?_⟩
          rw [hback] at tt9
          refine ⟨_, rfl, _, _, tt9.dp, (ttC5.ext (Ext.same (c58.trans c9))).dp, shaped_rows _, shaped_rows _, _, rfl, ?_⟩
          rw [eqv_rows]
          exact q2 _ (c8.trans c9)
      have c58 := c57.trans c8
      have c28 := c15.trans c58
      have hM8 := c28 _ _ hM2
      refine ⟨_, rfl, .inl ⟨rfl, _, SqL.of hM8⟩, _, rfl, M, _, _, rfl, rfl, hM8, small1000 (by omega), ?_⟩
      have xM := Ext.lst (ys := ds ++ [bv]) hM8
      have xx : Ext G2 (upd G8 M (.lst (ds ++ [bv]))) := (Ext.same c28).trans xM
      refine ⟨_, rfl, lv, _, _, _, _, _, st.run cur, st.back :: bs, ds ++ [bv], rfl, (lpG2.same c28).put nMp, but_fresh (b2.trans (But.same c28)) nM3, ttR2.ext xx, xx.t _ _ hra2, (ttL5.ext (Ext.same c58)).ext xM, hbN, upd_same, ?_, ?_, ?_⟩
      · rw [List.reverse_append]
        exact .cons ((svB.ext (Ext.same c58)).ext xM) (Paired.mapP hds2 fun _ _ z => z.ext xx)
      · exact .cons (back_ok hok) hbN hbb2 (by rw [hback]; exact hun)
      · rw [List.length_append]
        exact Nat.add_le_add_right hdl 1
    · rintro σ G1 ⟨hv, o7, o8, o9, o10, o11, cur, bs, ds, rfl, lpG, bG, ttR, hraG, ttC, hbC, hM, hds, hun, hdl⟩
      refine ⟨_, rfl, M, ds, rfl, SqL.of hM, fun R2 nR2 => ?_⟩
      have cR := same_new (o := .lst ds.reverse) nR2
      refine ⟨R2, rfl, ⟨_, SqL.of upd_same⟩, for_list (K := K) (a := R2) (xs := ds.reverse) (fun i σ H' => (∃ (hv : V) (o11 : Option V) (cur : Rs), σ = [some (.ref a), some (.int (0 + k)), some (.ref p), some (.int wd), some (.ref ra), some hv, some (.ref M), o7, o8, o9, o10, o11, none] ∧ TT H' hv cur ∧ Undo xs.length wd (bs.drop i) cur rs0) ∧ Same (upd G1 R2 (.lst ds.reverse)) H')
        ⟨⟨hv, o11, cur, rfl, ttC.ext (Ext.same cR), hun⟩, Same.refl _⟩ (fun i σ H' _ h => SqL.of (h.2 _ _ upd_same)) ?_ ?_⟩
      · rintro i v σ G2 hv2 ⟨⟨hv, o11, cur, rfl, tt2, un2⟩, c2⟩
        obtain ⟨b, hb1, svb⟩ := paired_first hds hv2
        rw [drop_at hb1] at un2
        cases un2 with
        | cons ub ur uk uu =>
          refine ⟨_, rfl, _, rfl, _, _, rfl, xs.length, wd, _, cur, b, tt2, svb.ext (Ext.same (cR.trans c2)), ub, ur, uk, hm, hw, fun v3 G3 c3 tt3 => ?_⟩
          exact ⟨⟨v3, _, _, rfl, tt3, uu⟩, c2.trans c3⟩
      · rintro σ G2 ⟨⟨hv, o11, cur, rfl, tt2, un2⟩, c2⟩
        rw [Paired.length hds, List.drop_length] at un2
        cases un2
        dsimp only
        refine if_no1 (fun H' => H' = G2) (fun Q2 q2 => ?_) (fun H' e => ?_)
        · refine ⟨_, rfl, _, rfl, _, _, tt2.dp, (ttR.ext (Ext.same (cR.trans c2))).dp, shaped_rows _, shaped_rows _, _, rfl, ?_⟩
          rw [eqv_rows]
          exact q2 _ rfl
        · rw [e]
          exact ⟨⟨_, _, _, _, _, _, _, _, _, _, _, rfl⟩, sql_same (same_pen np s3 (bG.trans (But.same (cR.trans c2)))) hS2⟩
  · rintro σ H3 _
    exact q _

end
theorem all_mk {l : PySem.W.OpenLaw} {w : World} {K : PySem.W.Frag} {h : Heap} {mg : Str → Option Value} {fa : Addr} (X : K.In h) (G : h.Ns mainGlobals mg) (hfa : mg "law" = some (.ref fa))
    {f1 : Addr} {od1 an1 : Option Addr} {sl1 : Array (Option Value)} {oc1 kV1 dc1 pm1 cd1 ct1 : Value}
    {f2 : Addr} {od2 an2 : Option Addr} {sl2 : Array (Option Value)} {oc2 kV2 dc2 pm2 cd2 ct2 : Value}
    {f3 : Addr} {od3 an3 : Option Addr} {sl3 : Array (Option Value)} {oc3 kV3 dc3 pm3 cd3 ct3 : Value}
    {f4 : Addr} {od4 an4 : Option Addr} {sl4 : Array (Option Value)} {oc4 kV4 dc4 pm4 cd4 ct4 : Value}
    {f5 : Addr} {od5 an5 : Option Addr} {sl5 : Array (Option Value)} {oc5 kV5 dc5 pm5 cd5 ct5 : Value}
    {f6 : Addr} {od6 an6 : Option Addr} {sl6 : Array (Option Value)} {oc6 kV6 dc6 pm6 cd6 ct6 : Value}
    {f7 : Addr} {od7 an7 : Option Addr} {sl7 : Array (Option Value)} {oc7 kV7 dc7 pm7 cd7 ct7 : Value}
    {f8 : Addr} {od8 an8 : Option Addr} {sl8 : Array (Option Value)} {oc8 kV8 dc8 pm8 cd8 ct8 : Value}
    {f9 : Addr} {od9 an9 : Option Addr} {sl9 : Array (Option Value)} {oc9 kV9 dc9 pm9 cd9 ct9 : Value}
    {f10 : Addr} {od10 an10 : Option Addr} {sl10 : Array (Option Value)} {oc10 kV10 dc10 pm10 cd10 ct10 : Value}
    {f11 : Addr} {od11 an11 : Option Addr} {sl11 : Array (Option Value)} {oc11 kV11 dc11 pm11 cd11 ct11 : Value}
    {f12 : Addr} {od12 an12 : Option Addr} {sl12 : Array (Option Value)} {oc12 kV12 dc12 pm12 cd12 ct12 : Value}
    {f13 : Addr} {od13 an13 : Option Addr} {sl13 : Array (Option Value)} {oc13 kV13 dc13 pm13 cd13 ct13 : Value}
    {f14 : Addr} {od14 an14 : Option Addr} {sl14 : Array (Option Value)} {oc14 kV14 dc14 pm14 cd14 ct14 : Value}
    {f15 : Addr} {od15 an15 : Option Addr} {sl15 : Array (Option Value)} {oc15 kV15 dc15 pm15 cd15 ct15 : Value}
    (a1 : PySem.W.nsIn K mainGlobals "is_whole" = some (some (.ref f1))) (l1 : K.lookup f1 = some ⟨oc1, od1, .func (PySem.W.fnOf "is_whole" "is_whole" (defArgs s_is_whole) (defBody s_is_whole) (defScope s_is_whole) .none kV1 dc1 pm1 an1 cd1 ct1), sl1⟩) (c1 : PySem.W.codeIn K cd1 "is_whole" = true) (k1 : PySem.W.keepIn K (.ref f1) = true)
    (a2 : PySem.W.nsIn K mainGlobals "is_number_of_row" = some (some (.ref f2))) (l2 : K.lookup f2 = some ⟨oc2, od2, .func (PySem.W.fnOf "is_number_of_row" "is_number_of_row" (defArgs s_is_number_of_row) (defBody s_is_number_of_row) (defScope s_is_number_of_row) .none kV2 dc2 pm2 an2 cd2 ct2), sl2⟩) (c2 : PySem.W.codeIn K cd2 "is_number_of_row" = true) (k2 : PySem.W.keepIn K (.ref f2) = true)
    (a3 : PySem.W.nsIn K mainGlobals "are_unlike_rows" = some (some (.ref f3))) (l3 : K.lookup f3 = some ⟨oc3, od3, .func (PySem.W.fnOf "are_unlike_rows" "are_unlike_rows" (defArgs s_are_unlike_rows) (defBody s_are_unlike_rows) (defScope s_are_unlike_rows) .none kV3 dc3 pm3 an3 cd3 ct3), sl3⟩) (c3 : PySem.W.codeIn K cd3 "are_unlike_rows" = true) (k3 : PySem.W.keepIn K (.ref f3) = true)
    (a4 : PySem.W.nsIn K mainGlobals "is_step" = some (some (.ref f4))) (l4 : K.lookup f4 = some ⟨oc4, od4, .func (PySem.W.fnOf "is_step" "is_step" (defArgs s_is_step) (defBody s_is_step) (defScope s_is_step) .none kV4 dc4 pm4 an4 cd4 ct4), sl4⟩) (c4 : PySem.W.codeIn K cd4 "is_step" = true) (k4 : PySem.W.keepIn K (.ref f4) = true)
    (a5 : PySem.W.nsIn K mainGlobals "stepped" = some (some (.ref f5))) (l5 : K.lookup f5 = some ⟨oc5, od5, .func (PySem.W.fnOf "stepped" "stepped" (defArgs s_stepped) (defBody s_stepped) (defScope s_stepped) .none kV5 dc5 pm5 an5 cd5 ct5), sl5⟩) (c5 : PySem.W.codeIn K cd5 "stepped" = true) (k5 : PySem.W.keepIn K (.ref f5) = true)
    (a6 : PySem.W.nsIn K mainGlobals "taken_back" = some (some (.ref f6))) (l6 : K.lookup f6 = some ⟨oc6, od6, .func (PySem.W.fnOf "taken_back" "taken_back" (defArgs s_taken_back) (defBody s_taken_back) (defScope s_taken_back) .none kV6 dc6 pm6 an6 cd6 ct6), sl6⟩) (c6 : PySem.W.codeIn K cd6 "taken_back" = true) (k6 : PySem.W.keepIn K (.ref f6) = true)
    (a7 : PySem.W.nsIn K mainGlobals "_law_pen" = some (some (.ref f7))) (l7 : K.lookup f7 = some ⟨oc7, od7, .func (PySem.W.fnOf "_law_pen" "_law_pen" (defArgs s_law_pen) (defBody s_law_pen) (defScope s_law_pen) .none kV7 dc7 pm7 an7 cd7 ct7), sl7⟩) (c7 : PySem.W.codeIn K cd7 "_law_pen" = true) (k7 : PySem.W.keepIn K (.ref f7) = true)
    (a8 : PySem.W.nsIn K mainGlobals "_law_draw" = some (some (.ref f8))) (l8 : K.lookup f8 = some ⟨oc8, od8, .func (PySem.W.fnOf "_law_draw" "_law_draw" (defArgs s_law_draw) (defBody s_law_draw) (defScope s_law_draw) .none kV8 dc8 pm8 an8 cd8 ct8), sl8⟩) (c8 : PySem.W.codeIn K cd8 "_law_draw" = true) (k8 : PySem.W.keepIn K (.ref f8) = true)
    (a9 : PySem.W.nsIn K mainGlobals "_law_number" = some (some (.ref f9))) (l9 : K.lookup f9 = some ⟨oc9, od9, .func (PySem.W.fnOf "_law_number" "_law_number" (defArgs s_law_number) (defBody s_law_number) (defScope s_law_number) .none kV9 dc9 pm9 an9 cd9 ct9), sl9⟩) (c9 : PySem.W.codeIn K cd9 "_law_number" = true) (k9 : PySem.W.keepIn K (.ref f9) = true)
    (a10 : PySem.W.nsIn K mainGlobals "_law_rows" = some (some (.ref f10))) (l10 : K.lookup f10 = some ⟨oc10, od10, .func (PySem.W.fnOf "_law_rows" "_law_rows" (defArgs s_law_rows) (defBody s_law_rows) (defScope s_law_rows) .none kV10 dc10 pm10 an10 cd10 ct10), sl10⟩) (c10 : PySem.W.codeIn K cd10 "_law_rows" = true) (k10 : PySem.W.keepIn K (.ref f10) = true)
    (a11 : PySem.W.nsIn K mainGlobals "_law_step" = some (some (.ref f11))) (l11 : K.lookup f11 = some ⟨oc11, od11, .func (PySem.W.fnOf "_law_step" "_law_step" (defArgs s_law_step) (defBody s_law_step) (defScope s_law_step) .none kV11 dc11 pm11 an11 cd11 ct11), sl11⟩) (c11 : PySem.W.codeIn K cd11 "_law_step" = true) (k11 : PySem.W.keepIn K (.ref f11) = true)
    (a12 : PySem.W.nsIn K mainGlobals "_law_due" = some (some (.ref f12))) (l12 : K.lookup f12 = some ⟨oc12, od12, .func (PySem.W.fnOf "_law_due" "_law_due" (defArgs s_law_due) (defBody s_law_due) (defScope s_law_due) .none kV12 dc12 pm12 an12 cd12 ct12), sl12⟩) (c12 : PySem.W.codeIn K cd12 "_law_due" = true) (k12 : PySem.W.keepIn K (.ref f12) = true)
    (a13 : PySem.W.nsIn K mainGlobals "_law_are_rows" = some (some (.ref f13))) (l13 : K.lookup f13 = some ⟨oc13, od13, .func (PySem.W.fnOf "_law_are_rows" "_law_are_rows" (defArgs s_law_are_rows) (defBody s_law_are_rows) (defScope s_law_are_rows) .none kV13 dc13 pm13 an13 cd13 ct13), sl13⟩) (c13 : PySem.W.codeIn K cd13 "_law_are_rows" = true) (k13 : PySem.W.keepIn K (.ref f13) = true)
    (a14 : PySem.W.nsIn K mainGlobals "_law_is_back" = some (some (.ref f14))) (l14 : K.lookup f14 = some ⟨oc14, od14, .func (PySem.W.fnOf "_law_is_back" "_law_is_back" (defArgs s_law_is_back) (defBody s_law_is_back) (defScope s_law_is_back) .none kV14 dc14 pm14 an14 cd14 ct14), sl14⟩) (c14 : PySem.W.codeIn K cd14 "_law_is_back" = true) (k14 : PySem.W.keepIn K (.ref f14) = true)
    (a15 : PySem.W.nsIn K mainGlobals "law" = some (some (.ref f15))) (l15 : K.lookup f15 = some ⟨oc15, od15, .func (PySem.W.fnOf "law" "law" (defArgs s_law) (defBody s_law) (defScope s_law) .none kV15 dc15 pm15 an15 cd15 ct15), sl15⟩) (c15 : PySem.W.codeIn K cd15 "law" = true) (k15 : PySem.W.keepIn K (.ref f15) = true)
    (z1 : PySem.W.nsIn K mainGlobals "abs" = some none)
    (z2 : PySem.W.nsIn K mainGlobals "bool" = some none)
    (z3 : PySem.W.nsIn K mainGlobals "int" = some none)
    (z4 : PySem.W.nsIn K mainGlobals "isinstance" = some none)
    (z5 : PySem.W.nsIn K mainGlobals "len" = some none)
    (z6 : PySem.W.nsIn K mainGlobals "list" = some none)
    (z7 : PySem.W.nsIn K mainGlobals "max" = some none)
    (z8 : PySem.W.nsIn K mainGlobals "min" = some none)
    (z9 : PySem.W.nsIn K mainGlobals "range" = some none)
    (z10 : PySem.W.nsIn K mainGlobals "repr" = some none)
    (z11 : PySem.W.nsIn K mainGlobals "tuple" = some none)
    (z12 : PySem.W.nsIn K mainGlobals "zip" = some none) :
    ∃ fd : FuncData, (∀ (s : Shared) (v : Value), BindsTo s fd ⟨[v], []⟩ [("_law_script", v)]) ∧ ∀ base : Heap, K.In base → base.Ns mainGlobals mg → FnG l.prog w K mg base CX0 6 fa fd ["_law_script"] (spLaw K) := by
  have e := hfa.symm.trans (PySem.W.mg_of X G a15)
  cases e
  have T : Txt K mg := ⟨df_mk (PySem.W.mg_of X G a1) l1 c1 k1 (fun _ _ _ _ _ _ us hl => match us, hl with | [_], _ => rfl),
    df_mk (PySem.W.mg_of X G a2) l2 c2 k2 (fun _ _ _ _ _ _ us hl => match us, hl with | [_, _], _ => rfl),
    df_mk (PySem.W.mg_of X G a3) l3 c3 k3 (fun _ _ _ _ _ _ us hl => match us, hl with | [_, _, _], _ => rfl),
    df_mk (PySem.W.mg_of X G a4) l4 c4 k4 (fun _ _ _ _ _ _ us hl => match us, hl with | [_, _], _ => rfl),
    df_mk (PySem.W.mg_of X G a5) l5 c5 k5 (fun _ _ _ _ _ _ us hl => match us, hl with | [_, _], _ => rfl),
    df_mk (PySem.W.mg_of X G a6) l6 c6 k6 (fun _ _ _ _ _ _ us hl => match us, hl with | [_], _ => rfl),
    df_mk (PySem.W.mg_of X G a7) l7 c7 k7 (fun _ _ _ _ _ _ us hl => match us, hl with | [_, _], _ => rfl),
    df_mk (PySem.W.mg_of X G a8) l8 c8 k8 (fun _ _ _ _ _ _ us hl => match us, hl with | [_, _], _ => rfl),
    df_mk (PySem.W.mg_of X G a9) l9 c9 k9 (fun _ _ _ _ _ _ us hl => match us, hl with | [_], _ => rfl),
    df_mk (PySem.W.mg_of X G a10) l10 c10 k10 (fun _ _ _ _ _ _ us hl => match us, hl with | [_, _, _], _ => rfl),
    df_mk (PySem.W.mg_of X G a11) l11 c11 k11 (fun _ _ _ _ _ _ us hl => match us, hl with | [_, _], _ => rfl),
    df_mk (PySem.W.mg_of X G a12) l12 c12 k12 (fun _ _ _ _ _ _ us hl => match us, hl with | [_, _], _ => rfl),
    df_mk (PySem.W.mg_of X G a13) l13 c13 k13 (fun _ _ _ _ _ _ us hl => match us, hl with | [_, _], _ => rfl),
    df_mk (PySem.W.mg_of X G a14) l14 c14 k14 (fun _ _ _ _ _ _ us hl => match us, hl with | [_, _, _], _ => rfl),
    df_mk (PySem.W.mg_of X G a15) l15 c15 k15 (fun _ _ _ _ _ _ us hl => match us, hl with | [_], _ => rfl),
    PySem.W.mg_none_of X G z1,
    PySem.W.mg_none_of X G z2,
    PySem.W.mg_none_of X G z3,
    PySem.W.mg_none_of X G z4,
    PySem.W.mg_none_of X G z5,
    PySem.W.mg_none_of X G z6,
    PySem.W.mg_none_of X G z7,
    PySem.W.mg_none_of X G z8,
    PySem.W.mg_none_of X G z9,
    PySem.W.mg_none_of X G z10,
    PySem.W.mg_none_of X G z11,
    PySem.W.mg_none_of X G z12⟩
  exact ⟨PySem.W.fnOf "law" "law" (defArgs s_law) (defBody s_law) (defScope s_law) .none kV15 dc15 pm15 an15 cd15 ct15, fun s v => .of_eq rfl, fun base _ _ => ok_law T (fun_mk (st := s_law) l15 c15 k15)⟩
end K11
open PySem PySem.W PyProof.Rows
set_option maxRecDepth 100000 in
set_option maxHeartbeats 0 in
theorem PySem.Challenge.cw_commonhouse_k11_steps_done_and_taken_bac_holds : PySem.Challenge.rw_commonhouse_k11_steps_done_and_taken_bac.Holds := by
  w_on; o_law; k_head; (case hw => w_witness2)
  k_fill
  refine Cm.walk_g (l := PySem.Challenge.rw_commonhouse_k11_steps_done_and_taken_bac) (n := 63) (k := 6) (x := "_law_script") (sp := K11.spLaw) rfl (by decide) rfl ⟨rfl, by decide, by decide⟩ (fun w h Y => PySem.W.kIn_of Y) ?F (fun _ _ a ns hl hS => ⟨a, ns, rfl, hS, hl, fun _ => rfl⟩)
  case F =>
    intro w mg fa h KX G hmg
    refine' K11.all_mk KX G hmg ?a1 ?l1 ?c1 ?k1 ?a2 ?l2 ?c2 ?k2 ?a3 ?l3 ?c3 ?k3 ?a4 ?l4 ?c4 ?k4 ?a5 ?l5 ?c5 ?k5 ?a6 ?l6 ?c6 ?k6 ?a7 ?l7 ?c7 ?k7 ?a8 ?l8 ?c8 ?k8 ?a9 ?l9 ?c9 ?k9 ?a10 ?l10 ?c10 ?k10 ?a11 ?l11 ?c11 ?k11 ?a12 ?l12 ?c12 ?k12 ?a13 ?l13 ?c13 ?k13 ?a14 ?l14 ?c14 ?k14 ?a15 ?l15 ?c15 ?k15 ?z1 ?z2 ?z3 ?z4 ?z5 ?z6 ?z7 ?z8 ?z9 ?z10 ?z11 ?z12
    (case a1 => k_is); (case l1 => k_is); (case c1 => k_is); (case k1 => k_is); (case a2 => k_is); (case l2 => k_is)
    (case c2 => k_is); (case k2 => k_is); (case a3 => k_is); (case l3 => k_is); (case c3 => k_is); (case k3 => k_is)
    (case a4 => k_is); (case l4 => k_is); (case c4 => k_is); (case k4 => k_is); (case a5 => k_is); (case l5 => k_is)
    (case c5 => k_is); (case k5 => k_is); (case a6 => k_is); (case l6 => k_is); (case c6 => k_is); (case k6 => k_is)
    (case a7 => k_is); (case l7 => k_is); (case c7 => k_is); (case k7 => k_is); (case a8 => k_is); (case l8 => k_is)
    (case c8 => k_is); (case k8 => k_is); (case a9 => k_is); (case l9 => k_is); (case c9 => k_is); (case k9 => k_is)
    (case a10 => k_is); (case l10 => k_is); (case c10 => k_is); (case k10 => k_is); (case a11 => k_is); (case l11 => k_is)
    (case c11 => k_is); (case k11 => k_is); (case a12 => k_is); (case l12 => k_is); (case c12 => k_is); (case k12 => k_is)
    (case a13 => k_is); (case l13 => k_is); (case c13 => k_is); (case k13 => k_is); (case a14 => k_is); (case l14 => k_is)
    (case c14 => k_is); (case k14 => k_is); (case a15 => k_is); (case l15 => k_is); (case c15 => k_is); (case k15 => k_is)
    (case z1 => k_is); (case z2 => k_is); (case z3 => k_is); (case z4 => k_is); (case z5 => k_is); (case z6 => k_is)
    (case z7 => k_is); (case z8 => k_is); (case z9 => k_is); (case z10 => k_is); (case z11 => k_is); (case z12 => k_is)
