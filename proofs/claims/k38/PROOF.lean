import PyProof.Rows.All
import Wide.All
import OpenK.AllK
import Wide.FinOn
import HandS.Base
import HandS.Call
import HandS.List
import HandS.Comp
import HandS.Ends
import HandS.Dict
import HandS.Iter
import HandS.Words
import HandS.IsInst
import HandS.TupAny
import HandS.TupLe
import HandS.WordsList
import HandS.TupMul
import HandS.Zip
import HandS.Walk
import HandS.Wide
import HandS.SetFor
import HandS.Strs
import HandS.SortInts
import HandS.SortKw
import HandS.Style
import HandS.More
import HandS.WordsDict
import HandS.Star
import PySem.Challenge.RW_commonhouse_k38_what_tells_apart
set_option Elab.async false
set_option linter.all false
set_option maxRecDepth 100000
set_option maxHeartbeats 4000000
namespace Cm
open PySem PySem.Spec PyProof.Rows L2
/-! ### defs by their names -/
/-- the def x of the text stands behind the top by its name -/
def Df (K : PySem.W.Frag) (mg : Str → Option Value) (x : Str) (st : Stmt) (ps : List Str) : Prop :=
  ∃ f fd, Fun K x x st f fd ∧ mg x = some (.ref f) ∧ Binds K fd ps []
theorem df_mk {K : PySem.W.Frag} {mg : Str → Option Value} {x : Str} {st : Stmt} {ps : List Str} {f : Addr} {oc : Value} {od an : Option Addr} {osl : Array (Option Value)} {kV doc pm cdv ct : Value} (hm : mg x = some (.ref f))
    (l : K.lookup f = some ⟨oc, od, .func (PySem.W.fnOf x x (defArgs st) (defBody st) (defScope st) .none kV doc pm an cdv ct), osl⟩) (c : PySem.W.codeIn K cdv x = true) (k : PySem.W.keepIn K (.ref f) = true)
    (h : ∀ (kV doc pm : Value) (an : Option Addr) (cdv ct : Value) (us : List Value), us.length = ps.length → bindArgs (PySem.W.fnOf x x (defArgs st) (defBody st) (defScope st) .none kV doc pm an cdv ct) ⟨us, []⟩ = pure (ps.zip us)) : Df K mg x st ps :=
  ⟨f, _, fun_mk l c k, hm, (fun_mk l c k).binds h⟩
/-! ### a promise that is kept where no repr runs around (the recursion guards are empty) -/
structure FnG (P : Program) (w : World) (K : PySem.W.Frag) (mg : Str → Option Value) (base : Heap) (CX : CXT) (k : Nat) (f : Addr) (fd : FuncData) (ps : List Str) (sp : Sp) : Prop where
  len : ∀ vs H Q E, sp vs H Q E → vs.length = ps.length
  go : ∀ (A : Around) (outer : List Env) (s : Shared) (H : Hp) (args : Args) (us : List Value) (vs : List V) (Q : VK) (E : XK), Room k A → A.guards = some [] → Env0 P w K mg base A outer s H → BindsTo s fd args (ps.zip us) → Vals vs us → sp vs H Q E →
    codeAny (model P w) A (.call (.ref f) args) (CR CX outer P w H s Q E) s
section
variable {P : Program} {w : World} {K : PySem.W.Frag} {mg : Str → Option Value} {base : Heap} {CX : CXT}
/-- a def's body keeps its promise there -/
theorem fng_mk {k : Nat} {f : Addr} {x qual : Str} {st : Stmt} {fd : FuncData} {N ps : List Str} {sp : Sp} (F : Fun K x qual st f fd) (S : FnScope N ps (defScope st))
    (len : ∀ vs H Q E, sp vs H Q E → vs.length = ps.length)
    (body : ∀ (cdv : Value) (A : Around) (outer : List Env) (s : Shared) (H : Hp) (vs : List V) (Q : VK) (E : XK), Room k (A.deeper (envOfC qual (defScope st) s.heap.objs.size f cdv)) → A.guards = some [] → sp vs H Q E →
      ∃ t, PSs (cxOf CX P w K mg base N qual (defScope st) f cdv A outer s H E) (defBody st) t ∧ t { nx := fun _ H' => Q .non H', rt := Q } (start N vs) H) : FnG P w K mg base CX (k + 1) f fd ps sp := by
  obtain ⟨oc, od, kV, doc, pm, an, cdv, ct, osl, hfd, lk, hcd⟩ := F.ex
  subst hfd
  refine ⟨len, fun A outer s H args us vs Q E room gd env bind rel prom => ?_⟩
  have llen := len _ _ _ _ prom
  have inK : K.In s.heap := env.mod.kin.keeps fun b o e => (env.bs b o e).1
  have nolim : s.heap.NoLimit := env.mod.nolimit.keeps fun b o e => (env.bs b o e).1
  have kinds : ∀ y ∈ ps.zip us, (defScope st).names.lookup y.1 = some .local ∨ ((defScope st).names.lookup y.1 = some .cell ∧ ((cellsFrom (s.heap.objs.size + 1) (defScope st).names []).lookup y.1).isSome = true) := by
    rintro ⟨n, v⟩ hy
    rcases S.par n (List.of_mem_zip hy).1 with z | z
    · exact .inl z
    · exact .inr ⟨z, PySem.W.cellsFrom_some _ _ _ (.inl z)⟩
  refine codeAny_call_function room.depth (inK _ _ lk) rfl S.co S.gen rfl (PySem.W.codeRec_of inK hcd) (bind _ _ _ _ ?_)
  refine wpAny_newFunctionEnv_cells S.kind kinds fun fenv hfe s1 ent => ?_
  subst hfe
  refine ⟨nolim.keeps ent.toInCall.keep, codeAny_func ?_⟩
  obtain ⟨t, ht, hq⟩ := body cdv A outer s H vs Q E (room.deeper _) gd prom
  have I0 : Inv (cxOf CX P w K mg base N qual (defScope st) f cdv A outer s H E) [] (start N vs) H s1 := inv_start S room.hd env llen rel ent
  refine wpAny_mono (ht.run [] s1 (start N vs) H _ I0 hq) (fun fl s' out => ?_) fun e s' out => out
  cases fl with
  | ret u =>
    obtain ⟨v, σ', H', J, rv, q⟩ := out
    exact ⟨v, H', J.os, J.bare, J.base, J.hok, rv, q⟩
  | next =>
    obtain ⟨σ', H', J, q⟩ := out
    exact ⟨V.non, H', J.os, J.bare, J.base, J.hok, rfl, q⟩
  | brk =>
    obtain ⟨_, _, _, q⟩ := out
    exact q.elim
  | cont =>
    obtain ⟨_, _, _, q⟩ := out
    exact q.elim
end
/-- the def x keeps the promise sp; no exception leaves it -/
def Fn (P : Program) (w : World) (K : PySem.W.Frag) (mg : Str → Option Value) (base : Heap) (k : Nat) (x : Str) (ps : List Str) (sp : Sp) : Prop :=
  ∃ f fd, FnG P w K mg base CX0 k f fd ps sp ∧ mg x = some (.ref f) ∧ PySem.W.keepIn K (.ref f) = true ∧ Binds K fd ps []
section
variable {P : Program} {w : World} {K : PySem.W.Frag} {mg : Str → Option Value} {base : Heap}
theorem Df.ok {x : Str} {st : Stmt} {ps N : List Str} {k : Nat} {sp : Sp} (D : Df K mg x st ps) (S : FnScope N ps (defScope st)) (len : ∀ vs H Q E, sp vs H Q E → vs.length = ps.length)
    (hbody : ∀ (f : Addr) (cdv : Value) (A : Around) (outer : List Env) (s : Shared) (H : Hp) (vs : List V) (Q : VK) (E : XK), Room k (A.deeper (envOfC x (defScope st) s.heap.objs.size f cdv)) → A.guards = some [] → sp vs H Q E →
      ∃ t, PSs (cxOf CX0 P w K mg base N x (defScope st) f cdv A outer s H E).nox (defBody st) t ∧ t { nx := fun _ H' => Q .non H', rt := Q } (start N vs) H) : Fn P w K mg base (k + 1) x ps sp := by
  obtain ⟨f, fd, F, hm, hb⟩ := D
  refine ⟨f, fd, fng_mk F S len fun cdv A outer s H vs Q E hr hg h => ?_, hm, F.kp, hb⟩
  obtain ⟨t, ht, q⟩ := hbody f cdv A outer s H vs Q E hr hg h
  exact ⟨t, ht.nox, q⟩
end
section
variable {X : Cx} {k : Nat} {x : Str} {ps : List Str} {sp : Sp} {e : Expr} {es : List Expr} {t : TA} {p pos : Pos}
theorem run_g {CX : CXT} {f : Addr} {fd : FuncData} {E : XK} {pins : List (Addr × Obj)} {σ : L2.St} {H : Hp} {s : Shared} {Q : VK} {us : List Value} {vs : List V} (F : FnG X.prog X.w X.K X.mg X.base CX k f fd ps sp) (hr : Room k X.A) (hg : X.A.guards = some [])
    (hb : Binds X.K fd ps []) (hx : Passes CX X E) (I : Inv X pins σ H s) (r : Vals vs us) (h : sp (vs ++ []) H Q E) : wpAny (model X.prog X.w) X.A (call (.ref f) us) (EP X pins σ Q) X.xe s := by
  rw [List.append_nil] at h
  have hl : (us ++ []).length = ps.length := by
    rw [List.append_nil, ← r.length]
    exact F.len _ _ _ _ h
  have hb2 := hb s us I.kIn hl
  rw [List.append_nil] at hb2
  refine wpAny_call (codeAny_mono (F.go X.A X.stack s H ⟨us, []⟩ us vs Q E hr hg I.env0 hb2 r h) fun r s' hq => ?_)
  cases r with
  | error e => exact hx pins σ H s e s' I hq
  | ok fl =>
    cases fl with
    | ret u => exact I.after hq
    | next => exact hq.elim
    | brk => exact hq.elim
    | cont => exact hq.elim
theorem pe_fn (F : Fn X.prog X.w X.K X.mg X.base k x ps sp) (hr : Room k X.A) (hgd : X.A.guards = some []) (hg : Gl X x) (ha : PA X (e :: es) t) (hdb : (x == ("__debug__" : Str)) = false := by decide)
    (he : starEach (e :: es) X.env = (false, eval e X.env) :: starEach es X.env := by rfl) (hpl : (backTo pos (starEach es X.env)).any (·.1) = false := by rfl) : PE X (.Call (.Name x p) (e :: es) [] pos) (tCall sp [] E0 t) := by
  obtain ⟨f, fd, F, hm, hk, hb⟩ := F
  refine ⟨fun pins s σ H Q I h => ?_⟩
  refine wpAny_Call_Name_kw (ld_glob I hg hm ?_ hdb)
  refine PySem.W.callWith_K (h₀ := X.base) I.ok.mod.kin hk (thn (ha.run pos pins s σ H _ I h) fun us s1 out => ?_) he hpl
  obtain ⟨vs, H1, I1, r, q⟩ := out
  exact ⟨I1.kIn, run_g F hr hgd hb pass0 I1 r q⟩
end
/-! ### promises by the number of arguments -/
def sp1 (R : V → Hp → VK → Prop) : Sp := fun vs H Q _ => ∃ a, vs = [a] ∧ R a H Q
def sp2 (R : V → V → Hp → VK → Prop) : Sp := fun vs H Q _ => ∃ a b, vs = [a, b] ∧ R a b H Q
def sp3 (R : V → V → V → Hp → VK → Prop) : Sp := fun vs H Q _ => ∃ a b c, vs = [a, b, c] ∧ R a b c H Q
def sp4 (R : V → V → V → V → Hp → VK → Prop) : Sp := fun vs H Q _ => ∃ a b c d, vs = [a, b, c, d] ∧ R a b c d H Q
theorem len1 {R : V → Hp → VK → Prop} {x : Str} : ∀ vs H Q E, sp1 R vs H Q E → vs.length = [x].length := by
  rintro vs H Q E ⟨a, rfl, _⟩
  rfl
theorem len2 {R : V → V → Hp → VK → Prop} {x y : Str} : ∀ vs H Q E, sp2 R vs H Q E → vs.length = [x, y].length := by
  rintro vs H Q E ⟨a, b, rfl, _⟩
  rfl
theorem len3 {R : V → V → V → Hp → VK → Prop} {x y z : Str} : ∀ vs H Q E, sp3 R vs H Q E → vs.length = [x, y, z].length := by
  rintro vs H Q E ⟨a, b, c, rfl, _⟩
  rfl
theorem len4 {R : V → V → V → V → Hp → VK → Prop} {x y z u : Str} : ∀ vs H Q E, sp4 R vs H Q E → vs.length = [x, y, z, u].length := by
  rintro vs H Q E ⟨a, b, c, d, rfl, _⟩
  rfl
/-! ### heaps -/
/-- all but the object at d is kept -/
def But (d : Addr) (H H' : Hp) : Prop := ∀ b o, b ≠ d → H b = some o → H' b = some o
theorem But.refl (d : Addr) (H : Hp) : But d H H := fun _ _ _ h => h
theorem But.trans {d : Addr} {H H1 H2 : Hp} (a : But d H H1) (b : But d H1 H2) : But d H H2 := fun c o n h => b c o n (a c o n h)
theorem But.upd {d : Addr} {H : Hp} {o : HO} : But d H (L2.upd H d o) := fun b u n h => by
  rw [upd_ne n]
  exact h
theorem But.new {d p : Addr} {H : Hp} {o : HO} (n : H p = none) : But d H (L2.upd H p o) := fun b u _ h => by
  rw [upd_ne (ne_of_none h n)]
  exact h
theorem But.same {d : Addr} {H H1 : Hp} (a : Same H H1) : But d H H1 := fun b o _ h => a b o h
theorem same_new {H : Hp} {p : Addr} {o : HO} (h : H p = none) : Same H (L2.upd H p o) := fun b x e => by
  rw [upd_ne (ne_of_none e h)]
  exact e
theorem sqt_of_same {K : PySem.W.Frag} {H H' : Hp} {a : Addr} {xs : List V} (e : Same H H') (h : SqT K H a xs) : SqT K H' a xs := by
  rcases h with (h | ⟨o, h⟩) | h
  · exact .inl (.inl (e _ _ h))
  · exact .inl (.inr ⟨o, e _ _ h⟩)
  · exact .inr h
/-- abs -/
theorem abs_eq (i : Int) : (if i < 0 then -i else i) = (i.natAbs : Int) := by
  split <;> omega
theorem qNS {c : Prop} [Decidable c] (hc : c) {Q : Bool → Hp → Prop} {H : Hp} (q : Q false H) : Q (!decide c) H := by
  rw [decide_eq_true hc]
  exact q
theorem qN {c : Prop} [Decidable c] (hc : ¬ c) {Q : Bool → Hp → Prop} {H : Hp} (q : Q false H) : Q (decide c) H := by
  rw [decide_eq_false hc]
  exact q
theorem qS {c : Prop} [Decidable c] (hc : c) {Q : VK} {H : Hp} (q : Q (.bl true) H) : Q (.bl (decide c)) H := by
  rw [decide_eq_true hc]
  exact q
theorem iteN {c A B : Prop} [Decidable c] (hc : ¬ c) (h : B) : if decide c = true then A else B := by
  rw [decide_eq_false hc]
  exact iteF h
theorem iteS {c A B : Prop} [Decidable c] (hc : c) (h : A) : if decide c = true then A else B := by
  rw [decide_eq_true hc]
  exact iteT h
/-! ### an if that is not taken -/
theorem if_no {c : TT} {t r : TS} {D : Ends} {σ : L2.St} {H : Hp} (R : Hp → Prop) (h : ∀ Q : Bool → Hp → Prop, (∀ H', R H' → Q false H') → c σ H Q) (k : ∀ H', R H' → r D σ H') : tSeq (tIfS c t tNext) r D σ H := by
  show c σ H _
  exact h _ fun H' q => iteF (k H' q)
/-- the last if of a block that is not taken -/
theorem if_no1 {c : TT} {t : TS} {D : Ends} {σ : L2.St} {H : Hp} (R : Hp → Prop) (h : ∀ Q : Bool → Hp → Prop, (∀ H', R H' → Q false H') → c σ H Q) (k : ∀ H', R H' → D.nx σ H') : tIfS c t tNext D σ H := by
  show c σ H _
  exact h _ fun H' q => iteF (k H' q)
theorem or_no {t u : TT} {σ : L2.St} {H : Hp} {Q : Bool → Hp → Prop} (R : Hp → Prop) (h : ∀ Q : Bool → Hp → Prop, (∀ H', R H' → Q false H') → t σ H Q) (k : ∀ H', R H' → u σ H' Q) : tOr t u σ H Q := by
  show t σ H _
  exact h _ fun H' q => iteF (k H' q)
end Cm

set_option Elab.async false
set_option linter.all false
set_option maxRecDepth 100000
set_option maxHeartbeats 4000000
namespace Cm
open PySem PySem.Spec PyProof.Rows L2
/-! ### the end of a law whose promise is kept where no repr runs around -/
/-- the heap that is tracked at the law's entry: the script alone, where it is none of the module's own objects -/
def scriptH (K : PySem.W.Frag) (a : Addr) (vs : List Value) (ns : List Int) : Hp := fun b =>
  if b = a ∧ K.lookup a = none then some (.frz { cls := .type "list", data := .seq vs.toArray } (.lst (ns.map V.int))) else none
theorem scriptH_some {K : PySem.W.Frag} {a b : Addr} {vs : List Value} {ns : List Int} {u : HO} (h : scriptH K a vs ns b = some u) :
    b = a ∧ K.lookup a = none ∧ u = .frz { cls := .type "list", data := .seq vs.toArray } (.lst (ns.map V.int)) := by
  unfold scriptH at h
  split at h
  · rename_i z
    exact ⟨z.1, z.2, (Option.some.inj h).symm⟩
  · cases h
theorem scriptH_free {K : PySem.W.Frag} {a b : Addr} {vs : List Value} {ns : List Int} (h : b ≠ a ∨ K.lookup a ≠ none) : scriptH K a vs ns b = none := by
  unfold scriptH
  split
  · rename_i z
    rcases h with h | h
    · exact absurd z.1 h
    · exact absurd z.2 h
  · rfl
theorem call_law_g {P : Program} {w : World} {K : PySem.W.Frag} {mg mb : Str → Option Value} {k : Nat} {fa a : Addr} {fd : FuncData} {x : Str} {sp : Sp} {s1 : Shared} {vs : List Value} {ns : List Int}
    (inK : K.In s1.heap) (glob : s1.heap.Ns mainGlobals mg) (blt : s1.heap.Ns builtinsNs mb) (bltEq : ∀ x : Str, x ≠ "__name__" → mb x = bootBuiltins x) (nolim : s1.heap.NoLimit) (nogen : s1.gens = #[])
    (scr : s1.heap.get? a = some { cls := .type "list", data := .seq vs.toArray }) (hns : IntsAre vs ns) (short : ns.length ≤ sizeLine) (room : Room k callerA)
    (F : ∀ base : Heap, K.In base → base.Ns mainGlobals mg → FnG P w K mg base CX0 k fa fd [x] sp) (bind : ∀ (s : Shared) (u : Value), BindsTo s fd ⟨[u], []⟩ [(x, u)])
    (prom : ∀ H : Hp, SqL K H a (ns.map V.int) → sp [.ref a] H (fun v _ => v = .bl true) fun _ _ _ => False) :
    codeAny (model P w) callerA (.call (.ref fa) ⟨[.ref a], []⟩) (fun r s' => r = .ok (.ret (.bool true)) ∧ OldK s1.heap s'.heap ∧ s'.os = s1.os ∧ AllBare s'.gens) s1 := by
  have rel := vals_ints hns
  have vlen := hns.length
  -- what the script's address holds, in the abstract heap
  have hS : SqL K (scriptH K a vs ns) a (ns.map V.int) := by
    cases hk : K.lookup a with
    | none =>
      refine .inl (.inr ⟨{ cls := .type "list", data := .seq vs.toArray }, ?_⟩)
      unfold scriptH
      exact if_pos ⟨rfl, hk⟩
    | some o =>
      have e := inK a o hk
      rw [scr] at e
      cases e
      exact .inr ⟨_, vs.toArray, _, hk, rfl, rfl, rfl, by rw [List.size_toArray, vlen]; exact short, by simpa using rel⟩
  have hok : HOk P w (scriptH K a vs ns) s1.heap := by
    intro b u e
    obtain ⟨rfl, _, rfl⟩ := scriptH_some e
    exact ⟨scr, by rw [List.length_map]; exact short, vs, _, rel, scr⟩
  -- a namespace is no list, so it is not tracked
  have free : ∀ {b : Addr} {o : Obj} {es : Array DictEntry} {ep : Nat}, s1.heap.get? b = some o → o.data = .dict es ep → scriptH K a vs ns b = none := by
    intro b o es ep e d
    by_cases hb : b = a
    · rw [hb, scr] at e
      cases e
      cases (show Data.seq vs.toArray _ = Data.dict es ep from d)
    · exact scriptH_free (.inl hb)
  have nsOf : ∀ {b : Addr} {m : Str → Option Value}, s1.heap.Ns b m → (hidT s1.heap (scriptH K a vs ns)).Ns b m := by
    rintro b m ⟨o, es, ep, e, d, r⟩
    exact ⟨o, es, ep, hidT_get e (free e d), d, r⟩
  have inKb : K.In (hidT s1.heap (scriptH K a vs ns)) := by
    intro b o e
    refine hidT_get (inK b o e) ?_
    by_cases hb : b = a
    · refine scriptH_free (.inr fun z => ?_)
      rw [hb, z] at e
      cases e
    · exact scriptH_free (.inl hb)
  obtain ⟨mc, lim1, lim2⟩ := nolim
  have env : Env0 P w K mg (hidT s1.heap (scriptH K a vs ns)) callerA [] s1 (scriptH K a vs ns) :=
    ⟨rfl, ⟨inKb, nsOf glob, ⟨mb, nsOf blt, bltEq⟩, ⟨mc, nsOf lim1, lim2⟩⟩, fun b o e => of_hidT e, Nat.le_of_eq (hidT_size _ _), trivial, fun b hb => (nomatch (show b ∈ ([] : List Addr) from hb)), hok, .of_eq nogen⟩
  refine codeAny_mono ((F _ inKb (nsOf glob)).go callerA [] s1 _ ⟨[.ref a], []⟩ [.ref a] [.ref a] _ _ room rfl env (bind s1 (.ref a)) (.cons rfl .nil) (prom _ hS)) fun r s' out => ?_
  cases r with
  | error e => exact out.elim
  | ok fl =>
    cases fl with
    | next => exact out.elim
    | brk => exact out.elim
    | cont => exact out.elim
    | ret u =>
      obtain ⟨v, H', os, bare, un, hok', rv, q⟩ := out
      have q' : v = .bl true := q
      subst q'
      obtain rfl : u = Value.bool true := rv
      refine ⟨rfl, OldK.of_keep fun b o e => ?_, os, bare⟩
      cases hb : scriptH K a vs ns b with
      | none => exact un.keep b o e hb (fun z => (nomatch (show b ∈ ([] : List Addr) from z))) (fun z => (nomatch z))
      | some u =>
        obtain ⟨rfl, _, rfl⟩ := scriptH_some hb
        obtain ⟨e2, _⟩ := hok' _ _ (un.frzs _ _ _ hb)
        rw [scr] at e
        cases e
        exact e2
theorem walk_g {l : PySem.W.OpenLaw} {n k : Nat} {q : Program} {loose : List Str} {XP : (Str → Option Value) → Heap → Prop} {YP : World → Heap → Prop} {d : DefRec} {K : Params → PySem.W.Frag} {sp : PySem.W.Frag → Sp} {x : Str}
    (most : l.most = some n) (line : n ≤ sizeLine) (nodef : d.params.defaults = []) (room : Room k callerA) (hY : ∀ (w : World) (h : Heap), YP w h → (K w.params).In h)
    (F : ∀ (w : World) (mg : Str → Option Value) (fa : Addr) (h : Heap), (K w.params).In h → h.Ns mainGlobals mg → mg d.name = some (.ref fa) →
      ∃ fd : FuncData, (∀ (s : Shared) (u : Value), BindsTo s fd ⟨[u], []⟩ [(x, u)]) ∧ ∀ base : Heap, (K w.params).In base → base.Ns mainGlobals mg → FnG l.prog w (K w.params) mg base CX0 k fa fd [x] (sp (K w.params)))
    (prom : ∀ (K : PySem.W.Frag) (H : Hp) (a : Addr) (ns : List Int), ns.length ≤ n → SqL K H a (ns.map V.int) → sp K [.ref a] H (fun v _ => v = .bl true) fun _ _ _ => False) :
    PySem.W.WalkO q loose XP YP l.row.toRowW d [] (fun f vs => PySem.call f vs) := by
  refine Att.attach_call most nodef fun w s0 s1 mg mb fa o pm cd doc a vs ns G Y ho hd hcd hmg hobj hints hlen hg => ?_
  obtain ⟨fd, hb, hF⟩ := F w mg fa _ (hY w _ Y) G.T.g hmg
  exact call_law_g (hY w _ Y) G.T.g G.T.b G.T.builtins G.T.nolimit hg hobj hints (Nat.le_trans hlen line) room hF hb fun H hS => prom _ H a ns hlen hS
/-! ### repr -/
/-- repr of data: None, truths, numbers, texts, lists and tuples of them -/
def rRepr (K : PySem.W.Frag) : List V → Hp → VK → Prop := fun xs H Q => ∃ (a : Addr) (d : PyData), xs = [.ref a] ∧ Dp K H (.ref a) d ∧ d.showable = true ∧ d.hasDict = false ∧ d.depth ≤ 60 ∧ d.shown.length ≤ sizeLine ∧ Q (.str d.shown) H
theorem call_repr {X : Cx} {K : PySem.W.Frag} {k : Nat} (hr : Room k X.A) (hg : X.A.guards = some []) (hK : X.K = K) : CallR X (.builtin "repr") (rRepr K) := by
  subst hK
  intro pins s σ H xs us Q I r h
  obtain ⟨a, d, rfl, hd, sh, nd, dp, sz, q⟩ := h
  obtain ⟨u, rfl, ru⟩ := vals1 r
  obtain ⟨as, rd⟩ := Dp.reads I d _ _ hd ru
  cases ru
  refine repr_of_reads' rd sh (fun z => absurd (nd.symm.trans z) Bool.false_ne_true) hg (by have := hr.units; omega) (fun _ _ e => e) (fun h' u tk keep => ?_) sz
  exact ⟨.str d.shown, H, I.kept keep, ⟨_, rfl⟩, q⟩
end Cm

set_option Elab.async false
set_option linter.all false
set_option maxRecDepth 100000
set_option maxHeartbeats 4000000
namespace Cm
open PySem PySem.Spec PyProof.Rows L2
/-! ### kinds of things -/
inductive Kd where
  | non | bl (b : Bool) | int (i : Int) | str (s : Str) | lst | tup (xs : List V) | dct
inductive HasK (H : Hp) : V → Kd → Prop where
  | non : HasK H .non .non
  | bl (b : Bool) : HasK H (.bl b) (.bl b)
  | int (i : Int) : HasK H (.int i) (.int i)
  | str (s : Str) : HasK H (.str s) (.str s)
  | lst {a : Addr} {xs : List V} (h : H a = some (.lst xs)) : HasK H (.ref a) .lst
  | tup {a : Addr} {xs : List V} (h : H a = some (.tup xs)) : HasK H (.ref a) (.tup xs)
  | dct {a : Addr} {kvs : List (Key × V)} (h : H a = some (.dK kvs)) : HasK H (.ref a) .dct
/-- tuples stay, lists stay lists, dicts dicts -/
structure Ext (H H' : Hp) : Prop where
  t : ∀ b xs, H b = some (.tup xs) → H' b = some (.tup xs)
  l : ∀ b xs, H b = some (.lst xs) → ∃ ys, H' b = some (.lst ys)
  d : ∀ b kvs, H b = some (.dK kvs) → ∃ kvs', H' b = some (.dK kvs')
theorem Ext.refl (H : Hp) : Ext H H := ⟨fun _ _ h => h, fun _ _ h => ⟨_, h⟩, fun _ _ h => ⟨_, h⟩⟩
theorem Ext.trans {H H1 H2 : Hp} (a : Ext H H1) (b : Ext H1 H2) : Ext H H2 :=
  ⟨fun x xs h => b.t x xs (a.t x xs h), fun x xs h => let ⟨ys, e⟩ := a.l x xs h; b.l x ys e, fun x xs h => let ⟨ys, e⟩ := a.d x xs h; b.d x ys e⟩
theorem Ext.same {H H' : Hp} (h : Same H H') : Ext H H' := ⟨fun b _ e => h b _ e, fun b _ e => ⟨_, h b _ e⟩, fun b _ e => ⟨_, h b _ e⟩⟩
theorem Ext.lst {H : Hp} {a : Addr} {xs ys : List V} (h : H a = some (.lst xs)) : Ext H (upd H a (.lst ys)) := by
  refine ⟨fun b zs e => ?_, fun b zs e => ?_, fun b zs e => ?_⟩
  · rw [upd_ne (ne_of e h (by intro z; cases z))]
    exact e
  · by_cases hb : b = a
    · exact ⟨ys, by rw [hb, upd_same]⟩
    · exact ⟨zs, by rw [upd_ne hb]; exact e⟩
  · exact ⟨zs, by rw [upd_ne (ne_of e h (by intro z; cases z))]; exact e⟩
theorem HasK.ext {H H' : Hp} {v : V} {k : Kd} (h : HasK H v k) (e : Ext H H') : HasK H' v k := by
  cases h with
  | non => exact .non
  | bl b => exact .bl b
  | int i => exact .int i
  | str s => exact .str s
  | lst h => obtain ⟨ys, q⟩ := e.l _ _ h; exact .lst q
  | tup h => exact .tup (e.t _ _ h)
  | dct h => obtain ⟨ys, q⟩ := e.d _ _ h; exact .dct q
def tyK : Kd → String
  | .non => "NoneType" | .bl _ => "bool" | .int _ => "int" | .str _ => "str" | .lst => "list" | .tup _ => "tuple" | .dct => "dict"
theorem HasK.ty {K : PySem.W.Frag} {H : Hp} {v : V} {k : Kd} (h : HasK H v k) : TyX K H v (.type (tyK k)) := by
  cases h with
  | non => exact .base .non
  | bl b => exact .base (.bl b)
  | int i => exact .base (.int i)
  | str s => exact .base (.str s)
  | lst h => exact .base (.lst h)
  | tup h => exact .base (.tup h)
  | dct h => exact .base (.dK h)
def isTupK : Kd → Bool
  | .tup _ => true | _ => false
def isIntK : Kd → Bool
  | .int _ => true | .bl _ => true | _ => false
def isBoolK : Kd → Bool
  | .bl _ => true | _ => false
def isStrK : Kd → Bool
  | .str _ => true | _ => false
def wholeK : Kd → Bool
  | .int _ => true | _ => false
theorem kit_tup : ∀ k : Kd, kitB (tyK k) "tuple" = some (isTupK k)
  | .non => (by decide +kernel : kitB "NoneType" "tuple" = some false)
  | .bl _ => (by decide +kernel : kitB "bool" "tuple" = some false)
  | .int _ => (by decide +kernel : kitB "int" "tuple" = some false)
  | .str _ => (by decide +kernel : kitB "str" "tuple" = some false)
  | .lst => (by decide +kernel : kitB "list" "tuple" = some false)
  | .tup _ => (by decide +kernel : kitB "tuple" "tuple" = some true)
  | .dct => (by decide +kernel : kitB "dict" "tuple" = some false)
theorem kit_int : ∀ k : Kd, kitB (tyK k) "int" = some (isIntK k)
  | .non => (by decide +kernel : kitB "NoneType" "int" = some false)
  | .bl _ => (by decide +kernel : kitB "bool" "int" = some true)
  | .int _ => (by decide +kernel : kitB "int" "int" = some true)
  | .str _ => (by decide +kernel : kitB "str" "int" = some false)
  | .lst => (by decide +kernel : kitB "list" "int" = some false)
  | .tup _ => (by decide +kernel : kitB "tuple" "int" = some false)
  | .dct => (by decide +kernel : kitB "dict" "int" = some false)
theorem kit_bool : ∀ k : Kd, kitB (tyK k) "bool" = some (isBoolK k)
  | .non => (by decide +kernel : kitB "NoneType" "bool" = some false)
  | .bl _ => (by decide +kernel : kitB "bool" "bool" = some true)
  | .int _ => (by decide +kernel : kitB "int" "bool" = some false)
  | .str _ => (by decide +kernel : kitB "str" "bool" = some false)
  | .lst => (by decide +kernel : kitB "list" "bool" = some false)
  | .tup _ => (by decide +kernel : kitB "tuple" "bool" = some false)
  | .dct => (by decide +kernel : kitB "dict" "bool" = some false)
theorem kit_str : ∀ k : Kd, kitB (tyK k) "str" = some (isStrK k)
  | .non => (by decide +kernel : kitB "NoneType" "str" = some false)
  | .bl _ => (by decide +kernel : kitB "bool" "str" = some false)
  | .int _ => (by decide +kernel : kitB "int" "str" = some false)
  | .str _ => (by decide +kernel : kitB "str" "str" = some true)
  | .lst => (by decide +kernel : kitB "list" "str" = some false)
  | .tup _ => (by decide +kernel : kitB "tuple" "str" = some false)
  | .dct => (by decide +kernel : kitB "dict" "str" = some false)
section
variable {X : Cx} {K : PySem.W.Frag}
/-! ### the rules of the layer over a named K (so that they serve within a comprehension too) -/
theorem isi_K (hK : X.K = K) : CallR X (.builtin "isinstance") (rIsi K) := by
  subst hK
  exact call_isi
def rLenK (K : PySem.W.Frag) : List V → Hp → VK → Prop := fun xs H Q => ∃ p ys, xs = [.ref p] ∧ (SqL K H p ys ∨ SqT K H p ys) ∧ Q (.int ys.length) H
theorem len_K (hK : X.K = K) : CallR X (.builtin "len") (rLenK K) := by
  subst hK
  exact call_len_seq
theorem sl_K (hK : X.K = K) : SlR X (rSlA K) := by
  subst hK
  exact sl_tupA
theorem cat_K (hK : X.K = K) : OpR X (binaryOp .Add) (rCatA K) := by
  subst hK
  exact op_catA
theorem ixT_K (hK : X.K = K) : IxR X (rIxT K) := by
  subst hK
  exact ix_tup
theorem ixL_K (hK : X.K = K) : IxR X (rIxL K) := by
  subst hK
  exact ix_list
def rTupOf (K : PySem.W.Frag) : List V → Hp → VK → Prop := fun xs H Q => ∃ p ys, xs = [.ref p] ∧ ((SqL K H p ys ∧ ∀ l, H l = none → Q (.ref l) (upd H l (.tup ys))) ∨ (SqT K H p ys ∧ Q (.ref p) H))
/-! ### x == 'text', whatever x is -/
def eqK : Kd → Str → Bool
  | .str w, s => decide (w = s)
  | _, _ => false
theorem dict_eq_declines_text (l : Addr) (es : Array DictEntry) (n : Nat) (dd : Option Addr) (sl : Array (Option Value)) (b : Str) (u : Tok) :
    Meets (Builtin.«dict.__eq__» ⟨[.ref l, .str b u], []⟩) (fun _ R s => s.heap.get? l = some { cls := .type "dict", dict := dd, data := .dict es n, slots := sl } ∧ R (.ok (.ret .notImplemented)) s) :=
  .of_wp fun prog w A R s h => by obtain ⟨hp, g, d, tk, os⟩ := s; obtain ⟨hl, h⟩ := h; have f1 := F.sub_str_dict; wp_walk using AutoSeq1.wpAny_loadPart' hl; exact ⟨_, rfl, h⟩
theorem str_eq_declines_dict (b : Str) (u : Tok) (l : Addr) (c : Value) (es : Array DictEntry) (n : Nat) (dd : Option Addr) (sl : Array (Option Value)) :
    Meets (Builtin.«str.__eq__» ⟨[.str b u, .ref l], []⟩) (fun _ R s => s.heap.get? l = some { cls := c, dict := dd, data := .dict es n, slots := sl } ∧ R (.ok (.ret .notImplemented)) s) :=
  .of_wp fun prog w A R s h => by obtain ⟨hp, g, d, tk, os⟩ := s; obtain ⟨hl, h⟩ := h; wp_walk using AutoSeq1.wpAny_loadPart' hl, wpAny_load hl; exact ⟨_, rfl, h⟩
theorem rc_dict_str {A : Around} {s : Shared} {l : Addr} {o : Obj} {es : Array DictEntry} {n : Nat} (b : Str) (u : Tok) (ho : s.heap.get? l = some o) (hc : o.cls = .type "dict") (hd : o.data = .dict es n) (hu : A.units < cLine) : SeqAt.RcAt A s (.ref l) (.str b u) false := fun prog w E Q h => by
  obtain ⟨cls, dd, data, sl⟩ := o
  simp only at hc hd
  subst hc hd
  exact SeqAt.rc_eq_decline_or (k := false) ⟨_, ho, rfl⟩ (typeIs_str s b u) (by decide) F.sub_str_dict F.slot_dict_eq F.slot_str_eq_refl
    (fun _ hq => call_meets F.slot_dict_eq ⟨_, ho, rfl⟩ F.entry_dict_eq (F.args_dict_eq_2 _ _) (dict_eq_declines_text l es n dd sl b u) ⟨ho, hq⟩)
    (fun _ hq => call_meets F.slot_str_eq_refl (typeIs_str s b u) F.entry_str_eq (F.args_str_eq_2 _ _) (str_eq_declines_dict b u l (.type "dict") es n dd sl) ⟨ho, hq⟩)
    (fun _ hq => wpAny_pure hq) (.inr hu) h
def rEqK : R2 := fun x y H Q => ∃ k s, HasK H x k ∧ y = .str s ∧ Q (.bl (eqK k s)) H
theorem op_eqK {k : Nat} (hr : Room k X.A) : OpR X (compareOp .Eq) rEqK := by
  intro pins s σ H x y v u Q I rx ry h
  obtain ⟨kd, w, hk, rfl, q⟩ := h
  have hu := hr.units0
  cases hk with
  | non => exact op_eq pins s σ H _ _ v u Q I rx ry ⟨rfl, by simpa [eqK] using q⟩
  | bl b => exact op_eq pins s σ H _ _ v u Q I rx ry ⟨rfl, by simpa [eqK] using q⟩
  | int i => exact op_eq pins s σ H _ _ v u Q I rx ry ⟨rfl, by simpa [eqK] using q⟩
  | str z => exact op_eq pins s σ H _ _ v u Q I rx ry ⟨rfl, by simpa [eqK] using q⟩
  | lst h =>
    cases rx
    obtain ⟨t, rfl⟩ := ry
    obtain ⟨its, r, p, _⟩ := I.list (SqL.of h)
    exact SeqAt.RcAt.list_str w t p.isList hu _ _ _ _ ⟨.bl false, H, I, rfl, q⟩
  | tup h =>
    cases rx
    obtain ⟨t, rfl⟩ := ry
    obtain ⟨its, r, p, _⟩ := I.tuple (SqT.of h)
    exact SeqAt.RcAt.tuple_str w t p hu _ _ _ _ ⟨.bl false, H, I, rfl, q⟩
  | @dct a kvs h =>
    cases rx
    obtain ⟨t, rfl⟩ := ry
    obtain ⟨_, _, vs, _, o, es, ep, h1, h2, h3, _⟩ := (show ObjOk X.prog X.w H s.heap a (.dK kvs) from I.hok a _ h)
    exact rc_dict_str w t h1 h2.1 h3 hu _ _ _ _ ⟨.bl false, H, I, rfl, q⟩
/-! ### t == () -/
def rEqE : R2 := fun x y H Q => ∃ a b xs, x = .ref a ∧ y = .ref b ∧ H a = some (.tup xs) ∧ H b = some (.tup []) ∧ Q (.bl xs.isEmpty) H
theorem op_eqE {k : Nat} (hr : Room k X.A) : OpR X (compareOp .Eq) rEqE := by
  intro pins s σ H x y v u Q I rx ry h
  obtain ⟨a, b, xs, rfl, rfl, ha, hb, q⟩ := h
  cases rx
  cases ry
  obtain ⟨its, r1, p1, _⟩ := I.tuple (SqT.of ha)
  obtain ⟨its2, r2, p2, _⟩ := I.tuple (SqT.of hb)
  cases r2
  refine SeqAt.eq_tupleAt (e := fun _ => true) p1 p2 hr.units0 (fun j h1 h2 => absurd h2 (by simp)) ?_
  have hl := r1.length
  have e : ((List.range (min its.toArray.size ([] : List Value).toArray.size)).all (fun _ => true) && its.toArray.size == ([] : List Value).toArray.size) = xs.isEmpty := by
    cases xs with
    | nil =>
      cases r1
      rfl
    | cons x t =>
      cases r1
      simp
  rw [e]
  exact ⟨.bl _, H, I, rfl, q⟩
end
/-! ### t[::-1] -/
section
variable {prog : Program} {w : World} {A : Around} {E : Value → Shared → Prop} {s : Shared}
theorem back_applied {sl : Addr} {vk : Value} {n : Nat} {Q : Int × Int × Nat → Shared → Prop} (hs : s.heap.IsSliceOf sl .none .none vk) (pk : IsPart vk (some (-1))) (h : Q ((n : Int) - 1, -1, n) s) :
    wpAny (model prog w) A (Builtin.Slice.sliceApplied (.ref sl) (pure (n : Int))) Q E s := by
  obtain ⟨os, hos, hcs, hds⟩ := _root_.id hs
  unfold Builtin.Slice.sliceApplied Builtin.Slice.sliceFields
  refine wpAny_bind (wpAny_bind (wpAny_field hos hds (x := .none) rfl (wpAny_bind (wpAny_field hos hds (x := .none) rfl (wpAny_bind (wpAny_field hos hds (x := vk) rfl (wpAny_pure ?_)))))))
  refine wpAny_bind (HT.slicePart_ pk ?_)
  show wpAny _ _ (if ((-1 : Int) == 0) = true then _ else _) _ _ s
  rw [if_neg (by decide)]
  refine wpAny_bind (slicePart_none (wpAny_bind (slicePart_none (wpAny_bind (wpAny_pure ?_)))))
  have e1 : Builtin.Slice.sliceAdjust none none (-1) (n : Int) = ((n : Int) - 1, -1) := rfl
  have e2 : Builtin.Slice.slicePlaces ((n : Int) - 1) (-1) (-1) = n := by
    unfold Builtin.Slice.slicePlaces
    have h1 : ¬ ((-1 : Int) > 0) := by omega
    simp only [h1, if_false]
    split
    · rw [show (- (-1 : Int)) = 1 from rfl, Int.ediv_one]
      omega
    · omega
  show wpAny _ _ (pure ((Builtin.Slice.sliceAdjust none none (-1) (n : Int)).1, (-1 : Int), Builtin.Slice.slicePlaces (Builtin.Slice.sliceAdjust none none (-1) (n : Int)).1 (Builtin.Slice.sliceAdjust none none (-1) (n : Int)).2 (-1))) _ _ s
  rw [e1]
  show wpAny _ _ (pure ((n : Int) - 1, (-1 : Int), Builtin.Slice.slicePlaces ((n : Int) - 1) (-1) (-1))) _ _ s
  rw [e2]
  exact wpAny_pure h
theorem fm_some {α β : Type} {f : α → Option β} {g : α → β} : ∀ {l : List α}, (∀ a ∈ l, f a = some (g a)) → l.filterMap f = l.map g
  | [], _ => rfl
  | a :: r, h => by
    rw [List.filterMap_cons, h a (List.mem_cons.mpr (.inl rfl))]
    show g a :: r.filterMap f = g a :: r.map g
    rw [fm_some fun x hx => h x (List.mem_cons.mpr (.inr hx))]
theorem back_pick (xs : Array Value) : ((List.range xs.size).filterMap fun (m : Nat) => xs[(((xs.size : Int) - 1) + (m : Int) * (-1)).toNat]?).toArray = xs.toList.reverse.toArray := by
  congr 1
  have e : ((List.range xs.size).filterMap fun (m : Nat) => xs[(((xs.size : Int) - 1) + (m : Int) * (-1)).toNat]?) = (List.range xs.size).map (fun m => (xs.toList[xs.size - 1 - m]?).getD .none) := by
    refine fm_some fun m hm => ?_
    have hlt := List.mem_range.mp hm
    have e1 : (((xs.size : Int) - 1) + (m : Int) * (-1)).toNat = xs.size - 1 - m := by omega
    rw [e1, ← Array.getElem?_toList, List.getElem?_eq_getElem (by rw [Array.length_toList]; omega)]
    rfl
  rw [e]
  refine List.ext_getElem (by simp) fun i h1 h2 => ?_
  have h3 : i < xs.size := by simpa using h1
  rw [List.getElem_map, List.getElem_range, List.getElem_reverse, List.getElem?_eq_getElem (by rw [Array.length_toList]; omega)]
  simp
theorem tup_back {t sl : Addr} {items : Array Value} {vk : Value} {Q : Value → Shared → Prop} (ht : IsTup s.heap t items) (hs : s.heap.IsSliceOf sl .none .none vk) (pk : IsPart vk (some (-1)))
    (h : Q (.ref s.heap.objs.size) { s with heap := s.heap.push { cls := .type "tuple", data := .seq items.toList.reverse.toArray } }) (hsz : items.size ≤ sizeLine) : wpAny (model prog w) A (getItem (.ref t) (.ref sl)) Q E s := by
  have fits : sizeOk (.seq items.toList.reverse.toArray) := by
    show items.toList.reverse.toArray.size ≤ sizeLine
    rw [List.size_toArray, List.length_reverse, Array.length_toList]
    exact hsz
  obtain ⟨os, hos, hcs, hds⟩ := _root_.id hs
  have hTs : s.TypeIs (.ref sl) "slice" := ⟨os, hos, hcs⟩
  unfold getItem
  try with_reducible refine wpAny_holding ?_
  first | refine wpAny_bind (wpAny_pure ?_) | skip
  refine wpAny_bind (wpAny_sequenceKey ht.typeIs (by decide) ?_)
  refine wpAny_bind (wpAny_callSpecial?_slot (name := Str.ofString "__getitem__") ht.typeIs PyProof.Rows.slot_tuple_getitem (wpAny_call_entry PyProof.Rows.slot_tuple_getitem ht.typeIs entry_tuple_getitem ?_ (args_tuple_getitem _ _)))
  show wpAny _ _ (Builtin.Tuple.tupleItemsOf (.ref t) >>= _) _ _ s
  refine wpAny_bind (tupleItemsOf_ ht (wpAny_bind (wpAny_typeOf hTs ?_)))
  rw [if_pos (by decide)]
  refine wpAny_bind (back_applied (n := items.size) hs pk ?_)
  have hno : ¬ ((((items.size : Int) - 1) == 0 && (-1 : Int) == 1 && items.size == items.size) = true) := by simp
  show wpAny _ _ (if (((items.size : Int) - 1) == 0 && (-1 : Int) == 1 && items.size == items.size) = true then _ else _) _ _ s
  rw [if_neg hno, back_pick]
  first
    | exact wpAny_bind (m := Builtin.Tuple.tupleExact _) (wpAny_newObj_type (wpAny_pure ⟨_, rfl, wpAny_pure h⟩) fits)
    | exact wpAny_bind (m := Builtin.Tuple.tupleExact _) (wpAny_newObj_type (wpAny_bind (wpAny_pure (wpAny_pure ⟨_, rfl, wpAny_pure h⟩))) fits)
    | exact wpAny_bind (wpAny_bind (m := Builtin.Tuple.tupleExact _) (wpAny_newObj_type (wpAny_pure (wpAny_pure ⟨_, rfl, wpAny_pure h⟩)) fits))
    | exact wpAny_bind (wpAny_bind (m := Builtin.Tuple.tupleExact _) (wpAny_newObj_type (wpAny_pure ⟨_, rfl, wpAny_pure h⟩) fits))
end
section
variable {X : Cx}
def tRevT (K : PySem.W.Frag) (te : TE) : TE := fun σ H Q => te σ H fun x H1 => ∃ a xs, x = .ref a ∧ SqT K H1 a xs ∧ ∀ p, H1 p = none → Q (.ref p) (upd H1 p (.tup xs.reverse))
theorem pe_revT {e : Expr} {te : TE} {k : Nat} {p1 p2 p3 pos : Pos} (he : PE X e te) : PE X (.Subscript e (.Slice none none (some (.UnaryOp .USub (.Constant (.int 1) k p1) p2)) p3) pos) (tRevT X.K te) := by
  refine ⟨fun pins s σ H Q I h => Subscript_ (thn (he.run pins s σ H _ I h) fun v s1 out => ?_)⟩
  obtain ⟨x, H1, I1, r1, a, xs, rfl, hx, q⟩ := out
  cases r1
  have part : PO X (some (.UnaryOp .USub (.Constant (.int 1) k p1) p2)) (tPart (tUn (rU fun i => .int (-i)) (tC (.int 1)))) := po_some (pe_un un_neg pe_int)
  refine wpAny_Slice ?_
  rw [evalPart_none]
  refine wpAny_pure (wpAny_pure ?_)
  refine thn (part.run pins s1 σ H1 (fun o H4 => o = some (-1) ∧ H4 = H1) I1 ⟨1, rfl, -1, rfl, rfl, rfl⟩) fun vk s4 out => ?_
  obtain ⟨o, H4, I4, pk, rfl, rfl⟩ := out
  have I5 : Inv X pins σ H4 { s4 with heap := s4.heap.push { cls := .type "slice", data := .fields #[.none, .none, vk] } } := I4.kept (t' := s4.toks) fun b ob z => Heap.get?_push_of_some _ z
  obtain ⟨its, r, ht, hz⟩ := I5.tuple hx
  have hlen := r.length
  show wpAny (model X.prog X.w) X.A (subscriptTail e (.Slice none none (some (.UnaryOp .USub (.Constant (.int 1) k p1) p2)) p3) (.ref a) (.ref s4.heap.objs.size)) (EP X pins σ Q) X.xe { s4 with heap := s4.heap.push { cls := .type "slice", data := .fields #[.none, .none, vk] } }
  refine tail_any (ops := [.ref a, .ref s4.heap.objs.size]) ht.typeIs PyProof.Rows.slot_tuple_getitem.lookup ?_ (by with_unfolding_all rfl)
  refine tup_back ht (Heap.IsSliceOf.new _ .none .none vk) pk ?_ (by rw [List.size_toArray]; omega)
  refine ⟨.ref _, _, I5.laid (t' := s4.toks) (o := .tup xs.reverse) (fun b ob z => Heap.get?_push_of_some _ z) (Nat.le_refl _) ?_, rfl, q _ (I5.hok.fresh (Nat.le_refl _))⟩
  exact ⟨by rw [List.length_reverse]; exact hz, _, r.reverse, _, Heap.get?_push_size _ rfl, rfl, 0, rfl⟩
end
section
end
end Cm

set_option Elab.async false
set_option linter.all false
set_option maxRecDepth 100000
set_option maxHeartbeats 4000000
namespace Cm
open PySem PySem.Spec PyProof.Rows L2
/-! ### the drawing list: left, seed, count -/
def LP (H : Hp) (p : Addr) : Prop := ∃ x y z : Int, H p = some (.lst [.int x, .int y, .int z])
theorem LP.same {H H' : Hp} {p : Addr} (h : LP H p) (s : Same H H') : LP H' p := by
  obtain ⟨x, y, z, e⟩ := h
  exact ⟨x, y, z, s _ _ e⟩
theorem LP.but {H H' : Hp} {p q : Addr} (h : LP H p) (s : But q H H') (n : p ≠ q) : LP H' p := by
  obtain ⟨x, y, z, e⟩ := h
  exact ⟨x, y, z, s _ _ n e⟩
def rPenL (K : PySem.W.Frag) : V → V → Hp → VK → Prop := fun x y H Q => ∃ (a : Addr) (ns : List Int) (k : Int), x = .ref a ∧ y = .int k ∧ SqL K H a (ns.map V.int) ∧ 0 ≤ k ∧ ∀ p H', H p = none → Same H H' → LP H' p → Q (.ref p) H'
def rDrawL : V → V → Hp → VK → Prop := fun a b H Q => ∃ (p : Addr) (many : Int), a = .ref p ∧ b = .int many ∧ LP H p ∧ 0 < many ∧ many < 1073741824 ∧ ∀ r H', 0 ≤ r → r < many → LP H' p → But p H H' → Ext H H' → Q (.int r) H'
theorem cellL {ns : List Int} {i : Int} (h0 : 0 ≤ i) (h1 : i < ((ns.map V.int).length : Int)) : ∃ z, atI (ns.map V.int) i = some (.int z) := by
  rw [List.length_map] at h1
  have hj : i.toNat < ns.length := by omega
  refine ⟨ns[i.toNat], ?_⟩
  have e : ((i.toNat : Nat) : Int) = i := by omega
  have q : atI (ns.map V.int) ((i.toNat : Nat) : Int) = some (.int ns[i.toNat]) := atI_nat (by rw [List.getElem?_map, List.getElem?_eq_getElem hj]; rfl)
  rw [e] at q
  exact q
theorem eq_yes {i j : Int} (e : decide (V.int i = V.int j) = true) : i = j := V.int.inj (of_decide_eq_true e)
theorem eq_no {i j : Int} (e : ¬ decide (V.int i = V.int j) = true) : i ≠ j := fun z => e (by rw [z]; exact decide_eq_true rfl)
theorem ne_yes {i j : Int} (e : (!decide (V.int i = V.int j)) = true) : i ≠ j := fun z => by
  rw [z, decide_eq_true rfl] at e
  exact Bool.noConfusion e
theorem ne_no {i j : Int} (e : ¬ (!decide (V.int i = V.int j)) = true) : i = j := by
  by_cases h : i = j
  · exact h
  · exact absurd (by rw [decide_eq_false fun z => h (V.int.inj z)]; rfl) e
theorem q587 : (0 : Int) < 2147483587 := by decide
theorem q647 : (0 : Int) < 2147483647 := by decide
theorem q629 : (0 : Int) < 2147483629 := by decide
theorem q521 : (0 : Int) < 65521 := by decide
theorem p15 : (0 : Int) < 10 ^ (15 : Int).toNat := by decide
end Cm

set_option Elab.async false
set_option linter.all false
set_option maxRecDepth 100000
set_option maxHeartbeats 4000000
namespace Cm
open PySem PySem.Spec PyProof.Rows L2
/-! ### what a step is, by kinds -/
def numK (many : Int) : Kd → Bool
  | .int i => decide (0 ≤ i) && decide (i < many)
  | _ => false
def unlikeK (many : Int) : Kd → Kd → Bool
  | .int i, .int j => (decide (0 ≤ i) && decide (i < many)) && ((decide (0 ≤ j) && decide (j < many)) && !decide (V.int i = V.int j))
  | _, _ => false
def addK (many : Int) : List Kd → Bool
  | [a, b, c] => unlikeK many a b && wholeK c
  | _ => false
def swapK (many : Int) : List Kd → Bool
  | [a, b] => unlikeK many a b
  | _ => false
def turnK (many : Int) : List Kd → Bool
  | [a] => numK many a
  | _ => false
def stepK (many : Int) : List Kd → Bool
  | [] => false
  | k :: r => if eqK k "add" = true then addK many r else if eqK k "swap" = true then swapK many r else if eqK k "turn" = true then turnK many r else false
def stepO (many : Int) : Option (List Kd) → Bool
  | none => false
  | some ks => stepK many ks
/-- the kinds of a tuple's items; none of what is no tuple -/
def KsOf (H : Hp) (v : V) : Option (List Kd) → Prop
  | none => ∃ k, HasK H v k ∧ isTupK k = false
  | some ks => ∃ a xs, v = .ref a ∧ H a = some (.tup xs) ∧ Paired (HasK H) xs ks
theorem KsOf.ext {H H' : Hp} {v : V} : ∀ {o : Option (List Kd)}, KsOf H v o → Ext H H' → KsOf H' v o
  | none, ⟨k, h1, h2⟩, e => ⟨k, h1.ext e, h2⟩
  | some ks, ⟨a, xs, h1, h2, h3⟩, e => ⟨a, xs, h1, e.t _ _ h2, Paired.mapP h3 fun _ _ z => z.ext e⟩
/-- a tuple of at most n things of known kinds -/
def TK (n : Nat) (H : Hp) (v : V) : Prop := ∃ a xs, v = .ref a ∧ H a = some (.tup xs) ∧ xs.length ≤ n ∧ ∀ x ∈ xs, ∃ k, HasK H x k
theorem TK.ext {n : Nat} {H H' : Hp} {v : V} (h : TK n H v) (e : Ext H H') : TK n H' v := by
  obtain ⟨a, xs, h1, h2, h3, h4⟩ := h
  exact ⟨a, xs, h1, e.t _ _ h2, h3, fun x hx => let ⟨k, q⟩ := h4 x hx; ⟨k, q.ext e⟩⟩
/-- a thing of known kind, a tuple of such things -/
def Gd (H : Hp) (v : V) : Prop := ∃ o, KsOf H v o
theorem Gd.ext {H H' : Hp} {v : V} (h : Gd H v) (e : Ext H H') : Gd H' v := let ⟨o, q⟩ := h; ⟨o, q.ext e⟩
theorem kinds_of {H : Hp} : ∀ {xs : List V}, (∀ x ∈ xs, ∃ k, HasK H x k) → ∃ ks, Paired (HasK H) xs ks
  | [], _ => ⟨[], .nil⟩
  | x :: r, h => by
    obtain ⟨k, hk⟩ := h x (List.mem_cons.mpr (.inl rfl))
    obtain ⟨ks, hks⟩ := kinds_of fun y hy => h y (List.mem_cons.mpr (.inr hy))
    exact ⟨k :: ks, .cons hk hks⟩
theorem TK.gd {n : Nat} {H : Hp} {v : V} (h : TK n H v) : Gd H v := by
  obtain ⟨a, xs, h1, h2, _, h4⟩ := h
  obtain ⟨ks, hks⟩ := kinds_of h4
  exact ⟨some ks, a, xs, h1, h2, hks⟩
theorem HasK.gd {H : Hp} {v : V} {k : Kd} (h : HasK H v k) (hk : isTupK k = false) : Gd H v := ⟨none, k, h, hk⟩
/-! ### slices and sums of such tuples -/
theorem cut_mem {xs : List V} {lo hi : Option Int} {x : V} (h : x ∈ cutV xs lo hi) : x ∈ xs := List.mem_of_mem_drop (List.mem_of_mem_take h)
theorem sl_TK {K : PySem.W.Frag} {n : Nat} {H : Hp} {v : V} {lo hi : Option Int} {Q : VK} (h : TK n H v) (q : ∀ v' H', Same H H' → TK n H' v' → Q v' H') : rSlA K v lo hi H Q := by
  obtain ⟨a, xs, rfl, h2, h3, h4⟩ := id h
  refine ⟨a, xs, rfl, SqT.of h2, fun _ => q _ _ (Same.refl H) h, fun _ p hp => q _ _ (same_new hp) ⟨p, _, rfl, upd_same, Nat.le_trans (cutV_length _ _ _) h3, fun x hx => ?_⟩⟩
  obtain ⟨k, hk⟩ := h4 x (cut_mem hx)
  exact ⟨k, hk.ext (Ext.same (same_new hp))⟩
theorem cat_TK {K : PySem.W.Frag} {n m : Nat} {H : Hp} {v u : V} {Q : VK} (h : TK n H v) (h' : TK m H u) (hs : n + m ≤ 1000) (q : ∀ v' H', Same H H' → TK (n + m) H' v' → Q v' H') : rCatA K v u H Q := by
  obtain ⟨a, xs, rfl, h2, h3, h4⟩ := id h
  obtain ⟨b, ys, rfl, k2, k3, k4⟩ := id h'
  have up1 : TK (n + m) H (.ref a) := ⟨a, xs, rfl, h2, by omega, h4⟩
  have up2 : TK (n + m) H (.ref b) := ⟨b, ys, rfl, k2, by omega, k4⟩
  refine ⟨a, b, xs, ys, rfl, rfl, SqT.of h2, SqT.of k2, Nat.le_of_lt (small1000 (by omega)), fun _ => q _ _ (Same.refl H) up2, fun _ _ => q _ _ (Same.refl H) up1, fun _ _ p hp => q _ _ (same_new hp) ⟨p, _, rfl, upd_same, ?_, fun x hx => ?_⟩⟩
  · rw [List.length_append]
    omega
  · rcases List.mem_append.mp hx with z | z
    · obtain ⟨k, hk⟩ := h4 x z
      exact ⟨k, hk.ext (Ext.same (same_new hp))⟩
    · obtain ⟨k, hk⟩ := k4 x z
      exact ⟨k, hk.ext (Ext.same (same_new hp))⟩
theorem one_TK {H : Hp} {p : Addr} {x : V} {k : Kd} (hp : H p = none) (hk : HasK H x k) : TK 1 (upd H p (.tup [x])) (.ref p) :=
  ⟨p, [x], rfl, upd_same, Nat.le_refl _, fun y hy => ⟨k, by rw [List.mem_singleton.mp hy]; exact hk.ext (Ext.same (same_new hp))⟩⟩
/-! ### a step by kinds: what isn't whole makes none -/
theorem not_whole_num {many : Int} {k : Kd} (h : wholeK k = false) : numK many k = false := by cases k <;> first | rfl | exact absurd h (by simp [wholeK])
theorem not_whole_l {many : Int} {k k' : Kd} (h : wholeK k = false) : unlikeK many k k' = false := by cases k <;> first | rfl | exact absurd h (by simp [wholeK])
theorem not_whole_r {many : Int} {k k' : Kd} (h : wholeK k' = false) : unlikeK many k k' = false := by
  cases k <;> cases k' <;> first | rfl | exact absurd h (by simp [wholeK])
theorem step_not_whole {many : Int} {k0 : Kd} {r : List Kd} {k : Kd} (hm : k ∈ r) (h : wholeK k = false) : stepK many (k0 :: r) = false := by
  have ha : addK many r = false := by
    rcases r with _ | ⟨a, _ | ⟨b, _ | ⟨c, _ | ⟨d, r⟩⟩⟩⟩ <;> first | rfl | skip
    show (unlikeK many a b && wholeK c) = false
    rcases List.mem_cons.mp hm with rfl | hm
    · rw [not_whole_l h]
      rfl
    rcases List.mem_cons.mp hm with rfl | hm
    · rw [not_whole_r h]
      rfl
    rw [List.mem_singleton.mp hm] at h
    rw [h, Bool.and_false]
  have hs : swapK many r = false := by
    rcases r with _ | ⟨a, _ | ⟨b, _ | ⟨c, r⟩⟩⟩ <;> first | rfl | skip
    show unlikeK many a b = false
    rcases List.mem_cons.mp hm with rfl | hm
    · exact not_whole_l h
    rw [List.mem_singleton.mp hm] at h
    exact not_whole_r h
  have ht : turnK many r = false := by
    rcases r with _ | ⟨a, _ | ⟨b, r⟩⟩ <;> first | rfl | skip
    show numK many a = false
    rw [List.mem_singleton.mp hm] at h
    exact not_whole_num h
  show (if eqK k0 "add" = true then addK many r else if eqK k0 "swap" = true then swapK many r else if eqK k0 "turn" = true then turnK many r else false) = false
  rw [ha, hs, ht]
  split
  · rfl
  · split
    · rfl
    · split <;> rfl
theorem step_not_str {many : Int} {k0 : Kd} {r : List Kd} (h : isStrK k0 = false) : stepK many (k0 :: r) = false := by
  have e : ∀ s, eqK k0 s = false := fun s => by cases k0 <;> first | rfl | exact absurd h (by simp [isStrK])
  show (if eqK k0 "add" = true then addK many r else if eqK k0 "swap" = true then swapK many r else if eqK k0 "turn" = true then turnK many r else false) = false
  rw [e, e, e]
  rfl
theorem whole_int {k : Kd} (h : wholeK k = true) : ∃ i, k = .int i := by
  cases k <;> first | exact ⟨_, rfl⟩ | exact absurd h (by simp [wholeK])
theorem all_ints {H : Hp} : ∀ {xs : List V} {ks : List Kd}, Paired (HasK H) xs ks → (∀ k ∈ ks, wholeK k = true) → ∃ ns : List Int, xs = ns.map V.int ∧ ks = ns.map Kd.int
  | _, _, .nil, _ => ⟨[], rfl, rfl⟩
  | _, _, .cons h t, hw => by
    obtain ⟨i, rfl⟩ := whole_int (hw _ (List.mem_cons.mpr (.inl rfl)))
    obtain ⟨ns, rfl, rfl⟩ := all_ints t fun k hk => hw k (List.mem_cons.mpr (.inr hk))
    cases h
    exact ⟨i :: ns, rfl, rfl⟩
end Cm

set_option Elab.async false
set_option linter.all false
set_option maxRecDepth 100000
set_option maxHeartbeats 4000000
namespace Cm
open PySem PySem.Spec PyProof.Rows L2
/-! ### (z,) * n -/
theorem tuple_mul1 (l : Addr) (items : Array Value) (n : Nat) (dd : Option Addr) (sl : Array (Option Value)) (u : Tok) :
    Meets (Builtin.«tuple.__mul__» ⟨[.ref l, .int 1 u], []⟩) (fun _ R s => s.heap.get? l = some { cls := .type "tuple", dict := dd, data := .seq items n, slots := sl } ∧ R (.ok (.ret (Value.ref l))) s) :=
  .of_wp fun P0 w0 A0 R0 s0 pre => by
    obtain ⟨hp0, g0, d0, tk0, os0⟩ := s0
    obtain ⟨hat, post⟩ := pre
    have f1 := AutoSeq1.idx_int
    wp_walk using wpAny_loadPart' hat
    exact ⟨_, rfl, post⟩
theorem tuple_mul0 (l : Addr) (items : Array Value) (n : Nat) (dd : Option Addr) (sl : Array (Option Value)) (u : Tok) (hi : items.isEmpty = false) :
    Meets (Builtin.«tuple.__mul__» ⟨[.ref l, .int 0 u], []⟩) (fun _ R s => s.heap.get? l = some { cls := .type "tuple", dict := dd, data := .seq items n, slots := sl } ∧
      R (.ok (.ret (Value.ref s.heap.objs.size))) { s with heap := s.heap.push { cls := Value.type "tuple", data := Data.seq #[] }, toks := s.toks }) :=
  .of_wp fun P0 w0 A0 R0 s0 pre => by
    obtain ⟨hp0, g0, d0, tk0, os0⟩ := s0
    obtain ⟨hat, post⟩ := pre
    have f1 := AutoSeq1.idx_int
    wp_walk using wpAny_loadPart' hat
    have c1 : (items.isEmpty || (0 : Int) == 1) = false := by rw [hi]; rfl
    have c2 : (decide ((0 : Int) ≤ 0) || items.isEmpty) = true := by rw [hi]; rfl
    exact ⟨_, rfl, post⟩
def rRepN : R2 := fun x y H Q => ∃ (l : Addr) (z : V) (n : Nat), x = .ref l ∧ y = .int n ∧ H l = some (.tup [z]) ∧ n ≤ 1000 ∧ ∀ p H', Same H H' → H' p = some (.tup (List.replicate n z)) → Q (.ref p) H'
theorem rep_flat (z : V) : ∀ n : Nat, (List.replicate n [z]).flatten = List.replicate n z
  | 0 => rfl
  | n + 1 => by
    rw [List.replicate_succ, List.flatten_cons, rep_flat z n]
    rfl
theorem op_repN {X : Cx} : OpR X (binaryOp .Mult) rRepN := by
  intro pins s σ H x y v u Q I rx ry h
  obtain ⟨l, z, n, rfl, rfl, hl, hn, q⟩ := h
  match n, hn, q, ry with
  | 0, hn, q, ry =>
    cases rx
    obtain ⟨t, rfl⟩ := ry
    obtain ⟨its, r, ⟨⟨cls, dd, data, sl⟩, ho, hc, n, hd⟩, hs⟩ := I.tuple (SqT.of hl)
    simp only at hc hd
    subst hc hd
    have hi : its.toArray.isEmpty = false := by
      cases r
      rfl
    refine wpAny_binaryOp_repeat_ref (T := "tuple") (U := "int") (by decide) ⟨_, ho, rfl⟩ (fun s' => typeIs_int s' _ t) noFill_tuple_mul F.fills_int_mul F.slot_int_rmul repeat_tuple F.slot_int_index.lookup
      (call_meets F.slot_int_rmul (typeIs_int s _ t) F.entry_int_rmul (F.args_int_rmul_2 _ _) (int_rmul_tuple _ t l its.toArray n dd sl)
        ⟨ho, rfl, ⟨_, ho, rfl⟩, call_meets F.slot_tuple_mul ⟨_, ho, rfl⟩ F.entry_tuple_mul (F.args_tuple_mul_2 _ _) (tuple_mul0 l its.toArray n dd sl t hi) ⟨ho, ?_⟩⟩)
    refine ⟨.ref s.heap.objs.size, _, I.laid (t' := s.toks) (o := .tup []) (fun b ob q => Heap.get?_push_of_some _ q) (Nat.le_refl _) ?_, rfl, q _ _ (same_new (I.hok.fresh (Nat.le_refl _))) upd_same⟩
    exact ⟨Nat.zero_le _, [], .nil, IsTup.new _ _⟩
  | 1, hn, q, ry =>
    cases rx
    obtain ⟨t, rfl⟩ := ry
    obtain ⟨its, r, ⟨⟨cls, dd, data, sl⟩, ho, hc, n, hd⟩, hs⟩ := I.tuple (SqT.of hl)
    simp only at hc hd
    subst hc hd
    refine wpAny_binaryOp_repeat_ref (T := "tuple") (U := "int") (by decide) ⟨_, ho, rfl⟩ (fun s' => typeIs_int s' _ t) noFill_tuple_mul F.fills_int_mul F.slot_int_rmul repeat_tuple F.slot_int_index.lookup
      (call_meets F.slot_int_rmul (typeIs_int s _ t) F.entry_int_rmul (F.args_int_rmul_2 _ _) (int_rmul_tuple _ t l its.toArray n dd sl)
        ⟨ho, rfl, ⟨_, ho, rfl⟩, call_meets F.slot_tuple_mul ⟨_, ho, rfl⟩ F.entry_tuple_mul (F.args_tuple_mul_2 _ _) (tuple_mul1 l its.toArray n dd sl t) ⟨ho, ?_⟩⟩)
    exact ⟨.ref l, H, I, rfl, q _ _ (Same.refl H) hl⟩
  | n + 2, hn, q, ry =>
    refine op_repT pins s σ H _ _ v u Q I rx ry ⟨l, _, [z], rfl, rfl, SqT.of hl, by simp, by omega, by omega, by simp, fun p hp => ?_⟩
    refine q p _ (same_new hp) ?_
    rw [upd_same, show (((n + 2 : Nat) : Int)).toNat = n + 2 from rfl, rep_flat]
theorem walk_zipT {K : PySem.W.Frag} {a b : Addr} {xs ys : List V} {n : Nat} (hn : n = min xs.length ys.length) : Walk (RZ.ItzT K a b) n (fun H => SqT K H a xs ∧ SqT K H b ys) (YPair (fun i => xs[i]?) (fun i => ys[i]?)) := by
  subst hn
  constructor
  · intro i G hi g
    exact ⟨xs, ys, _, _, g.1, g.2, List.getElem?_eq_getElem (Nat.lt_of_lt_of_le hi (Nat.min_le_left _ _)), List.getElem?_eq_getElem (Nat.lt_of_lt_of_le hi (Nat.min_le_right _ _))⟩
  · intro G g
    refine ⟨xs, ys, g.1, g.2, ?_⟩
    omega
  · rintro i G v G' _ g ⟨t, p, r, e1, e2, e3, e4, e5⟩
    exact ⟨t, p, r, e1, e2, e3, e4 _ g.1, e5 _ g.2⟩
end Cm

set_option Elab.async false
set_option linter.all false
set_option maxRecDepth 100000
set_option maxHeartbeats 4000000
namespace Cm
open PySem PySem.Spec PyProof.Rows L2
/-! ### rows and steps, as numbers -/
abbrev Rs := List (List Int)
inductive St3 where
  | add (i j : Nat) (z : Int) | swap (i j : Nat) | turn (i : Nat)
def St3.vals : St3 → List V
  | .add i j z => [.str "add", .int i, .int j, .int z]
  | .swap i j => [.str "swap", .int i, .int j]
  | .turn i => [.str "turn", .int i]
def St3.ok (m : Nat) : St3 → Prop
  | .add i j z => i < m ∧ j < m ∧ i ≠ j ∧ z.natAbs < 2 ^ 100
  | .swap i j => i < m ∧ j < m ∧ i ≠ j
  | .turn i => i < m
def St3.back : St3 → St3
  | .add i j z => .add i j (-z)
  | .swap i j => .swap i j
  | .turn i => .turn i
theorem back_ok {m : Nat} : ∀ {st : St3}, st.ok m → st.back.ok m
  | .add i j z, ⟨h1, h2, h3, h4⟩ => ⟨h1, h2, h3, by rw [Int.natAbs_neg]; exact h4⟩
  | .swap _ _, h => h
  | .turn _, h => h
def row (rs : Rs) (i : Nat) : List Int := rs[i]?.getD []
def St3.run : St3 → Rs → Rs
  | .add i j z, rs => rs.set i (List.zipWith (fun x y => x + z * y) (row rs i) (row rs j))
  | .swap i j, rs => (rs.set i (row rs j)).set j (row rs i)
  | .turn i, rs => rs.set i ((row rs i).map fun x => -x)
structure RB (m w b : Nat) (rs : Rs) : Prop where
  len : rs.length = m
  wide : ∀ r ∈ rs, r.length = w
  small : ∀ r ∈ rs, ∀ x ∈ r, x.natAbs < 2 ^ b
theorem row_at {rs : Rs} {i : Nat} (h : i < rs.length) : rs[i]? = some (row rs i) := by
  unfold row
  rw [List.getElem?_eq_getElem h]
  rfl
theorem row_mem {rs : Rs} {i : Nat} (h : i < rs.length) : row rs i ∈ rs := List.mem_of_getElem? (row_at h)
theorem RB.mono {m w b c : Nat} {rs : Rs} (h : RB m w b rs) (hb : b ≤ c) : RB m w c rs :=
  ⟨h.len, h.wide, fun r hr x hx => Nat.lt_of_lt_of_le (h.small r hr x hx) (Nat.pow_le_pow_right (by decide) hb)⟩
theorem mem_set {rs : Rs} {i : Nat} {r x : List Int} (h : x ∈ rs.set i r) : x ∈ rs ∨ x = r := by
  rcases List.mem_or_eq_of_mem_set h with z | z
  · exact .inl z
  · exact .inr z
theorem RB.set {m w b : Nat} {rs : Rs} {i : Nat} {r : List Int} (h : RB m w b rs) (h1 : r.length = w) (h2 : ∀ x ∈ r, x.natAbs < 2 ^ b) : RB m w b (rs.set i r) :=
  ⟨by rw [List.length_set]; exact h.len, fun x hx => by
    rcases mem_set hx with z | z
    · exact h.wide x z
    · rw [z]; exact h1, fun x hx => by
    rcases mem_set hx with z | z
    · exact h.small x z
    · rw [z]; exact h2⟩
theorem mem_zipWith {f : Int → Int → Int} : ∀ {xs ys : List Int} {z : Int}, z ∈ List.zipWith f xs ys → ∃ x y, x ∈ xs ∧ y ∈ ys ∧ z = f x y
  | [], _, _, h => by simp at h
  | _ :: _, [], _, h => by simp at h
  | x :: xs, y :: ys, z, h => by
    rw [List.zipWith_cons_cons] at h
    rcases List.mem_cons.mp h with e | e
    · exact ⟨x, y, List.mem_cons.mpr (.inl rfl), List.mem_cons.mpr (.inl rfl), e⟩
    · obtain ⟨a, c, h1, h2, h3⟩ := mem_zipWith e
      exact ⟨a, c, List.mem_cons.mpr (.inr h1), List.mem_cons.mpr (.inr h2), h3⟩
theorem add_small {b : Nat} {x y z : Int} (hx : x.natAbs < 2 ^ b) (hy : y.natAbs < 2 ^ b) (hz : z.natAbs < 2 ^ 100) : (x + z * y).natAbs < 2 ^ (b + 101) := by
  have h1 : (x + z * y).natAbs ≤ x.natAbs + z.natAbs * y.natAbs := by
    rw [← Int.natAbs_mul]
    exact Int.natAbs_add_le _ _
  have h2 : z.natAbs * y.natAbs ≤ 2 ^ 100 * 2 ^ b := Nat.mul_le_mul (Nat.le_of_lt hz) (Nat.le_of_lt hy)
  have e : 2 ^ (b + 101) = 2 ^ 101 * 2 ^ b := by rw [Nat.pow_add, Nat.mul_comm]
  rw [e]
  have h3 : (2 : Nat) ^ 101 * 2 ^ b = 2 ^ 100 * 2 ^ b + 2 ^ 100 * 2 ^ b := by
    rw [show (2 : Nat) ^ 101 = 2 ^ 100 + 2 ^ 100 from by decide, Nat.add_mul]
  have h4 : 2 ^ b ≤ 2 ^ 100 * 2 ^ b := Nat.le_mul_of_pos_left _ (by decide)
  omega
theorem run_RB {m w b : Nat} {rs : Rs} : ∀ {st : St3}, st.ok m → RB m w b rs → RB m w (b + 101) (st.run rs)
  | .add i j z, ⟨h1, h2, h3, h4⟩, h => by
    have li : i < rs.length := by rw [h.len]; exact h1
    have lj : j < rs.length := by rw [h.len]; exact h2
    refine (h.mono (by omega)).set ?_ fun x hx => ?_
    · rw [List.length_zipWith, h.wide _ (row_mem li), h.wide _ (row_mem lj), Nat.min_self]
    · obtain ⟨p, q, hp, hq, rfl⟩ := mem_zipWith hx
      exact add_small (h.small _ (row_mem li) p hp) (h.small _ (row_mem lj) q hq) h4
  | .swap i j, ⟨h1, h2, h3⟩, h => by
    have li : i < rs.length := by rw [h.len]; exact h1
    have lj : j < rs.length := by rw [h.len]; exact h2
    have hm := h.mono (c := b + 101) (by omega)
    exact (hm.set (hm.wide _ (row_mem lj)) (hm.small _ (row_mem lj))).set (hm.wide _ (row_mem li)) (hm.small _ (row_mem li))
  | .turn i, h1, h => by
    have li : i < rs.length := by rw [h.len]; exact h1
    have hm := h.mono (c := b + 101) (by omega)
    refine hm.set (by rw [List.length_map]; exact hm.wide _ (row_mem li)) fun x hx => ?_
    obtain ⟨y, hy, rfl⟩ := List.mem_map.mp hx
    rw [Int.natAbs_neg]
    exact hm.small _ (row_mem li) y hy
theorem row_set_same {rs : Rs} {i : Nat} {r : List Int} (h : i < rs.length) : row (rs.set i r) i = r := by
  unfold row
  rw [List.getElem?_set_self h]
  rfl
theorem row_set_ne {rs : Rs} {i j : Nat} {r : List Int} (h : i ≠ j) : row (rs.set i r) j = row rs j := by
  unfold row
  rw [List.getElem?_set_ne h]
theorem set_row {rs : Rs} {i : Nat} (h : i < rs.length) : rs.set i (row rs i) = rs := by
  refine List.ext_getElem? fun k => ?_
  by_cases hk : i = k
  · subst hk
    rw [List.getElem?_set_self h, row_at h]
  · rw [List.getElem?_set_ne hk]
theorem zip_back {z : Int} : ∀ {xs ys : List Int}, xs.length = ys.length → List.zipWith (fun x y => x + -z * y) (List.zipWith (fun x y => x + z * y) xs ys) ys = xs
  | [], [], _ => rfl
  | x :: xs, y :: ys, h => by
    rw [List.zipWith_cons_cons, List.zipWith_cons_cons, zip_back (Nat.succ.inj h)]
    congr 1
    rw [Int.neg_mul]
    omega
theorem neg_back : ∀ xs : List Int, (xs.map fun x => -x).map (fun x => -x) = xs
  | [] => rfl
  | x :: xs => by
    rw [List.map_cons, List.map_cons, neg_back xs, Int.neg_neg]
theorem run_back {m w b : Nat} {rs : Rs} : ∀ {st : St3}, st.ok m → RB m w b rs → st.back.run (st.run rs) = rs
  | .add i j z, ⟨h1, h2, h3, h4⟩, h => by
    have li : i < rs.length := by rw [h.len]; exact h1
    have lj : j < rs.length := by rw [h.len]; exact h2
    show (rs.set i _).set i (List.zipWith (fun x y => x + -z * y) (row (rs.set i _) i) (row (rs.set i _) j)) = rs
    rw [row_set_same li, row_set_ne h3, zip_back (by rw [h.wide _ (row_mem li), h.wide _ (row_mem lj)]), List.set_set, set_row li]
  | .swap i j, ⟨h1, h2, h3⟩, h => by
    have li : i < rs.length := by rw [h.len]; exact h1
    have lj : j < rs.length := by rw [h.len]; exact h2
    show (((rs.set i (row rs j)).set j (row rs i)).set i (row ((rs.set i (row rs j)).set j (row rs i)) j)).set j (row ((rs.set i (row rs j)).set j (row rs i)) i) = rs
    have e1 : row ((rs.set i (row rs j)).set j (row rs i)) j = row rs i := row_set_same (by rw [List.length_set]; exact lj)
    have e2 : row ((rs.set i (row rs j)).set j (row rs i)) i = row rs j := by
      rw [row_set_ne (Ne.symm h3), row_set_same li]
    rw [e1, e2, List.set_comm _ _ (Ne.symm h3), List.set_set, List.set_set, set_row li, set_row lj]
  | .turn i, h1, h => by
    have li : i < rs.length := by rw [h.len]; exact h1
    show (rs.set i _).set i ((row (rs.set i _) i).map fun x => -x) = rs
    rw [row_set_same li, neg_back, List.set_set, set_row li]
theorem mulW_small {i j : Int} (hi : i.natAbs < 2 ^ 2000) (hj : j.natAbs < 2 ^ 2000) : CMulW i j := by
  show i.natAbs.log2 + j.natAbs.log2 < 1000000
  have l : ∀ n : Nat, n < 2 ^ 2000 → n.log2 < 2001 := fun n h => by
    by_cases hn : n = 0
    · subst hn; decide
    · exact Nat.lt_succ_of_lt ((Nat.log2_lt hn).mpr h)
  have := l _ hi
  have := l _ hj
  omega
/-! ### the way back, step by step -/
inductive Undo (m w : Nat) : List St3 → Rs → Rs → Prop where
  | nil {r : Rs} : Undo m w [] r r
  | cons {b : St3} {bs : List St3} {cur r0 : Rs} {k : Nat} : b.ok m → RB m w k cur → k ≤ 1000 → Undo m w bs (b.run cur) r0 → Undo m w (b :: bs) cur r0
/-! ### as data -/
def rowD (r : List Int) : PyData := .tuple (r.map .int)
def rowsD (rs : Rs) : PyData := .tuple (rs.map rowD)
def St3.data : St3 → PyData
  | .add i j z => .tuple [.str "add", .int i, .int j, .int z]
  | .swap i j => .tuple [.str "swap", .int i, .int j]
  | .turn i => .tuple [.str "turn", .int i]
theorem lay_ints : ∀ r : List Int, PyData.canLayAll0 (r.map .int) = true
  | [] => rfl
  | x :: r => by
    show (PyData.canLay0 (.int x) && PyData.canLayAll0 (r.map .int)) = true
    rw [lay_ints r]
    rfl
theorem lay_rows : ∀ rs : Rs, PyData.canLayAll0 (rs.map rowD) = true
  | [] => rfl
  | x :: r => by
    show (PyData.canLayAll0 (x.map .int) && PyData.canLayAll0 (r.map rowD)) = true
    rw [lay_rows r, lay_ints x]
    rfl
theorem depth_ints : ∀ r : List Int, PyData.depthAll (r.map .int) ≤ 1
  | [] => by decide
  | x :: r => by
    have := depth_ints r
    show max (PyData.depth (.int x)) (PyData.depthAll (r.map .int)) ≤ 1
    have h2 : PyData.depth (.int x) ≤ 1 := by simp [PyData.depth]
    omega
theorem depth_row (r : List Int) : (rowD r).depth ≤ 2 := by
  have := depth_ints r
  have e : (rowD r).depth = PyData.depthAll (r.map .int) + 1 := by simp [rowD, PyData.depth]
  omega
theorem depth_rowsA : ∀ rs : Rs, PyData.depthAll (rs.map rowD) ≤ 2
  | [] => by decide
  | x :: r => by
    have h1 := depth_rowsA r
    have h2 := depth_row x
    show max (PyData.depth (rowD x)) (PyData.depthAll (r.map rowD)) ≤ 2
    omega
theorem depth_rows (rs : Rs) : (rowsD rs).depth ≤ 3 := by
  have := depth_rowsA rs
  have e : (rowsD rs).depth = PyData.depthAll (rs.map rowD) + 1 := by simp [rowsD, PyData.depth]
  omega
theorem shaped_rows (rs : Rs) : SeqAt.shaped (rowsD rs) = true := by
  have := depth_rows rs
  show (PyData.canLayAll0 (rs.map rowD) && decide ((rowsD rs).depth ≤ 64)) = true
  rw [lay_rows, decide_eq_true (by omega)]
  rfl
theorem eqv_rows (rs : Rs) : PyData.eqv (rowsD rs) (rowsD rs) = true := SeqAt.eqv_refl _ (SeqAt.canLay_of_shaped (shaped_rows rs))
theorem shaped_list (rs : Rs) : SeqAt.shaped (.list (rs.map rowD)) = true := by
  have := depth_rowsA rs
  have e : (PyData.list (rs.map rowD)).depth = PyData.depthAll (rs.map rowD) + 1 := by simp [PyData.depth]
  show (PyData.canLayAll0 (rs.map rowD) && decide ((PyData.list (rs.map rowD)).depth ≤ 64)) = true
  rw [lay_rows, decide_eq_true (by omega)]
  rfl
theorem log_big {i : Int} (h : i.natAbs < 2 ^ 1000) : i.natAbs.log2 < 1000 := PySem.Flt.log2_lt_of (by decide) h
theorem int_text {i : Int} (h : i.natAbs < 2 ^ 1000) : (PyData.shown (.int i)).length ≤ 1001 := by
  show (Str.ofString (toString i)).length ≤ 1001
  rw [PySem.ofString_length]
  exact PySem.int_text_length_le (by decide) (log_big h)
theorem show_ints : ∀ {r : List Int}, (∀ x ∈ r, x.natAbs < 2 ^ 1000) → PyData.showableAll (r.map .int) = true ∧ PyData.hasDictAll (r.map .int) = false ∧ PyData.leavesShortAll 1001 (r.map .int) = true ∧ PyData.bulkAll (r.map .int) = r.length
  | [], _ => ⟨rfl, rfl, rfl, rfl⟩
  | x :: r, h => by
    obtain ⟨h1, h2, h3, h4⟩ := show_ints fun y hy => h y (List.mem_cons.mpr (.inr hy))
    have s1 := h x (List.mem_cons.mpr (.inl rfl))
    have l1 := log_big s1
    refine ⟨?_, ?_, ?_, ?_⟩
    · show (decide (x.natAbs.log2 < 1920) && PyData.showableAll (r.map .int)) = true
      rw [h1, decide_eq_true (by omega)]
      rfl
    · show (PyData.hasDict (.int x) || PyData.hasDictAll (r.map .int)) = false
      rw [h2]
      rfl
    · show (decide ((PyData.shown (.int x)).length ≤ 1001) && PyData.leavesShortAll 1001 (r.map .int)) = true
      rw [h3, decide_eq_true (int_text s1)]
      rfl
    · show PyData.bulk (.int x) + 1 + PyData.bulkAll (r.map .int) = r.length + 1
      rw [h4]
      show 0 + 1 + r.length = _
      omega
theorem show_rows {w : Nat} : ∀ {rs : Rs}, (∀ r ∈ rs, r.length = w ∧ ∀ x ∈ r, x.natAbs < 2 ^ 1000) → PyData.showableAll (rs.map rowD) = true ∧ PyData.hasDictAll (rs.map rowD) = false ∧ PyData.leavesShortAll 1001 (rs.map rowD) = true ∧ PyData.bulkAll (rs.map rowD) = (w + 1) * rs.length
  | [], _ => ⟨rfl, rfl, rfl, rfl⟩
  | x :: r, h => by
    obtain ⟨h1, h2, h3, h4⟩ := show_rows fun y hy => h y (List.mem_cons.mpr (.inr hy))
    obtain ⟨hw, s1⟩ := h x (List.mem_cons.mpr (.inl rfl))
    obtain ⟨i1, i2, i3, i4⟩ := show_ints s1
    refine ⟨?_, ?_, ?_, ?_⟩
    · show (PyData.showableAll (x.map .int) && PyData.showableAll (r.map rowD)) = true
      rw [h1, i1]
      rfl
    · show (PyData.hasDictAll (x.map .int) || PyData.hasDictAll (r.map rowD)) = false
      rw [h2, i2]
      rfl
    · show (PyData.leavesShortAll 1001 (x.map .int) && PyData.leavesShortAll 1001 (r.map rowD)) = true
      rw [h3, i3]
      rfl
    · show PyData.bulkAll (x.map .int) + 1 + PyData.bulkAll (r.map rowD) = (w + 1) * (r.length + 1)
      rw [h4, i4, hw, Nat.mul_add, Nat.mul_one]
      omega
theorem show_pair {w m k b : Nat} {rs : Rs} {st : St3} (h : RB m w b rs) (hb : b ≤ 1000) (hm : m ≤ 14) (hw : w ≤ 12) (hs : st.ok k) (hk : k ≤ 14) :
    (PyData.tuple [rowsD rs, st.data]).showable = true ∧ (PyData.tuple [rowsD rs, st.data]).hasDict = false ∧ (PyData.tuple [rowsD rs, st.data]).depth ≤ 60 ∧ (PyData.tuple [rowsD rs, st.data]).shown.length ≤ sizeLine := by
  have hr := h.mono hb
  obtain ⟨h1, h2, h3, h4⟩ := show_rows (rs := rs) (w := w) fun r z => ⟨hr.wide r z, hr.small r z⟩
  have hst : st.data.showable = true ∧ st.data.hasDict = false ∧ st.data.depth ≤ 2 ∧ PyData.leavesShort 1001 st.data = true ∧ st.data.bulk ≤ 8 := by
    have nb : ∀ i : Nat, i < k → ((i : Int)).natAbs < 2 ^ 1000 := fun i hi => Nat.lt_of_lt_of_le (show i < 2 ^ 4 by have : (2 : Nat) ^ 4 = 16 := rfl; omega) (Nat.pow_le_pow_right (by decide) (by decide))
    have sd : ∀ i : Int, i.natAbs < 2 ^ 1000 → decide (i.natAbs.log2 < 1920) = true := fun i hi => decide_eq_true (Nat.lt_trans (log_big hi) (by decide))
    have td : ∀ i : Int, i.natAbs < 2 ^ 1000 → decide ((PyData.shown (.int i)).length ≤ 1001) = true := fun i hi => decide_eq_true (int_text hi)
    cases st with
    | add i j z =>
      obtain ⟨o1, o2, o3, o4⟩ := hs
      have oz : z.natAbs < 2 ^ 1000 := Nat.lt_trans o4 (Nat.pow_lt_pow_right (by decide) (by decide))
      refine ⟨?_, rfl, by simp [St3.data, PyData.depth, PyData.depthAll], ?_, ?_⟩
      · show (PyData.showable (.str "add") && (decide (((i : Nat) : Int).natAbs.log2 < 1920) && (decide (((j : Nat) : Int).natAbs.log2 < 1920) && (decide (z.natAbs.log2 < 1920) && true)))) = true
        rw [sd _ (nb i o1), sd _ (nb j o2), sd _ oz]
        rfl
      · show (PyData.leavesShort 1001 (.str "add") && (decide ((PyData.shown (.int i)).length ≤ 1001) && (decide ((PyData.shown (.int j)).length ≤ 1001) && (decide ((PyData.shown (.int z)).length ≤ 1001) && true)))) = true
        rw [td _ (nb i o1), td _ (nb j o2), td _ oz]
        decide +kernel
      · exact (by decide +kernel : PyData.bulk (.str "add") + 1 + (0 + 1 + (0 + 1 + (0 + 1 + 0))) ≤ 8)
    | swap i j =>
      obtain ⟨o1, o2, o3⟩ := hs
      refine ⟨?_, rfl, by simp [St3.data, PyData.depth, PyData.depthAll], ?_, ?_⟩
      · show (PyData.showable (.str "swap") && (decide (((i : Nat) : Int).natAbs.log2 < 1920) && (decide (((j : Nat) : Int).natAbs.log2 < 1920) && true))) = true
        rw [sd _ (nb i o1), sd _ (nb j o2)]
        rfl
      · show (PyData.leavesShort 1001 (.str "swap") && (decide ((PyData.shown (.int i)).length ≤ 1001) && (decide ((PyData.shown (.int j)).length ≤ 1001) && true))) = true
        rw [td _ (nb i o1), td _ (nb j o2)]
        decide +kernel
      · exact (by decide +kernel : PyData.bulk (.str "swap") + 1 + (0 + 1 + (0 + 1 + 0)) ≤ 8)
    | turn i =>
      refine ⟨?_, rfl, by simp [St3.data, PyData.depth, PyData.depthAll], ?_, ?_⟩
      · show (PyData.showable (.str "turn") && (decide (((i : Nat) : Int).natAbs.log2 < 1920) && true)) = true
        rw [sd _ (nb i hs)]
        rfl
      · show (PyData.leavesShort 1001 (.str "turn") && (decide ((PyData.shown (.int i)).length ≤ 1001) && true)) = true
        rw [td _ (nb i hs)]
        decide +kernel
      · exact (by decide +kernel : PyData.bulk (.str "turn") + 1 + (0 + 1 + 0) ≤ 8)
  obtain ⟨s1, s2, s3, s4, s5⟩ := hst
  have hd := depth_rows rs
  refine ⟨?_, ?_, ?_, ?_⟩
  · show (PyData.showableAll (rs.map rowD) && (st.data.showable && true)) = true
    rw [h1, s1]
    rfl
  · show (PyData.hasDictAll (rs.map rowD) || (st.data.hasDict || false)) = false
    rw [h2, s2]
    rfl
  · have e : (PyData.tuple [rowsD rs, st.data]).depth = max (rowsD rs).depth (max st.data.depth 0) + 1 := by simp [PyData.depth, PyData.depthAll]
    omega
  · have hl : PyData.leavesShort 1001 (.tuple [rowsD rs, st.data]) = true := by
      show (PyData.leavesShortAll 1001 (rs.map rowD) && (PyData.leavesShort 1001 st.data && true)) = true
      rw [h3, s4]
      rfl
    have hb2 := PyData.shown_le_bulk 1001 (by decide) _ hl
    have e : (PyData.tuple [rowsD rs, st.data]).bulk = (w + 1) * rs.length + 1 + (st.data.bulk + 1 + 0) := by
      show PyData.bulkAll (rs.map rowD) + 1 + (st.data.bulk + 1 + 0) = _
      rw [h4]
    rw [e] at hb2
    have hp : (w + 1) * rs.length ≤ 13 * 14 := Nat.mul_le_mul (by omega) (by rw [h.len]; exact hm)
    refine Nat.le_trans hb2 (Nat.le_trans (show (1001 + 2) * ((w + 1) * rs.length + 1 + (st.data.bulk + 1 + 0)) + 1001 ≤ (1001 + 2) * 200 + 1001 from Nat.add_le_add_right (Nat.mul_le_mul_left _ (by omega)) _) (by decide))
/-! ### on the heap -/
def TI (H : Hp) (v : V) (ns : List Int) : Prop := ∃ a, v = .ref a ∧ H a = some (.tup (ns.map V.int))
theorem TI.ext {H H' : Hp} {v : V} {ns : List Int} (h : TI H v ns) (e : Ext H H') : TI H' v ns := let ⟨a, h1, h2⟩ := h; ⟨a, h1, e.t _ _ h2⟩
def TT (H : Hp) (v : V) (rs : Rs) : Prop := ∃ a xs, v = .ref a ∧ H a = some (.tup xs) ∧ Paired (TI H) xs rs
theorem TT.ext {H H' : Hp} {v : V} {rs : Rs} (h : TT H v rs) (e : Ext H H') : TT H' v rs := let ⟨a, xs, h1, h2, h3⟩ := h; ⟨a, xs, h1, e.t _ _ h2, Paired.mapP h3 fun _ _ z => z.ext e⟩
def SV (H : Hp) (v : V) (st : St3) : Prop := ∃ a, v = .ref a ∧ H a = some (.tup st.vals)
theorem SV.ext {H H' : Hp} {v : V} {st : St3} (h : SV H v st) (e : Ext H H') : SV H' v st := let ⟨a, h1, h2⟩ := h; ⟨a, h1, e.t _ _ h2⟩
theorem dp_ints {K : PySem.W.Frag} {H : Hp} : ∀ ns : List Int, DpAll K H (ns.map V.int) (ns.map .int)
  | [] => .nil
  | x :: r => .cons (.int x) (dp_ints r)
theorem TI.dp {K : PySem.W.Frag} {H : Hp} {v : V} {ns : List Int} (h : TI H v ns) : Dp K H v (rowD ns) := by
  obtain ⟨a, rfl, h2⟩ := h
  exact .tup (SqT.of h2) (dp_ints ns)
theorem dp_rows {K : PySem.W.Frag} {H : Hp} : ∀ {xs : List V} {rs : Rs}, Paired (TI H) xs rs → DpAll K H xs (rs.map rowD)
  | _, _, .nil => .nil
  | _, _, .cons h t => .cons h.dp (dp_rows t)
theorem TT.dp {K : PySem.W.Frag} {H : Hp} {v : V} {rs : Rs} (h : TT H v rs) : Dp K H v (rowsD rs) := by
  obtain ⟨a, xs, rfl, h2, h3⟩ := h
  exact .tup (SqT.of h2) (dp_rows h3)
theorem SV.dp {K : PySem.W.Frag} {H : Hp} {v : V} : ∀ {st : St3}, SV H v st → Dp K H v st.data
  | .add i j z, ⟨a, e, h⟩ => by
    subst e
    exact .tup (SqT.of h) (.cons (.str _) (.cons (.int _) (.cons (.int _) (.cons (.int _) .nil))))
  | .swap i j, ⟨a, e, h⟩ => by
    subst e
    exact .tup (SqT.of h) (.cons (.str _) (.cons (.int _) (.cons (.int _) .nil)))
  | .turn i, ⟨a, e, h⟩ => by
    subst e
    exact .tup (SqT.of h) (.cons (.str _) (.cons (.int _) .nil))
theorem paired_app {α β : Type} {R : α → β → Prop} : ∀ {l : List α} {m : List β} {a : α} {b : β}, Paired R l m → R a b → Paired R (l ++ [a]) (m ++ [b])
  | _, _, _, _, .nil, h => .cons h .nil
  | _, _, _, _, .cons h t, q => .cons h (paired_app t q)
theorem paired_set {α β : Type} {R : α → β → Prop} : ∀ {l : List α} {m : List β} {i : Nat} {a : α} {b : β}, Paired R l m → R a b → Paired R (l.set i a) (m.set i b)
  | _, _, _, _, _, .nil, _ => .nil
  | _, _, 0, _, _, .cons _ t, q => .cons q t
  | _, _, i + 1, _, _, .cons h t, q => .cons h (paired_set (i := i) t q)
theorem paired_look {α β : Type} {R : α → β → Prop} : ∀ {l : List α} {m : List β} {i : Nat} {b : β}, Paired R l m → m[i]? = some b → ∃ a, l[i]? = some a ∧ R a b
  | _, _, _, _, .nil, e => by simp at e
  | _, _, 0, _, .cons h _, e => by
    have e1 := Option.some.inj e
    subst e1
    exact ⟨_, rfl, h⟩
  | _, _, i + 1, _, .cons _ t, e => paired_look (i := i) t e
/-! ### over a named K -/
section
variable {X : Cx} {K : PySem.W.Frag}
theorem tupOf_K (hK : X.K = K) : CallR X (.type "tuple") (rTupOf K) := by
  subst hK
  exact call_tuple_of
def rListOf (K : PySem.W.Frag) : List V → Hp → VK → Prop := fun xs H Q => ∃ p ys, xs = [.ref p] ∧ (SqL K H p ys ∨ SqT K H p ys) ∧ ∀ l, H l = none → Q (.ref l) (upd H l (.lst ys))
theorem listOf_K (hK : X.K = K) : CallR X (.type "list") (rListOf K) := by
  subst hK
  exact call_list_of
def rNeK (K : PySem.W.Frag) : R2 := fun x y H Q => ∃ d e, Dp K H x d ∧ Dp K H y e ∧ SeqAt.shaped d = true ∧ SeqAt.shaped e = true ∧ Q (.bl (!PyData.eqv d e)) H
theorem neD_K {k : Nat} (hr : Room k X.A) (hK : X.K = K) : OpR X (compareOp .NotEq) (rNeK K) := by
  subst hK
  exact op_neD hr.units
end
theorem ix_nat {n i : Nat} (h : i < n) : ixN n (i : Int) = some i := by
  unfold ixN
  rw [if_pos (by omega), if_pos (by omega), Int.toNat_natCast]
theorem take_app {l : List Int} {k : Nat} {v : Int} (h : l[k]? = some v) : (l.take k).map V.int ++ [V.int v] = (l.take (k + 1)).map V.int := by
  rw [List.take_succ, h, List.map_append]
  rfl
theorem int_at {l : List Int} {k : Nat} {x : V} (h : (l.map V.int)[k]? = some x) : ∃ v, x = .int v ∧ l[k]? = some v := by
  rw [List.getElem?_map] at h
  cases hk : l[k]? with
  | none =>
    rw [hk] at h
    cases h
  | some v =>
    rw [hk] at h
    exact ⟨v, (Option.some.inj h).symm, rfl⟩
theorem fresh_same {H H' : Hp} {D : Addr} {o : HO} (s : Same H H') (n : H D = none) : Same H (upd H' D o) := fun b u e => by
  rw [upd_ne (ne_of_none e n)]
  exact s b u e
/-- the i-th row, by its place -/
theorem row_look {H : Hp} {xs : List V} {rs : Rs} {i : Nat} (h : Paired (TI H) xs rs) (hi : i < rs.length) : ∃ p, xs[i]? = some (.ref p) ∧ H p = some (.tup ((row rs i).map V.int)) := by
  obtain ⟨v, h1, p, rfl, h2⟩ := paired_look h (row_at hi)
  exact ⟨p, h1, h2⟩
theorem zip_at {f : Int → Int → Int} {xs ys : List Int} {k : Nat} {x y : Int} (hx : xs[k]? = some x) (hy : ys[k]? = some y) : (List.zipWith f xs ys)[k]? = some (f x y) := by
  rw [List.getElem?_zipWith, hx, hy]
theorem len_small {l : List Int} {k w : Nat} (h : l.length = w) (hw : w ≤ 12) : ((l.take k).map V.int).length < sizeLine := by
  rw [List.length_map, List.length_take]
  exact small1000 (by omega)
def St3.kinds : St3 → List Kd
  | .add i j z => [.str "add", .int i, .int j, .int z]
  | .swap i j => [.str "swap", .int i, .int j]
  | .turn i => [.str "turn", .int i]
theorem kinds_at {H : Hp} {a : Addr} : ∀ {st : St3}, H a = some (.tup st.vals) → KsOf H (.ref a) (some st.kinds)
  | .add i j z, h => ⟨a, _, rfl, h, .cons (.str _) (.cons (.int _) (.cons (.int _) (.cons (.int _) .nil)))⟩
  | .swap i j, h => ⟨a, _, rfl, h, .cons (.str _) (.cons (.int _) (.cons (.int _) .nil))⟩
  | .turn i, h => ⟨a, _, rfl, h, .cons (.str _) (.cons (.int _) .nil)⟩
theorem unlike_yes {m i j : Nat} (h1 : i < m) (h2 : j < m) (h3 : i ≠ j) : unlikeK m (.int i) (.int j) = true := by
  show ((decide ((0 : Int) ≤ i) && decide ((i : Int) < m)) && ((decide ((0 : Int) ≤ j) && decide ((j : Int) < m)) && !decide (V.int i = V.int j))) = true
  rw [decide_eq_true (by omega), decide_eq_true (by omega), decide_eq_true (by omega), decide_eq_true (by omega), decide_eq_false (fun e => h3 (by have := V.int.inj e; omega))]
  rfl
theorem kinds_ok {m : Nat} : ∀ {st : St3}, st.ok m → stepO m (some st.kinds) = true
  | .add i j z, ⟨h1, h2, h3, _⟩ => by
    show (unlikeK m (.int i) (.int j) && true) = true
    rw [unlike_yes h1 h2 h3]
    rfl
  | .swap i j, ⟨h1, h2, h3⟩ => by
    show unlikeK m (.int i) (.int j) = true
    exact unlike_yes h1 h2 h3
  | .turn i, h => by
    have h : i < m := h
    show (decide ((0 : Int) ≤ i) && decide ((i : Int) < m)) = true
    rw [decide_eq_true (by omega), decide_eq_true (by omega)]
    rfl
def St3.word : St3 → Str
  | .add _ _ _ => "add"
  | .swap _ _ => "swap"
  | .turn _ => "turn"
theorem word_at (st : St3) : st.vals[0]? = some (.str st.word) := by cases st <;> rfl
theorem back_word (st : St3) : st.back.word = st.word := by cases st <;> rfl
theorem paired_first {α β : Type} {R : α → β → Prop} : ∀ {l : List α} {m : List β} {i : Nat} {a : α}, Paired R l m → l[i]? = some a → ∃ b, m[i]? = some b ∧ R a b
  | _, _, _, _, .nil, e => by simp at e
  | _, _, 0, _, .cons h _, e => by
    have e1 := Option.some.inj e
    subst e1
    exact ⟨_, rfl, h⟩
  | _, _, i + 1, a, .cons _ t, e => paired_first (i := i) (a := a) t e
theorem cut1 (x : V) (r : List V) : HT.sIx (x :: r).length 0 (some 1) = 1 := by
  have := HT.sIx_nat (x :: r).length 0 1
  rw [show ((1 : Nat) : Int) = 1 from rfl] at this
  rw [this, List.length_cons]
  omega
theorem cutR (x : V) (r : List V) : cutV (x :: r) (some 1) none = r := by
  unfold cutV
  rw [cut1, HT.sIx_none]
  show (r.take ((x :: r).length - 1)) = r
  rw [List.length_cons, Nat.add_sub_cancel]
  exact List.take_length
theorem sl_rest {K : PySem.W.Frag} {H : Hp} {a : Addr} {x : V} {r : List V} {Q : VK} {σ : L2.St} (h : H a = some (.tup (x :: r))) (q : ∀ p H', Same H H' → H' p = some (.tup r) → Q (.ref p) H') : tNoPart σ H (fun u H3 => rSlA K (.ref a) (some 1) u H3 Q) := by
  refine ⟨a, _, rfl, SqT.of h, fun z => ?_, fun _ p hp => q p _ (same_new hp) (by rw [upd_same, cutR])⟩
  have := z.1
  rw [cut1] at this
  exact absurd this (by decide)
/-! ### lists of lists, apart from D -/
def LI (D : Addr) (H : Hp) (v : V) (ns : List Int) : Prop := ∃ a, v = .ref a ∧ a ≠ D ∧ H a = some (.lst (ns.map V.int))
theorem LI.same {D : Addr} {H H' : Hp} {v : V} {ns : List Int} (h : LI D H v ns) (s : Same H H') : LI D H' v ns := let ⟨a, h1, h2, h3⟩ := h; ⟨a, h1, h2, s _ _ h3⟩
theorem LI.put {D : Addr} {H : Hp} {v : V} {ns : List Int} {o : HO} (h : LI D H v ns) : LI D (upd H D o) v ns := by
  obtain ⟨a, h1, h2, h3⟩ := h
  exact ⟨a, h1, h2, by rw [upd_ne h2]; exact h3⟩
theorem take_row {rs : Rs} {k : Nat} {r : List Int} (h : rs[k]? = some r) : rs.take (k + 1) = rs.take k ++ [r] := by
  rw [List.take_succ, h]
  rfl
/-! ### drawn rows -/
theorem but_fresh {p D : Addr} {H H' : Hp} {o : HO} (b : But p H H') (n : H D = none) : But p H (upd H' D o) := fun c u hc e => by
  rw [upd_ne (ne_of_none e n)]
  exact b c u hc e
theorem ext_fresh {D : Addr} {H H' : Hp} {o : HO} (x : Ext H H') (n : H D = none) : Ext H (upd H' D o) := by
  refine ⟨fun b xs e => ?_, fun b xs e => ?_, fun b xs e => ?_⟩
  · rw [upd_ne (ne_of_none e n)]
    exact x.t b xs e
  · rw [upd_ne (ne_of_none e n)]
    exact x.l b xs e
  · rw [upd_ne (ne_of_none e n)]
    exact x.d b xs e
theorem LP.put {H : Hp} {p D : Addr} {o : HO} (h : LP H p) (n : D ≠ p) : LP (upd H D o) p := by
  obtain ⟨x, y, z, e⟩ := h
  exact ⟨x, y, z, by rw [upd_ne (Ne.symm n)]; exact e⟩
theorem lp_ne {H : Hp} {p D : Addr} (h : LP H p) (n : H D = none) : D ≠ p := by
  obtain ⟨x, y, z, e⟩ := h
  exact (ne_of_none e n).symm
theorem RB.app {k w b : Nat} {rs : Rs} {r : List Int} (h : RB k w b rs) (h1 : r.length = w) (h2 : ∀ x ∈ r, x.natAbs < 2 ^ b) : RB (k + 1) w b (rs ++ [r]) :=
  ⟨by rw [List.length_append, h.len]; rfl, fun x hx => by
    rcases List.mem_append.mp hx with z | z
    · exact h.wide x z
    · rw [List.mem_singleton.mp z]; exact h1, fun x hx => by
    rcases List.mem_append.mp hx with z | z
    · exact h.small x z
    · rw [List.mem_singleton.mp z]; exact h2⟩
theorem eqv_nil (rs : Rs) : PyData.eqv (.list (rs.map rowD)) (.list []) = decide (rs = []) := by
  cases rs with
  | nil => rfl
  | cons x r => rfl
theorem mul_small {k : Nat} {c x : Int} (c0 : -2 ≤ c) (c1 : c ≤ 2) (h : x.natAbs < 2 ^ (30 + k)) : (c * x).natAbs < 2 ^ (30 + (k + 1)) := by
  rw [Int.natAbs_mul, show 30 + (k + 1) = (30 + k) + 1 from rfl, Nat.pow_succ, Nat.mul_comm]
  have hc : c.natAbs ≤ 2 := by omega
  have h1 : x.natAbs * c.natAbs ≤ x.natAbs * 2 := Nat.mul_le_mul_left _ hc
  omega
theorem app_ints {ns : List Int} {z : Int} : ns.map V.int ++ [V.int z] = (ns ++ [z]).map V.int := by
  rw [List.map_append]
  rfl
theorem paired_cat {α β : Type} {R : α → β → Prop} : ∀ {l l' : List α} {m m' : List β}, Paired R l m → Paired R l' m' → Paired R (l ++ l') (m ++ m')
  | _, _, _, _, .nil, q => q
  | _, _, _, _, .cons h t, q => .cons h (paired_cat t q)
theorem cat_rows {K : PySem.W.Frag} {H : Hp} {v u : V} {rs rs' : Rs} {Q : VK} (h : TT H v rs) (h' : TT H u rs') (hs : rs.length + rs'.length ≤ 1000) (q : ∀ v' H', Same H H' → TT H' v' (rs ++ rs') → Q v' H') : rCatA K v u H Q := by
  obtain ⟨a, xs, rfl, h2, h3⟩ := id h
  obtain ⟨b, ys, rfl, g2, g3⟩ := id h'
  have l1 : xs.length = rs.length := Paired.length h3
  have l2 : ys.length = rs'.length := Paired.length g3
  refine ⟨a, b, xs, ys, rfl, rfl, SqT.of h2, SqT.of g2, Nat.le_of_lt (small1000 (by omega)), fun e => ?_, fun _ e => ?_, fun _ _ p hp => ?_⟩
  · have er : rs = [] := List.eq_nil_of_length_eq_zero (by rw [← l1, e]; rfl)
    subst er
    exact q _ _ (Same.refl H) h'
  · have er : rs' = [] := List.eq_nil_of_length_eq_zero (by rw [← l2, e]; rfl)
    subst er
    rw [List.append_nil] at q
    exact q _ _ (Same.refl H) h
  · have x := Ext.same (same_new (o := .tup (xs ++ ys)) hp)
    exact q _ _ (same_new hp) ⟨p, _, rfl, upd_same, paired_cat (Paired.mapP h3 fun _ _ z => z.ext x) (Paired.mapP g3 fun _ _ z => z.ext x)⟩
theorem but_free {p D : Addr} {H H' : Hp} (b : But p H H') (l : LP H' p) (n : H' D = none) : H D = none := by
  cases e : H D with
  | none => rfl
  | some o =>
    rw [b D o (lp_ne l n) e] at n
    cases n
theorem drop_at {bs : List St3} {i : Nat} {b : St3} (h : bs[i]? = some b) : bs.drop i = b :: bs.drop (i + 1) := by
  obtain ⟨hi, e⟩ := List.getElem?_eq_some_iff.mp h
  rw [List.drop_eq_getElem_cons hi, e]
end Cm

set_option Elab.async false
set_option linter.all false
set_option maxRecDepth 100000
set_option maxHeartbeats 4000000
namespace Cm
open PySem PySem.Spec PyProof.Rows L2
/-! ### the drawing dict: cells, at, left -/
def penD (a : Addr) (n m : Int) : List (Key × V) := [(Sum.inr "cells", .ref a), (Sum.inr "at", .int n), (Sum.inr "left", .int m)]
theorem kca : ¬ ((Sum.inr ("cells" : Str) : Key) = Sum.inr ("at" : Str)) := by decide +kernel
theorem kcl : ¬ ((Sum.inr ("cells" : Str) : Key) = Sum.inr ("left" : Str)) := by decide +kernel
theorem kal : ¬ ((Sum.inr ("at" : Str) : Key) = Sum.inr ("left" : Str)) := by decide +kernel
theorem kla : ¬ ((Sum.inr ("left" : Str) : Key) = Sum.inr ("at" : Str)) := by decide +kernel
theorem val_cells (a : Addr) (n m : Int) : valV (penD a n m) (Sum.inr "cells" : Key) = some (.ref a) := valV_pos rfl
theorem val_at (a : Addr) (n m : Int) : valV (penD a n m) (Sum.inr "at" : Key) = some (.int n) := (valV_neg kca).trans (valV_pos rfl)
theorem val_left (a : Addr) (n m : Int) : valV (penD a n m) (Sum.inr "left" : Key) = some (.int m) := (valV_neg kcl).trans ((valV_neg kal).trans (valV_pos rfl))
theorem put_at (a : Addr) (n m z : Int) : putK (penD a n m) (Sum.inr "at" : Key) (.int z) = penD a z m := by
  unfold putK
  rw [valV_any, val_at, if_pos (show (some (V.int n)).isSome = true from rfl)]
  unfold penD
  simp only [List.map_cons, List.map_nil, if_neg kca, if_neg kla, if_true]
theorem put_left (a : Addr) (n m z : Int) : putK (penD a n m) (Sum.inr "left" : Key) (.int z) = penD a n z := by
  unfold putK
  rw [valV_any, val_left, if_pos (show (some (V.int m)).isSome = true from rfl)]
  unfold penD
  simp only [List.map_cons, List.map_nil, if_neg kcl, if_neg kal, if_true]
section
variable {K : PySem.W.Frag} {H H' : Hp} {d a : Addr} {n m : Int}
theorem dg_cells (h : H d = some (.dK (penD a n m))) : DGet H d (.str "cells") (some (.ref a)) := by
  have q := DGet.k (k := (Sum.inr "cells" : Key)) h
  rw [val_cells] at q
  exact q
theorem dg_at (h : H d = some (.dK (penD a n m))) : DGet H d (.str "at") (some (.int n)) := by
  have q := DGet.k (k := (Sum.inr "at" : Key)) h
  rw [val_at] at q
  exact q
theorem dg_left (h : H d = some (.dK (penD a n m))) : DGet H d (.str "left") (some (.int m)) := by
  have q := DGet.k (k := (Sum.inr "left" : Key)) h
  rw [val_left] at q
  exact q
theorem dp_at {z : Int} (h : H d = some (.dK (penD a n m))) : DPut H d (.str "at") (.int z) (upd H d (.dK (penD a z m))) := by
  have q := DPut.k (k := (Sum.inr "at" : Key)) (v := .int z) h (small1000 (by unfold penD; simp))
  rw [put_at] at q
  exact q
theorem dp_left {z : Int} (h : H d = some (.dK (penD a n m))) : DPut H d (.str "left") (.int z) (upd H d (.dK (penD a n z))) := by
  have q := DPut.k (k := (Sum.inr "left" : Key)) (v := .int z) h (small1000 (by unfold penD; simp))
  rw [put_left] at q
  exact q
/-- a list that is read stays where a dict alone may change -/
theorem sq_but {xs : List V} {kvs : List (Key × V)} (b : But d H H') (hd : H d = some (.dK kvs)) (h : SqL K H a xs) : SqL K H' a xs := by
  rcases h with (h | ⟨o, h⟩) | h
  · exact .inl (.inl (b _ _ (ne_of h hd (by intro z; cases z)) h))
  · exact .inl (.inr ⟨o, b _ _ (ne_of h hd (by intro z; cases z)) h⟩)
  · exact .inr h
end
/-- a pen at d over the cells ns at a, drawn from at most c times -/
structure Pen (K : PySem.W.Frag) (H : Hp) (d a : Addr) (ns : List Int) (c : Int) : Prop where
  sq : SqL K H a (ns.map V.int)
  dc : ∃ n m : Int, H d = some (.dK (penD a n m)) ∧ 0 ≤ n ∧ n ≤ c ∧ 0 ≤ m
theorem Pen.mono {K : PySem.W.Frag} {H : Hp} {d a : Addr} {ns : List Int} {c c' : Int} (p : Pen K H d a ns c) (h : c ≤ c') : Pen K H d a ns c' := by
  obtain ⟨s, n, m, e, h0, h1, h2⟩ := p
  exact ⟨s, n, m, e, h0, by omega, h2⟩
theorem Pen.same {K : PySem.W.Frag} {H H' : Hp} {d a : Addr} {ns : List Int} {c : Int} (p : Pen K H d a ns c) (h : Same H H') : Pen K H' d a ns c := by
  obtain ⟨s, n, m, e, h0, h1, h2⟩ := p
  exact ⟨h.seq s, n, m, h _ _ e, h0, h1, h2⟩
/-- draw's promise -/
def rDraw (K : PySem.W.Frag) : V → V → Hp → VK → Prop := fun p q H Q => ∃ (d a : Addr) (ns : List Int) (c many : Int), p = .ref d ∧ q = .int many ∧ Pen K H d a ns c ∧ 0 < many ∧ many < 1073741824 ∧ c ≤ 1000000 ∧
  ∀ r H', 0 ≤ r → r < many → Pen K H' d a ns (c + 1) → But d H H' → Q (.int r) H'
theorem cell_at {ns : List Int} {i : Int} (h0 : 0 ≤ i) (h1 : i < ((ns.map V.int).length : Int)) : ∃ z, atI (ns.map V.int) i = some (.int z) := by
  rw [List.length_map] at h1
  have hj : i.toNat < ns.length := by omega
  refine ⟨ns[i.toNat], ?_⟩
  have e : ((i.toNat : Nat) : Int) = i := by omega
  have q : atI (ns.map V.int) ((i.toNat : Nat) : Int) = some (.int ns[i.toNat]) := atI_nat (by rw [List.getElem?_map, List.getElem?_eq_getElem hj]; rfl)
  rw [e] at q
  exact q
theorem pos_of {b : Int} {p : Int} (h : decide (p < b) = true) : p < b := of_decide_eq_true h
theorem npos_of {b : Int} {p : Int} (h : ¬ decide (p < b) = true) : b ≤ p := by
  have := of_decide_eq_false (Bool.eq_false_iff.mpr h)
  omega
end Cm

set_option Elab.async false
set_option linter.all false
set_option maxRecDepth 100000
set_option maxHeartbeats 4000000
namespace Cm
open PySem PySem.Spec PyProof.Rows L2
/-! ### xs == [] of a list of whatever things -/
def rEqLE : R2 := fun x y H Q => ∃ a b xs, x = .ref a ∧ y = .ref b ∧ H a = some (.lst xs) ∧ H b = some (.lst []) ∧ Q (.bl xs.isEmpty) H
theorem op_eqLE {X : Cx} {k : Nat} (hr : Room k X.A) : OpR X (compareOp .Eq) rEqLE := by
  intro pins s σ H x y v u Q I rx ry h
  obtain ⟨a, b, xs, rfl, rfl, ha, hb, q⟩ := h
  cases rx
  cases ry
  obtain ⟨its, r1, p1, _⟩ := I.list (SqL.of ha)
  obtain ⟨its2, r2, p2, _⟩ := I.list (SqL.of hb)
  cases r2
  cases xs with
  | nil =>
    cases r1
    exact SeqAt.eq_listAt (e := fun _ => true) p1.isList p2.isList rfl hr.units0 (fun j h1 h2 => absurd h2 (by simp)) ⟨.bl _, H, I, rfl, q⟩
  | cons x t =>
    cases r1
    exact SeqAt.eq_list_lengthsAt p1.isList p2.isList rfl hr.units0 ⟨.bl _, H, I, rfl, q⟩
section
variable {X : Cx} {K : PySem.W.Frag} {tg l : Expr} {tl : TE}
theorem piT_K (hK : X.K = K) (hl : PE X l tl) : PI X tg l (iTup K tl) := by
  subst hK
  exact pi_tup hl
theorem piL_K (hK : X.K = K) (hl : PE X l tl) : PI X tg l (iList K tl) := by
  subst hK
  exact pi_list hl
end
/-- a def's statement that is never come to -/
theorem ps_dead {X : Cx} {st : Stmt} : PS X st (fun _ _ _ => False) := ⟨fun _ _ _ _ _ _ h => h.elim⟩
end Cm

set_option Elab.async false
set_option linter.all false
set_option maxRecDepth 100000
set_option maxHeartbeats 4000000
namespace SL
open PySem PySem.Spec PyProof.Rows L2
/-- an empty set, as it is made -/
abbrev S0 (w : World) : Obj := { cls := .type "set", dict := none, data := .set #[] 0 (.fresh 0 0 (!w.params.followText "set-order")) }
section
variable {P : Program} {w : World} {A : Around} {E : Value → Shared → Prop} {s : Shared}
set_option maxHeartbeats 8000000 in
/-- set(xs), xs a list of ints -/
theorem set_of_ints {l : Addr} {items : Array Value} (ns : List Int) {R : Value → Shared → Prop} (calm : A.handled = none) (isl : s.heap.IsList l items) (isI : IntsAre items.toList ns) (few : ns.length + 1 < scanBound)
    (k : ∀ (g : Heap) (tk c : Nat), SetR w g s.heap.objs.size (fun j => decide (j ∈ ns)) c → c ≤ ns.length → (∀ b o, s.heap.get? b = some o → g.get? b = some o) → R (.ref s.heap.objs.size) { s with heap := g, toks := tk }) :
    wpAny (model P w) A (call (.type "set") [.ref l]) R E s := by
  have size : items.size = ns.length := (Array.length_toList (xs := items)).symm.trans (IntsAre.length isI)
  obtain ⟨m, r, mro⟩ := F.called_set.mro
  have made := F.called_set.made
  have sub := F.called_set.sub
  have notT := F.called_set.notType
  have can := F.called_set.canCreate
  have tc := F.typeCall_set_1 (.ref l)
  refine wpAny_call (codeAny_of_tree ?_)
  show wpAny _ _ (callAny (.type "set") ⟨[.ref l], []⟩) _ _ s
  refine wpAny_pure ⟨Code.quiet_builtin _ (by decide +kernel), codeAny_builtin F.entry_type_call ?_⟩
  rw [Around.under_plain (weight_type_call_type "set" [.ref l] []) rfl]
  repeat any_goals first | assumption | wp_step
  refine codeAny_mono (code_set_led1 (.ref l) (E := E) (Q₁ := fun obj t => obj = .ref s.heap.objs.size ∧ t = { s with heap := s.heap.push (S0 w) }) ⟨rfl, rfl⟩) fun res t ok => ?_
  match res, ok with
  | .error e, ok => exact ok
  | .ok (.ret obj), ok =>
    obtain ⟨rfl, rfl⟩ := ok
    have at0 : (s.heap.push (S0 w)).get? s.heap.objs.size = some (S0 w) := Heap.get?_push_size _ rfl
    have ty0 : Shared.TypeIs { s with heap := s.heap.push (S0 w) } (.ref s.heap.objs.size) "set" := ⟨_, at0, rfl⟩
    have li := F.called_set.init.lookup
    have bi := F.called_set.init.bind (.ref s.heap.objs.size)
    repeat any_goals first | assumption | wp_step
    refine codeAny_mono (codeAny_call_builtin (R := wants (fun v t => v = .none ∧ ∃ g tk c, t = { s with heap := g, toks := tk } ∧ SetR w g s.heap.objs.size (fun j => decide (j ∈ ns)) c ∧ c ≤ ns.length ∧ (∀ b o, s.heap.get? b = some o → g.get? b = some o)) E)
      F.called_set.init.plain F.entry_set_init (check_set_init_1 ty0 ?_)) fun res2 t2 ok2 => ?_
    · obtain ⟨⟨ocls, odict, odata, oslots⟩, hol, hcl, nl, hdl⟩ := isl
      simp only at hcl hdl
      subst hcl hdl
      have hol' : (s.heap.push (S0 w)).get? l = some { cls := .type "list", dict := odict, data := .seq items nl, slots := oslots } := Heap.get?_push_of_some _ hol
      have nS := F.sub_list_set
      have nF := F.sub_list_frozenset
      have nD : (Value.type "list" == Value.type "dict") = false := by decide
      have isl1 : (s.heap.push (S0 w)).IsList l items := ⟨_, hol', rfl, nl, rfl⟩
      have lt : l < s.heap.objs.size := Heap.lt_size hol
      have z1 : (s.heap.push (S0 w)).objs.size = s.heap.objs.size + 1 := Heap.size_push ..
      unfold Builtin.«set.__init__» noKeywords Builtin.Frozenset.updateFrom
      generalize ePI : pyIter = PI
      wp_walk
      subst ePI
      refine wpAny_pyIter_list isl1 (wpAny_bind (wpAny_runValue ?_))
      have calm3 : A.in1.in1.in1.handled = none := by simp [calm]
      have neI : l ≠ (s.heap.push (S0 w)).objs.size := by
        rw [z1]
        exact Nat.ne_of_lt (Nat.lt_succ_of_lt lt)
      have apart : s.heap.objs.size ∉ [(s.heap.push (S0 w)).objs.size, l] := by
        rw [z1]
        simp only [List.mem_cons, List.not_mem_nil, or_false, not_or]
        exact ⟨Nat.ne_of_lt (Nat.lt_succ_self _), Nat.ne_of_gt lt⟩
      have vals : ∀ (i : Nat) (v : Value), items[i]? = some v → ∃ j t, ns[i]? = some j ∧ v = .int j t := by
        intro i v hv
        have hi : i < ns.length := size ▸ (Array.getElem?_eq_some_iff.mp hv).1
        obtain ⟨t, e⟩ := PyProof.Rows.IntsAre.int_at isI i v (by rw [Array.getElem?_toList]; exact hv)
        refine ⟨ns[i], t, List.getElem?_eq_getElem hi, ?_⟩
        rw [e, List.getD_eq_getElem?_getD, List.getElem?_eq_getElem hi]
        rfl
      refine set_update_ints ((Walks.list calm3 _ l neI items).toS) s.heap.objs.size apart ns size few vals (items.size - 0) 0 _ (by omega) (Nat.zero_le _) ⟨⟨_, Heap.get?_push_size _ rfl, rfl, rfl⟩, isl1.push _⟩
        ⟨0, Nat.le_refl 0, setR_new_at (Heap.get?_push_of_some _ at0)⟩ ?_
      rintro ⟨g, gg, dd, tk, oo⟩ c mv hc hS
      have e1 : gg = s.gens := mv.gens
      have e2 : dd = s.drawn := mv.drawn
      have e3 : oo = s.os := mv.os
      subst e1 e2 e3
      show wpAny _ _ _ _ _ _
      refine wpAny_pure ?_
      show wpAny _ _ (ret Value.none) _ _ _
      refine wpAny_pure ⟨rfl, g, tk, c, rfl, hS, size ▸ hc, fun b o e => ?_⟩
      have lb : b < s.heap.objs.size := Heap.lt_size e
      refine mv.heap b o ?_ (Heap.get?_push_of_some _ (Heap.get?_push_of_some _ e))
      rw [z1]
      simp only [List.mem_cons, List.not_mem_nil, or_false, not_or]
      exact ⟨Nat.ne_of_lt lb, Nat.ne_of_lt (Nat.lt_succ_of_lt lb)⟩
    · match res2, ok2 with
      | .error e, ok2 => exact ok2
      | .ok (.ret v), ok2 =>
        obtain ⟨rfl, g, tk, c, rfl, hS, hc, kp⟩ := ok2
        repeat any_goals first | assumption | wp_step
        exact k _ _ _ hS hc kp
      | .ok .next, ok2 => exact ok2.elim
      | .ok .brk, ok2 => exact ok2.elim
      | .ok .cont, ok2 => exact ok2.elim
  | .ok .next, ok => exact ok.elim
  | .ok .brk, ok => exact ok.elim
  | .ok .cont, ok => exact ok.elim
end
end SL

set_option Elab.async false
set_option linter.all false
set_option maxRecDepth 100000
set_option maxHeartbeats 4000000
namespace SL
open PySem PySem.Spec PyProof.Rows L2
section
variable {X : Cx}
def tSortedSet (K : PySem.W.Frag) (te : TE) : TE := fun σ H Q => te σ H fun x H1 => ∃ (l : Addr) (ns : List Int), x = .ref l ∧ SqL K H1 l (ns.map V.int) ∧ ns.length ≤ 1000 ∧ (∀ u : List Int, u.Nodup → (∀ j ∈ u, j ∈ ns) → u.length < 64) ∧
  ∀ (u : List Int) (p : Addr), u.Nodup → (∀ j ∈ u, j ∈ ns) → u.length < 64 → H1 p = none → Q (.ref p) (upd H1 p (.lst (u.map V.int)))
/-- sorted(set(xs)), xs a list of ints, fewer than 64 unlike ones -/
theorem pe_sortedSet {a : Expr} {ta : TE} {p p2 q pos : Pos} (hc : X.calm = true) (hg : Gl X "sorted") (hm : X.mg "sorted" = none) (hg2 : Gl X "set") (hm2 : X.mg "set" = none) (ha : PE X a ta)
    (na : starEach [a] X.env = (false, eval a X.env) :: starEach [] X.env := by rfl) : PE X (.Call (.Name "sorted" p) [.Call (.Name "set" p2) [a] [] q] [] pos) (tSortedSet X.K ta) := by
  refine ⟨fun pins s σ H Q I h => Call_ (ld_blt I hg hm PyProof.Rows.boot_sorted ?_)⟩
  refine PyProof.Rows.callWith_builtin1 (PyProof.Rows.args_cons (Call_ (ld_blt I hg2 hm2 PyProof.Rows.boot_set ?_)) rfl) rfl rfl
  refine PyProof.Rows.callWith_type1 (PyProof.Rows.args_cons (thn (ha.run pins s σ H _ I h) fun v s1 ⟨x, H1, I1, r1, q1⟩ => PyProof.Rows.args_nil ?_) na) na rfl
  obtain ⟨l, ns, rfl, sq, len, few, q1⟩ := q1
  cases r1
  obtain ⟨its, r, pl, _⟩ := I1.list sq
  refine set_of_ints ns (I1.ok.hd hc) pl.isList (by simpa using r.ints) (by unfold scanBound; omega) fun g tk c hS hcn kp => PyProof.Rows.args_nil ?_
  have h64 : c < 64 := by
    obtain ⟨o, es, ep, t, ho, hex, hd, gd, nd, hm3, hb, hf, hn, _⟩ := hS
    have := few (es.toList.map keyOf) nd fun j hj => of_decide_eq_true ((hm3 j).mpr hj)
    rw [List.length_map, Array.length_toList, hn] at this
    exact this
  refine sorted_set (s := { s1 with heap := g, toks := tk }) hS (I1.ok.hd hc) h64 fun t p0 out cc u k gg oo hp hgt hi hs hmem hl => ?_
  have kall : ∀ b o, s1.heap.get? b = some o → t.heap.get? b = some o := fun b o e => k b o (kp b o e)
  obtain ⟨o0, _, _, _, ho0, _⟩ := hS
  have hlt : s1.heap.objs.size < g.objs.size := Heap.lt_size ho0
  have hp1 : s1.heap.objs.size ≤ p0 := Nat.le_trans (Nat.le_of_lt hlt) hp
  have fr : H1 p0 = none := I1.hok.fresh hp1
  have hlen : (u.map V.int).length ≤ sizeLine := by
    rw [List.length_map, hl, sizeLine_eq]
    omega
  have J : Inv X pins σ (upd H1 p0 (.lst (u.map V.int))) { s1 with heap := t.heap, gens := t.gens, drawn := t.drawn, toks := t.toks } := I1.call (ch := []) (Un.laid kall hp1 fr) (I1.hok.laid kall hp1 ⟨hlen, out.toList, cc, vals_of_ints hi, hgt⟩) (by rw [gg]; exact I1.bare) (fun _ z => nomatch z)
  have et : t = { s1 with heap := t.heap, gens := t.gens, drawn := t.drawn, toks := t.toks } := by
    cases t
    cases s1
    cases oo
    rfl
  rw [et]
  exact ⟨.ref p0, _, J, rfl, q1 u p0 (hs.imp fun h => Int.ne_of_lt h) (fun j hj => of_decide_eq_true ((hmem j).mp hj)) (by omega) fr⟩
end
end SL

set_option Elab.async false
set_option linter.all false
set_option maxRecDepth 100000
set_option maxHeartbeats 4000000
/-! sorted(set(xs)), however many -/
namespace SL
open PySem PySem.Spec PyProof.Rows L2
section
variable {P : Program} {w : World} {A : Around} {E : Value → Shared → Prop} {s : Shared} {a : Addr}
theorem sorted_any {S : Int → Bool} {n : Nat} {Q : Value → Shared → Prop} (R : SetR w s.heap a S n) (hh : A.handled = none) (fits : n ≤ sizeLine)
    (hQ : ∀ t p (out : List Value) (c : Nat) (u : List Int), (∀ b o, s.heap.get? b = some o → t.heap.get? b = some o) → t.gens = s.gens → t.os = s.os → s.heap.objs.size ≤ p → t.heap.get? p = some (seqObj "list" out.toArray c) → IntsAre out u → u.Pairwise (· < ·) → (∀ k, k ∈ u ↔ S k = true) → u.length = n → Q (.ref p) t) :
    wpAny (model P w) A (call (.builtin "sorted") [.ref a]) Q E s := by
  obtain ⟨o, es, ep, t, ho, hex, hd, g, nd, hm, hb, hf, hn, hr, hl⟩ := R
  refine Calls.call_function_entry kind_sorted plain_sorted entry_sorted (args_sorted1 _) ?_
  unfold Builtin.«sorted»
  refine wpAny_bind (m := checkCount "sorted" 1 1 _) (wpAny_pure ?_)
  refine wpAny_bind (collect_set (A := A.in1) hh ⟨o, ho, hex.1, hd⟩ hf hb hr hl fun s1 vs k1 hz g1 o1 pm => ?_)
  have many : vs.length = n := by rw [pm.length_eq, List.length_map, Array.length_toList]; exact hn
  have inI : IntsAre vs (vs.map Builtin.Re.reRawOf) := ints_of vs fun v hv => by
    obtain ⟨e, he, q⟩ := List.mem_map.mp (pm.mem_iff.mp hv)
    obtain ⟨k, tk, h1, _⟩ := g e he
    exact ⟨k, tk, by rw [← q]; exact h1⟩
  have keys : (vs.map Builtin.Re.reRawOf).Perm (es.toList.map keyOf) := by
    have q := pm.map Builtin.Re.reRawOf
    rw [List.map_map] at q
    exact q
  refine wpAny_bind (wpAny_newList ?_ (by rw [many]; exact fits))
  have new : (s1.heap.push (seqObj "list" vs.toArray 0)).get? s1.heap.objs.size = some (seqObj "list" vs.toArray 0) := Heap.get?_push_size _ rfl
  refine wpAny_bind (wpAny_holding (wpAny_call_entry slot_list_sort ⟨_, new, rfl⟩ entry_list_sort (SrtO.list_sort_ord SrtO.swo_int new (by rw [many]; exact fits) (fun h2 => SrtO.ints_sortable inI h2) fun out x1 x2 => ⟨_, rfl, ?_⟩) (args_list_sort _)))
  obtain ⟨b1, b2, b3⟩ := SrtO.ints_out inI x1 x2
  obtain ⟨c, hc⟩ := sortedHeap_at (vs := vs) (out := out.toArray) new
  have pn := b2.trans keys
  refine wpAny_pure ⟨_, rfl, hQ _ s1.heap.objs.size out c _ (fun b u e => ?_) g1 o1 hz hc b1 (lt_of_le_nodup _ b3 (pn.nodup_iff.mpr nd)) (fun k => by rw [pn.mem_iff, ← hm k]) ?_⟩
  · have q := k1 b u e
    have lt := Heap.lt_size q
    show (sortedHeap (s1.heap.push (seqObj "list" vs.toArray 0)) s1.heap.objs.size vs out.toArray).get? b = some u
    rw [sortedHeap_old (Nat.ne_of_lt lt) (by rw [size_push']; exact Nat.lt_succ_of_lt lt)]
    exact Heap.get?_push_of_some _ q
  · rw [pn.length_eq, List.length_map, Array.length_toList]
    exact hn
end
section
variable {X : Cx}
def tSortedSetN (K : PySem.W.Frag) (te : TE) : TE := fun σ H Q => te σ H fun x H1 => ∃ (l : Addr) (ns : List Int), x = .ref l ∧ SqL K H1 l (ns.map V.int) ∧ ns.length ≤ 4000 ∧
  ∀ (u : List Int) (p : Addr), u.Pairwise (· < ·) → (∀ j, j ∈ u ↔ j ∈ ns) → u.length ≤ ns.length → H1 p = none → Q (.ref p) (upd H1 p (.lst (u.map V.int)))
theorem pe_sortedSetN {a : Expr} {ta : TE} {p p2 q pos : Pos} (hc : X.calm = true) (hg : Gl X "sorted") (hm : X.mg "sorted" = none) (hg2 : Gl X "set") (hm2 : X.mg "set" = none) (ha : PE X a ta)
    (na : starEach [a] X.env = (false, eval a X.env) :: starEach [] X.env := by rfl) : PE X (.Call (.Name "sorted" p) [.Call (.Name "set" p2) [a] [] q] [] pos) (tSortedSetN X.K ta) := by
  refine ⟨fun pins s σ H Q I h => Call_ (ld_blt I hg hm PyProof.Rows.boot_sorted ?_)⟩
  refine PyProof.Rows.callWith_builtin1 (PyProof.Rows.args_cons (Call_ (ld_blt I hg2 hm2 PyProof.Rows.boot_set ?_)) rfl) rfl rfl
  refine PyProof.Rows.callWith_type1 (PyProof.Rows.args_cons (thn (ha.run pins s σ H _ I h) fun v s1 ⟨x, H1, I1, r1, q1⟩ => PyProof.Rows.args_nil ?_) na) na rfl
  obtain ⟨l, ns, rfl, sq, len, q1⟩ := q1
  cases r1
  obtain ⟨its, r, pl, _⟩ := I1.list sq
  refine set_of_ints ns (I1.ok.hd hc) pl.isList (by simpa using r.ints) (by unfold scanBound; omega) fun g tk c hS hcn kp => PyProof.Rows.args_nil ?_
  have fits : c ≤ sizeLine := by
    rw [sizeLine_eq]
    omega
  refine sorted_any (s := { s1 with heap := g, toks := tk }) hS (I1.ok.hd hc) fits fun t p0 out cc u k gg oo hp hgt hi hs hmem hl => ?_
  have kall : ∀ b o, s1.heap.get? b = some o → t.heap.get? b = some o := fun b o e => k b o (kp b o e)
  obtain ⟨o0, _, _, _, ho0, _⟩ := hS
  have hlt : s1.heap.objs.size < g.objs.size := Heap.lt_size ho0
  have hp1 : s1.heap.objs.size ≤ p0 := Nat.le_trans (Nat.le_of_lt hlt) hp
  have fr : H1 p0 = none := I1.hok.fresh hp1
  have hlen : (u.map V.int).length ≤ sizeLine := by
    rw [List.length_map, hl]
    exact fits
  have J : Inv X pins σ (upd H1 p0 (.lst (u.map V.int))) { s1 with heap := t.heap, gens := t.gens, drawn := t.drawn, toks := t.toks } := I1.call (ch := []) (Un.laid kall hp1 fr) (I1.hok.laid kall hp1 ⟨hlen, out, cc, vals_of_ints hi, hgt⟩) (by rw [gg]; exact I1.bare) (fun _ z => nomatch z)
  have et : t = { s1 with heap := t.heap, gens := t.gens, drawn := t.drawn, toks := t.toks } := by
    cases t
    cases s1
    cases oo
    rfl
  rw [et]
  refine ⟨.ref p0, _, J, rfl, q1 u p0 hs (fun j => ?_) (by omega) fr⟩
  rw [hmem j]
  exact decide_eq_true_iff
end
end SL

set_option linter.all false
namespace K01
theorem fmod_abs_lt (a b : Int) (h : b ≠ 0) : (a.fmod b).natAbs < b.natAbs := by
  have h1 := Int.emod_nonneg a h
  have h2 : a % b < (b.natAbs : Int) := Int.emod_lt a h
  have h3 : ¬ b ∣ a → a % b ≠ 0 := fun n z => n (Int.dvd_of_emod_eq_zero z)
  rw [Int.fmod_eq_emod]
  split
  · omega
  · rename_i c
    have c1 : ¬ 0 ≤ b := fun z => c (.inl z)
    have c2 := h3 fun z => c (.inr z)
    omega
theorem gcd_fmod (a b : Int) : Int.gcd b (a.fmod b) = Int.gcd a b := by
  have e := Int.fmod_add_mul_fdiv a b
  have h : Int.gcd b (a.fmod b + b * a.fdiv b) = Int.gcd b (a.fmod b) := by
    rw [Int.gcd_add_mul_left_right]
  rw [← h, e, Int.gcd_comm]
/-- what holds between two turns of both's loop, A and B the numbers without their signs -/
structure Bo (A B m r x l : Int) : Prop where
  a0 : 0 ≤ A
  m0 : 0 ≤ m
  r0 : 0 ≤ r
  em : ∃ y, m = x * A + y * B
  er : ∃ z, r = l * A + z * B
  g : Int.gcd m r = Int.gcd A B
  bd : (l.natAbs : Int) * m + (x.natAbs : Int) * r ≤ B
  bx : (x.natAbs : Int) ≤ B + 1
  bl : (l.natAbs : Int) ≤ B + 1
  mA : m ≤ A + B
  rB : r ≤ B
theorem bo_start {A B : Int} (hA : 0 ≤ A) (hB : 0 ≤ B) : Bo A B A B 1 0 :=
  ⟨hA, hA, hB, ⟨0, by grind⟩, ⟨1, by grind⟩, rfl, by simp, by simp; omega, by simp; omega, by omega, by omega⟩
theorem abs_step (x q l : Int) (hq : 0 ≤ q) : ((x - q * l).natAbs : Int) ≤ x.natAbs + q * l.natAbs := by
  have h1 : ((q * l).natAbs : Int) = q * l.natAbs := by
    rw [Int.natAbs_mul, Int.natCast_mul, Int.natAbs_of_nonneg hq]
  rw [← h1]
  generalize q * l = p
  omega
theorem bo_step {A B m r x l : Int} (h : Bo A B m r x l) (hr : r ≠ 0) : Bo A B r (m % r) l (x - m / r * l) := by
  obtain ⟨a0, m0, r0, ⟨y, em⟩, ⟨z, er⟩, g, bd, bx, bl, mA, rB⟩ := h
  have rp : 0 < r := by omega
  have e1 := Int.mul_ediv_add_emod m r
  have q0 : 0 ≤ m / r := Int.ediv_nonneg m0 r0
  have n0 := Int.emod_nonneg m hr
  have n1 := Int.emod_lt_of_pos m rp
  have ab := abs_step x (m / r) l q0
  generalize m / r = q at *
  have eg : Int.gcd r (m % r) = Int.gcd m r := by
    rw [Int.gcd_comm m r, ← e1, Int.gcd_mul_left_add_right]
    rw [e1]
  generalize m % r = n at *
  obtain ⟨L, hL⟩ : ∃ L, (x - q * l).natAbs = L := ⟨_, rfl⟩
  rw [hL] at ab
  have key : (L : Int) * r + (l.natAbs : Int) * n ≤ B := by
    have t : (L : Int) * r ≤ ((x.natAbs : Int) + q * l.natAbs) * r := Int.mul_le_mul_of_nonneg_right ab r0
    have t2 : ((x.natAbs : Int) + q * l.natAbs) * r + (l.natAbs : Int) * n = (l.natAbs : Int) * m + (x.natAbs : Int) * r := by
      rw [← e1]
      generalize (x.natAbs : Int) = X
      generalize (l.natAbs : Int) = M
      grind
    omega
  have L0 : (0 : Int) ≤ (L : Int) := Int.natCast_nonneg _
  have key2 : (L : Int) ≤ B := by
    have t : (L : Int) * 1 ≤ (L : Int) * r := Int.mul_le_mul_of_nonneg_left (by omega) L0
    have t2 : (0 : Int) ≤ (l.natAbs : Int) * n := Int.mul_nonneg (Int.natCast_nonneg _) n0
    omega
  exact ⟨a0, r0, n0, ⟨z, er⟩, ⟨y - q * z, by grind⟩, eg.trans g, by rw [hL]; exact key, bl, by rw [hL]; omega, by omega, by omega⟩
theorem bo_end {a b m x l : Int} (h : Bo (a.natAbs : Int) (b.natAbs : Int) m 0 x l) : m = (Int.gcd a b : Int) ∧
    (if a < 0 then -x else x) * a + (if b = 0 then 0 else (m - (if a < 0 then -x else x) * a).fdiv b) * b = m := by
  obtain ⟨a0, m0, r0, ⟨y, em⟩, ⟨z, er⟩, g, bd, bx, bl, mA, rB⟩ := h
  have e1 : m = (Int.gcd a b : Int) := by
    have g2 : Int.gcd (a.natAbs : Int) (b.natAbs : Int) = Int.gcd a b := by simp [Int.gcd]
    rw [Int.gcd_zero_right, g2] at g
    omega
  refine ⟨e1, ?_⟩
  have e2 : (if a < 0 then -x else x) * a = x * (a.natAbs : Int) := by
    split
    · have : (a.natAbs : Int) = -a := by omega
      rw [this]
      grind
    · have : (a.natAbs : Int) = a := by omega
      rw [this]
  rw [e2]
  split
  · rename_i hb
    subst hb
    simp at em
    omega
  · rename_i hb
    have e3 : m - x * (a.natAbs : Int) = y * (b.natAbs : Int) := by omega
    rw [e3]
    have e4 : ∃ k, y * (b.natAbs : Int) = b * k := by
      by_cases hs : b < 0
      · exact ⟨-y, by have : (b.natAbs : Int) = -b := by omega
                      rw [this]; grind⟩
      · exact ⟨y, by have : (b.natAbs : Int) = b := by omega
                     rw [this]; grind⟩
    obtain ⟨k, hk⟩ := e4
    rw [hk, Int.mul_fdiv_cancel_left _ hb]
    grind
theorem bo_bounds {a b m x l : Int} (h : Bo (a.natAbs : Int) (b.natAbs : Int) m 0 x l) (ha : a.natAbs < 2 ^ 200) (hb : b.natAbs < 2 ^ 200) (x2 y2 : Int) (hx : x2 = if a < 0 then -x else x) (he : b ≠ 0 → y2 * b = m - x2 * a) (h0 : b = 0 → y2 = 0) :
    x2.natAbs < 2 ^ 202 ∧ y2.natAbs < 2 ^ 410 := by
  obtain ⟨a0, m0, r0, _, _, g, bd, bx, bl, mA, rB⟩ := h
  have hx2 : x2.natAbs = x.natAbs := by
    rw [hx]
    split <;> omega
  have e202 : (2 : Nat) ^ 202 = 4 * 2 ^ 200 := by decide
  have q1 : x2.natAbs < 2 ^ 202 := by
    rw [e202]
    omega
  refine ⟨q1, ?_⟩
  by_cases hz : b = 0
  · rw [h0 hz]
    decide
  · have e1 := he hz
    have e2 : (y2 * b).natAbs = (m - x2 * a).natAbs := by rw [e1]
    rw [Int.natAbs_mul] at e2
    have e3 : (m - x2 * a).natAbs ≤ m.natAbs + (x2 * a).natAbs := by
      generalize x2 * a = t
      omega
    rw [Int.natAbs_mul] at e3
    have e4 : y2.natAbs * 1 ≤ y2.natAbs * b.natAbs := Nat.mul_le_mul_left _ (by omega)
    have e5 : x2.natAbs * a.natAbs ≤ 2 ^ 202 * 2 ^ 200 := Nat.mul_le_mul (Nat.le_of_lt q1) (Nat.le_of_lt ha)
    have e6 : (2 : Nat) ^ 202 * 2 ^ 200 + 2 ^ 202 < 2 ^ 410 := by decide
    have e7 : m.natAbs ≤ 2 ^ 202 := by
      rw [e202]
      omega
    generalize x2.natAbs * a.natAbs = u at *
    generalize y2.natAbs * b.natAbs = v at *
    omega
theorem lcm_law {i j : Int} : ((if i = 0 ∨ j = 0 then 0 else (i.natAbs : Int) / ((Int.gcd i j : Nat) : Int) * (j.natAbs : Int)) * ((Int.gcd i j : Nat) : Int)) = ((i * j).natAbs : Int) := by
  split
  · rename_i h
    rcases h with h | h
    · subst h
      simp
    · subst h
      simp
  · have h : ((Int.gcd i j : Nat) : Int) ∣ (i.natAbs : Int) := Int.natCast_dvd_natCast.mpr (Nat.gcd_dvd_left _ _)
    have e := Int.ediv_mul_cancel h
    rw [Int.natAbs_mul, Int.natCast_mul]
    generalize (i.natAbs : Int) / ((Int.gcd i j : Nat) : Int) = q at *
    rw [← e]
    grind
end K01

set_option linter.all false
namespace K02
/-- prime by trial -/
def Pri (q : Int) : Prop := 2 ≤ q ∧ ∀ d : Int, 2 ≤ d → d * d ≤ q → ¬ d ∣ q
/-- the product of primes and their powers -/
def prod : List (Int × Int) → Int
  | [] => 1
  | pe :: r => pe.1 ^ pe.2.toNat * prod r
theorem prod_snoc (p e : Int) : ∀ l : List (Int × Int), prod (l ++ [(p, e)]) = prod l * p ^ e.toNat
  | [] => by simp [prod]
  | x :: r => by
    show x.1 ^ x.2.toNat * prod (r ++ [(p, e)]) = x.1 ^ x.2.toNat * prod r * p ^ e.toNat
    rw [prod_snoc p e r, Int.mul_assoc]
theorem prod_append (l r : List (Int × Int)) : prod (l ++ r) = prod l * prod r := by
  induction l with
  | nil => simp [prod]
  | cons x l ih =>
    show x.1 ^ x.2.toNat * prod (l ++ r) = x.1 ^ x.2.toNat * prod l * prod r
    rw [ih, Int.mul_assoc]
/-- rising primes, each often from 1 on, below lim -/
structure Rise (lim : Int) (l : List (Int × Int)) : Prop where
  up : l.Pairwise fun x y => x.1 < y.1
  pr : ∀ x ∈ l, Pri x.1
  of : ∀ x ∈ l, 1 ≤ x.2
  lt : ∀ x ∈ l, x.1 < lim
theorem rise_nil (lim : Int) : Rise lim [] := ⟨List.Pairwise.nil, by simp, by simp, by simp⟩
theorem Rise.mono {lim lim' : Int} {l : List (Int × Int)} (h : Rise lim l) (k : lim ≤ lim') : Rise lim' l := ⟨h.up, h.pr, h.of, fun x hx => by have := h.lt x hx; omega⟩
theorem Rise.snoc {lim p e : Int} {l : List (Int × Int)} (h : Rise lim l) (hp : Pri p) (he : 1 ≤ e) (hl : lim ≤ p) : Rise (p + 1) (l ++ [(p, e)]) := by
  refine ⟨?_, ?_, ?_, ?_⟩
  · rw [List.pairwise_append]
    refine ⟨h.up, by simp, ?_⟩
    intro a ha b hb
    have e := List.mem_singleton.mp hb
    subst e
    have := h.lt a ha
    show a.1 < p
    omega
  · intro x hx
    rcases List.mem_append.mp hx with z | z
    · exact h.pr x z
    · rw [List.mem_singleton.mp z]
      exact hp
  · intro x hx
    rcases List.mem_append.mp hx with z | z
    · exact h.of x z
    · rw [List.mem_singleton.mp z]
      exact he
  · intro x hx
    rcases List.mem_append.mp hx with z | z
    · have := h.lt x z
      omega
    · rw [List.mem_singleton.mp z]
      show p < p + 1
      omega
/-- no number from 2 to below p divides m -/
def Rough (p m : Int) : Prop := ∀ d : Int, 2 ≤ d → d < p → ¬ d ∣ m
theorem rough_dvd {p m k : Int} (h : Rough p m) (hk : k ∣ m) : Rough p k := fun d h1 h2 h3 => h d h1 h2 (Int.dvd_trans h3 hk)
theorem sq_lt {d p : Int} (h : 2 ≤ d) (hd : d * d ≤ p) : d < p := by
  have : d * 2 ≤ d * d := Int.mul_le_mul_of_nonneg_left h (by omega)
  omega
theorem pri_least {p m : Int} (hp : 2 ≤ p) (h : Rough p m) (hd : p ∣ m) : Pri p := ⟨hp, fun d h1 h2 h3 => h d h1 (sq_lt h1 h2) (Int.dvd_trans h3 hd)⟩
theorem pri_rest {p m : Int} (hm : 1 < m) (h : Rough p m) (hs : m < p * p) (hp : 2 ≤ p) : Pri m := by
  refine ⟨by omega, fun d h1 h2 h3 => h d h1 ?_ h3⟩
  by_cases hd : d < p
  · exact hd
  · have : p * p ≤ d * d := Int.mul_le_mul (by omega) (by omega) (by omega) (by omega)
    omega
theorem rough_next {p m : Int} (h : Rough p m) (hd : ¬ p ∣ m) : Rough (p + 1) m := fun d h1 h2 h3 => by
  by_cases e : d = p
  · subst e
    exact hd h3
  · exact h d h1 (by omega) h3
theorem pow_pos' {p : Int} (hp : 0 < p) : ∀ n : Nat, 0 < p ^ n
  | 0 => by simp
  | n + 1 => by
    rw [Int.pow_succ]
    exact Int.mul_pos (pow_pos' hp n) hp
theorem two_pow_le {p : Int} (hp : 2 ≤ p) : ∀ n : Nat, (2 : Int) ^ n ≤ p ^ n
  | 0 => by simp
  | n + 1 => by
    rw [Int.pow_succ, Int.pow_succ]
    exact Int.mul_le_mul (two_pow_le hp n) hp (by omega) (Int.le_of_lt (pow_pos' (by omega) n))
theorem prod_pos : ∀ {l : List (Int × Int)}, (∀ x ∈ l, Pri x.1) → 0 < prod l
  | [], _ => by decide
  | x :: r, h => by
    have h1 : 0 < x.1 := by
      have := (h x (List.mem_cons.mpr (.inl rfl))).1
      omega
    exact Int.mul_pos (pow_pos' h1 _) (prod_pos fun y hy => h y (List.mem_cons.mpr (.inr hy)))
/-- a factor of a number to a million stands at most nineteen times -/
theorem often19 {l : List (Int × Int)} {N : Int} (hN : prod l = N) (hle : N ≤ 1000000) (h : ∀ x ∈ l, Pri x.1) {p e : Int} (hm : (p, e) ∈ l) : e ≤ 19 := by
  obtain ⟨a, b, rfl⟩ := List.append_of_mem hm
  have hp : Pri p := h (p, e) hm
  have ha : 0 < prod a := prod_pos fun x hx => h x (List.mem_append.mpr (.inl hx))
  have hb : 0 < prod b := prod_pos fun x hx => h x (List.mem_append.mpr (.inr (List.mem_cons.mpr (.inr hx))))
  rw [prod_append] at hN
  have e1 : prod ((p, e) :: b) = p ^ e.toNat * prod b := rfl
  rw [e1] at hN
  by_cases he : e ≤ 19
  · exact he
  · have h20 : 20 ≤ e.toNat := by omega
    have h1 : (2 : Int) ^ e.toNat ≤ p ^ e.toNat := two_pow_le hp.1 _
    have h2 : (2 : Int) ^ 20 ≤ 2 ^ e.toNat := by
      have e2 : e.toNat = 20 + (e.toNat - 20) := by omega
      rw [e2, Int.pow_add]
      have : 0 < (2 : Int) ^ (e.toNat - 20) := pow_pos' (by decide) _
      have h3 : (2 : Int) ^ 20 * 1 ≤ 2 ^ 20 * 2 ^ (e.toNat - 20) := Int.mul_le_mul_of_nonneg_left (by omega) (by decide)
      omega
    have e20 : (2 : Int) ^ 20 = 1048576 := by decide
    have h3 : p ^ e.toNat * 1 ≤ p ^ e.toNat * prod b := Int.mul_le_mul_of_nonneg_left (by omega) (by omega)
    have h4 : 1 * (p ^ e.toNat * prod b) ≤ prod a * (p ^ e.toNat * prod b) := Int.mul_le_mul_of_nonneg_right (by omega) (by omega)
    omega
theorem prod_one {l : List (Int × Int)} (h : prod l = 1) (hp : ∀ x ∈ l, Pri x.1) (ho : ∀ x ∈ l, 1 ≤ x.2) : l = [] := by
  cases l with
  | nil => rfl
  | cons x r =>
    exfalso
    have h1 := hp x (List.mem_cons.mpr (.inl rfl))
    have h2 := ho x (List.mem_cons.mpr (.inl rfl))
    have h3 : 0 < prod r := prod_pos fun y hy => hp y (List.mem_cons.mpr (.inr hy))
    have h4 : (2 : Int) ^ x.2.toNat ≤ x.1 ^ x.2.toNat := two_pow_le h1.1 _
    have h5 : (2 : Int) ^ 1 ≤ 2 ^ x.2.toNat := by
      have e2 : x.2.toNat = 1 + (x.2.toNat - 1) := by omega
      rw [e2, Int.pow_add]
      have : 0 < (2 : Int) ^ (x.2.toNat - 1) := pow_pos' (by decide) _
      have h3 : (2 : Int) ^ 1 * 1 ≤ 2 ^ 1 * 2 ^ (x.2.toNat - 1) := Int.mul_le_mul_of_nonneg_left (by omega) (by decide)
      omega
    have e1 : (2 : Int) ^ 1 = 2 := by decide
    have h6 : x.1 ^ x.2.toNat * 1 ≤ x.1 ^ x.2.toNat * prod r := Int.mul_le_mul_of_nonneg_left (by omega) (by omega)
    have h7 : x.1 ^ x.2.toNat * prod r = 1 := h
    omega
end K02

set_option linter.all false
namespace K35
/-! ### how many things are nought so often -/
def F (n : Nat) : List Nat → Nat
  | [] => 1
  | x :: r => Nat.gcd n x * F n r
theorem F_app (n : Nat) : ∀ l m : List Nat, F n (l ++ m) = F n l * F n m
  | [], m => by simp [F]
  | x :: r, m => by simp only [List.cons_append, F]; rw [F_app n r m, Nat.mul_assoc]
theorem F_perm {l m : List Nat} (n : Nat) (h : l.Perm m) : F n l = F n m := by
  induction h with
  | nil => rfl
  | cons x _ ih => simp only [F]; rw [ih]
  | swap x y l => simp only [F]; rw [Nat.mul_left_comm]
  | trans _ _ a b => exact a.trans b
def Pos (l : List Nat) : Prop := ∀ x ∈ l, 0 < x
theorem Pos.tail {x : Nat} {l : List Nat} (h : Pos (x :: l)) : Pos l := fun y hy => h y (List.mem_cons_of_mem _ hy)
theorem Pos.head {x : Nat} {l : List Nat} (h : Pos (x :: l)) : 0 < x := h x (List.mem_cons_self)
theorem F_pos (n : Nat) : ∀ {l : List Nat}, Pos l → 0 < F n l
  | [], _ => Nat.one_pos
  | x :: r, h => Nat.mul_pos (Nat.gcd_pos_of_pos_right _ h.head) (F_pos n h.tail)
theorem F_le (n : Nat) : ∀ {l : List Nat}, Pos l → F n l ≤ F 0 l
  | [], _ => Nat.le_refl _
  | x :: r, h => by
    simp only [F, Nat.gcd_zero_left]
    exact Nat.mul_le_mul (Nat.gcd_le_right _ h.head) (F_le n h.tail)
theorem F_all (n : Nat) : ∀ {l : List Nat}, Pos l → F n l = F 0 l → ∀ x ∈ l, x ∣ n
  | [], _, _, x, hx => by simp at hx
  | y :: r, h, e, x, hx => by
    simp only [F, Nat.gcd_zero_left] at e
    have a := Nat.gcd_le_right n h.head
    have b := F_le n h.tail
    have p := F_pos n h.tail
    have p0 := F_pos 0 h.tail
    have ey : Nat.gcd n y = y := by
      by_cases z : Nat.gcd n y = y
      · exact z
      · have l : Nat.gcd n y < y := Nat.lt_of_le_of_ne a z
        have : Nat.gcd n y * F n r < y * F 0 r := Nat.mul_lt_mul_of_lt_of_le l b p0
        omega
    have er : F n r = F 0 r := by
      rw [ey] at e
      exact Nat.eq_of_mul_eq_mul_left h.head e
    rcases List.mem_cons.mp hx with rfl | hx
    · exact Nat.gcd_eq_right_iff_dvd.mp ey
    · exact F_all n h.tail er x hx
theorem F_dvd : ∀ {l : List Nat} {x : Nat}, x ∈ l → x ∣ F 0 l
  | y :: r, x, hx => by
    simp only [F, Nat.gcd_zero_left]
    rcases List.mem_cons.mp hx with rfl | hx
    · exact Nat.dvd_mul_right _ _
    · exact Nat.dvd_trans (F_dvd hx) (Nat.dvd_mul_left _ _)
theorem F_max {l : List Nat} (h : Pos l) {x : Nat} (hx : x ∈ l) : x ≤ F 0 l := Nat.le_of_dvd (F_pos 0 h) (F_dvd hx)
/-! ### one chain -/
def Big (l : List Nat) : Prop := ∀ x ∈ l, 1 < x
theorem Big.pos {l : List Nat} (h : Big l) : Pos l := fun x hx => Nat.lt_trans Nat.zero_lt_one (h x hx)
theorem top_all {a : Nat} {r : List Nat} (c : (a :: r).Pairwise fun x y => y ∣ x) : F a (a :: r) = F 0 (a :: r) := by
  have c2 := List.pairwise_cons.mp c
  have go : ∀ l : List Nat, (∀ y ∈ l, y ∣ a) → F a l = F 0 l := by
    intro l
    induction l with
    | nil => intro _; rfl
    | cons y l ih =>
      intro h
      simp only [F, Nat.gcd_zero_left]
      rw [ih fun z hz => h z (List.mem_cons_of_mem _ hz), Nat.gcd_eq_right (h y (List.mem_cons_self))]
  exact go _ fun y hy => by
    rcases List.mem_cons.mp hy with rfl | hy
    · exact Nat.dvd_refl _
    · exact c2.1 y hy
theorem uniq_down : ∀ {A B : List Nat}, A.Pairwise (fun x y => y ∣ x) → B.Pairwise (fun x y => y ∣ x) → Big A → Big B → (∀ n, F n A = F n B) → A = B
  | [], [], _, _, _, _, _ => rfl
  | [], b :: r, _, _, _, hb, e => by
    exfalso
    have h := e 0
    have p := F_pos 0 hb.pos.tail
    have q := hb b List.mem_cons_self
    simp only [F, Nat.gcd_zero_left] at h
    have : 2 * 1 ≤ b * F 0 r := Nat.mul_le_mul q p
    omega
  | a :: r, [], _, _, ha, _, e => by
    exfalso
    have h := e 0
    have p := F_pos 0 ha.pos.tail
    have q := ha a List.mem_cons_self
    simp only [F, Nat.gcd_zero_left] at h
    have : 2 * 1 ≤ a * F 0 r := Nat.mul_le_mul q p
    omega
  | a :: r, b :: t, ca, cb, ha, hb, e => by
    have h1 : b ∣ a := F_all a hb.pos (by rw [← e a, ← e 0]; exact top_all ca) b List.mem_cons_self
    have h2 : a ∣ b := F_all b ha.pos (by rw [e b, e 0]; exact top_all cb) a List.mem_cons_self
    have ab : a = b := Nat.dvd_antisymm h2 h1
    subst ab
    congr 1
    refine uniq_down (List.pairwise_cons.mp ca).2 (List.pairwise_cons.mp cb).2 (fun x hx => ha x (List.mem_cons_of_mem _ hx)) (fun x hx => hb x (List.mem_cons_of_mem _ hx)) fun n => ?_
    have h := e n
    simp only [F] at h
    exact Nat.eq_of_mul_eq_mul_left (Nat.gcd_pos_of_pos_right _ ha.pos.head) h
structure Form (l : List Nat) : Prop where
  big : Big l
  up : l.Pairwise (· ∣ ·)
theorem uniq {A B : List Nat} (ha : Form A) (hb : Form B) (e : ∀ n, F n A = F n B) : A = B := by
  have r := uniq_down (A := A.reverse) (B := B.reverse) (List.pairwise_reverse.mpr ha.up) (List.pairwise_reverse.mpr hb.up) (fun x hx => ha.big x (List.mem_reverse.mp hx)) (fun x hx => hb.big x (List.mem_reverse.mp hx)) fun n => by
    rw [F_perm n (List.reverse_perm A), F_perm n (List.reverse_perm B)]
    exact e n
  have := congrArg List.reverse r
  simpa using this
/-! ### the form by common measures and multiples -/
theorem dvd_two (k a b c d : Nat) : k ∣ Nat.gcd a b * Nat.gcd c d ↔ (k ∣ a * c ∧ k ∣ b * c) ∧ (k ∣ a * d ∧ k ∣ b * d) := by
  have e : Nat.gcd a b * Nat.gcd c d = Nat.gcd (Nat.gcd (a * c) (b * c)) (Nat.gcd (a * d) (b * d)) := by
    rw [Nat.gcd_mul_right, Nat.gcd_mul_right, Nat.gcd_mul_left]
  rw [e, Nat.dvd_gcd_iff, Nat.dvd_gcd_iff, Nat.dvd_gcd_iff]
theorem swap2 (n x y : Nat) : Nat.gcd n (Nat.gcd x y) * Nat.gcd n (Nat.lcm x y) = Nat.gcd n x * Nat.gcd n y := by
  refine Nat.dvd_antisymm ?_ ?_
  · rw [dvd_two]
    have h := (dvd_two (Nat.gcd n (Nat.gcd x y) * Nat.gcd n (Nat.lcm x y)) n (Nat.gcd x y) n (Nat.lcm x y)).mp (Nat.dvd_refl _)
    obtain ⟨⟨h1, h2⟩, h3, h4⟩ := h
    rw [Nat.gcd_mul_lcm] at h4
    exact ⟨⟨h1, Nat.dvd_trans h2 (Nat.mul_dvd_mul_right (Nat.gcd_dvd_left _ _) _)⟩, by rw [Nat.mul_comm n y]; exact Nat.dvd_trans h2 (Nat.mul_dvd_mul_right (Nat.gcd_dvd_right _ _) _), h4⟩
  · rw [dvd_two]
    have h := (dvd_two (Nat.gcd n x * Nat.gcd n y) n x n y).mp (Nat.dvd_refl _)
    obtain ⟨⟨h1, h2⟩, h3, h4⟩ := h
    have hg : Nat.gcd n x * Nat.gcd n y ∣ Nat.gcd x y * n := by
      have e : Nat.gcd (x * n) (y * n) = Nat.gcd x y * n := Nat.gcd_mul_right x n y
      rw [← e]
      exact Nat.dvd_gcd h2 ((Nat.mul_comm n y) ▸ h3)
    have gl : Nat.gcd x y ∣ Nat.lcm x y := Nat.dvd_trans (Nat.gcd_dvd_left _ _) (Nat.dvd_lcm_left _ _)
    refine ⟨⟨h1, hg⟩, ?_, by rw [Nat.gcd_mul_lcm]; exact h4⟩
    rw [Nat.mul_comm n (Nat.lcm x y)]
    exact Nat.dvd_trans hg (Nat.mul_dvd_mul_right gl _)
def push (x : Nat) : List Nat → Nat × List Nat
  | [] => (x, [])
  | y :: r => ((push (Nat.gcd x y) r).1, Nat.lcm x y :: (push (Nat.gcd x y) r).2)
theorem push_F (n : Nat) : ∀ (r : List Nat) (x : Nat), Nat.gcd n (push x r).1 * F n (push x r).2 = Nat.gcd n x * F n r
  | [], x => rfl
  | y :: r, x => by
    have ih := push_F n r (Nat.gcd x y)
    simp only [push, F]
    rw [Nat.mul_left_comm, ih, ← Nat.mul_assoc, Nat.mul_comm (Nat.gcd n (Nat.lcm x y)), swap2, Nat.mul_assoc]
theorem push_len : ∀ (r : List Nat) (x : Nat), (push x r).2.length = r.length
  | [], x => rfl
  | y :: r, x => by simp only [push, List.length_cons, push_len r]
theorem push_low : ∀ (r : List Nat) (x : Nat), (push x r).1 ∣ x ∧ ∀ z ∈ (push x r).2, (push x r).1 ∣ z
  | [], x => ⟨Nat.dvd_refl _, fun z hz => by simp [push] at hz⟩
  | y :: r, x => by
    have ih := push_low r (Nat.gcd x y)
    have hx : (push x (y :: r)).1 ∣ x := Nat.dvd_trans ih.1 (Nat.gcd_dvd_left _ _)
    refine ⟨hx, fun z hz => ?_⟩
    rcases List.mem_cons.mp (show z ∈ Nat.lcm x y :: (push (Nat.gcd x y) r).2 from hz) with rfl | hz
    · exact Nat.dvd_trans hx (Nat.dvd_lcm_left _ _)
    · exact ih.2 z hz
theorem push_keep {d : Nat} : ∀ (r : List Nat) (x : Nat), d ∣ x → (∀ z ∈ r, d ∣ z) → d ∣ (push x r).1 ∧ ∀ z ∈ (push x r).2, d ∣ z
  | [], x, h, _ => ⟨h, fun z hz => by simp [push] at hz⟩
  | y :: r, x, h, hr => by
    have ih := push_keep r (Nat.gcd x y) (Nat.dvd_gcd h (hr y List.mem_cons_self)) fun z hz => hr z (List.mem_cons_of_mem _ hz)
    refine ⟨ih.1, fun z hz => ?_⟩
    rcases List.mem_cons.mp (show z ∈ Nat.lcm x y :: (push (Nat.gcd x y) r).2 from hz) with rfl | hz
    · exact Nat.dvd_trans h (Nat.dvd_lcm_left _ _)
    · exact ih.2 z hz
theorem push_under {L : Nat} : ∀ (r : List Nat) (x : Nat), x ∣ L → (∀ z ∈ r, z ∣ L) → (push x r).1 ∣ L ∧ ∀ z ∈ (push x r).2, z ∣ L
  | [], x, h, _ => ⟨h, fun z hz => by simp [push] at hz⟩
  | y :: r, x, h, hr => by
    have hy := hr y List.mem_cons_self
    have ih := push_under r (Nat.gcd x y) (Nat.dvd_trans (Nat.gcd_dvd_left _ _) h) fun z hz => hr z (List.mem_cons_of_mem _ hz)
    refine ⟨ih.1, fun z hz => ?_⟩
    rcases List.mem_cons.mp (show z ∈ Nat.lcm x y :: (push (Nat.gcd x y) r).2 from hz) with rfl | hz
    · exact Nat.lcm_dvd h hy
    · exact ih.2 z hz
def bub : Nat → List Nat → List Nat
  | 0, l => l
  | k + 1, [] => []
  | k + 1, x :: r => (push x r).1 :: bub k (push x r).2
theorem bub_F (n : Nat) : ∀ (k : Nat) (l : List Nat), F n (bub k l) = F n l
  | 0, l => rfl
  | k + 1, [] => rfl
  | k + 1, x :: r => by
    simp only [bub, F]
    rw [bub_F n k, push_F]
theorem bub_keep {d : Nat} : ∀ (k : Nat) (l : List Nat), (∀ z ∈ l, d ∣ z) → ∀ z ∈ bub k l, d ∣ z
  | 0, l, h, z, hz => h z hz
  | k + 1, [], h, z, hz => by simp [bub] at hz
  | k + 1, x :: r, h, z, hz => by
    have q := push_keep r x (h x List.mem_cons_self) fun z hz => h z (List.mem_cons_of_mem _ hz)
    rcases List.mem_cons.mp (show z ∈ (push x r).1 :: bub k (push x r).2 from hz) with rfl | hz
    · exact q.1
    · exact bub_keep k _ q.2 z hz
theorem bub_under {L : Nat} : ∀ (k : Nat) (l : List Nat), (∀ z ∈ l, z ∣ L) → ∀ z ∈ bub k l, z ∣ L
  | 0, l, h, z, hz => h z hz
  | k + 1, [], h, z, hz => by simp [bub] at hz
  | k + 1, x :: r, h, z, hz => by
    have q := push_under r x (h x List.mem_cons_self) fun z hz => h z (List.mem_cons_of_mem _ hz)
    rcases List.mem_cons.mp (show z ∈ (push x r).1 :: bub k (push x r).2 from hz) with rfl | hz
    · exact q.1
    · exact bub_under k _ q.2 z hz
theorem bub_up : ∀ (k : Nat) (l : List Nat), l.length ≤ k → (bub k l).Pairwise (· ∣ ·)
  | 0, l, h => by
    have : l = [] := List.length_eq_zero_iff.mp (by omega)
    subst this
    exact List.Pairwise.nil
  | k + 1, [], _ => List.Pairwise.nil
  | k + 1, x :: r, h => by
    refine List.pairwise_cons.mpr ⟨bub_keep k _ (push_low r x).2, bub_up k _ ?_⟩
    rw [push_len]
    simpa using h
theorem bub_len : ∀ (k : Nat) (l : List Nat), (bub k l).length = l.length
  | 0, l => rfl
  | k + 1, [] => rfl
  | k + 1, x :: r => by simp only [bub, List.length_cons, bub_len k, push_len]
def formF (l : List Nat) : List Nat := (bub l.length l).filter fun x => decide (1 < x)
theorem F_filter (n : Nat) : ∀ {l : List Nat}, Pos l → F n (l.filter fun x => decide (1 < x)) = F n l
  | [], _ => rfl
  | x :: r, h => by
    have ih := F_filter n h.tail
    by_cases z : 1 < x
    · rw [List.filter_cons_of_pos (by simpa using z)]
      simp only [F]
      rw [ih]
    · rw [List.filter_cons_of_neg (by simpa using z)]
      have : x = 1 := by have := h.head; omega
      subst this
      simp only [F]
      rw [ih, Nat.gcd_one_right, Nat.one_mul]
theorem pos_under {L : Nat} (hL : 0 < L) {l : List Nat} (h : ∀ z ∈ l, z ∣ L) : Pos l := fun x hx => Nat.pos_of_dvd_of_pos (h x hx) hL
theorem form_F {l : List Nat} (h : Pos l) (n : Nat) : F n (formF l) = F n l := by
  unfold formF
  rw [F_filter n (pos_under (F_pos 0 h) (bub_under _ _ fun z hz => F_dvd hz)), bub_F]
theorem form_is {l : List Nat} : Form (formF l) := by
  refine ⟨fun x hx => ?_, (bub_up _ l (Nat.le_refl _)).filter _⟩
  have := (List.mem_filter.mp hx).2
  simpa using this
theorem form_len (l : List Nat) : (formF l).length ≤ l.length := by
  unfold formF
  refine Nat.le_trans (List.length_filter_le _ _) ?_
  rw [bub_len]
  exact Nat.le_refl _
/-! ### primes -/
def Pr (p : Nat) : Prop := 2 ≤ p ∧ ∀ d, 2 ≤ d → d * d ≤ p → ¬ d ∣ p
theorem pr_dvd {p d : Nat} (h : Pr p) (hd : d ∣ p) : d = 1 ∨ d = p := by
  obtain ⟨e, rfl⟩ := hd
  have h2 := h.1
  have d0 : d ≠ 0 := fun z => by subst z; simp at h2
  have e0 : e ≠ 0 := fun z => by subst z; simp at h2
  by_cases d1 : d = 1
  · exact .inl d1
  by_cases e1 : e = 1
  · subst e1
    exact .inr (Nat.mul_one d).symm
  exfalso
  by_cases z : d ≤ e
  · exact h.2 d (by omega) (Nat.mul_le_mul_left d z) (Nat.dvd_mul_right _ _)
  · exact h.2 e (by omega) (Nat.mul_le_mul_right e (by omega)) (Nat.dvd_mul_left _ _)
theorem pr_co {p q : Nat} (hp : Pr p) (hq : Pr q) (n : p ≠ q) : Nat.Coprime p q := by
  rcases pr_dvd hp (Nat.gcd_dvd_left p q) with z | z
  · exact z
  · exfalso
    have d : p ∣ q := z ▸ Nat.gcd_dvd_right p q
    rcases pr_dvd hq d with y | y
    · have := hp.1
      omega
    · exact n y
/-! ### told by primes -/
def pw (p : Nat) (es : List Nat) : List Nat := es.map fun e => p ^ e
def Fo (n : Nat) : List (Nat × Nat) → Nat
  | [] => 1
  | x :: r => Nat.gcd n (x.1 ^ x.2) * Fo n r
def pdn : List (Nat × Nat) → Nat
  | [] => 1
  | x :: r => x.1 ^ x.2 * pdn r
theorem Fo_app (n : Nat) : ∀ l m : List (Nat × Nat), Fo n (l ++ m) = Fo n l * Fo n m
  | [], m => by simp [Fo]
  | x :: r, m => by simp only [List.cons_append, Fo]; rw [Fo_app n r m, Nat.mul_assoc]
theorem pdn_app : ∀ l m : List (Nat × Nat), pdn (l ++ m) = pdn l * pdn m
  | [], m => by simp [pdn]
  | x :: r, m => by simp only [List.cons_append, pdn]; rw [pdn_app r m, Nat.mul_assoc]
/-- unlike primes -/
structure Un (l : List (Nat × Nat)) : Prop where
  pr : ∀ x ∈ l, Pr x.1
  ne : l.Pairwise fun x y => x.1 ≠ y.1
theorem Un.tail {x : Nat × Nat} {l : List (Nat × Nat)} (h : Un (x :: l)) : Un l := ⟨fun y hy => h.pr y (List.mem_cons_of_mem _ hy), (List.pairwise_cons.mp h.ne).2⟩
theorem co_pdn {q : Nat} (hq : Pr q) : ∀ {l : List (Nat × Nat)}, (∀ x ∈ l, Pr x.1 ∧ x.1 ≠ q) → Nat.Coprime q (pdn l)
  | [], _ => Nat.coprime_one_right _
  | x :: r, h => by
    have hx := h x List.mem_cons_self
    exact Nat.Coprime.mul_right ((pr_co hq hx.1 (Ne.symm hx.2)).pow_right _) (co_pdn hq fun y hy => h y (List.mem_cons_of_mem _ hy))
theorem co_two : ∀ {l m : List (Nat × Nat)}, (∀ x ∈ l, Pr x.1) → (∀ x ∈ m, Pr x.1) → (∀ x ∈ l, ∀ y ∈ m, x.1 ≠ y.1) → Nat.Coprime (pdn l) (pdn m)
  | [], m, _, _, _ => Nat.coprime_one_left _
  | x :: r, m, hl, hm, ne => by
    exact Nat.Coprime.mul_left ((co_pdn (hl x List.mem_cons_self) fun y hy => ⟨hm y hy, (ne x List.mem_cons_self y hy).symm⟩).pow_left _) (co_two (fun y hy => hl y (List.mem_cons_of_mem _ hy)) hm fun y hy => ne y (List.mem_cons_of_mem _ hy))
theorem Fo_pdn (n : Nat) : ∀ {l : List (Nat × Nat)}, Un l → Nat.gcd n (pdn l) = Fo n l
  | [], _ => Nat.gcd_one_right _
  | x :: r, h => by
    have c : Nat.Coprime (x.1 ^ x.2) (pdn r) := (co_pdn (h.pr x List.mem_cons_self) fun y hy => ⟨h.tail.pr y hy, ((List.pairwise_cons.mp h.ne).1 y hy).symm⟩).pow_left _
    simp only [pdn, Fo]
    rw [Nat.Coprime.gcd_mul n c, Fo_pdn n h.tail]
/-- by primes: each with its powers -/
def G (n : Nat) : List (Nat × List Nat) → Nat
  | [] => 1
  | x :: r => F n (pw x.1 x.2) * G n r
theorem G_app (n : Nat) : ∀ l m : List (Nat × List Nat), G n (l ++ m) = G n l * G n m
  | [], m => by simp [G]
  | x :: r, m => by simp only [List.cons_append, G]; rw [G_app n r m, Nat.mul_assoc]
theorem G_perm {l m : List (Nat × List Nat)} (n : Nat) (h : l.Perm m) : G n l = G n m := by
  induction h with
  | nil => rfl
  | cons x _ ih => simp only [G]; rw [ih]
  | swap x y l => simp only [G]; rw [Nat.mul_left_comm]
  | trans _ _ a b => exact a.trans b
theorem pw_pos {p : Nat} (hp : 0 < p) (es : List Nat) : Pos (pw p es) := fun x hx => by
  obtain ⟨e, _, rfl⟩ := List.mem_map.mp hx
  exact Nat.pow_pos hp
/-- a prime's powers multiplied into rounds, the greatest first -/
def into (p : Nat) : List Nat → List Nat → List Nat
  | [], rs => rs
  | e :: es, [] => p ^ e :: into p es []
  | e :: es, r :: rs => r * p ^ e :: into p es rs
theorem into_len (p : Nat) : ∀ es rs : List Nat, (into p es rs).length = max es.length rs.length
  | [], rs => by simp [into]
  | e :: es, [] => by simp only [into, List.length_cons, into_len p es [], List.length_nil]; omega
  | e :: es, r :: rs => by simp only [into, List.length_cons, into_len p es rs]; omega
theorem into_F {p : Nat} (n : Nat) : ∀ (es rs : List Nat), (∀ r ∈ rs, Nat.Coprime p r) → F n (into p es rs) = F n rs * F n (pw p es)
  | [], rs, _ => by simp [into, pw, F]
  | e :: es, [], _ => by
    have ih := into_F n es [] (by simp) (p := p)
    simp only [into, pw, List.map_cons, F] at ih ⊢
    rw [ih, Nat.one_mul, Nat.one_mul]
  | e :: es, r :: rs, h => by
    have ih := into_F n es rs (fun z hz => h z (List.mem_cons_of_mem _ hz)) (p := p)
    have c : Nat.Coprime r (p ^ e) := ((h r List.mem_cons_self).symm).pow_right _
    simp only [into, pw, List.map_cons, F] at ih ⊢
    rw [ih, Nat.Coprime.gcd_mul n c]
    simp only [Nat.mul_assoc, Nat.mul_left_comm, Nat.mul_comm]
theorem into_all {p : Nat} {Q : Nat → Prop} (hm : ∀ r e, e ≠ 0 → Q r → Q (r * p ^ e)) (h1 : ∀ e, e ≠ 0 → Q (p ^ e)) : ∀ (es rs : List Nat), (∀ e ∈ es, e ≠ 0) → (∀ r ∈ rs, Q r) → ∀ x ∈ into p es rs, Q x
  | [], rs, _, h, x, hx => h x hx
  | e :: es, [], he, h, x, hx => by
    rcases List.mem_cons.mp (show x ∈ p ^ e :: into p es [] from hx) with rfl | hx
    · exact h1 e (he e List.mem_cons_self)
    · exact into_all hm h1 es [] (fun z hz => he z (List.mem_cons_of_mem _ hz)) (by simp) x hx
  | e :: es, r :: rs, he, h, x, hx => by
    rcases List.mem_cons.mp (show x ∈ r * p ^ e :: into p es rs from hx) with rfl | hx
    · exact hm r e (he e List.mem_cons_self) (h r List.mem_cons_self)
    · exact into_all hm h1 es rs (fun z hz => he z (List.mem_cons_of_mem _ hz)) (fun z hz => h z (List.mem_cons_of_mem _ hz)) x hx
theorem into_down {p : Nat} : ∀ (es rs : List Nat), es.Pairwise (fun a b => b ≤ a) → rs.Pairwise (fun a b => b ∣ a) → (into p es rs).Pairwise fun a b => b ∣ a
  | [], rs, _, h => h
  | e :: es, [], he, _ => by
    have h2 := List.pairwise_cons.mp he
    refine List.pairwise_cons.mpr ⟨?_, into_down es [] h2.2 List.Pairwise.nil⟩
    have go : ∀ es : List Nat, (∀ b ∈ es, b ≤ e) → ∀ x ∈ into p es [], x ∣ p ^ e := by
      intro es
      induction es with
      | nil => intro _ x hx; simp [into] at hx
      | cons a es ih =>
        intro h x hx
        rcases List.mem_cons.mp (show x ∈ p ^ a :: into p es [] from hx) with rfl | hx
        · exact Nat.pow_dvd_pow p (h a List.mem_cons_self)
        · exact ih (fun b hb => h b (List.mem_cons_of_mem _ hb)) x hx
    exact go es h2.1
  | e :: es, r :: rs, he, hr => by
    have h2 := List.pairwise_cons.mp he
    have r2 := List.pairwise_cons.mp hr
    refine List.pairwise_cons.mpr ⟨?_, into_down es rs h2.2 r2.2⟩
    have go : ∀ (es rs : List Nat), (∀ b ∈ es, b ≤ e) → (∀ b ∈ rs, b ∣ r) → ∀ x ∈ into p es rs, x ∣ r * p ^ e := by
      intro es
      induction es with
      | nil => intro rs _ h x hx; exact Nat.dvd_trans (h x hx) (Nat.dvd_mul_right _ _)
      | cons a es ih =>
        intro rs h h' x hx
        cases rs with
        | nil =>
          rcases List.mem_cons.mp (show x ∈ p ^ a :: into p es [] from hx) with rfl | hx
          · exact Nat.dvd_trans (Nat.pow_dvd_pow p (h a List.mem_cons_self)) (Nat.dvd_mul_left _ _)
          · exact ih [] (fun b hb => h b (List.mem_cons_of_mem _ hb)) (by simp) x hx
        | cons s rs =>
          rcases List.mem_cons.mp (show x ∈ s * p ^ a :: into p es rs from hx) with rfl | hx
          · exact Nat.mul_dvd_mul (h' s List.mem_cons_self) (Nat.pow_dvd_pow p (h a List.mem_cons_self))
          · exact ih rs (fun b hb => h b (List.mem_cons_of_mem _ hb)) (fun b hb => h' b (List.mem_cons_of_mem _ hb)) x hx
    exact go es rs h2.1 r2.1
/-- told by primes as a house is: unlike primes, each with rising powers from 1 on -/
structure Told (d : List (Nat × List Nat)) : Prop where
  pr : ∀ x ∈ d, Pr x.1
  ne : d.Pairwise fun x y => x.1 ≠ y.1
  up : ∀ x ∈ d, x.2.Pairwise (· ≤ ·)
  of : ∀ x ∈ d, ∀ e ∈ x.2, 1 ≤ e
theorem Told.perm {d d' : List (Nat × List Nat)} (h : Told d) (p : d'.Perm d) : Told d' :=
  ⟨fun x hx => h.pr x (p.mem_iff.mp hx), (p.pairwise_iff (fun {a b} n => Ne.symm n)).mpr h.ne, fun x hx => h.up x (p.mem_iff.mp hx), fun x hx => h.of x (p.mem_iff.mp hx)⟩
def laid (d : List (Nat × List Nat)) : List Nat := d.foldl (fun rs x => into x.1 x.2.reverse rs) []
theorem laid_snoc (d : List (Nat × List Nat)) (x : Nat × List Nat) : laid (d ++ [x]) = into x.1 x.2.reverse (laid d) := by
  unfold laid
  rw [List.foldl_append]
  rfl
structure Laid (d : List (Nat × List Nat)) (rs : List Nat) : Prop where
  big : Big rs
  down : rs.Pairwise fun a b => b ∣ a
  f : ∀ n, F n rs = G n d
  co : ∀ q, Pr q → (∀ x ∈ d, x.1 ≠ q) → ∀ r ∈ rs, Nat.Coprime q r
theorem F_pw_rev (n p : Nat) (es : List Nat) : F n (pw p es.reverse) = F n (pw p es) := by
  unfold pw
  rw [List.map_reverse]
  exact F_perm n (List.reverse_perm _)
theorem laid_step {d : List (Nat × List Nat)} {x : Nat × List Nat} {rs : List Nat} (h : Laid d rs) (hp : Pr x.1) (ne : ∀ y ∈ d, y.1 ≠ x.1) (up : x.2.Pairwise (· ≤ ·)) (of : ∀ e ∈ x.2, 1 ≤ e) : Laid (d ++ [x]) (into x.1 x.2.reverse rs) := by
  have of2 : ∀ e ∈ x.2.reverse, e ≠ 0 := fun e he => by have := of e (List.mem_reverse.mp he); omega
  have one : ∀ e, e ≠ 0 → 1 < x.1 ^ e := fun e he => Nat.one_lt_pow he hp.1
  refine ⟨into_all (Q := fun r => 1 < r) (fun r e he hr => ?_) one _ _ of2 h.big, into_down _ _ (List.pairwise_reverse.mpr up) h.down, fun n => ?_, fun q hq hne => into_all (Q := fun r => Nat.Coprime q r) (fun r e he hr => ?_) (fun e he => ?_) _ _ of2 (h.co q hq fun y hy => hne y (List.mem_append.mpr (.inl hy)))⟩
  · have := one e he
    have : 1 * 1 < r * x.1 ^ e := Nat.mul_lt_mul_of_lt_of_le hr (Nat.le_of_lt this) (by omega)
    omega
  · rw [into_F n _ _ (h.co x.1 hp ne), F_pw_rev, h.f n, G_app]
    simp [G]
  · exact Nat.Coprime.mul_right hr ((pr_co hq hp (hne x (List.mem_append.mpr (.inr List.mem_cons_self))).symm).pow_right _)
  · exact (pr_co hq hp (hne x (List.mem_append.mpr (.inr List.mem_cons_self))).symm).pow_right _
theorem laid_pre {d : List (Nat × List Nat)} (h : Told d) : ∀ k, k ≤ d.length → Laid (d.take k) (laid (d.take k))
  | 0, _ => ⟨fun x hx => by simp [laid] at hx, List.Pairwise.nil, fun n => rfl, fun q hq hn r hr => by simp [laid] at hr⟩
  | k + 1, hk => by
    obtain ⟨x, hx⟩ : ∃ x, d[k]? = some x := ⟨_, List.getElem?_eq_getElem (by omega)⟩
    have e : d.take (k + 1) = d.take k ++ [x] := by rw [List.take_succ, hx]; rfl
    rw [e, laid_snoc]
    have hm : x ∈ d := List.mem_of_getElem? hx
    refine laid_step (laid_pre h k (by omega)) (h.pr x hm) (fun y hy => ?_) (h.up x hm) (h.of x hm)
    have := h.ne.sublist (List.take_sublist (k + 1) d)
    rw [e, List.pairwise_append] at this
    exact this.2.2 y hy x List.mem_cons_self
theorem G_pos {d : List (Nat × List Nat)} (n : Nat) (h : ∀ x ∈ d, Pr x.1) : 0 < G n d := by
  induction d with
  | nil => exact Nat.one_pos
  | cons x r ih =>
    have := (h x List.mem_cons_self).1
    exact Nat.mul_pos (F_pos n (pw_pos (by omega) _)) (ih fun y hy => h y (List.mem_cons_of_mem _ hy))
theorem G_pre {a b d : List (Nat × List Nat)} (h : ∀ x ∈ d, Pr x.1) (e : a ++ b = d) (n : Nat) : G n a ≤ G n d := by
  rw [← e, G_app]
  have : 0 < G n b := G_pos n fun x hx => h x (by rw [← e]; exact List.mem_append.mpr (.inr hx))
  exact Nat.le_mul_of_pos_right _ this
theorem told_form {d : List (Nat × List Nat)} (h : Told d) : Form (laid d).reverse ∧ ∀ n, F n (laid d).reverse = G n d := by
  have q := laid_pre h d.length (Nat.le_refl _)
  rw [List.take_length] at q
  exact ⟨⟨fun x hx => q.big x (List.mem_reverse.mp hx), List.pairwise_reverse.mpr q.down⟩, fun n => by rw [F_perm n (List.reverse_perm _), q.f n]⟩
/-! ### powers put to a prime -/
def dl (ks : List Nat) (val : Nat → List Nat) : List (Nat × List Nat) := ks.map fun p => (p, val p)
theorem dl_congr {ks : List Nat} {val val' : Nat → List Nat} (h : ∀ p ∈ ks, val p = val' p) : dl ks val = dl ks val' := List.map_congr_left fun p hp => by rw [h p hp]
theorem F_pw_snoc {n p e : Nat} {es es' : List Nat} (h : es'.Perm (es ++ [e])) : F n (pw p es') = F n (pw p es) * Nat.gcd n (p ^ e) := by
  have : (pw p es').Perm (pw p es ++ [p ^ e]) := by
    have := h.map fun e => p ^ e
    rw [List.map_append] at this
    exact this
  rw [F_perm n this, F_app]
  simp [F]
theorem G_in {n p c : Nat} {val val' : Nat → List Nat} (o : ∀ q, q ≠ p → val' q = val q) (h : F n (pw p (val' p)) = F n (pw p (val p)) * c) : ∀ {ks : List Nat}, ks.Nodup → p ∈ ks → G n (dl ks val') = G n (dl ks val) * c
  | q :: r, nd, hp => by
    have nd2 := List.nodup_cons.mp nd
    show F n (pw q (val' q)) * G n (dl r val') = F n (pw q (val q)) * G n (dl r val) * c
    by_cases e : q = p
    · subst e
      rw [h, dl_congr (val := val') (val' := val) fun z hz => o z fun y => nd2.1 (y ▸ hz), Nat.mul_assoc, Nat.mul_assoc, Nat.mul_comm c]
    · rw [o q e, G_in o h nd2.2 ((List.mem_cons.mp hp).resolve_left fun z => e z.symm), Nat.mul_assoc]
structure BP (ks : List Nat) (val : Nat → List Nat) (g : Nat → Nat) (m : Nat) : Prop where
  nd : ks.Nodup
  pr : ∀ p ∈ ks, Pr p
  up : ∀ p, (val p).Pairwise (· ≤ ·)
  of : ∀ p, ∀ e ∈ val p, 1 ≤ e
  out : ∀ p, p ∉ ks → val p = []
  f : ∀ n, G n (dl ks val) = g n
  few : ks.length ≤ m
  len : ∀ p, (val p).length ≤ m
theorem bp_nil : BP [] (fun _ => []) (fun _ => 1) 0 := ⟨List.nodup_nil, by simp, fun _ => List.Pairwise.nil, fun _ _ h => by simp at h, fun _ _ => rfl, fun _ => rfl, Nat.le_refl _, fun _ => Nat.le_refl _⟩
def kadd (ks : List Nat) (p : Nat) : List Nat := if p ∈ ks then ks else ks ++ [p]
def vadd (val : Nat → List Nat) (p : Nat) (es : List Nat) : Nat → List Nat := fun q => if q = p then es else val q
theorem bp_put {ks : List Nat} {val : Nat → List Nat} {g : Nat → Nat} {m p e : Nat} {es : List Nat} (h : BP ks val g m) (hp : Pr p) (he : 1 ≤ e) (pm : es.Perm (val p ++ [e])) (up : es.Pairwise (· ≤ ·)) :
    BP (kadd ks p) (vadd val p es) (fun n => g n * Nat.gcd n (p ^ e)) (m + 1) := by
  have at_p : vadd val p es p = es := if_pos rfl
  have at_q : ∀ q, q ≠ p → vadd val p es q = val q := fun q hq => if_neg hq
  have el : es.length = (val p).length + 1 := by rw [pm.length_eq, List.length_append]; rfl
  refine ⟨?_, ?_, fun q => ?_, fun q => ?_, fun q hq => ?_, fun n => ?_, ?_, fun q => ?_⟩
  · unfold kadd
    split
    · exact h.nd
    · rename_i z
      rw [List.nodup_append]
      exact ⟨h.nd, by simp, fun a ha b hb => by rw [List.mem_singleton.mp hb]; exact fun y => z (y ▸ ha)⟩
  · intro q hq
    unfold kadd at hq
    split at hq
    · exact h.pr q hq
    · rcases List.mem_append.mp hq with z | z
      · exact h.pr q z
      · rw [List.mem_singleton.mp z]; exact hp
  · by_cases z : q = p
    · subst z; rw [at_p]; exact up
    · rw [at_q q z]; exact h.up q
  · by_cases z : q = p
    · subst z
      rw [at_p]
      intro x hx
      rcases List.mem_append.mp (pm.mem_iff.mp hx) with y | y
      · exact h.of q x y
      · rw [List.mem_singleton.mp y]; exact he
    · rw [at_q q z]; exact h.of q
  · have z : q ≠ p := by
      rintro rfl
      unfold kadd at hq
      split at hq
      · rename_i z; exact hq z
      · exact hq (List.mem_append.mpr (.inr List.mem_cons_self))
    rw [at_q q z]
    refine h.out q fun y => hq ?_
    unfold kadd
    split
    · exact y
    · exact List.mem_append.mpr (.inl y)
  · rw [← h.f n]
    have c : F n (pw p (vadd val p es p)) = F n (pw p (val p)) * Nat.gcd n (p ^ e) := by rw [at_p]; exact F_pw_snoc pm
    unfold kadd
    split
    · rename_i z
      exact G_in at_q c h.nd z
    · rename_i z
      have e1 : dl (ks ++ [p]) (vadd val p es) = dl ks val ++ [(p, es)] := by
        unfold dl
        rw [List.map_append]
        have := dl_congr (ks := ks) (val := vadd val p es) (val' := val) fun q hq => at_q q fun y => z (y ▸ hq)
        unfold dl at this
        rw [this]
        show _ ++ [(p, vadd val p es p)] = _
        rw [at_p]
      rw [e1, G_app]
      have c2 := c
      rw [at_p, h.out p z] at c2
      show _ * (F n (pw p es) * 1) = _
      rw [c2]
      simp [pw, F]
  · unfold kadd
    have := h.few
    split
    · omega
    · rw [List.length_append]
      show ks.length + 1 ≤ m + 1
      omega
  · have := h.len q
    by_cases z : q = p
    · subst z; rw [at_p, el]; omega
    · rw [at_q q z]; omega
theorem bp_told {ks ys : List Nat} {val : Nat → List Nat} {g : Nat → Nat} {m : Nat} (h : BP ks val g m) (p : ys.Perm ks) : Told (dl ys val) ∧ ∀ n, G n (dl ys val) = g n := by
  have pd : (dl ys val).Perm (dl ks val) := p.map _
  have t : Told (dl ks val) := by
    refine ⟨fun x hx => ?_, ?_, fun x hx => ?_, fun x hx => ?_⟩
    · obtain ⟨q, hq, rfl⟩ := List.mem_map.mp hx
      exact h.pr q hq
    · unfold dl
      rw [List.pairwise_map]
      exact h.nd
    · obtain ⟨q, hq, rfl⟩ := List.mem_map.mp hx
      exact h.up q
    · obtain ⟨q, hq, rfl⟩ := List.mem_map.mp hx
      exact h.of q
  exact ⟨t.perm pd, fun n => by rw [G_perm n pd, h.f n]⟩
/-! ### a number's primes -/
structure Fac (n : Nat) (qs : List (Nat × Nat)) : Prop where
  eq : pdn qs = n
  up : qs.Pairwise fun x y => x.1 < y.1
  pr : ∀ x ∈ qs, Pr x.1
  of : ∀ x ∈ qs, 1 ≤ x.2
theorem Fac.un {n : Nat} {qs : List (Nat × Nat)} (h : Fac n qs) : Un qs := ⟨h.pr, h.up.imp fun h => Nat.ne_of_lt h⟩
theorem Fac.fo {n : Nat} {qs : List (Nat × Nat)} (h : Fac n qs) (m : Nat) : Fo m qs = Nat.gcd m n := by rw [← Fo_pdn m h.un, h.eq]
def asc : Nat → Nat → Nat
  | b, 0 => 1
  | b, k + 1 => b * asc (b + 1) k
theorem asc_pos : ∀ (k b : Nat), 0 < b → 0 < asc b k
  | 0, _, _ => Nat.one_pos
  | k + 1, b, h => Nat.mul_pos h (asc_pos k (b + 1) (Nat.succ_pos _))
theorem asc_mono : ∀ (k b : Nat), 0 < b → asc b k ≤ asc b (k + 1)
  | 0, b, h => by simp only [asc]; omega
  | k + 1, b, h => by
    show b * asc (b + 1) k ≤ b * asc (b + 1) (k + 1)
    exact Nat.mul_le_mul_left _ (asc_mono k (b + 1) (Nat.succ_pos _))
theorem asc_far (b : Nat) (h : 0 < b) : ∀ k, asc b 9 ≤ asc b (9 + k)
  | 0 => Nat.le_refl _
  | k + 1 => Nat.le_trans (asc_far b h k) (asc_mono _ b h)
theorem asc_le : ∀ {l : List (Nat × Nat)} {b : Nat}, l.Pairwise (fun x y => x.1 < y.1) → (∀ x ∈ l, b ≤ x.1) → (∀ x ∈ l, 1 ≤ x.2) → asc b l.length ≤ pdn l
  | [], b, _, _, _ => Nat.le_refl _
  | x :: r, b, up, lo, of => by
    have u := List.pairwise_cons.mp up
    have hx := lo x List.mem_cons_self
    have ih := asc_le (l := r) (b := b + 1) u.2 (fun y hy => by have := u.1 y hy; omega) fun y hy => of y (List.mem_cons_of_mem _ hy)
    show b * asc (b + 1) r.length ≤ x.1 ^ x.2 * pdn r
    refine Nat.mul_le_mul ?_ ih
    by_cases z : x.1 = 0
    · omega
    · have : x.1 ^ 1 ≤ x.1 ^ x.2 := Nat.pow_le_pow_right (by omega) (of x List.mem_cons_self)
      rw [Nat.pow_one] at this
      omega
theorem Fac.few {n : Nat} {qs : List (Nat × Nat)} (h : Fac n qs) (hn : n ≤ 1000000) : qs.length ≤ 8 := by
  by_cases z : qs.length ≤ 8
  · exact z
  · obtain ⟨k, hk⟩ : ∃ k, qs.length = 9 + k := ⟨qs.length - 9, by omega⟩
    have q := asc_le (b := 2) h.up (fun x hx => (h.pr x hx).1) h.of
    have f := asc_far 2 (by decide) k
    have d : asc 2 9 = 3628800 := by decide
    rw [h.eq, hk] at q
    omega
theorem pdn_pos : ∀ {qs : List (Nat × Nat)}, (∀ x ∈ qs, Pr x.1) → 0 < pdn qs
  | [], _ => Nat.one_pos
  | x :: r, h => Nat.mul_pos (Nat.pow_pos (by have := (h x List.mem_cons_self).1; omega)) (pdn_pos fun y hy => h y (List.mem_cons_of_mem _ hy))
/-- a part of a number's primes and the rest -/
theorem Fac.split {n : Nat} {qs : List (Nat × Nat)} (h : Fac n qs) (k : Nat) : pdn (qs.take k) * pdn (qs.drop k) = n ∧ 0 < pdn (qs.take k) ∧ 0 < pdn (qs.drop k) ∧ ∀ m, Nat.gcd m (pdn (qs.take k)) * Nat.gcd m (pdn (qs.drop k)) = Nat.gcd m n := by
  have e : pdn (qs.take k) * pdn (qs.drop k) = n := by rw [← pdn_app, List.take_append_drop, h.eq]
  have p1 : ∀ x ∈ qs.take k, Pr x.1 := fun x hx => h.pr x (List.mem_of_mem_take hx)
  have p2 : ∀ x ∈ qs.drop k, Pr x.1 := fun x hx => h.pr x (List.mem_of_mem_drop hx)
  have c : Nat.Coprime (pdn (qs.take k)) (pdn (qs.drop k)) := by
    refine co_two p1 p2 fun x hx y hy => ?_
    have u := h.up
    rw [← List.take_append_drop k qs, List.pairwise_append] at u
    exact Nat.ne_of_lt (u.2.2 x hx y hy)
  exact ⟨e, pdn_pos p1, pdn_pos p2, fun m => by rw [← e, Nat.Coprime.gcd_mul m c]⟩
def ci (q : Nat × Nat) : Int × Int := ((q.1 : Int), (q.2 : Int))
theorem cast_pow (p : Nat) : ∀ e : Nat, ((p : Int)) ^ e = ((p ^ e : Nat) : Int)
  | 0 => by simp
  | e + 1 => by rw [Int.pow_succ, cast_pow p e, Nat.pow_succ, Int.natCast_mul]
theorem prod_ci : ∀ qs : List (Nat × Nat), K02.prod (qs.map ci) = ((pdn qs : Nat) : Int)
  | [] => rfl
  | x :: r => by
    show ((x.1 : Int)) ^ ((x.2 : Int)).toNat * K02.prod (r.map ci) = _
    rw [prod_ci r, Int.toNat_natCast, cast_pow]
    show _ = (((x.1 ^ x.2 * pdn r : Nat)) : Int)
    rw [Int.natCast_mul]
theorem pr_of {p : Nat} (h : K02.Pri (p : Int)) : Pr p := by
  refine ⟨by have := h.1; omega, fun d h1 h2 h3 => h.2 (d : Int) (by omega) ?_ (Int.natCast_dvd_natCast.mpr h3)⟩
  rw [← Int.natCast_mul]
  exact Int.ofNat_le.mpr h2
theorem fac_of {lim n : Int} {ps : List (Int × Int)} (e : K02.prod ps = n) (h : K02.Rise lim ps) : ∃ qs : List (Nat × Nat), ps = qs.map ci ∧ Fac n.toNat qs := by
  have ex : ps = (ps.map fun x => (x.1.toNat, x.2.toNat)).map ci := by
    rw [List.map_map]
    refine (List.map_id ps).symm.trans (List.map_congr_left fun x hx => ?_)
    have h1 := (h.pr x hx).1
    have h2 := h.of x hx
    show x = (((x.1.toNat : Nat) : Int), ((x.2.toNat : Nat) : Int))
    rw [Int.toNat_of_nonneg (by omega), Int.toNat_of_nonneg (by omega)]
  refine ⟨_, ex, ?_⟩
  have u := h.up
  have pr := h.pr
  have of := h.of
  generalize (ps.map fun x => (x.1.toNat, x.2.toNat)) = qs at ex
  subst ex
  refine ⟨?_, ?_, fun x hx => ?_, fun x hx => ?_⟩
  · rw [← e, prod_ci]
    rfl
  · rw [List.pairwise_map] at u
    exact u.imp fun h => by
      have : ((_ : Nat) : Int) < ((_ : Nat) : Int) := h
      omega
  · exact pr_of (pr (ci x) (List.mem_map_of_mem hx))
  · have : (1 : Int) ≤ ((x.2 : Nat) : Int) := of (ci x) (List.mem_map_of_mem hx)
    omega
/-! ### a prime's powers multiplied in, place by place -/
theorem into_get (p : Nat) : ∀ (es rs : List Nat) (k e : Nat), es[k]? = some e → (into p es rs)[k]? = some (rs[k]?.getD 1 * p ^ e)
  | [], _, k, e, h => by simp at h
  | a :: es, [], 0, e, h => by
    have : a = e := by simpa using h
    subst this
    simp [into]
  | a :: es, r :: rs, 0, e, h => by
    have : a = e := by simpa using h
    subst this
    simp [into]
  | a :: es, [], k + 1, e, h => by
    have := into_get p es [] k e (by simpa using h)
    simpa [into] using this
  | a :: es, r :: rs, k + 1, e, h => by
    have := into_get p es rs k e (by simpa using h)
    simpa [into] using this
theorem into_drop (p : Nat) : ∀ es rs : List Nat, (into p es rs).drop es.length = rs.drop es.length
  | [], rs => rfl
  | e :: es, [] => by simpa [into] using into_drop p es []
  | e :: es, r :: rs => by simpa [into] using into_drop p es rs
def stp (p : Nat) (es rs : List Nat) (k : Nat) : List Nat := (into p es rs).take k ++ rs.drop k
theorem stp_zero (p : Nat) (es rs : List Nat) : stp p es rs 0 = rs := rfl
theorem stp_end (p : Nat) (es rs : List Nat) : stp p es rs es.length = into p es rs := by
  unfold stp
  rw [← into_drop p es rs, List.take_append_drop]
theorem stp_len {p : Nat} {es rs : List Nat} {k : Nat} (h : k ≤ es.length) : ((into p es rs).take k).length = k := by
  rw [List.length_take, into_len]
  omega
theorem stp_all {p : Nat} {es rs : List Nat} {k : Nat} (h : k ≤ es.length) : (stp p es rs k).length = max k rs.length := by
  unfold stp
  rw [List.length_append, stp_len h, List.length_drop]
  omega
theorem stp_old {p : Nat} {es rs : List Nat} {k : Nat} (h : k < rs.length) : stp p es rs k = (into p es rs).take k ++ rs[k]?.getD 1 :: rs.drop (k + 1) := by
  unfold stp
  rw [List.drop_eq_getElem_cons h, List.getElem?_eq_getElem h]
  rfl
theorem stp_new {p : Nat} {es rs : List Nat} {k : Nat} (h : rs.length ≤ k) : stp p es rs k ++ [1] = (into p es rs).take k ++ rs[k]?.getD 1 :: rs.drop (k + 1) := by
  unfold stp
  rw [List.drop_eq_nil_of_le h, List.drop_eq_nil_of_le (by omega), List.getElem?_eq_none h]
  simp
theorem stp_next {p : Nat} {es rs : List Nat} {k e : Nat} (h : es[k]? = some e) : stp p es rs (k + 1) = (into p es rs).take k ++ (rs[k]?.getD 1 * p ^ e) :: rs.drop (k + 1) := by
  unfold stp
  rw [List.take_succ, into_get p es rs k e h]
  simp
theorem stp_le {p : Nat} {es rs : List Nat} {k e m : Nat} (h : es[k]? = some e) (hm : m ≤ e) (hp : 0 < p) (pos : Pos (into p es rs)) : rs[k]?.getD 1 * p ^ m ≤ F 0 (into p es rs) := by
  have h1 : rs[k]?.getD 1 * p ^ e ∈ into p es rs := List.mem_of_getElem? (into_get p es rs k e h)
  have h2 := F_max pos h1
  have h3 : p ^ m ≤ p ^ e := Nat.pow_le_pow_right hp hm
  exact Nat.le_trans (Nat.mul_le_mul_left _ h3) h2
theorem BP.mono {ks : List Nat} {val : Nat → List Nat} {g g' : Nat → Nat} {m m' : Nat} (h : BP ks val g m) (e : ∀ n, g n = g' n) (l : m ≤ m') : BP ks val g' m' :=
  ⟨h.nd, h.pr, h.up, h.of, h.out, fun n => (h.f n).trans (e n), Nat.le_trans h.few l, fun p => Nat.le_trans (h.len p) l⟩
theorem perm_nat {ns : List Int} {l : List Nat} (h : ns.Perm (l.map fun n : Nat => (n : Int))) (up : ns.Pairwise (· ≤ ·)) : ∃ es : List Nat, (ns = es.map fun n : Nat => (n : Int)) ∧ es.Perm l ∧ es.Pairwise (· ≤ ·) := by
  refine ⟨ns.map Int.toNat, ?_, ?_, ?_⟩
  · rw [List.map_map]
    refine (List.map_id ns).symm.trans (List.map_congr_left fun x hx => ?_)
    obtain ⟨y, _, rfl⟩ := List.mem_map.mp (h.mem_iff.mp hx)
    rfl
  · have := h.map Int.toNat
    rw [List.map_map] at this
    have e : (Int.toNat ∘ fun n : Nat => (n : Int)) = id := rfl
    rw [e, List.map_id] at this
    exact this
  · rw [List.pairwise_map]
    exact up.imp fun h => by omega
theorem F_house {l : List Nat} (h : ∀ x ∈ l, 1 ≤ x ∧ x ≤ 1000000) (hl : l.length ≤ 6) : 0 < F 0 l ∧ F 0 l < 2 ^ 120 := by
  have p : Pos l := fun x hx => (h x hx).1
  refine ⟨F_pos 0 p, ?_⟩
  have go : ∀ l : List Nat, (∀ x ∈ l, 1 ≤ x ∧ x ≤ 1000000) → F 0 l ≤ 1000000 ^ l.length := by
    intro l
    induction l with
    | nil => intro _; simp [F]
    | cons x r ih =>
      intro h
      have h1 := ih fun y hy => h y (List.mem_cons_of_mem _ hy)
      have h2 := (h x List.mem_cons_self).2
      simp only [F, Nat.gcd_zero_left, List.length_cons]
      rw [Nat.pow_succ, Nat.mul_comm (1000000 ^ r.length)]
      exact Nat.mul_le_mul h2 h1
  have h1 := go l h
  have h2 : 1000000 ^ l.length ≤ 1000000 ^ 6 := Nat.pow_le_pow_right (by decide) hl
  have h3 : 1000000 ^ 6 < 2 ^ 120 := by decide
  omega
end K35

set_option linter.all false
namespace K38
open K35
/-! ### primes of a number -/
theorem has_pr : ∀ n : Nat, 2 ≤ n → ∃ p, Pr p ∧ p ∣ n := by
  intro n
  induction n using Nat.strongRecOn with
  | _ n ih =>
    intro h
    by_cases z : Pr n
    · exact ⟨n, z, Nat.dvd_refl _⟩
    · have : ∃ d, 2 ≤ d ∧ d * d ≤ n ∧ d ∣ n := by
        refine Classical.byContradiction fun c => z ⟨h, fun d h1 h2 h3 => c ⟨d, h1, h2, h3⟩⟩
      obtain ⟨d, h1, h2, h3⟩ := this
      have dn : d < n := by
        have : d * 2 ≤ d * d := Nat.mul_le_mul_left _ h1
        omega
      obtain ⟨p, hp, hd⟩ := ih d dn h1
      exact ⟨p, hp, Nat.dvd_trans hd h3⟩
theorem split_p {p : Nat} (hp : 2 ≤ p) : ∀ n : Nat, 1 ≤ n → ∃ k m, n = p ^ k * m ∧ ¬ p ∣ m ∧ 1 ≤ m := by
  intro n
  induction n using Nat.strongRecOn with
  | _ n ih =>
    intro h
    by_cases z : p ∣ n
    · obtain ⟨c, rfl⟩ := z
      have c1 : 1 ≤ c := by
        rcases Nat.eq_zero_or_pos c with y | y
        · rw [y] at h; omega
        · exact y
      have cl : c < p * c := by
        have : 2 * c ≤ p * c := Nat.mul_le_mul_right _ hp
        omega
      obtain ⟨k, m, e, nd, m1⟩ := ih c cl c1
      exact ⟨k + 1, m, by rw [e, Nat.pow_succ, Nat.mul_comm (p ^ k) p, Nat.mul_assoc], nd, m1⟩
    · exact ⟨0, n, by simp, z, h⟩
theorem co_p {p m : Nat} (hp : Pr p) (h : ¬ p ∣ m) : Nat.Coprime p m := by
  rcases pr_dvd hp (Nat.gcd_dvd_left p m) with z | z
  · exact z
  · exact absurd (z ▸ Nat.gcd_dvd_right p m) h
/-! ### counts of products -/
theorem F_mul {a b : Nat} (h : Nat.Coprime a b) : ∀ l : List Nat, F (a * b) l = F a l * F b l
  | [] => rfl
  | x :: r => by
    simp only [F]
    have e : Nat.gcd (a * b) x = Nat.gcd a x * Nat.gcd b x := by
      rw [Nat.gcd_comm, Nat.Coprime.gcd_mul x h, Nat.gcd_comm x a, Nat.gcd_comm x b]
    rw [e, F_mul h r]
    simp only [Nat.mul_assoc, Nat.mul_left_comm]
theorem F_one : ∀ l : List Nat, F 1 l = 1
  | [] => rfl
  | x :: r => by simp only [F]; rw [F_one r, Nat.gcd_one_left]
theorem gcd_less {p k h : Nat} (hp : Pr p) (nd : ¬ p ^ (k + 1) ∣ h) : Nat.gcd (p ^ (k + 1)) h = Nat.gcd (p ^ k) h := by
  have hp2 : 2 ≤ p := hp.1
  refine Nat.dvd_antisymm (Nat.dvd_gcd ?_ (Nat.gcd_dvd_right _ _)) (Nat.dvd_gcd (Nat.dvd_trans (Nat.gcd_dvd_left _ _) (Nat.pow_dvd_pow p (Nat.le_succ k))) (Nat.gcd_dvd_right _ _))
  obtain ⟨c, hc⟩ := Nat.gcd_dvd_left (p ^ (k + 1)) h
  have pc : p ∣ c := by
    refine Classical.byContradiction fun z => nd ?_
    have co : Nat.Coprime c (p ^ (k + 1)) := (co_p hp z).symm.pow_right _
    have d : c ∣ p ^ (k + 1) := ⟨Nat.gcd (p ^ (k + 1)) h, by rw [Nat.mul_comm]; exact hc⟩
    have c1 : c = 1 := by
      have := Nat.gcd_eq_left d
      rw [co] at this
      exact this.symm
    rw [c1, Nat.mul_one] at hc
    rw [hc]
    exact Nat.gcd_dvd_right _ _
  obtain ⟨e, rfl⟩ := pc
  refine ⟨e, ?_⟩
  have : p * p ^ k = p * (Nat.gcd (p ^ (k + 1)) h * e) := by
    rw [← Nat.mul_left_comm, ← hc, Nat.pow_succ, Nat.mul_comm]
  exact Nat.eq_of_mul_eq_mul_left (by omega) this
theorem F_less {p k : Nat} (hp : Pr p) : ∀ {l : List Nat}, (∀ h ∈ l, ¬ p ^ (k + 1) ∣ h) → F (p ^ (k + 1)) l = F (p ^ k) l
  | [], _ => rfl
  | x :: r, h => by
    simp only [F]
    rw [gcd_less hp (h x List.mem_cons_self), F_less hp fun y hy => h y (List.mem_cons_of_mem _ hy)]
/-! ### powers of primes that divide rounds -/
def PP (l : List Nat) (q : Nat) : Prop := ∃ h ∈ l, ∃ p j, Pr p ∧ 1 ≤ j ∧ q = p ^ j ∧ q ∣ h
theorem pp_pk {A B : List Nat} {p : Nat} (hp : Pr p) : ∀ k, F (p ^ k) A ≠ F (p ^ k) B → ∃ q, PP (A ++ B) q ∧ q ≤ p ^ k ∧ F q A ≠ F q B
  | 0, h => by
    exfalso
    rw [Nat.pow_zero, F_one, F_one] at h
    exact h rfl
  | k + 1, h => by
    by_cases z : ∃ x ∈ A ++ B, p ^ (k + 1) ∣ x
    · obtain ⟨x, hx, d⟩ := z
      exact ⟨p ^ (k + 1), ⟨x, hx, p, k + 1, hp, by omega, rfl, d⟩, Nat.le_refl _, h⟩
    · have nA : ∀ x ∈ A, ¬ p ^ (k + 1) ∣ x := fun x hx d => z ⟨x, List.mem_append.mpr (.inl hx), d⟩
      have nB : ∀ x ∈ B, ¬ p ^ (k + 1) ∣ x := fun x hx d => z ⟨x, List.mem_append.mpr (.inr hx), d⟩
      rw [F_less hp nA, F_less hp nB] at h
      obtain ⟨q, h1, h2, h3⟩ := pp_pk hp k h
      exact ⟨q, h1, Nat.le_trans h2 (Nat.pow_le_pow_right (by have := hp.1; omega) (Nat.le_succ k)), h3⟩
theorem pp_any {A B : List Nat} : ∀ n, 1 ≤ n → F n A ≠ F n B → ∃ q, PP (A ++ B) q ∧ q ≤ n ∧ F q A ≠ F q B := by
  intro n
  induction n using Nat.strongRecOn with
  | _ n ih =>
    intro n1 h
    by_cases z : n = 1
    · subst z
      rw [F_one, F_one] at h
      exact absurd rfl h
    · obtain ⟨p, hp, d⟩ := has_pr n (by omega)
      have hp2 : 2 ≤ p := hp.1
      obtain ⟨k, m, rfl, nd, m1⟩ := split_p hp2 n n1
      have k1 : 1 ≤ k := by
        rcases Nat.eq_zero_or_pos k with y | y
        · subst y
          rw [Nat.pow_zero, Nat.one_mul] at d
          exact absurd d nd
        · exact y
      have co : Nat.Coprime (p ^ k) m := (co_p hp nd).pow_left k
      have pk2 : 2 ≤ p ^ k := by
        have : p ^ 1 ≤ p ^ k := Nat.pow_le_pow_right (by omega) k1
        rw [Nat.pow_one] at this
        omega
      have mlt : m < p ^ k * m := by
        have : 2 * m ≤ p ^ k * m := Nat.mul_le_mul_right _ pk2
        omega
      by_cases y : F (p ^ k) A = F (p ^ k) B
      · have h2 : F m A ≠ F m B := fun e => h (by rw [F_mul co, F_mul co, y, e])
        obtain ⟨q, h3, h4, h5⟩ := ih m mlt m1 h2
        exact ⟨q, h3, by omega, h5⟩
      · obtain ⟨q, h3, h4, h5⟩ := pp_pk hp k y
        have : p ^ k * 1 ≤ p ^ k * m := Nat.mul_le_mul_left _ m1
        exact ⟨q, h3, by omega, h5⟩
theorem pp_le {l : List Nat} {b q : Nat} (h : ∀ x ∈ l, 1 ≤ x ∧ x ≤ b) (hq : PP l q) : 1 ≤ q ∧ q ≤ b := by
  obtain ⟨x, hx, p, j, hp, j1, rfl, d⟩ := hq
  have := h x hx
  have h1 := Nat.le_of_dvd (by omega) d
  have h2 : 0 < p ^ j := Nat.pow_pos (by have := hp.1; omega)
  omega
/-! ### powers told by a number's primes -/
def pws (qs : List (Nat × Nat)) : List Nat := (qs.map fun x => (List.range x.2).map fun j => x.1 ^ (j + 1)).flatten
theorem pws_mem {qs : List (Nat × Nat)} {q : Nat} : q ∈ pws qs ↔ ∃ x ∈ qs, ∃ j, 1 ≤ j ∧ j ≤ x.2 ∧ q = x.1 ^ j := by
  unfold pws
  rw [List.mem_flatten]
  constructor
  · rintro ⟨l, hl, hq⟩
    obtain ⟨x, hx, rfl⟩ := List.mem_map.mp hl
    obtain ⟨j, hj, rfl⟩ := List.mem_map.mp hq
    exact ⟨x, hx, j + 1, by omega, by have := List.mem_range.mp hj; omega, rfl⟩
  · rintro ⟨x, hx, j, j1, j2, rfl⟩
    refine ⟨_, List.mem_map_of_mem hx, List.mem_map.mpr ⟨j - 1, List.mem_range.mpr (by omega), ?_⟩⟩
    have : j - 1 + 1 = j := by omega
    rw [this]
theorem pdn_pow : ∀ {qs : List (Nat × Nat)} {x : Nat × Nat}, x ∈ qs → x.1 ^ x.2 ∣ pdn qs
  | y :: r, x, h => by
    simp only [pdn]
    rcases List.mem_cons.mp h with rfl | h
    · exact Nat.dvd_mul_right _ _
    · exact Nat.dvd_trans (pdn_pow h) (Nat.dvd_mul_left _ _)
theorem pow_in {p j : Nat} (hp : Pr p) (j1 : 1 ≤ j) : ∀ {qs : List (Nat × Nat)}, Un qs → p ^ j ∣ pdn qs → ∃ x ∈ qs, x.1 = p ∧ j ≤ x.2
  | [], _, d => by
    exfalso
    have h1 := Nat.le_of_dvd Nat.one_pos d
    have h2 : p ^ 1 ≤ p ^ j := Nat.pow_le_pow_right (by have := hp.1; omega) j1
    rw [Nat.pow_one] at h2
    have := hp.1
    omega
  | x :: r, u, d => by
    simp only [pdn] at d
    have hx := u.pr x List.mem_cons_self
    by_cases z : x.1 = p
    · have co : Nat.Coprime (p ^ j) (pdn r) := (co_pdn hp fun y hy => ⟨u.tail.pr y hy, z ▸ ((List.pairwise_cons.mp u.ne).1 y hy).symm⟩).pow_left j
      have d2 : p ^ j ∣ x.1 ^ x.2 := co.dvd_of_dvd_mul_right d
      rw [z] at d2
      exact ⟨x, List.mem_cons_self, z, (Nat.pow_dvd_pow_iff_le_right hp.1).mp d2⟩
    · have co : Nat.Coprime (p ^ j) (x.1 ^ x.2) := ((pr_co hp hx (Ne.symm z)).pow_left j).pow_right _
      obtain ⟨y, hy, h1, h2⟩ := pow_in hp j1 u.tail (co.dvd_of_dvd_mul_left d)
      exact ⟨y, List.mem_cons_of_mem _ hy, h1, h2⟩
theorem pws_pp {h : Nat} {qs : List (Nat × Nat)} (fc : Fac h qs) {q : Nat} : q ∈ pws qs ↔ PP [h] q := by
  rw [pws_mem]
  constructor
  · rintro ⟨x, hx, j, j1, j2, rfl⟩
    refine ⟨h, List.mem_cons_self, x.1, j, fc.pr x hx, j1, rfl, ?_⟩
    rw [← fc.eq]
    exact Nat.dvd_trans (Nat.pow_dvd_pow _ j2) (pdn_pow hx)
  · rintro ⟨y, hy, p, j, hp, j1, rfl, d⟩
    rw [List.mem_singleton.mp hy, ← fc.eq] at d
    obtain ⟨x, hx, e1, e2⟩ := pow_in hp j1 fc.un d
    exact ⟨x, hx, j, j1, e2, by rw [e1]⟩
theorem pp_app {l m : List Nat} {q : Nat} : PP (l ++ m) q ↔ PP l q ∨ PP m q := by
  constructor
  · rintro ⟨h, hh, r⟩
    rcases List.mem_append.mp hh with z | z
    · exact .inl ⟨h, z, r⟩
    · exact .inr ⟨h, z, r⟩
  · rintro (⟨h, hh, r⟩ | ⟨h, hh, r⟩)
    · exact ⟨h, List.mem_append.mpr (.inl hh), r⟩
    · exact ⟨h, List.mem_append.mpr (.inr hh), r⟩
theorem pws_len : ∀ {qs : List (Nat × Nat)}, (∀ x ∈ qs, x.2 ≤ 20) → (pws qs).length ≤ 20 * qs.length
  | [], _ => Nat.le_refl _
  | x :: r, h => by
    have ih := pws_len (qs := r) fun y hy => h y (List.mem_cons_of_mem _ hy)
    have hx := h x List.mem_cons_self
    show ((List.range x.2).map (fun j => x.1 ^ (j + 1)) ++ pws r).length ≤ 20 * (r.length + 1)
    rw [List.length_append, List.length_map, List.length_range]
    omega
theorem exp_small {h : Nat} {qs : List (Nat × Nat)} (fc : Fac h qs) (hb : h ≤ 1000000) (h1 : 1 ≤ h) : ∀ x ∈ qs, x.2 ≤ 20 ∧ ∀ j, j ≤ x.2 → x.1 ^ j ≤ 1000000 := fun x hx => by
  have d := pdn_pow hx
  rw [fc.eq] at d
  have l := Nat.le_of_dvd (by omega) d
  have hp : 2 ≤ x.1 := (fc.pr x hx).1
  have h2 : 2 ^ x.2 ≤ x.1 ^ x.2 := Nat.pow_le_pow_left hp _
  refine ⟨?_, fun j hj => ?_⟩
  · have h3 : 2 ^ x.2 < 2 ^ 20 := by
      have : (2 : Nat) ^ 20 = 1048576 := by decide
      omega
    have := (Nat.pow_lt_pow_iff_right (a := 2) (by decide)).mp h3
    omega
  · have : x.1 ^ j ≤ x.1 ^ x.2 := Nat.pow_le_pow_right (by omega) hj
    omega
/-! ### the least number that tells two houses apart -/
def Apt (A B : List Nat) (n : Nat) : Prop := F n A ≠ F n B
/-- m is the least with P, or there is none -/
def Least (P : Nat → Prop) (o : Option Nat) : Prop := match o with | none => ∀ n, ¬ P n | some m => P m ∧ ∀ n, P n → m ≤ n
theorem least_uniq {P : Nat → Prop} {o o' : Option Nat} (h : Least P o) (h' : Least P o') : o = o' := by
  cases o with
  | none => cases o' with
    | none => rfl
    | some m => exact absurd h'.1 (h m)
  | some m => cases o' with
    | none => exact absurd h.1 (h' m)
    | some m' =>
      have h1 := h.2 m' h'.1
      have h2 := h'.2 m h.1
      have : m = m' := by omega
      rw [this]
theorem least_congr {P Q : Nat → Prop} (e : ∀ n, P n ↔ Q n) {o : Option Nat} (h : Least P o) : Least Q o := by
  cases o with
  | none => exact fun n hn => h n ((e n).mpr hn)
  | some m => exact ⟨(e m).mp h.1, fun n hn => h.2 n ((e n).mpr hn)⟩
/-- of small houses: the least of the powers is the least of all -/
theorem least_small {A B : List Nat} (hA : ∀ x ∈ A, 1 ≤ x ∧ x ≤ 30) (hB : ∀ x ∈ B, 1 ≤ x ∧ x ≤ 30) {o : Option Nat} (h : Least (fun q => PP (A ++ B) q ∧ Apt A B q) o) : Least (fun n => 1 ≤ n ∧ n ≤ 30 ∧ Apt A B n) o := by
  have hAB : ∀ x ∈ A ++ B, 1 ≤ x ∧ x ≤ 30 := fun x hx => by
    rcases List.mem_append.mp hx with z | z
    · exact hA x z
    · exact hB x z
  cases o with
  | none =>
    rintro n ⟨n1, n2, d⟩
    obtain ⟨q, h1, h2, h3⟩ := pp_any n n1 d
    exact h q ⟨h1, h3⟩
  | some m =>
    have hm := pp_le hAB h.1.1
    refine ⟨⟨hm.1, hm.2, h.1.2⟩, fun n hn => ?_⟩
    obtain ⟨q, h1, h2, h3⟩ := pp_any n hn.1 hn.2.2
    exact Nat.le_trans (h.2 q ⟨h1, h3⟩) h2
theorem pp_comm {A B : List Nat} {q : Nat} : (PP (A ++ B) q ∧ Apt A B q) ↔ (PP (B ++ A) q ∧ Apt B A q) := by
  rw [pp_app, pp_app]
  exact ⟨fun ⟨a, b⟩ => ⟨a.symm, Ne.symm b⟩, fun ⟨a, b⟩ => ⟨a.symm, Ne.symm b⟩⟩
end K38

set_option Elab.async false
set_option linter.all false
set_option maxRecDepth 100000
set_option maxHeartbeats 4000000
/-! max and min of a list of ints with default= -/
namespace MxD
open PySem PySem.Spec PyProof.Rows L2
section
variable {prog : Program} {w : World} {A : Around} {E : Value → Shared → Prop} {s : Shared}
/-- a built-in function that goes on by itself, called with keywords -/
theorem tree_kw {id : String} {b : Builtin} {args : List Value} {kw : List (Str × Value)} {Q : Value → Shared → Prop} (kd : builtinKind id = none) (pn : plainId id = true) (en : entryFor table id = some b) (ok : argsOk id ⟨args, kw⟩)
    (body : wpAny (model prog w) A.in1 (b ⟨args, kw⟩) (fun fin s' => match fin with
      | .done f => (match (Except.ok f : Result) with | .ok (.ret v) => Q v s' | .ok _ => False | .error e => E e s')
      | .again c' => c'.quiet = true ∧ codeAny (model prog w) A c' (fun r s' => match r with | .ok (.ret v) => Q v s' | .ok _ => False | .error e => E e s') s') E s) : wpAny (model prog w) A (call (.builtin id) args kw) Q E s := by
  refine wpAny_call (codeAny_call_builtin pn en ?_)
  simp only [checkBuiltinCall, kd]
  cases sg : Manifest.signature? id with
  | none => exact wpAny_pure body
  | some sig =>
    have z : Bind.checkArgs id sig ⟨args, kw⟩ = pure () := by simpa only [argsOk, sg] using ok
    simp only [z]
    exact wpAny_pure body
end
section
variable {prog : Program} {w : World} {A : Around} {R : Result → Shared → Prop} {I : Addr} {fp wr : List Addr} {n : Nat} {P : Nat → Value → Prop} {St : Nat → Heap → Prop} {kw : List (Str × Value)}
theorem nm_max : (toString "max" ++ toString ".loop" : String) = "max.loop" := by decide
/-- the loop with one best so far, whatever the keywords -/
theorem max_on (W : Walks prog w A.in1 I fp wr n P St) (bt : Nat → Nat → Bool) (cm : CmpOf prog w A.in1 .Gt P bt) (B : Addr) (nf : B ∉ fp) : ∀ (k j : Nat) (s : Shared) (u : Value) (c : Nat), n - (j + 1) = k → j + 1 ≤ n → St (j + 1) s.heap → P (argBest bt j) u →
    s.heap.get? B = some { cls := .type "list", dict := none, data := .seq #[u, u] c, slots := #[] } →
    (∀ v g tk, P (argBest bt (n - 1)) v → (∀ b o, b ∉ wr → b ≠ B → s.heap.get? b = some o → g.get? b = some o) → R (.ok (.ret v)) { s with heap := g, toks := tk }) →
    codeAny (model prog w) A (.builtin "max.loop" ⟨[.ref I, .none, .ref B], kw⟩) R s
  | 0, j, s, u, c, hk, hj, st, pb, hB, hR => by
    have nw : B ∉ wr := fun z => nf (W.sub _ z)
    have last : j + 1 = n := by omega
    refine codeAny_builtin F.entry_max_loop ?_
    rw [Around.under_plainId F.plain_max_loop _]
    show wpAny _ A.in1 (seqItems? (.ref B) >>= _) _ _ s
    refine wpAny_bind (wpAny_seqItems hB rfl ?_)
    show wpAny _ A.in1 (tryCatch (pyNext (.ref I)) _ >>= _) _ _ s
    refine wpAny_bind (wpAny_tryCatch (W.done s _ _ (last ▸ st) fun g tk kp => ?_))
    have hB1 := kp B _ nw hB
    show wpAny _ A.in1 (updateSeq B (fun _ => #[]) >>= _) _ _ _
    refine wpAny_bind (wpAny_updateSeq hB1 rfl (wpAny_bind (wpAny_letGo (wpAny_pure ?_))))
    exact hR u _ tk (by rw [← last]; exact pb) fun b o x y z => (Heap.get?_update_other _ _ (Ne.symm y)).trans (kp b o x z)
  | k + 1, j, s, u, c, hk, hj, st, pb, hB, hR => by
    have nw : B ∉ wr := fun z => nf (W.sub _ z)
    have more : j + 1 < n := by omega
    refine codeAny_builtin F.entry_max_loop ?_
    rw [Around.under_plainId F.plain_max_loop _]
    show wpAny _ A.in1 (seqItems? (.ref B) >>= _) _ _ s
    refine wpAny_bind (wpAny_seqItems hB rfl ?_)
    show wpAny _ A.in1 (tryCatch (pyNext (.ref I)) _ >>= _) _ _ s
    refine wpAny_bind (wpAny_tryCatch (W.item (j + 1) s _ _ more st fun v g tk pv st2 kp => ?_))
    have hB1 := kp B _ nw hB
    show wpAny _ A.in1 (tryCatch (holding [v, v] (richCompare .Gt v u >>= _)) _ >>= _) _ _ _
    refine wpAny_bind (wpAny_tryCatch (wpAny_holding (wpAny_bind (cm (j + 1) (argBest bt j) v u _ _ _ pv pb ?_))))
    refine wpAny_bind (wpAny_holding (wpAny_truthy_bool (wpAny_bind (wpAny_letGo (wpAny_pure ?_)))))
    cases hb : bt (j + 1) (argBest bt j) with
    | true =>
      simp only [if_true]
      refine wpAny_bind (wpAny_updateSeq hB1 rfl (wpAny_bind (wpAny_letGo ?_)))
      rw [nm_max]
      refine wpAny_pure ⟨plainId_quiet F.plain_max_loop _, max_on W bt cm B nf k (j + 1) _ v _ (by omega) more (W.frame _ _ _ st2 fun b hbf o e => ?_) (by simp only [argBest, hb, if_true]; exact pv) (Heap.get?_update_self _ hB1 rfl) fun v2 g2 tk2 pv2 kp2 => ?_⟩
      · exact (Heap.get?_update_other _ _ (fun z : B = b => nf (by rw [z]; exact hbf))).trans e
      · exact hR v2 g2 tk2 pv2 fun b o x y z => kp2 b o x y ((Heap.get?_update_other _ _ (Ne.symm y)).trans (kp b o x z))
    | false =>
      simp only [Bool.false_eq_true, if_false]
      refine wpAny_bind (wpAny_letGo ?_)
      rw [nm_max]
      refine wpAny_pure ⟨plainId_quiet F.plain_max_loop _, max_on W bt cm B nf k (j + 1) _ u c (by omega) more st2 (by simp only [argBest, hb, Bool.false_eq_true, if_false]; exact pb) hB1 fun v2 g2 tk2 pv2 kp2 => ?_⟩
      exact hR v2 g2 tk2 pv2 fun b o x y z => kp2 b o x y (kp b o x z)
theorem max_first (W : Walks prog w A.in1 I fp wr n P St) (bt : Nat → Nat → Bool) (cm : CmpOf prog w A.in1 .Gt P bt) (B : Addr) (nf : B ∉ fp) (pos : 0 < n) {s : Shared} {c : Nat} (st : St 0 s.heap)
    (hB : s.heap.get? B = some { cls := .type "list", dict := none, data := .seq #[] c, slots := #[] })
    (hR : ∀ v g tk, P (argBest bt (n - 1)) v → (∀ b o, b ∉ wr → b ≠ B → s.heap.get? b = some o → g.get? b = some o) → R (.ok (.ret v)) { s with heap := g, toks := tk }) : codeAny (model prog w) A (.builtin "max.loop" ⟨[.ref I, .none, .ref B], kw⟩) R s := by
  have nw : B ∉ wr := fun z => nf (W.sub _ z)
  refine codeAny_builtin F.entry_max_loop ?_
  rw [Around.under_plainId F.plain_max_loop _]
  show wpAny _ A.in1 (seqItems? (.ref B) >>= _) _ _ s
  refine wpAny_bind (wpAny_seqItems hB rfl ?_)
  show wpAny _ A.in1 (tryCatch (pyNext (.ref I)) _ >>= _) _ _ s
  refine wpAny_bind (wpAny_tryCatch (W.item 0 s _ _ pos st fun v g tk pv st2 kp => ?_))
  have hB1 := kp B _ nw hB
  show wpAny _ A.in1 (updateSeq B (fun _ => #[v, v]) >>= _) _ _ _
  refine wpAny_bind (wpAny_updateSeq hB1 rfl ?_)
  rw [nm_max]
  refine wpAny_pure ⟨plainId_quiet F.plain_max_loop _, max_on W bt cm B nf _ 0 _ v _ rfl pos (W.frame _ _ _ st2 fun b hbf o e => ?_) pv (Heap.get?_update_self _ hB1 rfl) fun v2 g2 tk2 pv2 kp2 => ?_⟩
  · exact (Heap.get?_update_other _ _ (fun z : B = b => nf (by rw [z]; exact hbf))).trans e
  · exact hR v2 g2 tk2 pv2 fun b o x y z => kp2 b o x y ((Heap.get?_update_other _ _ (Ne.symm y)).trans (kp b o x z))
/-- nothing there: the default -/
theorem max_none {d : Value} {nm : Str} (W : Walks prog w A.in1 I fp wr 0 P St) (B : Addr) (nf : B ∉ fp) {s : Shared} {c : Nat} (st : St 0 s.heap)
    (hB : s.heap.get? B = some { cls := .type "list", dict := none, data := .seq #[] c, slots := #[] })
    (hR : ∀ g tk, (∀ b o, b ∉ wr → s.heap.get? b = some o → g.get? b = some o) → R (.ok (.ret d)) { s with heap := g, toks := tk }) : codeAny (model prog w) A (.builtin "max.loop" ⟨[.ref I, .none, .ref B], [(nm, d)]⟩) R s := by
  refine codeAny_builtin F.entry_max_loop ?_
  rw [Around.under_plainId F.plain_max_loop _]
  show wpAny _ A.in1 (seqItems? (.ref B) >>= _) _ _ s
  refine wpAny_bind (wpAny_seqItems hB rfl ?_)
  show wpAny _ A.in1 (tryCatch (pyNext (.ref I)) _ >>= _) _ _ s
  refine wpAny_bind (wpAny_tryCatch (W.done s _ _ st fun g tk kp => ?_))
  refine wpAny_bind (wpAny_rule (wpAny_pure ?_))
  exact hR g tk kp
end
theorem args_maxD (a d : Value) : argsOk "max" ⟨[a], [(Str.ofString "default", d)]⟩ := by unfold argsOk; kernel_rfl
section
variable {prog : Program} {w : World} {A : Around} {E : Value → Shared → Prop} {s : Shared} {l : Addr}
theorem max_list {d : Value} {its : List Value} {ns : List Int} {Q : Value → Shared → Prop} (hh : A.handled = none) (hl : s.heap.IsList l its.toArray) (hi : IntsAre its ns)
    (h0 : ns = [] → ∀ g tk, (∀ b o, s.heap.get? b = some o → g.get? b = some o) → Q d { s with heap := g, toks := tk })
    (h1 : ∀ g tk m t', (∀ b o, s.heap.get? b = some o → g.get? b = some o) → m ∈ ns → (∀ a, a ∈ ns → a ≤ m) → Q (.int m t') { s with heap := g, toks := tk }) :
    wpAny (model prog w) A (call (.builtin "max") [.ref l] [(Str.ofString "default", d)]) Q E s := by
  obtain ⟨xs, e⟩ := hi.allInts.items
  have hn : numsOf (intItems xs).toList = ns := by rw [← e]; exact hi.numsOf
  rw [nums_intItems] at hn
  subst hn
  rw [e] at hl
  refine tree_kw F.kind_max F.plain_max F.entry_max (args_maxD _ _) ?_
  show wpAny _ A.in1 (Builtin.Builtins.bindParams "max" ["key", "default"] 0 ⟨[], [(Str.ofString "default", d)]⟩ >>= _) _ _ s
  refine wpAny_bind (wpAny_of_eq (show Builtin.Builtins.bindParams "max" ["key", "default"] 0 ⟨[], [(Str.ofString "default", d)]⟩ = pure [none, some d] from by kernel_rfl) ?_)
  refine wpAny_bind (wpAny_pure ?_)
  refine wpAny_bind (iter_intList hl fun s2 e2 st hfp hlI => ?_)
  subst e2
  refine wpAny_bind (wpAny_newObj_type ?_)
  have W := Walks.list (prog := prog) (w := w) (A := A.in1) hh s.heap.objs.size l hlI (intItems xs)
  have nf : (s.heap.push { cls := .type "list_iterator", data := .fields #[.ref l, .int 0 0] }).objs.size ∉ [s.heap.objs.size, l] := fun hm => Nat.lt_irrefl _ (hfp _ hm)
  rw [nm_max]
  by_cases z : 0 < xs.size
  · refine wpAny_pure ⟨plainId_quiet F.plain_max_loop _, max_first W _ (CmpOf.ints_gt (numAt xs) (fun _ _ => intItems_at)) _ nf (by simpa [intItems] using z) (W.frame _ _ _ st fun b _ o e => Heap.get?_push_of_some _ e) (Heap.get?_push_size _ rfl) fun v g tk pv kp => ?_⟩
    have hv : (intItems xs)[argBest (fun i j => decide (numAt xs i > numAt xs j)) (xs.size - 1)]? = some v := by simpa [intItems] using pv
    obtain ⟨t, rfl⟩ := intItems_at hv
    obtain ⟨b1, b2⟩ := argBest_gt (numAt xs) (xs.size - 1)
    refine h1 g tk _ t (old_kept fun b o x y => kp b o x (Nat.ne_of_lt (Heap.lt_size y)) (Heap.get?_push_of_some _ y)) ?_ fun a ha => ?_
    · rw [numAt_eq]
      exact PySem.getD_mem (by rw [List.length_map, Array.length_toList]; omega)
    · obtain ⟨j, hj, rfl⟩ := mem_getD ha
      rw [List.length_map, Array.length_toList] at hj
      rw [← numAt_eq]
      exact b2 j (by omega)
  · have z0 : xs.size = 0 := by omega
    have zz : (intItems xs).size = 0 := by simpa [intItems] using z0
    rw [zz] at W
    refine wpAny_pure ⟨plainId_quiet F.plain_max_loop _, max_none W _ nf (W.frame _ _ _ st fun b _ o e => Heap.get?_push_of_some _ e) (Heap.get?_push_size _ rfl) fun g tk kp => ?_⟩
    refine h0 ?_ g tk (old_kept fun b o x y => kp b o x (Heap.get?_push_of_some _ y))
    have : xs = #[] := Array.eq_empty_of_size_eq_zero z0
    rw [this]
    rfl
end
def rMaxD (K : PySem.W.Frag) : List V → List V → Hp → VK → Prop := fun vs zs H Q => ∃ (a : Addr) (ns : List Int) (d : V), vs = [V.ref a] ∧ zs = [d] ∧ SqL K H a (ns.map V.int) ∧ (ns = [] → Q d H) ∧ ∀ m, m ∈ ns → (∀ a, a ∈ ns → a ≤ m) → Q (.int m) H
theorem cr_maxD {X : Cx} (hc : X.calm = true) : CallRK X (.builtin "max") [Str.ofString "default"] (rMaxD X.K) := by
  intro pins s σ H vs zs us ws Q I r rz h
  obtain ⟨a, ns, d, rfl, rfl, hs, q0, q1⟩ := h
  obtain rfl := Vals.ref1 r
  obtain ⟨w1, rfl, e1⟩ := vals1 rz
  obtain ⟨its, rv, hl, _⟩ := I.list hs
  exact max_list (I.ok.hd hc) hl.isList rv.ints (fun z g tk kp => ⟨d, H, I.kept kp, e1, q0 z⟩) fun g tk m t' kp m1 m2 => ⟨.int _, H, I.kept kp, ⟨_, rfl⟩, q1 m m1 m2⟩
section
variable {prog : Program} {w : World} {A : Around} {R : Result → Shared → Prop} {I : Addr} {fp wr : List Addr} {n : Nat} {P : Nat → Value → Prop} {St : Nat → Heap → Prop} {kw : List (Str × Value)}
theorem nm_min : (toString "min" ++ toString ".loop" : String) = "min.loop" := by decide
/-- the loop with one best so far, whatever the keywords -/
theorem min_on (W : Walks prog w A.in1 I fp wr n P St) (bt : Nat → Nat → Bool) (cm : CmpOf prog w A.in1 .Lt P bt) (B : Addr) (nf : B ∉ fp) : ∀ (k j : Nat) (s : Shared) (u : Value) (c : Nat), n - (j + 1) = k → j + 1 ≤ n → St (j + 1) s.heap → P (argBest bt j) u →
    s.heap.get? B = some { cls := .type "list", dict := none, data := .seq #[u, u] c, slots := #[] } →
    (∀ v g tk, P (argBest bt (n - 1)) v → (∀ b o, b ∉ wr → b ≠ B → s.heap.get? b = some o → g.get? b = some o) → R (.ok (.ret v)) { s with heap := g, toks := tk }) →
    codeAny (model prog w) A (.builtin "min.loop" ⟨[.ref I, .none, .ref B], kw⟩) R s
  | 0, j, s, u, c, hk, hj, st, pb, hB, hR => by
    have nw : B ∉ wr := fun z => nf (W.sub _ z)
    have last : j + 1 = n := by omega
    refine codeAny_builtin F.entry_min_loop ?_
    rw [Around.under_plainId F.plain_min_loop _]
    show wpAny _ A.in1 (seqItems? (.ref B) >>= _) _ _ s
    refine wpAny_bind (wpAny_seqItems hB rfl ?_)
    show wpAny _ A.in1 (tryCatch (pyNext (.ref I)) _ >>= _) _ _ s
    refine wpAny_bind (wpAny_tryCatch (W.done s _ _ (last ▸ st) fun g tk kp => ?_))
    have hB1 := kp B _ nw hB
    show wpAny _ A.in1 (updateSeq B (fun _ => #[]) >>= _) _ _ _
    refine wpAny_bind (wpAny_updateSeq hB1 rfl (wpAny_bind (wpAny_letGo (wpAny_pure ?_))))
    exact hR u _ tk (by rw [← last]; exact pb) fun b o x y z => (Heap.get?_update_other _ _ (Ne.symm y)).trans (kp b o x z)
  | k + 1, j, s, u, c, hk, hj, st, pb, hB, hR => by
    have nw : B ∉ wr := fun z => nf (W.sub _ z)
    have more : j + 1 < n := by omega
    refine codeAny_builtin F.entry_min_loop ?_
    rw [Around.under_plainId F.plain_min_loop _]
    show wpAny _ A.in1 (seqItems? (.ref B) >>= _) _ _ s
    refine wpAny_bind (wpAny_seqItems hB rfl ?_)
    show wpAny _ A.in1 (tryCatch (pyNext (.ref I)) _ >>= _) _ _ s
    refine wpAny_bind (wpAny_tryCatch (W.item (j + 1) s _ _ more st fun v g tk pv st2 kp => ?_))
    have hB1 := kp B _ nw hB
    show wpAny _ A.in1 (tryCatch (holding [v, v] (richCompare .Lt v u >>= _)) _ >>= _) _ _ _
    refine wpAny_bind (wpAny_tryCatch (wpAny_holding (wpAny_bind (cm (j + 1) (argBest bt j) v u _ _ _ pv pb ?_))))
    refine wpAny_bind (wpAny_holding (wpAny_truthy_bool (wpAny_bind (wpAny_letGo (wpAny_pure ?_)))))
    cases hb : bt (j + 1) (argBest bt j) with
    | true =>
      simp only [if_true]
      refine wpAny_bind (wpAny_updateSeq hB1 rfl (wpAny_bind (wpAny_letGo ?_)))
      rw [nm_min]
      refine wpAny_pure ⟨plainId_quiet F.plain_min_loop _, min_on W bt cm B nf k (j + 1) _ v _ (by omega) more (W.frame _ _ _ st2 fun b hbf o e => ?_) (by simp only [argBest, hb, if_true]; exact pv) (Heap.get?_update_self _ hB1 rfl) fun v2 g2 tk2 pv2 kp2 => ?_⟩
      · exact (Heap.get?_update_other _ _ (fun z : B = b => nf (by rw [z]; exact hbf))).trans e
      · exact hR v2 g2 tk2 pv2 fun b o x y z => kp2 b o x y ((Heap.get?_update_other _ _ (Ne.symm y)).trans (kp b o x z))
    | false =>
      simp only [Bool.false_eq_true, if_false]
      refine wpAny_bind (wpAny_letGo ?_)
      rw [nm_min]
      refine wpAny_pure ⟨plainId_quiet F.plain_min_loop _, min_on W bt cm B nf k (j + 1) _ u c (by omega) more st2 (by simp only [argBest, hb, Bool.false_eq_true, if_false]; exact pb) hB1 fun v2 g2 tk2 pv2 kp2 => ?_⟩
      exact hR v2 g2 tk2 pv2 fun b o x y z => kp2 b o x y (kp b o x z)
theorem min_first (W : Walks prog w A.in1 I fp wr n P St) (bt : Nat → Nat → Bool) (cm : CmpOf prog w A.in1 .Lt P bt) (B : Addr) (nf : B ∉ fp) (pos : 0 < n) {s : Shared} {c : Nat} (st : St 0 s.heap)
    (hB : s.heap.get? B = some { cls := .type "list", dict := none, data := .seq #[] c, slots := #[] })
    (hR : ∀ v g tk, P (argBest bt (n - 1)) v → (∀ b o, b ∉ wr → b ≠ B → s.heap.get? b = some o → g.get? b = some o) → R (.ok (.ret v)) { s with heap := g, toks := tk }) : codeAny (model prog w) A (.builtin "min.loop" ⟨[.ref I, .none, .ref B], kw⟩) R s := by
  have nw : B ∉ wr := fun z => nf (W.sub _ z)
  refine codeAny_builtin F.entry_min_loop ?_
  rw [Around.under_plainId F.plain_min_loop _]
  show wpAny _ A.in1 (seqItems? (.ref B) >>= _) _ _ s
  refine wpAny_bind (wpAny_seqItems hB rfl ?_)
  show wpAny _ A.in1 (tryCatch (pyNext (.ref I)) _ >>= _) _ _ s
  refine wpAny_bind (wpAny_tryCatch (W.item 0 s _ _ pos st fun v g tk pv st2 kp => ?_))
  have hB1 := kp B _ nw hB
  show wpAny _ A.in1 (updateSeq B (fun _ => #[v, v]) >>= _) _ _ _
  refine wpAny_bind (wpAny_updateSeq hB1 rfl ?_)
  rw [nm_min]
  refine wpAny_pure ⟨plainId_quiet F.plain_min_loop _, min_on W bt cm B nf _ 0 _ v _ rfl pos (W.frame _ _ _ st2 fun b hbf o e => ?_) pv (Heap.get?_update_self _ hB1 rfl) fun v2 g2 tk2 pv2 kp2 => ?_⟩
  · exact (Heap.get?_update_other _ _ (fun z : B = b => nf (by rw [z]; exact hbf))).trans e
  · exact hR v2 g2 tk2 pv2 fun b o x y z => kp2 b o x y ((Heap.get?_update_other _ _ (Ne.symm y)).trans (kp b o x z))
/-- nothing there: the default -/
theorem min_none {d : Value} {nm : Str} (W : Walks prog w A.in1 I fp wr 0 P St) (B : Addr) (nf : B ∉ fp) {s : Shared} {c : Nat} (st : St 0 s.heap)
    (hB : s.heap.get? B = some { cls := .type "list", dict := none, data := .seq #[] c, slots := #[] })
    (hR : ∀ g tk, (∀ b o, b ∉ wr → s.heap.get? b = some o → g.get? b = some o) → R (.ok (.ret d)) { s with heap := g, toks := tk }) : codeAny (model prog w) A (.builtin "min.loop" ⟨[.ref I, .none, .ref B], [(nm, d)]⟩) R s := by
  refine codeAny_builtin F.entry_min_loop ?_
  rw [Around.under_plainId F.plain_min_loop _]
  show wpAny _ A.in1 (seqItems? (.ref B) >>= _) _ _ s
  refine wpAny_bind (wpAny_seqItems hB rfl ?_)
  show wpAny _ A.in1 (tryCatch (pyNext (.ref I)) _ >>= _) _ _ s
  refine wpAny_bind (wpAny_tryCatch (W.done s _ _ st fun g tk kp => ?_))
  refine wpAny_bind (wpAny_rule (wpAny_pure ?_))
  exact hR g tk kp
end
theorem args_minD (a d : Value) : argsOk "min" ⟨[a], [(Str.ofString "default", d)]⟩ := by unfold argsOk; kernel_rfl
section
variable {prog : Program} {w : World} {A : Around} {E : Value → Shared → Prop} {s : Shared} {l : Addr}
theorem min_list {d : Value} {its : List Value} {ns : List Int} {Q : Value → Shared → Prop} (hh : A.handled = none) (hl : s.heap.IsList l its.toArray) (hi : IntsAre its ns)
    (h0 : ns = [] → ∀ g tk, (∀ b o, s.heap.get? b = some o → g.get? b = some o) → Q d { s with heap := g, toks := tk })
    (h1 : ∀ g tk m t', (∀ b o, s.heap.get? b = some o → g.get? b = some o) → m ∈ ns → (∀ a, a ∈ ns → m ≤ a) → Q (.int m t') { s with heap := g, toks := tk }) :
    wpAny (model prog w) A (call (.builtin "min") [.ref l] [(Str.ofString "default", d)]) Q E s := by
  obtain ⟨xs, e⟩ := hi.allInts.items
  have hn : numsOf (intItems xs).toList = ns := by rw [← e]; exact hi.numsOf
  rw [nums_intItems] at hn
  subst hn
  rw [e] at hl
  refine tree_kw F.kind_min F.plain_min F.entry_min (args_minD _ _) ?_
  show wpAny _ A.in1 (Builtin.Builtins.bindParams "min" ["key", "default"] 0 ⟨[], [(Str.ofString "default", d)]⟩ >>= _) _ _ s
  refine wpAny_bind (wpAny_of_eq (show Builtin.Builtins.bindParams "min" ["key", "default"] 0 ⟨[], [(Str.ofString "default", d)]⟩ = pure [none, some d] from by kernel_rfl) ?_)
  refine wpAny_bind (wpAny_pure ?_)
  refine wpAny_bind (iter_intList hl fun s2 e2 st hfp hlI => ?_)
  subst e2
  refine wpAny_bind (wpAny_newObj_type ?_)
  have W := Walks.list (prog := prog) (w := w) (A := A.in1) hh s.heap.objs.size l hlI (intItems xs)
  have nf : (s.heap.push { cls := .type "list_iterator", data := .fields #[.ref l, .int 0 0] }).objs.size ∉ [s.heap.objs.size, l] := fun hm => Nat.lt_irrefl _ (hfp _ hm)
  rw [nm_min]
  by_cases z : 0 < xs.size
  · refine wpAny_pure ⟨plainId_quiet F.plain_min_loop _, min_first W _ (CmpOf.ints_lt (numAt xs) (fun _ _ => intItems_at)) _ nf (by simpa [intItems] using z) (W.frame _ _ _ st fun b _ o e => Heap.get?_push_of_some _ e) (Heap.get?_push_size _ rfl) fun v g tk pv kp => ?_⟩
    have hv : (intItems xs)[argBest (fun i j => decide (numAt xs i < numAt xs j)) (xs.size - 1)]? = some v := by simpa [intItems] using pv
    obtain ⟨t, rfl⟩ := intItems_at hv
    obtain ⟨b1, b2⟩ := argBest_lt (numAt xs) (xs.size - 1)
    refine h1 g tk _ t (old_kept fun b o x y => kp b o x (Nat.ne_of_lt (Heap.lt_size y)) (Heap.get?_push_of_some _ y)) ?_ fun a ha => ?_
    · rw [numAt_eq]
      exact PySem.getD_mem (by rw [List.length_map, Array.length_toList]; omega)
    · obtain ⟨j, hj, rfl⟩ := mem_getD ha
      rw [List.length_map, Array.length_toList] at hj
      rw [← numAt_eq]
      exact b2 j (by omega)
  · have z0 : xs.size = 0 := by omega
    have zz : (intItems xs).size = 0 := by simpa [intItems] using z0
    rw [zz] at W
    refine wpAny_pure ⟨plainId_quiet F.plain_min_loop _, min_none W _ nf (W.frame _ _ _ st fun b _ o e => Heap.get?_push_of_some _ e) (Heap.get?_push_size _ rfl) fun g tk kp => ?_⟩
    refine h0 ?_ g tk (old_kept fun b o x y => kp b o x (Heap.get?_push_of_some _ y))
    have : xs = #[] := Array.eq_empty_of_size_eq_zero z0
    rw [this]
    rfl
end
def rMinD (K : PySem.W.Frag) : List V → List V → Hp → VK → Prop := fun vs zs H Q => ∃ (a : Addr) (ns : List Int) (d : V), vs = [V.ref a] ∧ zs = [d] ∧ SqL K H a (ns.map V.int) ∧ (ns = [] → Q d H) ∧ ∀ m, m ∈ ns → (∀ a, a ∈ ns → m ≤ a) → Q (.int m) H
theorem cr_minD {X : Cx} (hc : X.calm = true) : CallRK X (.builtin "min") [Str.ofString "default"] (rMinD X.K) := by
  intro pins s σ H vs zs us ws Q I r rz h
  obtain ⟨a, ns, d, rfl, rfl, hs, q0, q1⟩ := h
  obtain rfl := Vals.ref1 r
  obtain ⟨w1, rfl, e1⟩ := vals1 rz
  obtain ⟨its, rv, hl, _⟩ := I.list hs
  exact min_list (I.ok.hd hc) hl.isList rv.ints (fun z g tk kp => ⟨d, H, I.kept kp, e1, q0 z⟩) fun g tk m t' kp m1 m2 => ⟨.int _, H, I.kept kp, ⟨_, rfl⟩, q1 m m1 m2⟩
end MxD

set_option Elab.async false
set_option linter.all false
set_option maxRecDepth 100000
set_option maxHeartbeats 4000000
namespace K38
open PySem PySem.Spec PyProof.Rows L2 Cm K01 K02 K35
def topS (i : Nat) : Stmt := PySem.Challenge.pw_commonhouse_k38_what_tells_apart.main.body.getD i (.Pass ⟨0, 0, 0, 0⟩)
abbrev s_common_measure : Stmt := topS 1
abbrev N_common_measure : List Str := ["a", "b"]
theorem sc_common_measure : FnScope N_common_measure ["a", "b"] (defScope s_common_measure) := ⟨rfl, rfl, rfl, by decide +kernel, rfl, by decide +kernel, by decide +kernel⟩
abbrev s_power : Stmt := topS 2
abbrev N_power : List Str := ["base", "many", "found", "again"]
theorem sc_power : FnScope N_power ["base", "many"] (defScope s_power) := ⟨rfl, rfl, rfl, by decide +kernel, rfl, by decide +kernel, by decide +kernel⟩
abbrev s_primes_of : Stmt := topS 4
abbrev N_primes_of : List Str := ["n", "found", "prime", "often"]
theorem sc_primes_of : FnScope N_primes_of ["n"] (defScope s_primes_of) := ⟨rfl, rfl, rfl, by decide +kernel, rfl, by decide +kernel, by decide +kernel⟩
abbrev s_nought_at : Stmt := topS 6
abbrev N_nought_at : List Str := ["house", "n", "many", "limit"]
theorem sc_nought_at : FnScope N_nought_at ["house", "n"] (defScope s_nought_at) := ⟨rfl, rfl, rfl, by decide +kernel, rfl, by decide +kernel, by decide +kernel⟩
abbrev s_apart_at : Stmt := topS 8
abbrev N_apart_at : List Str := ["one", "other", "found", "limit", "prime", "often", "n", "many"]
theorem sc_apart_at : FnScope N_apart_at ["one", "other"] (defScope s_apart_at) := ⟨rfl, rfl, rfl, by decide +kernel, rfl, by decide +kernel, by decide +kernel⟩
abbrev s_law_pen : Stmt := topS 10
abbrev N_law_pen : List Str := ["_law_script"]
theorem sc_law_pen : FnScope N_law_pen ["_law_script"] (defScope s_law_pen) := ⟨rfl, rfl, rfl, by decide +kernel, rfl, by decide +kernel, by decide +kernel⟩
abbrev s_law_draw : Stmt := topS 11
abbrev N_law_draw : List Str := ["_law_pen_here", "_law_many", "_law_drawn", "_law_at", "_law_cell", "_law_number"]
theorem sc_law_draw : FnScope N_law_draw ["_law_pen_here", "_law_many"] (defScope s_law_draw) := ⟨rfl, rfl, rfl, by decide +kernel, rfl, by decide +kernel, by decide +kernel⟩
abbrev s_law_round : Stmt := topS 12
abbrev N_law_round : List Str := ["_law_pen_here", "_law_way"]
theorem sc_law_round : FnScope N_law_round ["_law_pen_here"] (defScope s_law_round) := ⟨rfl, rfl, rfl, by decide +kernel, rfl, by decide +kernel, by decide +kernel⟩
abbrev s_law_house : Stmt := topS 13
abbrev N_law_house : List Str := ["_law_pen_here", "_law_k"]
theorem sc_law_house : FnScope N_law_house ["_law_pen_here"] (defScope s_law_house) := ⟨rfl, rfl, rfl, by decide +kernel, rfl, by decide +kernel, by decide +kernel⟩
abbrev s_law_factors : Stmt := topS 15
abbrev N_law_factors : List Str := ["_law_n", "_law_found", "_law_by", "_law_often"]
theorem sc_law_factors : FnScope N_law_factors ["_law_n"] (defScope s_law_factors) := ⟨rfl, rfl, rfl, by decide +kernel, rfl, by decide +kernel, by decide +kernel⟩
abbrev s_law_whole : Stmt := topS 16
abbrev N_law_whole : List Str := ["_law_thing_here"]
theorem sc_law_whole : FnScope N_law_whole ["_law_thing_here"] (defScope s_law_whole) := ⟨rfl, rfl, rfl, by decide +kernel, rfl, by decide +kernel, by decide +kernel⟩
abbrev s_law_measure : Stmt := topS 17
abbrev N_law_measure : List Str := ["_law_a", "_law_b"]
theorem sc_law_measure : FnScope N_law_measure ["_law_a", "_law_b"] (defScope s_law_measure) := ⟨rfl, rfl, rfl, by decide +kernel, rfl, by decide +kernel, by decide +kernel⟩
abbrev s_law_count : Stmt := topS 18
abbrev N_law_count : List Str := ["_law_house_here", "_law_n", "_law_found", "_law_one"]
theorem sc_law_count : FnScope N_law_count ["_law_house_here", "_law_n"] (defScope s_law_count) := ⟨rfl, rfl, rfl, by decide +kernel, rfl, by decide +kernel, by decide +kernel⟩
abbrev s_law_small : Stmt := topS 19
abbrev N_law_small : List Str := ["_law_pen_here", "_law_some", "_law_k"]
theorem sc_law_small : FnScope N_law_small ["_law_pen_here"] (defScope s_law_small) := ⟨rfl, rfl, rfl, by decide +kernel, rfl, by decide +kernel, by decide +kernel⟩
abbrev s_law_near : Stmt := topS 20
abbrev N_law_near : List Str := ["_law_pen_here", "_law_house_here", "_law_most", "_law_at", "_law_one", "_law_by", "_law_way"]
theorem sc_law_near : FnScope N_law_near ["_law_pen_here", "_law_house_here", "_law_most"] (defScope s_law_near) := ⟨rfl, rfl, rfl, by decide +kernel, rfl, by decide +kernel, by decide +kernel⟩
abbrev s_law_least : Stmt := topS 21
abbrev N_law_least : List Str := ["_law_one", "_law_other", "_law_found", "_law_n"]
theorem sc_law_least : FnScope N_law_least ["_law_one", "_law_other"] (defScope s_law_least) := ⟨rfl, rfl, rfl, by decide +kernel, rfl, by decide +kernel, by decide +kernel⟩
abbrev s_law_powers : Stmt := topS 22
abbrev N_law_powers : List Str := ["_law_house_here", "_law_found", "_law_one", "_law_by", "_law_often", "_law_power_here", "_law_lap"]
theorem sc_law_powers : FnScope N_law_powers ["_law_house_here"] (defScope s_law_powers) := ⟨rfl, rfl, rfl, by decide +kernel, rfl, by decide +kernel, by decide +kernel⟩
abbrev s_law_great_right : Stmt := topS 23
abbrev N_law_great_right : List Str := ["_law_one", "_law_other", "_law_told", "_law_some", "_law_n"]
theorem sc_law_great_right : FnScope N_law_great_right ["_law_one", "_law_other"] (defScope s_law_great_right) := ⟨rfl, rfl, rfl, by decide +kernel, rfl, by decide +kernel, by decide +kernel⟩
abbrev s_law : Stmt := topS 24
abbrev N_law : List Str := ["_law_script", "_law_pen_here", "_law_lap", "_law_one", "_law_other", "_law_due", "_law_told"]
theorem sc_law : FnScope N_law ["_law_script"] (defScope s_law) := ⟨rfl, rfl, rfl, by decide +kernel, rfl, by decide +kernel, by decide +kernel⟩
structure Txt (K : PySem.W.Frag) (mg : Str → Option Value) : Prop where
  d_common_measure : Df K mg "common_measure" s_common_measure ["a", "b"]
  d_power : Df K mg "power" s_power ["base", "many"]
  d_primes_of : Df K mg "primes_of" s_primes_of ["n"]
  d_nought_at : Df K mg "nought_at" s_nought_at ["house", "n"]
  d_apart_at : Df K mg "apart_at" s_apart_at ["one", "other"]
  d_law_pen : Df K mg "_law_pen" s_law_pen ["_law_script"]
  d_law_draw : Df K mg "_law_draw" s_law_draw ["_law_pen_here", "_law_many"]
  d_law_round : Df K mg "_law_round" s_law_round ["_law_pen_here"]
  d_law_house : Df K mg "_law_house" s_law_house ["_law_pen_here"]
  d_law_factors : Df K mg "_law_factors" s_law_factors ["_law_n"]
  d_law_whole : Df K mg "_law_whole" s_law_whole ["_law_thing_here"]
  d_law_measure : Df K mg "_law_measure" s_law_measure ["_law_a", "_law_b"]
  d_law_count : Df K mg "_law_count" s_law_count ["_law_house_here", "_law_n"]
  d_law_small : Df K mg "_law_small" s_law_small ["_law_pen_here"]
  d_law_near : Df K mg "_law_near" s_law_near ["_law_pen_here", "_law_house_here", "_law_most"]
  d_law_least : Df K mg "_law_least" s_law_least ["_law_one", "_law_other"]
  d_law_powers : Df K mg "_law_powers" s_law_powers ["_law_house_here"]
  d_law_great_right : Df K mg "_law_great_right" s_law_great_right ["_law_one", "_law_other"]
  d_law : Df K mg "law" s_law ["_law_script"]
  n_abs : mg "abs" = none
  n_bool : mg "bool" = none
  n_int : mg "int" = none
  n_isinstance : mg "isinstance" = none
  n_len : mg "len" = none
  n_min : mg "min" = none
  n_range : mg "range" = none
  n_repr : mg "repr" = none
  n_set : mg "set" = none
  n_sorted : mg "sorted" = none
  n_tuple : mg "tuple" = none
section
variable {P : Program} {w : World} {K : PySem.W.Frag} {mg : Str → Option Value} {base : Heap}
/-! ### the pen -/
theorem merge_pen (a : Addr) : mergeK [] (penD a 0 0) = penD a 0 0 := by
  show putK (putK (putK [] (Sum.inr ("cells" : Str) : Key) (.ref a)) (Sum.inr ("at" : Str)) (.int 0)) (Sum.inr ("left" : Str)) (.int 0) = _
  have e1 : putK ([] : List (Key × V)) (Sum.inr ("cells" : Str) : Key) (.ref a) = [(Sum.inr ("cells" : Str), .ref a)] := putK_new _ rfl
  have e2 : putK [((Sum.inr ("cells" : Str) : Key), V.ref a)] (Sum.inr ("at" : Str) : Key) (.int 0) = [(Sum.inr ("cells" : Str), .ref a), (Sum.inr ("at" : Str), .int 0)] := putK_new _ ((valV_neg kca).trans rfl)
  have e3 : putK [((Sum.inr ("cells" : Str) : Key), V.ref a), (Sum.inr ("at" : Str), .int 0)] (Sum.inr ("left" : Str) : Key) (.int 0) = penD a 0 0 := putK_new _ ((valV_neg kcl).trans ((valV_neg kal).trans rfl))
  rw [e1, e2, e3]
def rPen (K : PySem.W.Frag) : V → Hp → VK → Prop := fun x H Q => ∃ (a : Addr) (ns : List Int), x = .ref a ∧ SqL K H a (ns.map V.int) ∧ ∀ d H', H d = none → Same H H' → Pen K H' d a ns 0 → Q (.ref d) H'
theorem ok_law_pen (T : Txt K mg) : Fn P w K mg base 1 "_law_pen" ["_law_script"] (sp1 (rPen K)) := by
  refine T.d_law_pen.ok sc_law_pen len1 fun f cdv A outer s H vs Q E hr hg h => ?_
  obtain ⟨_, rfl, a, ns, rfl, hS, q⟩ := h
  refine ⟨_, (pss_one (ps_ret (pe_disp (pps_cons pe_str (pv 0) (pps_cons pe_str pe_int (pps_cons pe_str pe_int pps_nil))) (by rfl) (by rfl) (fun z => by cases z) (by decide)))), ?_⟩
  intro d hd
  refine ⟨_, rfl, upd_same, penD a 0 0, rfl, (by show 3 ≤ 15; decide), ?_⟩
  rw [merge_pen]
  have e : upd (upd H d (.dK [])) d (.dK (penD a 0 0)) = upd H d (.dK (penD a 0 0)) := upd_upd
  rw [e]
  exact q d _ hd (same_new hd) ⟨(same_new hd).seq hS, 0, 0, upd_same, by decide, by decide, by decide⟩
theorem p629 : (0 : Int) < 2147483629 := by decide
theorem p587 : (0 : Int) < 2147483587 := by decide
theorem p563 : (0 : Int) < 2147483563 := by decide
theorem ok_law_draw (T : Txt K mg) : Fn P w K mg base 1 "_law_draw" ["_law_pen_here", "_law_many"] (sp2 (rDraw K)) := by
  refine T.d_law_draw.ok sc_law_draw len2 fun f cdv A outer s H vs Q E hr hg h => ?_
  obtain ⟨_, _, rfl, d, a, ns, c, many, rfl, rfl, ⟨hS, n, m, hd, n0, n1, m0⟩, p0, p1, hc, q⟩ := h
  have hu := hu_of hr
  refine ⟨_, (pss_cons (ps_if (pt_cmpR op_gt (pe_dget hu (pv 0) pe_str (fun _ _ => rfl)) pe_int (nomark _))
(pss_cons (ps_set (i := 2) sc_law_draw.nd rfl (by first | exact Or.inl rfl | exact Or.inr rfl) (pe_op op_mod (pe_dget hu (pv 0) pe_str (fun _ _ => rfl)) (pv 1)))
(pss_cons (ps_dput hu (pv 0) pe_str (pe_op op_fdiv (pe_dget hu (pv 0) pe_str (fun _ _ => rfl)) (pv 1)) rfl)
(pss_one (ps_ret (pv 2)))))
pss_nil)
(pss_cons (ps_set (i := 3) sc_law_draw.nd rfl (by first | exact Or.inl rfl | exact Or.inr rfl) (pe_dget hu (pv 0) pe_str (fun _ _ => rfl)))
(pss_cons (ps_dput hu (pv 0) pe_str (pe_op op_add (pv 3) pe_int) rfl)
(pss_cons (ps_set (i := 4) sc_law_draw.nd rfl (by first | exact Or.inl rfl | exact Or.inr rfl) (pe_op op_add (pe_op op_add (pe_op op_mul (pe_op op_mul pe_int (pv 3)) (pv 3)) (pe_op op_mul pe_int (pv 3))) pe_int))
(pss_cons (ps_if (pt_cmpR op_gt (pe_callB (len_K (K := K) rfl) (by rfl) T.n_len (by decide +kernel) (pa_cons (pe_dget hu (pv 0) pe_str (fun _ _ => rfl)) pa_nil)) pe_int (nomark _))
(pss_cons (ps_set (i := 4) sc_law_draw.nd rfl (by first | exact Or.inl rfl | exact Or.inr rfl) (pe_ix (ixL_K (K := K) rfl) (pe_dget hu (pv 0) pe_str (fun _ _ => rfl)) (pe_op op_mod (pv 3) (pe_callB (len_K (K := K) rfl) (by rfl) T.n_len (by decide +kernel) (pa_cons (pe_dget hu (pv 0) pe_str (fun _ _ => rfl)) pa_nil))) (fun _ _ => rfl)))
(pss_one (ps_if (PW.pt (pw_and (pt_cmpR op_lt (pv 3) (pe_callB (len_K (K := K) rfl) (by rfl) T.n_len (by decide +kernel) (pa_cons (pe_dget hu (pv 0) pe_str (fun _ _ => rfl)) pa_nil)) (nomark _)) (pw_and1 (pt_cmpR op_ge (pe_callB call_abs (by rfl) T.n_abs (by decide +kernel) (pa_cons (pv 4) pa_nil)) (pe_op op_pow pe_int pe_int) (nomark _)))))
(pss_cons (ps_dput hu (pv 0) pe_str (pe_op op_fdiv (pe_callB call_abs (by rfl) T.n_abs (by decide +kernel) (pa_cons (pv 4) pa_nil)) (pv 1)) rfl)
(pss_one (ps_ret (pe_op op_mod (pe_callB call_abs (by rfl) T.n_abs (by decide +kernel) (pa_cons (pv 4) pa_nil)) (pv 1)))))
pss_nil)))
pss_nil)
(pss_cons (ps_set (i := 5) sc_law_draw.nd rfl (by first | exact Or.inl rfl | exact Or.inr rfl) (pe_op op_mod (pe_op op_mul (pe_op op_add (pe_op op_add (pe_op op_mod (pv 4) pe_int) (pe_op op_mul pe_int (pv 3))) pe_int) pe_int) pe_int))
(pss_cons (ps_set (i := 5) sc_law_draw.nd rfl (by first | exact Or.inl rfl | exact Or.inr rfl) (pe_op op_mod (pe_op op_add (pe_op op_add (pe_op op_mul (pv 5) (pv 5)) (pe_op op_mul pe_int (pv 5))) (pv 3)) pe_int))
(pss_one (ps_ret (pe_op op_mod (pe_op op_fdiv (pv 5) pe_int) (pv 1))))))))))), ?_⟩
  refine ⟨_, rfl, d, _, rfl, dg_left hd, _, _, rfl, rfl, _, rfl, ite2 (fun e => ?_) (fun e => ?_)⟩
  · have hm : 0 < m := of_decide_eq_true e
    refine ⟨_, rfl, d, _, rfl, dg_left hd, _, rfl, _, _, rfl, rfl, p0, ?_⟩
    refine ⟨_, rfl, d, _, rfl, dg_left hd, _, rfl, _, _, rfl, rfl, ⟨p0, p1⟩, _, rfl, d, _, rfl, dp_left hd, ?_⟩
    refine ⟨_, rfl, ?_⟩
    exact q _ _ (Int.emod_nonneg _ (by omega)) (Int.emod_lt_of_pos _ p0) ⟨sq_but But.upd hd hS, n, m / many, upd_same, n0, by omega, Int.ediv_nonneg m0 (by omega)⟩ But.upd
  · -- at
    refine ⟨_, rfl, d, _, rfl, dg_at hd, ?_⟩
    refine ⟨_, rfl, _, _, rfl, rfl, _, rfl, d, _, rfl, dp_at hd, ?_⟩
    have hd1 : (upd H d (.dK (penD a (n + 1) m))) d = some (.dK (penD a (n + 1) m)) := upd_same
    have hS1 : SqL K (upd H d (.dK (penD a (n + 1) m))) a (ns.map V.int) := sq_but But.upd hd hS
    have hP1 : Pen K (upd H d (.dK (penD a (n + 1) m))) d a ns (c + 1) := ⟨hS1, n + 1, m, hd1, by omega, by omega, m0⟩
    -- cell
    refine ⟨_, rfl, _, _, rfl, rfl, .inl ⟨by decide, by decide⟩, _, rfl, _, _, rfl, rfl, .inr ⟨by omega, by omega⟩, _, rfl, _, _, rfl, rfl, .inl ⟨by decide, by decide⟩, _, _, rfl, rfl, _, _, rfl, rfl, ?_⟩
    -- the end, whatever the cell
    have fin : ∀ (cell : Int), 0 ≤ (((cell % 2147483629 + 40993 * n + 5) * 48271 % 2147483587 * ((cell % 2147483629 + 40993 * n + 5) * 48271 % 2147483587) + 69941 * ((cell % 2147483629 + 40993 * n + 5) * 48271 % 2147483587) + n) % 2147483563 / 32 % many) ∧
        (((cell % 2147483629 + 40993 * n + 5) * 48271 % 2147483587 * ((cell % 2147483629 + 40993 * n + 5) * 48271 % 2147483587) + 69941 * ((cell % 2147483629 + 40993 * n + 5) * 48271 % 2147483587) + n) % 2147483563 / 32 % many) < many := fun cell =>
      ⟨Int.emod_nonneg _ (by omega), Int.emod_lt_of_pos _ p0⟩
    refine ⟨_, rfl, d, _, rfl, dg_cells hd1, a, _, rfl, .inl hS1, _, _, rfl, rfl, _, rfl, ite2 (fun e1 => ?_) (fun e1 => ?_)⟩
    · have hl : (0 : Int) < ((ns.map V.int).length : Int) := of_decide_eq_true e1
      obtain ⟨z, hz⟩ := cell_at (ns := ns) (i := n % ((ns.map V.int).length : Int)) (Int.emod_nonneg _ (by omega)) (Int.emod_lt_of_pos _ hl)
      refine ⟨_, rfl, d, _, rfl, dg_cells hd1, _, rfl, _, rfl, d, _, rfl, dg_cells hd1, a, _, rfl, .inl hS1, _, _, rfl, rfl, hl, a, _, _, _, rfl, rfl, hS1, hz, ?_⟩
      refine ⟨_, rfl, _, rfl, d, _, rfl, dg_cells hd1, a, _, rfl, .inl hS1, _, _, rfl, rfl, _, rfl, ite2 (fun e2 => ?_) (fun e2 => ?_)⟩
      · refine ⟨_, rfl, _, rfl, 10, 18, rfl, rfl, ⟨by decide, by decide, by decide⟩, _, _, rfl, rfl, _, rfl, ite2 (fun e3 => ?_) (fun e3 => ?_)⟩
        · refine ⟨_, rfl, _, rfl, _, rfl, _, _, rfl, rfl, ⟨p0, p1⟩, _, rfl, d, _, rfl, dp_left hd1, ?_⟩
          refine ⟨_, rfl, _, rfl, _, rfl, _, _, rfl, rfl, p0, ?_⟩
          rw [abs_eq]
          refine q _ _ (Int.emod_nonneg _ (by omega)) (Int.emod_lt_of_pos _ p0) ⟨sq_but But.upd hd1 hS1, n + 1, _, upd_same, by omega, by omega, Int.ediv_nonneg (Int.natCast_nonneg _) (by omega)⟩ (But.trans But.upd But.upd)
        · refine ⟨_, rfl, _, _, rfl, rfl, p629, _, rfl, _, _, rfl, rfl, .inl ⟨by decide, by decide⟩, _, _, rfl, rfl, _, _, rfl, rfl, _, _, rfl, rfl, .inr ⟨by decide, by decide⟩, _, _, rfl, rfl, p587, ?_⟩
          refine ⟨_, rfl, _, rfl, _, _, rfl, rfl, .inl ?_, _, rfl, _, _, rfl, rfl, .inl ⟨by decide, by decide⟩, _, _, rfl, rfl, _, rfl, _, _, rfl, rfl, _, _, rfl, rfl, p563, ?_⟩
          · have h1 := Int.emod_nonneg ((z % 2147483629 + 40993 * n + 5) * 48271) (show (2147483587 : Int) ≠ 0 by decide)
            have h2 := Int.emod_lt_of_pos ((z % 2147483629 + 40993 * n + 5) * 48271) (show (0 : Int) < 2147483587 by decide)
            omega
          · refine ⟨_, rfl, _, _, rfl, rfl, ⟨by decide, by decide⟩, _, rfl, _, _, rfl, rfl, p0, ?_⟩
            exact q _ _ (fin z).1 (fin z).2 hP1 But.upd
      · refine ⟨_, rfl, _, _, rfl, rfl, p629, _, rfl, _, _, rfl, rfl, .inl ⟨by decide, by decide⟩, _, _, rfl, rfl, _, _, rfl, rfl, _, _, rfl, rfl, .inr ⟨by decide, by decide⟩, _, _, rfl, rfl, p587, ?_⟩
        refine ⟨_, rfl, _, rfl, _, _, rfl, rfl, .inl ?_, _, rfl, _, _, rfl, rfl, .inl ⟨by decide, by decide⟩, _, _, rfl, rfl, _, rfl, _, _, rfl, rfl, _, _, rfl, rfl, p563, ?_⟩
        · have h1 := Int.emod_nonneg ((z % 2147483629 + 40993 * n + 5) * 48271) (show (2147483587 : Int) ≠ 0 by decide)
          have h2 := Int.emod_lt_of_pos ((z % 2147483629 + 40993 * n + 5) * 48271) (show (0 : Int) < 2147483587 by decide)
          omega
        · refine ⟨_, rfl, _, _, rfl, rfl, ⟨by decide, by decide⟩, _, rfl, _, _, rfl, rfl, p0, ?_⟩
          exact q _ _ (fin z).1 (fin z).2 hP1 But.upd
    · refine ⟨_, rfl, _, _, rfl, rfl, p629, _, rfl, _, _, rfl, rfl, .inl ⟨by decide, by decide⟩, _, _, rfl, rfl, _, _, rfl, rfl, _, _, rfl, rfl, .inr ⟨by decide, by decide⟩, _, _, rfl, rfl, p587, ?_⟩
      refine ⟨_, rfl, _, rfl, _, _, rfl, rfl, .inl ?_, _, rfl, _, _, rfl, rfl, .inl ⟨by decide, by decide⟩, _, _, rfl, rfl, _, rfl, _, _, rfl, rfl, _, _, rfl, rfl, p563, ?_⟩
      · have h1 := Int.emod_nonneg (((70003 * n * n + 19 * n + 11) % 2147483629 + 40993 * n + 5) * 48271) (show (2147483587 : Int) ≠ 0 by decide)
        have h2 := Int.emod_lt_of_pos (((70003 * n * n + 19 * n + 11) % 2147483629 + 40993 * n + 5) * 48271) (show (0 : Int) < 2147483587 by decide)
        omega
      · refine ⟨_, rfl, _, _, rfl, rfl, ⟨by decide, by decide⟩, _, rfl, _, _, rfl, rfl, p0, ?_⟩
        exact q _ _ (fin (70003 * n * n + 19 * n + 11)).1 (fin (70003 * n * n + 19 * n + 11)).2 hP1 But.upd

def rRound (K : PySem.W.Frag) : V → Hp → VK → Prop := fun p H Q => ∃ (d a : Addr) (ns : List Int) (c : Int), p = .ref d ∧ Pen K H d a ns c ∧ c + 2 ≤ 1000000 ∧ ∀ r H', 1 ≤ r → r ≤ 1000000 → Pen K H' d a ns (c + 2) → But d H H' → Q (.int r) H'
theorem pen_at3 {H : Hp} {d a : Addr} {ns : List Int} {c : Int} (p : Pen K H d a ns c) : ∃ kvs, H d = some (.dK kvs) := by
  obtain ⟨_, n, m, h, _⟩ := p
  exact ⟨_, h⟩
theorem cell_in {ns : List Int} {i : Int} (h0 : 0 ≤ i) (h1 : i < (ns.length : Int)) : ∃ z, z ∈ ns ∧ atI (ns.map V.int) i = some (.int z) := by
  obtain ⟨n, rfl⟩ : ∃ n : Nat, i = n := ⟨i.toNat, by omega⟩
  have hn : n < ns.length := by omega
  refine ⟨ns[n], List.getElem_mem hn, atI_nat (j := n) ?_⟩
  rw [List.getElem?_map, List.getElem?_eq_getElem hn]
  rfl
theorem ok_law_round (T : Txt K mg) : Fn P w K mg base 2 "_law_round" ["_law_pen_here"] (sp1 (rRound K)) := by
  have G_law_draw := ok_law_draw (P := P) (w := w) (base := base) T
  refine T.d_law_round.ok sc_law_round len1 fun f cdv A outer s H vs Q E hr hg h => ?_
  obtain ⟨_, rfl, d, a, ns, c, rfl, hp, hc, q⟩ := h
  refine ⟨_, (pss_cons (ps_set (i := 1) sc_law_round.nd rfl (by first | exact Or.inl rfl | exact Or.inr rfl) (pe_fn G_law_draw (hr.mono (by decide)) hg (by rfl) (pa_cons (pv 0) (pa_cons pe_int pa_nil))))
(pss_cons (ps_if (pt_cmpR op_eq (pv 1) pe_int (nomark _))
(pss_one (ps_ret pe_int))
pss_nil)
(pss_cons (ps_if (pt_cmpR op_eq (pv 1) pe_int (nomark _))
(pss_one (ps_ret (pe_op op_sub (pe_op op_pow pe_int pe_int) (pe_fn G_law_draw (hr.mono (by decide)) hg (by rfl) (pa_cons (pv 0) (pa_cons pe_int pa_nil))))))
pss_nil)
(pss_cons (ps_if (pt_cmpR op_eq (pv 1) pe_int (nomark _))
(pss_one (ps_ret (pe_op op_add pe_int (pe_fn G_law_draw (hr.mono (by decide)) hg (by rfl) (pa_cons (pv 0) (pa_cons (pe_op op_pow pe_int pe_int) pa_nil))))))
pss_nil)
(pss_cons (ps_if (pt_cmpR op_eq (pv 1) pe_int (nomark _))
(pss_one (ps_ret (pe_ix (ixT_K (K := K) rfl) (pe_tup (pa_cons pe_int (pa_cons pe_int (pa_cons pe_int (pa_cons pe_int (pa_cons pe_int (pa_cons pe_int (pa_cons pe_int (pa_cons pe_int (pa_cons pe_int (pa_cons pe_int (pa_cons pe_int pa_nil)))))))))))) (pe_fn G_law_draw (hr.mono (by decide)) hg (by rfl) (pa_cons (pv 0) (pa_cons pe_int pa_nil))) (fun _ _ => rfl))))
pss_nil)
(pss_one (ps_ret (pe_op op_add pe_int (pe_fn G_law_draw (hr.mono (by decide)) hg (by rfl) (pa_cons (pv 0) (pa_cons pe_int pa_nil))))))))))), ?_⟩
  refine ⟨_, rfl, _, _, rfl, d, a, ns, c, _, rfl, rfl, hp, by decide, by decide, by omega, fun way H1 w0 w1 hp1 b1 => ?_⟩
  have e6 : (10 : Int) ^ (6 : Int).toNat = 1000000 := by decide
  refine ⟨_, rfl, rfl, _, rfl, ite2 (fun e1 => ?_) (fun e1 => ?_)⟩
  · exact q _ _ (by decide) (by decide) (hp1.mono (by omega)) b1
  refine ⟨_, rfl, rfl, _, rfl, ite2 (fun e2 => ?_) (fun e2 => ?_)⟩
  · refine ⟨10, 6, rfl, rfl, ⟨by decide, by decide, by decide⟩, _, rfl, _, _, rfl, d, a, ns, _, _, rfl, rfl, hp1, by decide, by decide, by omega, fun x H2 x0 x1 hp2 b2 => ?_⟩
    refine ⟨_, _, rfl, rfl, ?_⟩
    exact q _ _ (by rw [e6]; omega) (by rw [e6]; omega) (hp2.mono (by omega)) (b1.trans b2)
  refine ⟨_, rfl, rfl, _, rfl, ite2 (fun e3 => ?_) (fun e3 => ?_)⟩
  · refine ⟨_, rfl, 10, 6, rfl, rfl, ⟨by decide, by decide, by decide⟩, _, _, rfl, d, a, ns, _, _, rfl, rfl, hp1, by decide, by decide, by omega, fun x H2 x0 x1 hp2 b2 => ?_⟩
    rw [e6] at x1
    refine ⟨_, _, rfl, rfl, ?_⟩
    exact q _ _ (by omega) (by omega) (hp2.mono (by omega)) (b1.trans b2)
  refine ⟨_, rfl, rfl, _, rfl, ite2 (fun e4 => ?_) (fun e4 => ?_)⟩
  · refine ⟨(by show 11 ≤ sizeLine; decide), fun t ht => ?_⟩
    have hp2 := hp1.same (same_new (o := .tup [.int 2, .int 4, .int 8, .int 16, .int 524288, .int 3, .int 9, .int 27, .int 5, .int 25, .int 994009]) ht)
    refine ⟨_, rfl, _, _, rfl, d, a, ns, _, _, rfl, rfl, hp2, by decide, by decide, by omega, fun x H2 x0 x1 hp3 b2 => ?_⟩
    obtain ⟨kvs, hdd⟩ := pen_at3 hp1
    have ht2 := b2 t _ (ne_of_none hdd ht).symm upd_same
    obtain ⟨z, hz, hat⟩ := cell_in (ns := [2, 4, 8, 16, 524288, 3, 9, 27, 5, 25, 994009]) x0 x1
    refine ⟨t, _, _, _, rfl, rfl, SqT.of ht2, hat, ?_⟩
    have hz2 : 1 ≤ z ∧ z ≤ 1000000 := by
      simp only [List.mem_cons, List.not_mem_nil, or_false] at hz
      omega
    exact q _ _ hz2.1 hz2.2 (hp3.mono (by omega)) ((b1.trans (But.new ht)).trans b2)
  · refine ⟨_, rfl, _, _, rfl, d, a, ns, _, _, rfl, rfl, hp1, by decide, by decide, by omega, fun x H2 x0 x1 hp2 b2 => ?_⟩
    refine ⟨_, _, rfl, rfl, ?_⟩
    exact q _ _ (by omega) (by omega) (hp2.mono (by omega)) (b1.trans b2)

theorem but_up {p D : Addr} {H H' : Hp} {o : HO} (b : But p H H') (n : H D = none) : But p H (upd H' D o) := fun c u hc e => by
  rw [upd_ne (ne_of_none e n)]
  exact b c u hc e
theorem pen_up {H1 H2 : Hp} {d a D : Addr} {ns : List Int} {c c1 : Int} {o : HO} (p1 : Pen K H1 d a ns c1) (b : But d H1 H2) (p : Pen K H2 d a ns c) (n : H1 D = none) : Pen K (upd H2 D o) d a ns c := by
  obtain ⟨s1, n1, m1, h1, _⟩ := p1
  obtain ⟨_, n2, m2, h2, r⟩ := p
  exact ⟨sq_but (but_up b n) h1 s1, n2, m2, by rw [upd_ne (ne_of_none h1 n)]; exact h2, r⟩
def rHouse (K : PySem.W.Frag) : V → Hp → VK → Prop := fun p H Q => ∃ (d a : Addr) (ns : List Int) (c : Int), p = .ref d ∧ Pen K H d a ns c ∧ c + 13 ≤ 1000000 ∧
  ∀ b H' (hs : List Int), H' b = some (.tup (hs.map V.int)) → hs.length ≤ 6 → (∀ x ∈ hs, 1 ≤ x ∧ x ≤ 1000000) → Pen K H' d a ns (c + 13) → But d H H' → Q (.ref b) H'
theorem ok_law_house (T : Txt K mg) : Fn P w K mg base 3 "_law_house" ["_law_pen_here"] (sp1 (rHouse K)) := by
  have G_law_draw := ok_law_draw (P := P) (w := w) (base := base) T
  have G_law_round := ok_law_round (P := P) (w := w) (base := base) T
  refine T.d_law_house.ok sc_law_house len1 fun f cdv A outer s H vs Q E hr hg h => ?_
  obtain ⟨_, rfl, d, a, ns, c, rfl, hp, hc, q⟩ := h
  refine ⟨_, (pss_one (ps_ret (pe_callTy (tupOf_K (K := K) rfl) (by rfl) T.n_tuple (by decide +kernel) (pa_cons (pe_lc (own := [("_law_k", 1)]) rfl sc_law_house.nd (pi_range1 (by rfl) T.n_range (pa_cons (pe_fn G_law_draw (hr.mono (by decide)) hg (by rfl) (pa_cons (pv 0) (pa_cons pe_int pa_nil))) pa_nil)) (blkOk_by (own := [("_law_k", 1)]) (N := N_law_house) (sc := defScope s_law_house) (by decide +kernel)) (fun _ _ _ _ _ => (pg_name (i := 1) sc_law_house.nd rfl (by first | exact Or.inl rfl | exact Or.inr rfl))) (fun _ _ _ _ _ => pts_nil) (fun _ _ _ _ _ => (pe_fn G_law_round (hr.mono (by decide)) hg (by rfl) (pa_cons (pv 0) pa_nil)))) pa_nil)))), ?_⟩
  refine ⟨_, rfl, _, _, rfl, d, a, ns, c, _, rfl, rfl, hp, by decide, by decide, by omega, fun n H1 n0 n1 hp1 b1 => ?_⟩
  obtain ⟨n, rfl⟩ : ∃ m : Nat, n = m := ⟨n.toNat, by omega⟩
  refine ⟨_, rfl, by omega, by omega, fun D nD => lc_range (lo := 0) (n := n) (fun i H' => Pen K H' d a ns (c + 1 + 2 * i) ∧ But d H1 H' ∧ ∃ hs : List Int, H' D = some (.lst (hs.map V.int)) ∧ hs.length = i ∧ ∀ x ∈ hs, 1 ≤ x ∧ x ≤ 1000000)
    ⟨by simpa using pen_up hp1 (But.refl d H1) hp1 nD, But.new nD, [], upd_same, rfl, by simp⟩ ?_ ?_⟩
  · rintro i H2 hi ⟨hp2, b2, hs, hD, hl, hx⟩
    obtain ⟨kvs, hdd⟩ := pen_at3 hp1
    have nDd : D ≠ d := (ne_of_none hdd nD).symm
    refine ⟨rfl, _, rfl, _, rfl, d, a, ns, _, rfl, hp2, by omega, fun r H3 r1 r2 hp3 b3 => ?_⟩
    refine ⟨_, b3 _ _ nDd hD, ?_, ?_, but_up (b2.trans b3) nD, hs ++ [r], ?_, ?_, ?_⟩
    · rw [List.length_map]
      exact small1000 (by omega)
    · have ec : c + 1 + 2 * ((i + 1 : Nat) : Int) = c + 1 + 2 * i + 2 := by omega
      rw [ec]
      exact pen_up hp1 (b2.trans b3) hp3 nD
    · rw [upd_same, List.map_append]
      rfl
    · rw [List.length_append, hl]
      rfl
    · intro x hx2
      rcases List.mem_append.mp hx2 with e | e
      · exact hx x e
      · rw [List.mem_singleton.mp e]
        exact ⟨r1, r2⟩
  · rintro H2 ⟨hp2, b2, hs, hD, hl, hx⟩
    refine ⟨D, _, rfl, .inl ⟨SqL.of hD, fun R nR => ?_⟩⟩
    exact q R _ hs upd_same (by omega) hx ((hp2.same (same_new nR)).mono (by omega)) ((b1.trans b2).trans (But.new nR))

def iv (l : List Nat) : List V := l.map fun n : Nat => V.int (n : Int)
theorem iv_len (l : List Nat) : (iv l).length = l.length := List.length_map _
theorem iv_app (l m : List Nat) : iv (l ++ m) = iv l ++ iv m := List.map_append
theorem iv_at {l : List Nat} {i : Nat} {x : Nat} (h : l[i]? = some x) : (iv l)[i]? = some (.int (x : Int)) := by
  unfold iv
  rw [List.getElem?_map, h]
  rfl
theorem iv_get {l : List Nat} {i : Nat} {v : V} (h : (iv l)[i]? = some v) : ∃ x, l[i]? = some x ∧ v = .int (x : Int) := by
  unfold iv at h
  rw [List.getElem?_map] at h
  obtain ⟨x, hx, rfl⟩ := Option.map_eq_some_iff.mp h
  exact ⟨x, hx, rfl⟩
theorem mid_at {A B : List Nat} {x : Nat} : (A ++ x :: B)[A.length]? = some x := by
  rw [List.getElem?_append_right (Nat.le_refl _), Nat.sub_self]
  rfl
theorem iv_set {l : List Nat} {i x : Nat} : (iv l).set i (.int (x : Int)) = iv (l.set i x) := by
  unfold iv
  rw [List.map_set]
theorem mid_set {A B : List Nat} {x y : Nat} : (A ++ x :: B).set A.length y = A ++ y :: B := by
  rw [List.set_append_right _ _ (Nat.le_refl _), Nat.sub_self]
  rfl
theorem fresh_upd {H H1 : Hp} {l : Addr} {o : HO} (s : Same H H1) (n : H l = none) : Same H (upd H1 l o) := fun b z e => by
  rw [upd_ne (ne_of_none e n)]
  exact s b z e

theorem none_same {H H' : Hp} {R : Addr} (s : Same H H') (n : H' R = none) : H R = none := by
  cases e : H R with
  | none => rfl
  | some o =>
    rw [s _ _ e] at n
    cases n
/-! ### told primes on the heap -/
def PL (H : Hp) (D : Addr) (ps : List (Int × Int)) : Prop := ∃ ts : List Addr, H D = some (.lst (ts.map V.ref)) ∧ Paired (fun t (pe : Int × Int) => H t = some (.tup [.int pe.1, .int pe.2])) ts ps
theorem pl_len {H : Hp} {ts : List Addr} {ps : List (Int × Int)} (h : Paired (fun t (pe : Int × Int) => H t = some (.tup [.int pe.1, .int pe.2])) ts ps) : ts.length = ps.length := Paired.length h
theorem paired_snoc {α β : Type} {R : α → β → Prop} {a : α} {b : β} (hr : R a b) : ∀ {l : List α} {m : List β}, Paired R l m → Paired R (l ++ [a]) (m ++ [b])
  | _, _, .nil => .cons hr .nil
  | _, _, .cons h t => .cons h (paired_snoc hr t)
theorem paired_get {α β : Type} {R : α → β → Prop} : ∀ {l : List α} {m : List β} {i : Nat} {a : α}, Paired R l m → l[i]? = some a → ∃ b, m[i]? = some b ∧ R a b
  | _, _, _, _, .nil, e => by simp at e
  | _, _, 0, _, .cons h _, e => by
    have e1 := Option.some.inj e
    subst e1
    exact ⟨_, rfl, h⟩
  | _, _, i + 1, a, .cons _ t, e => paired_get (i := i) (a := a) t e
/-- lists and tuples stay -/
def Stays (H H' : Hp) : Prop := ∀ b xs, (H b = some (.lst xs) → H' b = some (.lst xs)) ∧ (H b = some (.tup xs) → H' b = some (.tup xs))
theorem stays_same {H H' : Hp} (h : Same H H') : Stays H H' := fun b xs => ⟨h b _, h b _⟩
theorem stays_but {H H' : Hp} {d : Addr} {kvs : List (Key × V)} (h : But d H H') (hd : H d = some (.dK kvs)) : Stays H H' := fun b xs =>
  ⟨fun e => h b _ (ne_of e hd (by intro z; cases z)) e, fun e => h b _ (ne_of e hd (by intro z; cases z)) e⟩
theorem PL.stays {H H' : Hp} {D : Addr} {ps : List (Int × Int)} (h : PL H D ps) (s : Stays H H') : PL H' D ps := by
  obtain ⟨ts, h1, h2⟩ := h
  exact ⟨ts, (s _ _).1 h1, Paired.mapP h2 fun t pe e => (s _ _).2 e⟩
theorem PL.other {H : Hp} {D A : Addr} {ps : List (Int × Int)} {xs ys : List V} (h : PL H D ps) (hA : H A = some (.lst xs)) (n : D ≠ A) : PL (upd H A (.lst ys)) D ps := by
  obtain ⟨ts, h1, h2⟩ := h
  refine ⟨ts, by rw [upd_ne n]; exact h1, Paired.mapP h2 fun t pe e => ?_⟩
  rw [upd_ne (ne_of e hA (by intro z; cases z))]
  exact e
theorem PL.app {H : Hp} {D t : Addr} {ps : List (Int × Int)} {p e : Int} {xs : List V} (h : PL H D ps) (ht : H t = none) (hx : H D = some (.lst xs)) : PL (upd (upd H t (.tup [.int p, .int e])) D (.lst (xs ++ [.ref t]))) D (ps ++ [(p, e)]) := by
  obtain ⟨ts, h1, h2⟩ := h
  rw [hx] at h1
  have e1 : xs = ts.map V.ref := by
    injection h1 with h1
    injection h1
  have nD : D ≠ t := ne_of_none hx ht
  refine ⟨ts ++ [t], by rw [upd_same, e1, List.map_append]; rfl, paired_snoc ?_ (Paired.mapP h2 fun b pe z => ?_)⟩
  · rw [upd_ne nD.symm, upd_same]
  · rw [upd_ne (ne_of z hx (by intro z; cases z)), upd_ne (ne_of_none z ht)]
    exact z
/-! ### primes_of -/
theorem sq1000 {p m : Int} (h : p * p ≤ m) (hm : m ≤ 1000000) (hp : 0 ≤ p) : p ≤ 1000 := by
  by_cases h1 : p ≤ 1000
  · exact h1
  · have : (1001 : Int) * 1001 ≤ p * p := Int.mul_le_mul (by omega) (by omega) (by omega) (by omega)
    omega
theorem rest_le {ps : List (Int × Int)} {m n lim : Int} (h : prod ps * m = n) (hr : Rise lim ps) (hm : 1 ≤ m) (hn : n ≤ 1000000) : m ≤ 1000000 := by
  have hp := prod_pos hr.pr
  have : 1 * m ≤ prod ps * m := Int.mul_le_mul_of_nonneg_right (by omega) (by omega)
  omega
def rFac : V → Hp → VK → Prop := fun x H Q => ∃ n : Nat, x = .int (n : Int) ∧ 1 ≤ n ∧ n ≤ 1000000 ∧ ∀ (qs : List (Nat × Nat)) (R : Addr) (H' : Hp), H R = none → Fac n qs → Same H H' → PL H' R (qs.map ci) → Q (.ref R) H'
theorem same_app {H H1 : Hp} {D t : Addr} {o u : HO} (s : Same H H1) (hD : H D = none) (ht : H1 t = none) : Same H (upd (upd H1 t o) D u) := fun b z e => by
  rw [upd_ne (ne_of_none e hD), upd_ne (ne_of_none (s b z e) ht)]
  exact s b z e
theorem ok_law_factors (T : Txt K mg) : Fn P w K mg base 1 "_law_factors" ["_law_n"] (sp1 rFac) := by
  refine T.d_law_factors.ok sc_law_factors len1 fun f cdv A outer s H vs Q E hr hg h => ?_
  obtain ⟨_, rfl, n0, rfl, n1', n2', q⟩ := h
  obtain ⟨n, en⟩ : ∃ n : Int, n = (n0 : Int) := ⟨_, rfl⟩
  have n1 : 1 ≤ n := by omega
  have n2 : n ≤ 1000000 := by omega
  rw [← en]
  refine ⟨_, (pss_cons (ps_set (i := 1) sc_law_factors.nd rfl (by first | exact Or.inl rfl | exact Or.inr rfl) (pe_lst pa_nil))
(pss_cons (ps_set (i := 2) sc_law_factors.nd rfl (by first | exact Or.inl rfl | exact Or.inr rfl) pe_int)
(pss_cons (ps_while PassesOwn.never (pt_cmpR op_le (pe_op op_mul (pv 2) (pv 2)) (pv 0) (nomark _))
(pss_cons (ps_set (i := 3) sc_law_factors.nd rfl (by first | exact Or.inl rfl | exact Or.inr rfl) pe_int)
(pss_cons (ps_while PassesOwn.never (pt_cmpR op_eq (pe_op op_mod (pv 0) (pv 2)) pe_int (nomark _))
(pss_cons (ps_set (i := 0) sc_law_factors.nd rfl (by first | exact Or.inl rfl | exact Or.inr rfl) (pe_op op_fdiv (pv 0) (pv 2)))
(pss_one (ps_set (i := 3) sc_law_factors.nd rfl (by first | exact Or.inl rfl | exact Or.inr rfl) (pe_op op_add (pv 3) pe_int)))))
(pss_cons (ps_if (pt_cmpR op_gt (pv 3) pe_int (nomark _))
(pss_one (ps_expr (pe_bm PySem.F.plainAttrs_list PySem.F.slot_list_append PySem.F.type_list_append mt_append (pv 1) (pa_cons (pe_tup (pa_cons (pv 2) (pa_cons (pv 3) pa_nil))) pa_nil))))
pss_nil)
(pss_one (ps_set (i := 2) sc_law_factors.nd rfl (by first | exact Or.inl rfl | exact Or.inr rfl) (pe_op op_add (pv 2) pe_int)))))))
(pss_one (ps_ret (pe_op op_cat (pv 1) (pe_op op_rep (pe_lst (pa_cons (pe_tup (pa_cons (pv 0) (pa_cons pe_int pa_nil))) pa_nil)) (pe_callTy call_int1 (by rfl) T.n_int (by decide +kernel) (pa_cons (pe_cmpR op_gt (pv 0) pe_int (nomark _)) pa_nil))))))))), ?_⟩
  refine ⟨Nat.zero_le _, fun D nD => ?_⟩
  -- the outer while
  refine ⟨fun k σ H' => ∃ (m p : Int) (ps : List (Int × Int)) (o3 : Option V), σ = [some (.int m), some (.ref D), some (.int p), o3] ∧ Same H H' ∧ PL H' D ps ∧ prod ps * m = n ∧ Rise p ps ∧ Rough p m ∧ 1 ≤ m ∧ 2 ≤ p ∧ p ≤ 1001 ∧ (ps.length : Int) ≤ p ∧ k = (1002 - p).toNat,
    ⟨_, n, 2, [], none, rfl, same_new nD, ⟨[], upd_same, .nil⟩, by simp [prod], rise_nil _, fun d h1 h2 => by omega, n1, by decide, by decide, by decide, rfl⟩, ?_⟩
  rintro k σ H1 ⟨m, p, ps, o3, rfl, sm, hpl, hn, ri, ro, m1, p2, p3, pl, rfl⟩
  have m6 := rest_le hn ri m1 n2
  refine ⟨_, rfl, _, rfl, _, _, rfl, rfl, .inl ⟨by omega, by omega⟩, _, rfl, _, _, rfl, rfl, _, rfl, ite2 (fun e => ?_) (fun e => ?_)⟩
  · have hsq : p * p ≤ m := of_decide_eq_true e
    have p4 := sq1000 hsq m6 (by omega)
    refine ⟨fun σ' H' => ∃ (m' p' : Int) (ps' : List (Int × Int)) (o3' : Option V), σ' = [some (.int m'), some (.ref D), some (.int p'), o3'] ∧ Same H H' ∧ PL H' D ps' ∧ prod ps' * m' = n ∧ Rise p' ps' ∧ Rough p' m' ∧ 1 ≤ m' ∧ 2 ≤ p' ∧ p' ≤ 1001 ∧ (ps'.length : Int) ≤ p' ∧ (1002 - p').toNat < (1002 - p).toNat, ?_, ?_⟩
    · rintro σ' H' ⟨m', p', ps', o3', rfl, a1, a2, a3, a4, a5, a6, a7, a8, a9, a10⟩
      exact ⟨_, a10, m', p', ps', o3', rfl, a1, a2, a3, a4, a5, a6, a7, a8, a9, rfl⟩
    -- often = 0, the inner while
    refine ⟨fun k σ H' => ∃ (m' : Int) (c : Nat), σ = [some (.int m'), some (.ref D), some (.int p), some (.int (c : Int))] ∧ H' = H1 ∧ 1 ≤ m' ∧ m = p ^ c * m' ∧ k = m'.toNat,
      ⟨_, m, 0, rfl, rfl, m1, by simp, rfl⟩, ?_⟩
    rintro k σ H' ⟨m', c, rfl, rfl, m1', em, rfl⟩
    refine ⟨_, rfl, _, rfl, _, _, rfl, rfl, (show (0 : Int) < p by omega), rfl, _, rfl, ite2 (fun e2 => ?_) (fun e2 => ?_)⟩
    · have hz : m' % p = 0 := V.int.inj (of_decide_eq_true e2)
      have hd := Int.mul_ediv_add_emod m' p
      rw [hz] at hd
      have q1 : 1 ≤ m' / p := by
        have h0 : 0 ≤ m' / p := Int.ediv_nonneg (by omega) (by omega)
        rcases (show m' / p = 0 ∨ 1 ≤ m' / p by omega) with z | z
        · rw [z] at hd
          omega
        · exact z
      have q2 : m' / p < m' := by
        have : 2 * (m' / p) ≤ p * (m' / p) := Int.mul_le_mul_of_nonneg_right p2 (by omega)
        omega
      refine ⟨fun σ' H'' => ∃ (m2 : Int) (c2 : Nat), σ' = [some (.int m2), some (.ref D), some (.int p), some (.int (c2 : Int))] ∧ H'' = H' ∧ 1 ≤ m2 ∧ m = p ^ c2 * m2 ∧ m2.toNat < m'.toNat, ?_, ?_⟩
      · rintro σ' H'' ⟨m2, c2, rfl, rfl, a1, a2, a3⟩
        exact ⟨_, a3, m2, c2, rfl, rfl, a1, a2, rfl⟩
      · refine ⟨_, rfl, _, rfl, m', p, rfl, rfl, ⟨by omega, by omega⟩, ?_⟩
        refine ⟨_, rfl, _, _, rfl, rfl, m' / p, c + 1, rfl, rfl, q1, ?_, by omega⟩
        rw [em, Int.pow_succ, Int.mul_assoc]
        have : p * (m' / p) = m' := by omega
        rw [this]
    · have hz : ¬ p ∣ m' := fun z => e2 (decide_eq_true (congrArg V.int (Int.emod_eq_zero_of_dvd z)))
      have hdm : m' ∣ m := ⟨p ^ c, by rw [em, Int.mul_comm]⟩
      have ro' : Rough (p + 1) m' := rough_next (rough_dvd ro hdm) hz
      refine ⟨_, rfl, _, _, rfl, rfl, _, rfl, ite2 (fun e3 => ?_) (fun e3 => ?_)⟩
      · have hc : (0 : Int) < (c : Int) := of_decide_eq_true e3
        obtain ⟨c', rfl⟩ : ∃ c', c = c' + 1 := ⟨c - 1, by omega⟩
        have hdp : p ∣ m := ⟨p ^ c' * m', by rw [em, Int.pow_succ, Int.mul_comm (p ^ c') p, Int.mul_assoc]⟩
        obtain ⟨ts, hD, hts⟩ := id hpl
        refine ⟨_, rfl, .inl ⟨rfl, _, SqL.of hD⟩, _, rfl, _, rfl, (by show 2 ≤ sizeLine; decide), fun t ht => ?_⟩
        have hD2 : (upd H' t (.tup [.int p, .int ((c' + 1 : Nat) : Int)])) D = some (.lst (ts.map V.ref)) := by
          rw [upd_ne (ne_of_none hD ht)]
          exact hD
        refine ⟨D, _, _, rfl, rfl, hD2, ?_, ?_⟩
        · rw [List.length_map, pl_len hts]
          exact small1000 (by omega)
        · refine ⟨_, rfl, _, _, rfl, rfl, m', p + 1, ps ++ [(p, ((c' + 1 : Nat) : Int))], _, rfl, same_app sm nD ht, hpl.app ht hD, ?_, ri.snoc (pri_least p2 ro hdp) (by omega) (Int.le_refl _), ro', m1', by omega, by omega, ?_, by omega⟩
          · rw [prod_snoc, Int.toNat_natCast, Int.mul_assoc, ← em]
            exact hn
          · have el : (ps ++ [(p, ((c' + 1 : Nat) : Int))]).length = ps.length + 1 := by simp
            rw [el]
            omega
      · have hc : ¬ (0 : Int) < (c : Int) := of_decide_eq_false (Bool.eq_false_iff.mpr e3)
        have hc0 : c = 0 := by omega
        subst hc0
        have em' : m = m' := by simpa using em
        subst em'
        exact ⟨_, rfl, _, _, rfl, rfl, m, p + 1, ps, _, rfl, sm, hpl, hn, ri.mono (by omega), ro', m1, by omega, by omega, by omega, by omega⟩
  · have hsq : ¬ p * p ≤ m := of_decide_eq_false (Bool.eq_false_iff.mpr e)
    obtain ⟨ts, hD, hts⟩ := id hpl
    have tl := pl_len hts
    refine ⟨_, rfl, _, rfl, (by show 2 ≤ sizeLine; decide), fun t ht => ?_⟩
    refine ⟨(by show 1 ≤ sizeLine; decide), fun l hl => ?_⟩
    refine ⟨_, rfl, _, _, rfl, rfl, .inr ⟨_, rfl, ?_⟩⟩
    have fin : ∀ (k : Int), (k = 1 ∧ 1 < m) ∨ (k = 0 ∧ m = 1) → ∀ r, (upd (upd H1 t (.tup [.int m, .int 1])) l (.lst [.ref t])) r = none → ∀ z, (upd (upd (upd H1 t (.tup [.int m, .int 1])) l (.lst [.ref t])) r (.lst (List.replicate k.toNat [V.ref t]).flatten)) z = none →
        Q (.ref z) (upd (upd (upd (upd H1 t (.tup [.int m, .int 1])) l (.lst [.ref t])) r (.lst (List.replicate k.toNat [V.ref t]).flatten)) z (.lst (ts.map V.ref ++ (List.replicate k.toNat [V.ref t]).flatten))) := by
      intro k hk r hr2 z hz
      have s1 := same_new (o := .tup [.int m, .int 1]) ht
      have s2 := s1.trans (same_new (o := .lst [.ref t]) hl)
      have s3 := s2.trans (same_new (o := .lst (List.replicate k.toNat [V.ref t]).flatten) hr2)
      have s4 := s3.trans (same_new (o := .lst (ts.map V.ref ++ (List.replicate k.toNat [V.ref t]).flatten)) hz)
      have old : ∀ b (pe : Int × Int), H1 b = some (.tup [.int pe.1, .int pe.2]) → (upd (upd (upd (upd H1 t (.tup [.int m, .int 1])) l (.lst [.ref t])) r (.lst (List.replicate k.toNat [V.ref t]).flatten)) z (.lst (ts.map V.ref ++ (List.replicate k.toNat [V.ref t]).flatten))) b = some (.tup [.int pe.1, .int pe.2]) := fun b pe e => s4 _ _ e
      rcases hk with ⟨rfl, hm⟩ | ⟨rfl, hm⟩
      · have hpm : p ≤ m := by
          by_cases z : p ≤ m
          · exact z
          · exact absurd (Int.dvd_refl m) (ro m (by omega) (by omega))
        have er : prod (ps ++ [(m, 1)]) = n := by
          rw [prod_snoc]
          have : m ^ (1 : Int).toNat = m := by
            rw [show (1 : Int).toNat = 0 + 1 from rfl, Int.pow_succ, Int.pow_zero, Int.one_mul]
          rw [this]
          exact hn
        obtain ⟨qs, eq, fc⟩ := fac_of er (ri.snoc (pri_rest hm ro (by omega) p2) (by decide) hpm)
        rw [en, Int.toNat_natCast] at fc
        refine q qs z _ (none_same (sm.trans s3) hz) fc (sm.trans s4) ?_
        rw [← eq]
        have t4 : (upd (upd (upd (upd H1 t (.tup [.int m, .int 1])) l (.lst [.ref t])) r (.lst (List.replicate (1 : Int).toNat [V.ref t]).flatten)) z (.lst (ts.map V.ref ++ (List.replicate (1 : Int).toNat [V.ref t]).flatten))) t = some (.tup [.int m, .int 1]) :=
          ((same_new hl).trans ((same_new hr2).trans (same_new hz))) _ _ upd_same
        refine ⟨ts ++ [t], by rw [upd_same, List.map_append]; rfl, paired_snoc ?_ (Paired.mapP hts ?_)⟩
        · exact t4
        · intro b pe e
          exact old b pe e
      · obtain ⟨qs, eq, fc⟩ := fac_of (show prod ps = n by rw [hm, Int.mul_one] at hn; exact hn) ri
        rw [en, Int.toNat_natCast] at fc
        refine q qs z _ (none_same (sm.trans s3) hz) fc (sm.trans s4) ?_
        rw [← eq]
        refine ⟨ts, by rw [upd_same]; simp, Paired.mapP hts ?_⟩
        intro b pe e
        exact old b pe e
    have kk : ∃ k : Int, (if decide (m > 1) = true then (1 : Int) else 0) = k ∧ ((k = 1 ∧ 1 < m) ∨ (k = 0 ∧ m = 1)) := by
      by_cases z : 1 < m
      · exact ⟨1, by rw [decide_eq_true z]; rfl, .inl ⟨rfl, z⟩⟩
      · exact ⟨0, by rw [decide_eq_false z]; rfl, .inr ⟨rfl, by omega⟩⟩
    obtain ⟨k, ek, hk⟩ := kk
    have kb : 0 ≤ k ∧ k ≤ 1 := by omega
    have s2 := (same_new (o := .tup [.int m, .int 1]) ht).trans (same_new (o := .lst [.ref t]) hl)
    rw [ek]
    refine ⟨l, k, _, rfl, rfl, upd_same, by omega, by omega, ?_, fun r hr2 => ?_⟩
    · show 1 * k.toNat ≤ sizeLine
      exact Nat.le_of_lt (small1000 (by omega))
    · refine ⟨D, r, _, _, rfl, rfl, (s2.trans (same_new hr2)) _ _ hD, upd_same, ?_, fun z hz => fin k hk r hr2 z hz⟩
      rw [List.length_map, tl]
      refine Nat.le_trans (Nat.add_le_add (show ps.length ≤ 1001 by omega) (show _ ≤ 1 from ?_)) (by decide)
      rcases hk with ⟨rfl, _⟩ | ⟨rfl, _⟩ <;> simp

theorem iv_eq (l : List Nat) : iv l = (l.map fun n : Nat => (n : Int)).map V.int := by
  unfold iv
  rw [List.map_map]
  rfl
theorem ref_at {ts : List Addr} {i : Nat} {v : V} (h : (ts.map V.ref)[i]? = some v) : ∃ t, ts[i]? = some t ∧ v = .ref t := by
  rw [List.getElem?_map] at h
  obtain ⟨x, hx, rfl⟩ := Option.map_eq_some_iff.mp h
  exact ⟨x, hx, rfl⟩
theorem but_same {H H' H2 : Hp} {D : Addr} (s : Same H H') (n : H D = none) (b : But D H' H2) : Same H H2 := fun x o e => b x o (ne_of_none e n) (s x o e)
theorem take_one {α : Type} {l : List α} {i : Nat} {x : α} (h : l[i]? = some x) : l.take (i + 1) = l.take i ++ [x] := by
  rw [List.take_succ, h]
  rfl

/-! ### common measures and multiples -/
def rCm : V → V → Hp → VK → Prop := fun x y H Q => ∃ i j : Int, x = .int i ∧ y = .int j ∧ Q (.int ((Int.gcd i j : Nat) : Int)) H
theorem ok_common_measure (T : Txt K mg) : Fn P w K mg base 1 "common_measure" ["a", "b"] (sp2 rCm) := by
  refine T.d_common_measure.ok sc_common_measure len2 fun f cdv A outer s H vs Q E hr hg h => ?_
  obtain ⟨_, _, rfl, i, j, rfl, rfl, q⟩ := h
  refine ⟨_, (pss_cons (ps_while PassesOwn.never (pt_cmpR op_ne (pv 1) pe_int (nomark _))
(pss_one (ps_par (i := 0) (j := 1) (by rfl) sc_common_measure.nd rfl rfl (by decide) rfl rfl (pa_cons (pv 1) (pa_cons (pe_op op_modN (pv 0) (pv 1)) pa_nil)) (by rfl))))
(pss_one (ps_ret (pe_callB call_abs (by rfl) T.n_abs (by decide +kernel) (pa_cons (pv 0) pa_nil))))), ?_⟩
  refine ⟨fun m σ H' => ∃ i' j' : Int, σ = [some (.int i'), some (.int j')] ∧ H' = H ∧ Int.gcd i' j' = Int.gcd i j ∧ m = j'.natAbs, ⟨_, i, j, rfl, rfl, rfl, rfl⟩, ?_⟩
  rintro m σ H' ⟨i', j', rfl, rfl, hg, rfl⟩
  refine ⟨_, rfl, rfl, _, rfl, ite2 (fun e => ?_) (fun e => ?_)⟩
  · have hj := ne_yes e
    refine ⟨fun σ' H'' => ∃ i2 j2 : Int, σ' = [some (.int i2), some (.int j2)] ∧ H'' = H' ∧ Int.gcd i2 j2 = Int.gcd i j ∧ j2.natAbs < j'.natAbs, ?_, ?_⟩
    · rintro σ' H'' ⟨i2, j2, rfl, rfl, h1, h2⟩
      exact ⟨_, h2, i2, j2, rfl, rfl, h1, rfl⟩
    · refine ⟨_, rfl, _, rfl, _, rfl, _, _, rfl, rfl, hj, _, _, rfl, j', i'.fmod j', rfl, rfl, ?_, fmod_abs_lt _ _ hj⟩
      rw [gcd_fmod, hg]
  · have hj := ne_no e
    subst hj
    refine ⟨_, rfl, i', rfl, ?_⟩
    have e1 : (if i' < 0 then -i' else i') = ((Int.gcd i j : Nat) : Int) := by
      rw [abs_eq, ← hg, Int.gcd_zero_right]
    rw [e1]
    exact q

theorem iop_mulW {X : Cx} : OpR X (inplaceOp .Mult) (rI CMulW fun i j => .int (i * j)) := opI fun _ _ _ _ _ _ _ hc q => imul_int q hc.ok
theorem ok_primes_of (T : Txt K mg) : Fn P w K mg base 1 "primes_of" ["n"] (sp1 rFac) := by
  refine T.d_primes_of.ok sc_primes_of len1 fun f cdv A outer s H vs Q E hr hg h => ?_
  obtain ⟨_, rfl, n0, rfl, n1', n2', q0⟩ := h
  obtain ⟨n, en⟩ : ∃ n : Int, n = (n0 : Int) := ⟨_, rfl⟩
  have n1 : 1 ≤ n := by omega
  have n2 : n ≤ 1000000 := by omega
  have q : ∀ (ps : List (Int × Int)) (D : Addr) (H' : Hp) (lim : Int), prod ps = n → Rise lim ps → ps.length ≤ 1002 → Same H H' → H D = none → PL H' D ps → Q (.ref D) H' := fun ps D H' lim e ri _ s n pl => by
    obtain ⟨qs, rfl, fc⟩ := fac_of e ri
    rw [en, Int.toNat_natCast] at fc
    exact q0 qs D H' n fc s pl
  rw [← en]
  refine ⟨_, (pss_cons (ps_set (i := 1) sc_primes_of.nd rfl (by first | exact Or.inl rfl | exact Or.inr rfl) (pe_lst pa_nil))
(pss_cons (ps_set (i := 2) sc_primes_of.nd rfl (by first | exact Or.inl rfl | exact Or.inr rfl) pe_int)
(pss_cons (ps_while PassesOwn.never (pt_cmpR op_le (pe_op op_mul (pv 2) (pv 2)) (pv 0) (nomark _))
(pss_cons (ps_set (i := 3) sc_primes_of.nd rfl (by first | exact Or.inl rfl | exact Or.inr rfl) pe_int)
(pss_cons (ps_while PassesOwn.never (pt_cmpR op_eq (pe_op op_mod (pv 0) (pv 2)) pe_int (nomark _))
(pss_cons (ps_aug (i := 0) sc_primes_of.nd rfl (.inl rfl) (pv 2) iop_fdiv)
(pss_one (ps_aug (i := 3) sc_primes_of.nd rfl (.inl rfl) pe_int ip_add))))
(pss_cons (ps_if (pt_cmpR op_gt (pv 3) pe_int (nomark _))
(pss_one (ps_expr (pe_bm PySem.F.plainAttrs_list PySem.F.slot_list_append PySem.F.type_list_append mt_append (pv 1) (pa_cons (pe_tup (pa_cons (pv 2) (pa_cons (pv 3) pa_nil))) pa_nil))))
pss_nil)
(pss_one (ps_aug (i := 2) sc_primes_of.nd rfl (.inl rfl) pe_int ip_add))))))
(pss_cons (ps_if (pt_cmpR op_gt (pv 0) pe_int (nomark _))
(pss_one (ps_expr (pe_bm PySem.F.plainAttrs_list PySem.F.slot_list_append PySem.F.type_list_append mt_append (pv 1) (pa_cons (pe_tup (pa_cons (pv 0) (pa_cons pe_int pa_nil))) pa_nil))))
pss_nil)
(pss_one (ps_ret (pv 1))))))), ?_⟩
  refine ⟨Nat.zero_le _, fun D nD => ?_⟩
  -- the outer while
  refine ⟨fun k σ H' => ∃ (m p : Int) (ps : List (Int × Int)) (o3 : Option V), σ = [some (.int m), some (.ref D), some (.int p), o3] ∧ Same H H' ∧ PL H' D ps ∧ prod ps * m = n ∧ Rise p ps ∧ Rough p m ∧ 1 ≤ m ∧ 2 ≤ p ∧ p ≤ 1001 ∧ (ps.length : Int) ≤ p ∧ k = (1002 - p).toNat,
    ⟨_, n, 2, [], none, rfl, same_new nD, ⟨[], upd_same, .nil⟩, by simp [prod], rise_nil _, fun d h1 h2 => by omega, n1, by decide, by decide, by decide, rfl⟩, ?_⟩
  rintro k σ H1 ⟨m, p, ps, o3, rfl, sm, hpl, hn, ri, ro, m1, p2, p3, pl, rfl⟩
  have m6 := rest_le hn ri m1 n2
  refine ⟨_, rfl, _, rfl, _, _, rfl, rfl, .inl ⟨by omega, by omega⟩, _, rfl, _, _, rfl, rfl, _, rfl, ite2 (fun e => ?_) (fun e => ?_)⟩
  · have hsq : p * p ≤ m := of_decide_eq_true e
    have p4 := sq1000 hsq m6 (by omega)
    refine ⟨fun σ' H' => ∃ (m' p' : Int) (ps' : List (Int × Int)) (o3' : Option V), σ' = [some (.int m'), some (.ref D), some (.int p'), o3'] ∧ Same H H' ∧ PL H' D ps' ∧ prod ps' * m' = n ∧ Rise p' ps' ∧ Rough p' m' ∧ 1 ≤ m' ∧ 2 ≤ p' ∧ p' ≤ 1001 ∧ (ps'.length : Int) ≤ p' ∧ (1002 - p').toNat < (1002 - p).toNat, ?_, ?_⟩
    · rintro σ' H' ⟨m', p', ps', o3', rfl, a1, a2, a3, a4, a5, a6, a7, a8, a9, a10⟩
      exact ⟨_, a10, m', p', ps', o3', rfl, a1, a2, a3, a4, a5, a6, a7, a8, a9, rfl⟩
    -- often = 0, the inner while
    refine ⟨fun k σ H' => ∃ (m' : Int) (c : Nat), σ = [some (.int m'), some (.ref D), some (.int p), some (.int (c : Int))] ∧ H' = H1 ∧ 1 ≤ m' ∧ m = p ^ c * m' ∧ k = m'.toNat,
      ⟨_, m, 0, rfl, rfl, m1, by simp, rfl⟩, ?_⟩
    rintro k σ H' ⟨m', c, rfl, rfl, m1', em, rfl⟩
    refine ⟨_, rfl, _, rfl, _, _, rfl, rfl, (show (0 : Int) < p by omega), rfl, _, rfl, ite2 (fun e2 => ?_) (fun e2 => ?_)⟩
    · have hz : m' % p = 0 := V.int.inj (of_decide_eq_true e2)
      have hd := Int.mul_ediv_add_emod m' p
      rw [hz] at hd
      have q1 : 1 ≤ m' / p := by
        have h0 : 0 ≤ m' / p := Int.ediv_nonneg (by omega) (by omega)
        rcases (show m' / p = 0 ∨ 1 ≤ m' / p by omega) with z | z
        · rw [z] at hd
          omega
        · exact z
      have q2 : m' / p < m' := by
        have : 2 * (m' / p) ≤ p * (m' / p) := Int.mul_le_mul_of_nonneg_right p2 (by omega)
        omega
      refine ⟨fun σ' H'' => ∃ (m2 : Int) (c2 : Nat), σ' = [some (.int m2), some (.ref D), some (.int p), some (.int (c2 : Int))] ∧ H'' = H' ∧ 1 ≤ m2 ∧ m = p ^ c2 * m2 ∧ m2.toNat < m'.toNat, ?_, ?_⟩
      · rintro σ' H'' ⟨m2, c2, rfl, rfl, a1, a2, a3⟩
        exact ⟨_, a3, m2, c2, rfl, rfl, a1, a2, rfl⟩
      · refine ⟨_, rfl, _, rfl, m', p, rfl, rfl, ⟨by omega, by omega⟩, ?_⟩
        refine ⟨_, rfl, _, _, rfl, rfl, m' / p, c + 1, rfl, rfl, q1, ?_, by omega⟩
        rw [em, Int.pow_succ, Int.mul_assoc]
        have : p * (m' / p) = m' := by omega
        rw [this]
    · have hz : ¬ p ∣ m' := fun z => e2 (decide_eq_true (congrArg V.int (Int.emod_eq_zero_of_dvd z)))
      have hdm : m' ∣ m := ⟨p ^ c, by rw [em, Int.mul_comm]⟩
      have ro' : Rough (p + 1) m' := rough_next (rough_dvd ro hdm) hz
      refine ⟨_, rfl, _, _, rfl, rfl, _, rfl, ite2 (fun e3 => ?_) (fun e3 => ?_)⟩
      · have hc : (0 : Int) < (c : Int) := of_decide_eq_true e3
        obtain ⟨c', rfl⟩ : ∃ c', c = c' + 1 := ⟨c - 1, by omega⟩
        have hdp : p ∣ m := ⟨p ^ c' * m', by rw [em, Int.pow_succ, Int.mul_comm (p ^ c') p, Int.mul_assoc]⟩
        obtain ⟨ts, hD, hts⟩ := id hpl
        refine ⟨_, rfl, .inl ⟨rfl, _, SqL.of hD⟩, _, rfl, _, rfl, (by show 2 ≤ sizeLine; decide), fun t ht => ?_⟩
        have hD2 : (upd H' t (.tup [.int p, .int ((c' + 1 : Nat) : Int)])) D = some (.lst (ts.map V.ref)) := by
          rw [upd_ne (ne_of_none hD ht)]
          exact hD
        refine ⟨D, _, _, rfl, rfl, hD2, ?_, ?_⟩
        · rw [List.length_map, pl_len hts]
          exact small1000 (by omega)
        · refine ⟨_, rfl, _, _, rfl, rfl, m', p + 1, ps ++ [(p, ((c' + 1 : Nat) : Int))], _, rfl, same_app sm nD ht, hpl.app ht hD, ?_, ri.snoc (pri_least p2 ro hdp) (by omega) (Int.le_refl _), ro', m1', by omega, by omega, ?_, by omega⟩
          · rw [prod_snoc, Int.toNat_natCast, Int.mul_assoc, ← em]
            exact hn
          · have el : (ps ++ [(p, ((c' + 1 : Nat) : Int))]).length = ps.length + 1 := by simp
            rw [el]
            omega
      · have hc : ¬ (0 : Int) < (c : Int) := of_decide_eq_false (Bool.eq_false_iff.mpr e3)
        have hc0 : c = 0 := by omega
        subst hc0
        have em' : m = m' := by simpa using em
        subst em'
        exact ⟨_, rfl, _, _, rfl, rfl, m, p + 1, ps, _, rfl, sm, hpl, hn, ri.mono (by omega), ro', m1, by omega, by omega, by omega, by omega⟩
  · have hsq : ¬ p * p ≤ m := of_decide_eq_false (Bool.eq_false_iff.mpr e)
    refine ⟨_, rfl, _, _, rfl, rfl, _, rfl, ite2 (fun e2 => ?_) (fun e2 => ?_)⟩
    · have hm : 1 < m := of_decide_eq_true e2
      have hpm : p ≤ m := by
        by_cases z : p ≤ m
        · exact z
        · exact absurd (Int.dvd_refl m) (ro m (by omega) (by omega))
      obtain ⟨ts, hD, hts⟩ := id hpl
      refine ⟨_, rfl, .inl ⟨rfl, _, SqL.of hD⟩, _, rfl, (by show 2 ≤ sizeLine; decide), fun t ht => ?_⟩
      have hD2 : (upd H1 t (.tup [.int m, .int 1])) D = some (.lst (ts.map V.ref)) := by
        rw [upd_ne (ne_of_none hD ht)]
        exact hD
      refine ⟨D, _, _, rfl, rfl, hD2, ?_, ?_⟩
      · rw [List.length_map, pl_len hts]
        exact Nat.lt_of_le_of_lt (show ps.length ≤ 1001 by omega) (by decide)
      · refine ⟨_, rfl, ?_⟩
        refine q (ps ++ [(m, 1)]) D _ (m + 1) ?_ (ri.snoc (pri_rest hm ro (by omega) p2) (by decide) hpm) ?_ (same_app sm nD ht) nD (hpl.app ht hD)
        · rw [prod_snoc]
          have : m ^ (1 : Int).toNat = m := by
            rw [show (1 : Int).toNat = 0 + 1 from rfl, Int.pow_succ, Int.pow_zero, Int.one_mul]
          rw [this]
          exact hn
        · have el : (ps ++ [(m, (1 : Int))]).length = ps.length + 1 := by simp
          rw [el]
          omega
    · have hm : ¬ 1 < m := of_decide_eq_false (Bool.eq_false_iff.mpr e2)
      have hm1 : m = 1 := by omega
      subst hm1
      refine ⟨_, rfl, ?_⟩
      exact q ps D _ p (by simpa using hn) ri (by omega) sm nD hpl

theorem seq_inv1 {s r : TS} {D : Ends} {σ : L2.St} {H : Hp} (I : L2.St → Hp → Prop) (tail : ∀ σ' H', I σ' H' → r D σ' H') (main : (∀ σ' H', I σ' H' → r D σ' H') → tSeq s r D σ H) : tSeq s r D σ H := main tail
def rPow : V → V → Hp → VK → Prop := fun x y H Q => ∃ p e : Nat, x = .int (p : Int) ∧ y = .int (e : Int) ∧ 1 ≤ p ∧ e < 120 ∧ p ^ e < 2 ^ 120 ∧ Q (.int ((p ^ e : Nat) : Int)) H
theorem sm120 {x : Nat} (h : x < 2 ^ 120) : ((x : Int)).natAbs < 2 ^ 120 := by
  rw [Int.natAbs_natCast]
  exact h
theorem ok_power (T : Txt K mg) : Fn P w K mg base 1 "power" ["base", "many"] (sp2 rPow) := by
  refine T.d_power.ok sc_power len2 fun f cdv A outer s H vs Q E hr hg h => ?_
  obtain ⟨_, _, rfl, p, e, rfl, rfl, p1, e120, pb, q⟩ := h
  refine ⟨_, (pss_cons (ps_set (i := 2) sc_power.nd rfl (by first | exact Or.inl rfl | exact Or.inr rfl) pe_int)
(pss_cons (ps_for PassesOwn.never rfl (pi_range1 (by rfl) T.n_range (pa_cons (pv 1) pa_nil)) (pg_name (i := 3) sc_power.nd rfl (by first | exact Or.inl rfl | exact Or.inr rfl))
(pss_one (ps_aug (i := 2) sc_power.nd rfl (.inl rfl) (pv 0) iop_mulW)))
(pss_one (ps_ret (pv 2))))), ?_⟩
  refine ⟨_, rfl, ((e : Nat) : Int), rfl, by omega, by omega, for_range (lo := 0) (n := e) (fun j σ H' => ∃ o : Option V, σ = [some (.int (p : Int)), some (.int (e : Int)), some (.int ((p ^ j : Nat) : Int)), o] ∧ H' = H) ⟨none, rfl, rfl⟩ ?_ ?_⟩
  · rintro j σ H' jl ⟨o, rfl, rfl⟩
    have h1 : p ^ j ≤ p ^ e := Nat.pow_le_pow_right p1 (by omega)
    have h2 : p ^ 1 ≤ p ^ e := Nat.pow_le_pow_right p1 (by omega)
    rw [Nat.pow_one] at h2
    refine ⟨_, rfl, _, rfl, _, _, rfl, rfl, wide_mul (a := 120) (b := 120) (sm120 (by omega)) (sm120 (by omega)) (by decide) (by decide) (by decide), ?_⟩
    refine ⟨some (.int (0 + (j : Int))), ?_, rfl⟩
    have e2 : ((p ^ j : Nat) : Int) * ((p : Nat) : Int) = ((p ^ (j + 1) : Nat) : Int) := by rw [← Int.natCast_mul, Nat.pow_succ]
    rw [← e2]
    rfl
  · rintro σ H' ⟨o, rfl, rfl⟩
    exact ⟨_, rfl, q⟩

/-! ### a number or None, as a text -/
def ov : Option Nat → V
  | none => .non
  | some m => .int (m : Int)
def ot : Option Nat → Str
  | none => "None"
  | some m => Str.ofString (toString (m : Int))
def rReprO : List V → Hp → VK → Prop := fun xs H Q => ∃ o : Option Nat, xs = [ov o] ∧ (∀ m, o = some m → m ≤ 1000000) ∧ Q (.str (ot o)) H
theorem call_reprO {X : Cx} : CallR X (.builtin "repr") rReprO := by
  intro pins s σ H xs us Q I r h
  obtain ⟨o, rfl, hm, q⟩ := h
  cases o with
  | none =>
    obtain ⟨u, rfl, e⟩ := vals1 r
    obtain rfl : u = Value.none := e
    exact PySem.P.repr_of_none ⟨.str _, H, I.tok _, ⟨_, rfl⟩, q⟩
  | some m =>
    obtain ⟨u, rfl, t, rfl⟩ := vals1 r
    have hz : ((m : Int)).natAbs.log2 < 1920 := by
      have h1 := hm m rfl
      have h2 : ((m : Int)).natAbs < 2 ^ 1000 := by
        rw [Int.natAbs_natCast]
        exact Nat.lt_of_le_of_lt h1 (by decide +kernel)
      have := log_big h2
      omega
    exact PySem.P.repr_of_int hz ⟨.str _, H, I.tok _, ⟨_, rfl⟩, q⟩
def Bd (ms : List Nat) : Prop := ∀ z ∈ ms, 1 ≤ z ∧ z ≤ 1000000
theorem Bd.take {ms : List Nat} (h : Bd ms) (i : Nat) : Bd (ms.take i) := fun z hz => h z (List.mem_of_mem_take hz)
theorem F_snoc (n : Nat) (l : List Nat) (x : Nat) : F n (l ++ [x]) = F n l * Nat.gcd n x := by
  rw [F_app]
  simp [F]
theorem F_small {ms : List Nat} (bd : Bd ms) (h6 : ms.length ≤ 6) (n : Nat) : F n ms < 2 ^ 120 := by
  have h := F_house bd h6
  have := F_le n (fun z hz => (bd z hz).1 : Pos ms)
  omega
/-! ### counts -/
def rNa : V → V → Hp → VK → Prop := fun x y H Q => ∃ (b : Addr) (ms : List Nat) (n : Nat), x = .ref b ∧ y = .int (n : Int) ∧ H b = some (.tup (iv ms)) ∧ ms.length ≤ 6 ∧ Bd ms ∧ Q (.int ((F n ms : Nat) : Int)) H
theorem len_take6 {ms : List Nat} (h : ms.length ≤ 6) (i : Nat) : (ms.take i).length ≤ 6 := by
  rw [List.length_take]
  omega
theorem gcd_small6 {n x : Nat} (h : 1 ≤ x ∧ x ≤ 1000000) : Nat.gcd n x < 2 ^ 120 := by
  have h1 := Nat.gcd_le_right n (show 0 < x by omega)
  have : (1000000 : Nat) < 2 ^ 120 := by decide
  omega
theorem ok_nought_at (T : Txt K mg) : Fn P w K mg base 2 "nought_at" ["house", "n"] (sp2 rNa) := by
  have G_common_measure := ok_common_measure (P := P) (w := w) (base := base) T
  refine T.d_nought_at.ok sc_nought_at len2 fun f cdv A outer s H vs Q E hr hg h => ?_
  obtain ⟨_, _, rfl, b, ms, n, rfl, rfl, hb, h6, bd, q⟩ := h
  refine ⟨_, (pss_cons (ps_set (i := 2) sc_nought_at.nd rfl (by first | exact Or.inl rfl | exact Or.inr rfl) pe_int)
(pss_cons (ps_for PassesOwn.never rfl (piT_K (K := K) rfl (pv 0)) (pg_name (i := 3) sc_nought_at.nd rfl (by first | exact Or.inl rfl | exact Or.inr rfl))
(pss_one (ps_aug (i := 2) sc_nought_at.nd rfl (.inl rfl) (pe_fn G_common_measure (hr.mono (by decide)) hg (by rfl) (pa_cons (pv 1) (pa_cons (pv 3) pa_nil))) iop_mulW)))
(pss_one (ps_ret (pv 2))))), ?_⟩
  refine ⟨_, rfl, b, rfl, ⟨_, SqT.of hb⟩, for_tup (K := K) (a := b) (xs := iv ms) (fun i σ H' => ∃ o : Option V, σ = [some (.ref b), some (.int (n : Int)), some (.int ((F n (ms.take i) : Nat) : Int)), o] ∧ H' = H) ⟨none, rfl, rfl⟩ (fun i σ H' _ ⟨_, _, e⟩ => by rw [e]; exact SqT.of hb) ?_ ?_⟩
  · rintro i v σ H' hi ⟨o, rfl, rfl⟩
    obtain ⟨x, hx, rfl⟩ := iv_get hi
    have xb := bd x (List.mem_of_getElem? hx)
    refine ⟨_, rfl, _, rfl, _, rfl, _, _, rfl, (n : Int), (x : Int), rfl, rfl, _, _, rfl, rfl, wide_mul (a := 120) (b := 120) (sm120 (F_small (bd.take i) (len_take6 h6 i) n)) (sm120 (gcd_small6 xb)) (by decide) (by decide) (by decide), ?_⟩
    refine ⟨some (.int (x : Int)), ?_, rfl⟩
    rw [take_one hx, F_snoc, Int.natCast_mul]
    rfl
  · rintro σ H' ⟨o, rfl, rfl⟩
    rw [iv_len, List.take_length]
    exact ⟨_, rfl, q⟩
def rMs : V → V → Hp → VK → Prop := fun x y H Q => ∃ i j : Nat, x = .int (i : Int) ∧ y = .int (j : Int) ∧ Q (.int ((Nat.gcd i j : Nat) : Int)) H
theorem ok_law_measure (T : Txt K mg) : Fn P w K mg base 1 "_law_measure" ["_law_a", "_law_b"] (sp2 rMs) := by
  refine T.d_law_measure.ok sc_law_measure len2 fun f cdv A outer s H vs Q E hr hg h => ?_
  obtain ⟨_, _, rfl, i, j, rfl, rfl, q⟩ := h
  refine ⟨_, (pss_cons (ps_while PassesOwn.never (pt_cmpR op_gt (pv 1) pe_int (nomark _))
(pss_one (ps_par (i := 0) (j := 1) (by rfl) sc_law_measure.nd rfl rfl (by decide) rfl rfl (pa_cons (pv 1) (pa_cons (pe_op op_mod (pv 0) (pv 1)) pa_nil)) (by rfl))))
(pss_one (ps_ret (pv 0)))), ?_⟩
  refine ⟨fun m σ H' => ∃ i' j' : Nat, σ = [some (.int (i' : Int)), some (.int (j' : Int))] ∧ H' = H ∧ Nat.gcd i' j' = Nat.gcd i j ∧ m = j', ⟨_, i, j, rfl, rfl, rfl, rfl⟩, ?_⟩
  rintro m σ H' ⟨i', j', rfl, rfl, hg, rfl⟩
  refine ⟨_, rfl, _, _, rfl, rfl, _, rfl, ite2 (fun e => ?_) (fun e => ?_)⟩
  · have hj : 0 < m := by
      have : (0 : Int) < (m : Int) := of_decide_eq_true e
      omega
    refine ⟨fun σ' H'' => ∃ i2 j2 : Nat, σ' = [some (.int (i2 : Int)), some (.int (j2 : Int))] ∧ H'' = H' ∧ Nat.gcd i2 j2 = Nat.gcd i j ∧ j2 < m, ?_, ?_⟩
    · rintro σ' H'' ⟨i2, j2, rfl, rfl, h1, h2⟩
      exact ⟨_, h2, i2, j2, rfl, rfl, h1, rfl⟩
    · refine ⟨_, rfl, _, rfl, _, rfl, _, _, rfl, rfl, (show (0 : Int) < (m : Int) by omega), _, _, rfl, m, i' % m, ?_, rfl, ?_, Nat.mod_lt _ hj⟩
      · rw [Int.natCast_emod]
        rfl
      · rw [← hg, Nat.gcd_comm m (i' % m), ← Nat.gcd_rec, Nat.gcd_comm]
  · have hj : m = 0 := by
      have : ¬ (0 : Int) < (m : Int) := of_decide_eq_false (Bool.eq_false_iff.mpr e)
      omega
    subst hj
    rw [Nat.gcd_zero_right] at hg
    refine ⟨_, rfl, ?_⟩
    rw [hg]
    exact q
theorem ok_law_count (T : Txt K mg) : Fn P w K mg base 2 "_law_count" ["_law_house_here", "_law_n"] (sp2 rNa) := by
  have G_law_measure := ok_law_measure (P := P) (w := w) (base := base) T
  refine T.d_law_count.ok sc_law_count len2 fun f cdv A outer s H vs Q E hr hg h => ?_
  obtain ⟨_, _, rfl, b, ms, n, rfl, rfl, hb, h6, bd, q⟩ := h
  refine ⟨_, (pss_cons (ps_set (i := 2) sc_law_count.nd rfl (by first | exact Or.inl rfl | exact Or.inr rfl) pe_int)
(pss_cons (ps_for PassesOwn.never rfl (piT_K (K := K) rfl (pv 0)) (pg_name (i := 3) sc_law_count.nd rfl (by first | exact Or.inl rfl | exact Or.inr rfl))
(pss_one (ps_set (i := 2) sc_law_count.nd rfl (by first | exact Or.inl rfl | exact Or.inr rfl) (pe_op op_mulW (pv 2) (pe_fn G_law_measure (hr.mono (by decide)) hg (by rfl) (pa_cons (pv 3) (pa_cons (pv 1) pa_nil)))))))
(pss_one (ps_ret (pv 2))))), ?_⟩
  refine ⟨_, rfl, b, rfl, ⟨_, SqT.of hb⟩, for_tup (K := K) (a := b) (xs := iv ms) (fun i σ H' => ∃ o : Option V, σ = [some (.ref b), some (.int (n : Int)), some (.int ((F n (ms.take i) : Nat) : Int)), o] ∧ H' = H) ⟨none, rfl, rfl⟩ (fun i σ H' _ ⟨_, _, e⟩ => by rw [e]; exact SqT.of hb) ?_ ?_⟩
  · rintro i v σ H' hi ⟨o, rfl, rfl⟩
    obtain ⟨x, hx, rfl⟩ := iv_get hi
    have xb := bd x (List.mem_of_getElem? hx)
    refine ⟨_, rfl, _, rfl, _, rfl, _, _, rfl, x, n, rfl, rfl, _, _, rfl, rfl, wide_mul (a := 120) (b := 120) (sm120 (F_small (bd.take i) (len_take6 h6 i) n)) (sm120 (by rw [Nat.gcd_comm]; exact gcd_small6 xb)) (by decide) (by decide) (by decide), ?_⟩
    refine ⟨some (.int (x : Int)), ?_, rfl⟩
    rw [take_one hx, F_snoc, Int.natCast_mul, Nat.gcd_comm n x]
    rfl
  · rintro σ H' ⟨o, rfl, rfl⟩
    rw [iv_len, List.take_length]
    exact ⟨_, rfl, q⟩
/-! ### the program's apart_at -/
def rAp : V → V → Hp → VK → Prop := fun x y H Q => ∃ (a : Addr) (A : List Nat) (b : Addr) (B : List Nat), x = .ref a ∧ y = .ref b ∧ H a = some (.tup (iv A)) ∧ H b = some (.tup (iv B)) ∧ A.length ≤ 6 ∧ B.length ≤ 6 ∧ Bd A ∧ Bd B ∧
  ∀ H' (o : Option Nat), Same H H' → Least (fun q => PP (A ++ B) q ∧ Apt A B q) o → (∀ m, o = some m → m ≤ 1000000) → Q (ov o) H'
theorem ok_apart_at (T : Txt K mg) : Fn P w K mg base 3 "apart_at" ["one", "other"] (sp2 rAp) := by
  have G_primes_of := ok_primes_of (P := P) (w := w) (base := base) T
  have G_power := ok_power (P := P) (w := w) (base := base) T
  have G_nought_at := ok_nought_at (P := P) (w := w) (base := base) T
  refine T.d_apart_at.ok sc_apart_at len2 fun f cdv Ar outer s H vs Q E hr hg h => ?_
  obtain ⟨_, _, rfl, a, A, b, B, rfl, rfl, ha, hb, lA, lB, bA, bB, q⟩ := h
  refine ⟨_, (pss_cons (ps_set (i := 2) sc_apart_at.nd rfl (by first | exact Or.inl rfl | exact Or.inr rfl) (pe_lst pa_nil))
(pss_cons (ps_for PassesOwn.never rfl (pi_tup (pe_tup (StX.pa_star (pv 0) (StX.pa_star (pv 1) pa_nil)))) (pg_name (i := 3) sc_apart_at.nd rfl (by first | exact Or.inl rfl | exact Or.inr rfl))
(pss_one (ps_for PassesOwn.never rfl (piL_K (K := K) rfl (pe_fn G_primes_of (hr.mono (by decide)) hg (by rfl) (pa_cons (pv 3) pa_nil))) (pg_tup rfl (pgs_cons (pg_name (i := 4) sc_apart_at.nd rfl (by first | exact Or.inl rfl | exact Or.inr rfl)) (pgs_cons (pg_name (i := 5) sc_apart_at.nd rfl (by first | exact Or.inl rfl | exact Or.inr rfl)) pgs_nil)))
(pss_one (ps_expr (pe_bm PySem.F.plainAttrs_list PySem.F.slot_list_extend PySem.F.type_list_extend mt_extend (pv 2) (pa_cons (pe_lc (own := [("many", 7)]) rfl sc_apart_at.nd (pi_range2 (by rfl) T.n_range (pa_cons pe_int (pa_cons (pe_op op_add (pv 5) pe_int) pa_nil))) (blkOk_by (own := [("many", 7)]) (N := N_apart_at) (sc := defScope s_apart_at) (by decide +kernel)) (fun _ _ _ _ _ => (pg_name (i := 7) sc_apart_at.nd rfl (by first | exact Or.inl rfl | exact Or.inr rfl))) (fun _ _ _ _ _ => pts_nil) (fun _ _ _ _ _ => (pe_fn G_power (hr.mono (by decide)) hg (by rfl) (pa_cons (pv 4) (pa_cons (pv 7) pa_nil))))) pa_nil)))))))
(pss_one (ps_ret (pe_callBK (MxD.cr_minD rfl) (by rfl) T.n_min (by decide +kernel) (pa_cons (pe_lc (own := [("n", 6)]) rfl sc_apart_at.nd (piL_K (K := K) rfl (pv 2)) (blkOk_by (own := [("n", 6)]) (N := N_apart_at) (sc := defScope s_apart_at) (by decide +kernel)) (fun _ _ _ _ _ => (pg_name (i := 6) sc_apart_at.nd rfl (by first | exact Or.inl rfl | exact Or.inr rfl))) (fun _ _ _ _ _ => (pts_one (pt_cmpR op_ne (pe_fn G_nought_at (hr.mono (by decide)) hg (by rfl) (pa_cons (pv 0) (pa_cons (pv 6) pa_nil))) (pe_fn G_nought_at (hr.mono (by decide)) hg (by rfl) (pa_cons (pv 1) (pa_cons (pv 6) pa_nil))) (nomark _)))) (fun _ _ _ _ _ => (pv 6))) pa_nil) (pk_cons pe_non pk_nil)))))), ?_⟩
  have bAB : Bd (A ++ B) := fun z hz => by
    rcases List.mem_append.mp hz with y | y
    · exact bA z y
    · exact bB z y
  refine ⟨Nat.zero_le _, fun D nD => ?_⟩
  have s0 := same_new (H := H) (o := .lst []) nD
  refine ⟨_, rfl, a, _, rfl, .inl (SqT.of (s0 _ _ ha)), _, rfl, b, _, rfl, .inl (SqT.of (s0 _ _ hb)), ?_, fun t nt => ?_⟩
  · rw [List.append_nil, List.length_append, iv_len, iv_len]
    exact Nat.le_of_lt (small1000 (by omega))
  have eAB : iv A ++ (iv B ++ []) = iv (A ++ B) := by rw [List.append_nil, iv_app]
  rw [eAB]
  have s1 := s0.trans (same_new (o := .tup (iv (A ++ B))) nt)
  have hD1 : (upd (upd H D (.lst [])) t (.tup (iv (A ++ B)))) D = some (.lst []) := (same_new nt) _ _ upd_same
  have ht1 : (upd (upd H D (.lst [])) t (.tup (iv (A ++ B)))) t = some (.tup (iv (A ++ B))) := upd_same
  generalize upd (upd H D (.lst [])) t (.tup (iv (A ++ B))) = H1 at *
  have ntD : t ≠ D := ne_of ht1 hD1 (by intro z; cases z)
  refine ⟨t, rfl, ⟨_, SqT.of ht1⟩, for_tup (K := K) (a := t) (xs := iv (A ++ B)) (fun i σ H' => ∃ (o3 o4 o5 : Option V) (fl : List Nat), σ = [some (.ref a), some (.ref b), some (.ref D), o3, o4, o5, none, none] ∧ But D H1 H' ∧ H' D = some (.lst (iv fl)) ∧ (∀ q, q ∈ fl ↔ PP ((A ++ B).take i) q) ∧ fl.length ≤ 160 * i)
    ⟨none, none, none, [], rfl, But.refl D H1, hD1, fun q => ⟨fun h => by simp at h, fun ⟨h, hh, _⟩ => by simp at hh⟩, Nat.le_refl _⟩ (fun i σ H' _ ⟨_, _, _, _, _, bb, _⟩ => SqT.of (bb _ _ ntD ht1)) ?_ ?_⟩
  · rintro i v σ H2 hi ⟨o3, o4, o5, fl, rfl, b2, hD2, mem, fll⟩
    obtain ⟨x, hx, rfl⟩ := iv_get hi
    have xb := bAB x (List.mem_of_getElem? hx)
    have il : i < 12 := by
      have := (List.getElem?_eq_some_iff.mp hx).1
      rw [List.length_append] at this
      omega
    refine ⟨_, rfl, _, rfl, x, rfl, xb.1, xb.2, fun qs R H3 nR fc s3 hpl => ?_⟩
    obtain ⟨ts, hR, hts⟩ := hpl
    have q8 := fc.few xb.2
    have tl : ts.length = qs.length := by
      have := Paired.length hts
      rw [List.length_map] at this
      exact this
    have hD3 := s3 _ _ hD2
    have es := exp_small fc xb.2 xb.1
    have nRD : R ≠ D := by
      rintro rfl
      rw [hD2] at nR
      cases nR
    refine ⟨R, rfl, ⟨_, SqL.of hR⟩, for_list (K := K) (a := R) (xs := ts.map V.ref) (fun j σ H' => ∃ (o4 o5 : Option V) (gl : List Nat), σ = [some (.ref a), some (.ref b), some (.ref D), some (.int (x : Int)), o4, o5, none, none] ∧ But D H3 H' ∧ H' D = some (.lst (iv gl)) ∧ (∀ q, q ∈ gl ↔ q ∈ fl ∨ q ∈ pws (qs.take j)) ∧ gl.length ≤ fl.length + 20 * j)
      ⟨o4, o5, fl, rfl, But.refl D H3, hD3, fun q => ⟨.inl, fun h => h.elim id fun z => by simp [pws] at z⟩, Nat.le_refl _⟩ (fun j σ H' _ ⟨_, _, _, _, bb, _⟩ => SqL.of (bb _ _ nRD hR)) ?_ ?_⟩
    · rintro j v σ H4 hj ⟨o4, o5, gl, rfl, b4, hD4, mem4, gll⟩
      obtain ⟨u, htj, rfl⟩ := ref_at hj
      obtain ⟨pe, hpe, ht⟩ := paired_get hts htj
      rw [List.getElem?_map] at hpe
      obtain ⟨⟨p, e⟩, hqe, rfl⟩ := Option.map_eq_some_iff.mp hpe
      have hmem := List.mem_of_getElem? hqe
      have hp := fc.pr _ hmem
      have hp2 : 2 ≤ p := hp.1
      obtain ⟨e20, small⟩ := es _ hmem
      replace e20 : e ≤ 20 := e20
      have jl : j < qs.length := (List.getElem?_eq_some_iff.mp hqe).1
      have hu4 : H4 u = some (.tup [.int (p : Int), .int (e : Int)]) := b4 _ _ (ne_of ht hD3 (by intro z; cases z)) ht
      refine ⟨u, _, rfl, SqT.of hu4, rfl, _, _, rfl, _, _, rfl, rfl, ?_⟩
      refine ⟨_, rfl, .inl ⟨rfl, _, SqL.of hD4⟩, _, rfl, _, _, rfl, rfl, _, _, rfl, ⟨by omega, by omega, by omega, by omega⟩, fun L nL => ?_⟩
      have cnt : (((e : Nat) : Int) + 1 - 1).toNat = e := by omega
      rw [cnt]
      refine lc_range (lo := 1) (n := e) (fun k H' => Same H4 H' ∧ H' L = some (.lst (iv ((List.range k).map fun j => p ^ (j + 1))))) ⟨same_new nL, upd_same⟩ ?_ ?_
      · rintro k H5 kl ⟨s5, hL5⟩
        have b20 := small (k + 1) (by show k + 1 ≤ e; omega)
        replace b20 : p ^ (k + 1) ≤ 1000000 := b20
        refine ⟨rfl, _, rfl, _, rfl, _, _, rfl, p, k + 1, rfl, congrArg V.int (by omega), by omega, by omega, Nat.lt_of_le_of_lt b20 (by decide), _, hL5, by rw [iv_len, List.length_map, List.length_range]; exact small1000 (by omega), fresh_upd s5 nL, ?_⟩
        rw [upd_same, List.range_succ, List.map_append, iv_app]
        rfl
      · rintro H5 ⟨s5, hL5⟩
        refine ⟨D, L, _, _, rfl, rfl, s5 _ _ hD4, hL5, ?_, ?_⟩
        · rw [iv_len, iv_len, List.length_map, List.length_range]
          exact Nat.le_trans (show gl.length + e ≤ 4000 by omega) (by decide)
        · rw [← iv_app]
          refine ⟨_, _, gl ++ (List.range e).map (fun j => p ^ (j + 1)), rfl, (b4.trans (But.same s5)).trans But.upd, upd_same, fun z => ?_, ?_⟩
          · have e1 : pws (qs.take (j + 1)) = pws (qs.take j) ++ (List.range e).map (fun j => p ^ (j + 1)) := by
              unfold pws
              rw [take_one hqe, List.map_append, List.flatten_append]
              simp
            rw [e1, List.mem_append, List.mem_append, mem4 z, or_assoc]
          · rw [List.length_append, List.length_map, List.length_range]
            omega
    · rintro σ H4 ⟨o4, o5, gl, rfl, b4, hD4, mem4, gll⟩
      rw [List.length_map, tl, List.take_length] at mem4
      rw [List.length_map, tl] at gll
      refine ⟨_, _, _, gl, rfl, (b2.trans (But.same s3)).trans b4, hD4, fun z => ?_, by omega⟩
      rw [mem4 z, mem z, take_one hx, pp_app, pws_pp fc]
  · rintro σ H2 ⟨o3, o4, o5, fl, rfl, b2, hD2, mem, fll⟩
    rw [iv_len, List.take_length] at mem
    rw [iv_len, List.length_append] at fll
    have nD0 : ∀ x o, H x = some o → H2 x = some o := fun x o e => b2 _ _ (ne_of_none e nD) (s1 _ _ e)
    have s02 : Same H H2 := nD0
    refine ⟨_, rfl, D, rfl, ⟨_, SqL.of hD2⟩, fun L nL => lc_list (K := K) (a := D) (xs := iv fl) (fun k H' => Same H2 H' ∧ H' L = some (.lst (iv ((fl.take k).filter fun n => decide (F n A ≠ F n B))))) ⟨same_new nL, upd_same⟩ (fun k H' _ ⟨s3, _⟩ => SqL.of (s3 _ _ hD2)) ?_ ?_⟩
    · rintro k v H3 hk ⟨s3, hL⟩
      obtain ⟨n, hn, rfl⟩ := iv_get hk
      have kl : k < fl.length := (List.getElem?_eq_some_iff.mp hn).1
      have s03 := s02.trans s3
      refine ⟨rfl, _, rfl, _, rfl, _, _, rfl, a, A, n, rfl, rfl, s03 _ _ ha, lA, bA, _, rfl, _, rfl, _, _, rfl, b, B, n, rfl, rfl, s03 _ _ hb, lB, bB, rfl, _, rfl, ite2 (fun e => ?_) (fun e => ?_)⟩
      · have ne : F n A ≠ F n B := fun z => ne_yes e (by rw [z])
        refine ⟨_, rfl, _, hL, ?_, fresh_upd s3 nL, ?_⟩
        · rw [iv_len]
          exact Nat.lt_of_le_of_lt (Nat.le_trans (List.length_filter_le _ _) (by rw [List.length_take]; omega) : _ ≤ 2000) (by decide)
        · rw [upd_same, take_one hn, List.filter_append, iv_app]
          have : [n].filter (fun n => decide (F n A ≠ F n B)) = [n] := by simp [ne]
          rw [this]
          rfl
      · have eq : F n A = F n B := by
          have := ne_no e
          omega
        refine ⟨s3, ?_⟩
        have : [n].filter (fun n => decide (F n A ≠ F n B)) = [] := by simp [eq]
        rw [take_one hn, List.filter_append, this, List.append_nil]
        exact hL
    · rintro H3 ⟨s3, hL⟩
      rw [iv_len, List.take_length, iv_eq] at hL
      have s03 := s02.trans s3
      have inG : ∀ z, z ∈ fl.filter (fun n => decide (F n A ≠ F n B)) ↔ PP (A ++ B) z ∧ Apt A B z := fun z => by
        rw [List.mem_filter, mem z, decide_eq_true_iff]
        rfl
      refine ⟨L, _, .non, rfl, rfl, SqL.of hL, fun z => ?_, fun m hm hle => ?_⟩
      · refine q H3 none s03 ?_ (fun m hm => by cases hm)
        intro n hn
        have := (inG n).mpr hn
        have e : fl.filter (fun n => decide (F n A ≠ F n B)) = [] := List.map_eq_nil_iff.mp z
        rw [e] at this
        simp at this
      · obtain ⟨n, hn, rfl⟩ := List.mem_map.mp hm
        refine q H3 (some n) s03 ⟨(inG n).mp hn, fun k hk => ?_⟩ (fun m hm => ?_)
        · have := hle _ (List.mem_map_of_mem ((inG k).mpr hk))
          omega
        · cases hm
          exact (pp_le bAB ((inG n).mp hn).1).2

/-! ### tuples cut and put together -/
theorem cut_take {xs : List V} {j : Nat} (h : j ≤ xs.length) : cutV xs none (some (j : Int)) = xs.take j := by
  unfold cutV
  rw [HT.sIx_none, HT.sIx_nat, List.drop_zero, Nat.sub_zero, Nat.min_eq_left h]
theorem iv_take (l : List Nat) (i : Nat) : (iv l).take i = iv (l.take i) := by
  unfold iv
  rw [List.map_take]
theorem iv_drop (l : List Nat) (i : Nat) : (iv l).drop i = iv (l.drop i) := by
  unfold iv
  rw [List.map_drop]
theorem sl_take {H : Hp} {a : Addr} {l : List Nat} {j : Nat} {Q : VK} (h : H a = some (.tup (iv l))) (hj : j < l.length) (q : ∀ p H', Same H H' → H' p = some (.tup (iv (l.take j))) → Q (.ref p) H') : rSlA K (.ref a) none (some (j : Int)) H Q := by
  refine ⟨a, _, rfl, SqT.of h, fun z => ?_, fun _ p np => q p _ (same_new np) ?_⟩
  · exfalso
    have z2 := z.2
    rw [HT.sIx_nat, iv_len] at z2
    omega
  · rw [upd_same, cut_take (by rw [iv_len]; omega), iv_take]
theorem sl_drop {H : Hp} {a : Addr} {l : List Nat} {j : Nat} {k : Int} {Q : VK} {σ : L2.St} (h : H a = some (.tup (iv l))) (hj : j < l.length) (hk : k = ((j + 1 : Nat) : Int)) (q : ∀ p H', Same H H' → H' p = some (.tup (iv (l.drop (j + 1)))) → Q (.ref p) H') : tNoPart σ H (fun u H3 => rSlA K (.ref a) (some k) u H3 Q) := by
  subst hk
  refine ⟨a, _, rfl, SqT.of h, fun z => ?_, fun _ p np => q p _ (same_new np) ?_⟩
  · exfalso
    have z1 := z.1
    rw [HT.sIx_nat, iv_len] at z1
    omega
  · rw [upd_same]
    have e : cutV (iv l) (some ((j + 1 : Nat) : Int)) none = iv (l.drop (j + 1)) := by
      unfold cutV
      rw [HT.sIx_nat, HT.sIx_none, iv_len, Nat.min_eq_left (by omega), iv_drop, List.take_of_length_le (by rw [iv_len, List.length_drop]; exact Nat.le_refl _)]
    rw [e]
theorem cat_iv {H : Hp} {a b : Addr} {l m : List Nat} {Q : VK} (h1 : H a = some (.tup (iv l))) (h2 : H b = some (.tup (iv m))) (sz : l.length + m.length ≤ 100) (q : ∀ p H', Same H H' → H' p = some (.tup (iv (l ++ m))) → Q (.ref p) H') : rCatA K (.ref a) (.ref b) H Q := by
  refine ⟨a, b, _, _, rfl, rfl, SqT.of h1, SqT.of h2, ?_, fun z => ?_, fun _ z => ?_, fun _ _ p np => q p _ (same_new np) (by rw [upd_same, iv_app])⟩
  · rw [iv_len, iv_len]
    exact Nat.le_of_lt (small1000 (by omega))
  · have : l = [] := List.map_eq_nil_iff.mp z
    subst this
    exact q b H (Same.refl H) h2
  · have : m = [] := List.map_eq_nil_iff.mp z
    subst this
    refine q a H (Same.refl H) ?_
    rw [List.append_nil]
    exact h1
theorem iv_rev (l : List Nat) : (iv l).reverse = iv l.reverse := by
  unfold iv
  rw [List.map_reverse]
theorem tup_pen {H H' : Hp} {d a x : Addr} {ns : List Int} {c : Int} {xs : List V} (p : Pen K H d a ns c) (b : But d H H') (h : H x = some (.tup xs)) : H' x = some (.tup xs) := by
  obtain ⟨kvs, hd⟩ := pen_at3 p
  exact b _ _ (ne_of h hd (by intro z; cases z)) h
/-! ### the law's own houses -/
def Lim (b : Nat) (ms : List Nat) : Prop := ∀ z ∈ ms, 1 ≤ z ∧ z ≤ b
def rSm (K : PySem.W.Frag) : V → Hp → VK → Prop := fun p H Q => ∃ (d a : Addr) (ns : List Int) (c : Int), p = .ref d ∧ Pen K H d a ns c ∧ c + 5 ≤ 1000000 ∧
  ∀ r H' (ms : List Nat), H' r = some (.tup (iv ms)) → ms.length ≤ 6 → Lim 30 ms → Pen K H' d a ns (c + 5) → But d H H' → Q (.ref r) H'
def somes : List Int := [1, 2, 4, 8, 16, 3, 9, 27, 5, 25, 6, 12, 30, 10, 15, 7]
theorem ok_law_small (T : Txt K mg) : Fn P w K mg base 2 "_law_small" ["_law_pen_here"] (sp1 (rSm K)) := by
  have G_law_draw := ok_law_draw (P := P) (w := w) (base := base) T
  refine T.d_law_small.ok sc_law_small len1 fun f cdv A outer s H vs Q E hr hg h => ?_
  obtain ⟨_, rfl, d, a, ns, c, rfl, hp, hc, q⟩ := h
  refine ⟨_, (pss_cons (ps_set (i := 1) sc_law_small.nd rfl (by first | exact Or.inl rfl | exact Or.inr rfl) (pe_tup (pa_cons pe_int (pa_cons pe_int (pa_cons pe_int (pa_cons pe_int (pa_cons pe_int (pa_cons pe_int (pa_cons pe_int (pa_cons pe_int (pa_cons pe_int (pa_cons pe_int (pa_cons pe_int (pa_cons pe_int (pa_cons pe_int (pa_cons pe_int (pa_cons pe_int (pa_cons pe_int pa_nil))))))))))))))))))
(pss_one (ps_ret (pe_callTy (tupOf_K (K := K) rfl) (by rfl) T.n_tuple (by decide +kernel) (pa_cons (pe_lc (own := [("_law_k", 2)]) rfl sc_law_small.nd (pi_range1 (by rfl) T.n_range (pa_cons (pe_fn G_law_draw (hr.mono (by decide)) hg (by rfl) (pa_cons (pv 0) (pa_cons pe_int pa_nil))) pa_nil)) (blkOk_by (own := [("_law_k", 2)]) (N := N_law_small) (sc := defScope s_law_small) (by decide +kernel)) (fun _ _ _ _ _ => (pg_name (i := 2) sc_law_small.nd rfl (by first | exact Or.inl rfl | exact Or.inr rfl))) (fun _ _ _ _ _ => pts_nil) (fun _ _ _ _ _ => (pe_ix (ixT_K (K := K) rfl) (pv 1) (pe_fn G_law_draw (hr.mono (by decide)) hg (by rfl) (pa_cons (pv 0) (pa_cons (pe_callB (len_K (K := K) rfl) (by rfl) T.n_len (by decide +kernel) (pa_cons (pv 1) pa_nil)) pa_nil))) (fun _ _ => rfl)))) pa_nil))))), ?_⟩
  refine ⟨(by show 16 ≤ sizeLine; decide), fun t nt => ?_⟩
  have s0 := same_new (H := H) (o := .tup (somes.map V.int)) nt
  have hp0 := hp.same s0
  have ht0 : (upd H t (.tup (somes.map V.int))) t = some (.tup (somes.map V.int)) := upd_same
  refine ⟨_, rfl, _, _, rfl, d, a, ns, c, _, rfl, rfl, hp0, by decide, by decide, by omega, fun n H1 n0 n1 hp1 b1 => ?_⟩
  obtain ⟨n, rfl⟩ : ∃ m : Nat, n = m := ⟨n.toNat, by omega⟩
  have ht1 := tup_pen hp0 b1 ht0
  have b01 : But d H H1 := (But.same s0).trans b1
  refine ⟨_, rfl, by omega, by omega, fun D nD => lc_range (lo := 0) (n := n) (fun i H' => Pen K H' d a ns (c + 1 + i) ∧ But d H1 H' ∧ ∃ ms : List Nat, H' D = some (.lst (iv ms)) ∧ ms.length = i ∧ Lim 30 ms)
    ⟨by simpa using pen_up hp1 (But.refl d H1) hp1 nD, But.new nD, [], upd_same, rfl, fun z hz => by simp at hz⟩ ?_ ?_⟩
  · rintro i H2 hi ⟨hp2, b2, ms, hD, hl, hx⟩
    obtain ⟨kvs, hdd⟩ := pen_at3 hp1
    have nDd : D ≠ d := (ne_of_none hdd nD).symm
    have ht2 := tup_pen hp1 b2 ht1
    refine ⟨rfl, _, rfl, _, rfl, _, rfl, t, _, rfl, .inr (SqT.of ht2), _, _, rfl, d, a, ns, _, _, rfl, rfl, hp2, by decide, by decide, by omega, fun r H3 r0 r1 hp3 b3 => ?_⟩
    have ht3 := tup_pen hp2 b3 ht2
    obtain ⟨z, hz, hat⟩ := cell_in (ns := somes) r0 r1
    refine ⟨t, _, _, _, rfl, rfl, SqT.of ht3, hat, ?_⟩
    have hz2 : 1 ≤ z ∧ z ≤ 30 := by
      simp only [somes, List.mem_cons, List.not_mem_nil, or_false] at hz
      omega
    obtain ⟨y, rfl⟩ : ∃ y : Nat, z = y := ⟨z.toNat, by omega⟩
    refine ⟨_, b3 _ _ nDd hD, by rw [iv_len]; exact small1000 (by omega), ?_, but_up (b2.trans b3) nD, ms ++ [y], ?_, ?_, ?_⟩
    · have ec : c + 1 + ((i + 1 : Nat) : Int) = c + 1 + i + 1 := by omega
      rw [ec]
      exact pen_up hp1 (b2.trans b3) hp3 nD
    · rw [upd_same, iv_app]
      rfl
    · rw [List.length_append, hl]
      rfl
    · intro x hx2
      rcases List.mem_append.mp hx2 with e | e
      · exact hx x e
      · rw [List.mem_singleton.mp e]
        omega
  · rintro H2 ⟨hp2, b2, ms, hD, hl, hx⟩
    refine ⟨D, _, rfl, .inl ⟨SqL.of hD, fun R nR => ?_⟩⟩
    exact q R _ ms upd_same (by omega) hx ((hp2.same (same_new nR)).mono (by omega)) ((b01.trans b2).trans (But.new nR))
def rNr (K : PySem.W.Frag) : V → V → V → Hp → VK → Prop := fun p x y H Q => ∃ (d a : Addr) (ns : List Int) (c : Int) (b : Addr) (ms : List Nat) (m : Nat), p = .ref d ∧ x = .ref b ∧ y = .int (m : Int) ∧ Pen K H d a ns c ∧ c + 3 ≤ 1000000 ∧ H b = some (.tup (iv ms)) ∧ ms.length ≤ 6 ∧ Lim m ms ∧ 30 ≤ m ∧ m ≤ 1000000 ∧
  ∀ r H' (ms' : List Nat), H' r = some (.tup (iv ms')) → ms'.length ≤ 6 → Lim m ms' → Pen K H' d a ns (c + 3) → But d H H' → Q (.ref r) H'
theorem ok_law_near (T : Txt K mg) : Fn P w K mg base 2 "_law_near" ["_law_pen_here", "_law_house_here", "_law_most"] (sp3 (rNr K)) := by
  have G_law_draw := ok_law_draw (P := P) (w := w) (base := base) T
  refine T.d_law_near.ok sc_law_near len3 fun f cdv A outer s H vs Q E hr hg h => ?_
  obtain ⟨_, _, _, rfl, d, a, ns, c, b, ms, m, rfl, rfl, rfl, hp, hc, hb, h6, lim, m30, m6, q⟩ := h
  refine ⟨_, (pss_cons (ps_if (PW.pt (pw_or (pt_cmpR (op_eqE hr) (pv 1) (pe_tup pa_nil) (nomark _)) (pw_or1 (pt_cmpR op_gt (pe_callB (len_K (K := K) rfl) (by rfl) T.n_len (by decide +kernel) (pa_cons (pv 1) pa_nil)) pe_int (nomark _)))))
(pss_one (ps_ret (pv 1)))
pss_nil)
(pss_cons (ps_set (i := 3) sc_law_near.nd rfl (by first | exact Or.inl rfl | exact Or.inr rfl) (pe_fn G_law_draw (hr.mono (by decide)) hg (by rfl) (pa_cons (pv 0) (pa_cons (pe_callB (len_K (K := K) rfl) (by rfl) T.n_len (by decide +kernel) (pa_cons (pv 1) pa_nil)) pa_nil))))
(pss_cons (ps_set (i := 4) sc_law_near.nd rfl (by first | exact Or.inl rfl | exact Or.inr rfl) (pe_ix (ixT_K (K := K) rfl) (pv 1) (pv 3) (fun _ _ => rfl)))
(pss_cons (ps_set (i := 5) sc_law_near.nd rfl (by first | exact Or.inl rfl | exact Or.inr rfl) (pe_ix (ixT_K (K := K) rfl) (pe_tup (pa_cons pe_int (pa_cons pe_int (pa_cons pe_int pa_nil)))) (pe_fn G_law_draw (hr.mono (by decide)) hg (by rfl) (pa_cons (pv 0) (pa_cons pe_int pa_nil))) (fun _ _ => rfl)))
(pss_cons (ps_set (i := 6) sc_law_near.nd rfl (by first | exact Or.inl rfl | exact Or.inr rfl) (pe_fn G_law_draw (hr.mono (by decide)) hg (by rfl) (pa_cons (pv 0) (pa_cons pe_int pa_nil))))
(pss_cons (ps_if (PW.pt (pw_and (pt_cmpR op_eq (pv 6) pe_int (nomark _)) (pw_and1 (pt_cmpR op_le (pe_op op_mul (pv 4) (pv 5)) (pv 2) (nomark _)))))
(pss_one (ps_ret (pe_op (cat_K (K := K) rfl) (pe_op (cat_K (K := K) rfl) (pe_slice (sl_K (K := K) rfl) (pv 1) po_none (po_some (pv 3))) (pe_tup (pa_cons (pe_op op_mul (pv 4) (pv 5)) pa_nil))) (pe_slice (sl_K (K := K) rfl) (pv 1) (po_some (pe_op op_add (pv 3) pe_int)) po_none))))
pss_nil)
(pss_cons (ps_if (PW.pt (pw_and (pt_cmpR op_eq (pv 6) pe_int (nomark _)) (pw_and1 (pt_cmpR op_eq (pe_op op_mod (pv 4) (pv 5)) pe_int (nomark _)))))
(pss_one (ps_ret (pe_op (cat_K (K := K) rfl) (pe_op (cat_K (K := K) rfl) (pe_slice (sl_K (K := K) rfl) (pv 1) po_none (po_some (pv 3))) (pe_tup (pa_cons (pe_op op_fdiv (pv 4) (pv 5)) (pa_cons (pv 5) pa_nil)))) (pe_slice (sl_K (K := K) rfl) (pv 1) (po_some (pe_op op_add (pv 3) pe_int)) po_none))))
pss_nil)
(pss_cons (ps_if (PW.pt (pw_and (pt_cmpR op_eq (pv 6) pe_int (nomark _)) (pw_and1 (pt_cmpR op_eq (pe_op op_mod (pv 4) (pv 5)) pe_int (nomark _)))))
(pss_one (ps_ret (pe_op (cat_K (K := K) rfl) (pe_op (cat_K (K := K) rfl) (pe_slice (sl_K (K := K) rfl) (pv 1) po_none (po_some (pv 3))) (pe_tup (pa_cons (pe_op op_fdiv (pv 4) (pv 5)) pa_nil))) (pe_slice (sl_K (K := K) rfl) (pv 1) (po_some (pe_op op_add (pv 3) pe_int)) po_none))))
pss_nil)
(pss_one (ps_ret (pe_revT (pv 1)))))))))))), ?_⟩
  have back : ∀ H', Same H H' → Q (.ref b) H' := fun H' s' => q b H' ms (s' _ _ hb) h6 lim ((hp.same s').mono (by omega)) (But.same s')
  refine ⟨_, rfl, Nat.zero_le _, fun e0 ne0 => ⟨b, e0, _, rfl, rfl, (same_new ne0) _ _ hb, upd_same, _, rfl, ite2 (fun e => ?_) (fun e => ?_)⟩⟩
  · exact iteT ⟨_, rfl, back _ (same_new ne0)⟩
  have s0 := same_new (H := H) (o := .tup []) ne0
  have mne : 0 < ms.length := by
    cases ms with
    | nil => simp [iv] at e
    | cons x r => simp
  have hb0 := s0 _ _ hb
  refine ⟨_, rfl, b, _, rfl, .inr (SqT.of hb0), _, _, rfl, rfl, _, rfl, ite2 (fun e => ?_) (fun e => ?_)⟩
  · exact ⟨_, rfl, back _ s0⟩
  have m5 : ms.length ≤ 5 := by
    have : ¬ (((iv ms).length : Nat) : Int) > 5 := of_decide_eq_false (Bool.eq_false_iff.mpr e)
    rw [iv_len] at this
    omega
  have hp0 := hp.same s0
  refine ⟨_, rfl, _, rfl, b, _, rfl, .inr (SqT.of hb0), ?_⟩
  rw [iv_len]
  refine ⟨_, _, rfl, d, a, ns, _, _, rfl, rfl, hp0, by omega, by omega, by omega, fun r H1 r0 r1 hp1 b1 => ?_⟩
  obtain ⟨j, rfl⟩ : ∃ j : Nat, r = j := ⟨r.toNat, by omega⟩
  have jl : j < ms.length := by omega
  obtain ⟨x, hx⟩ : ∃ y, ms[j]? = some y := ⟨_, List.getElem?_eq_getElem jl⟩
  have xb := lim x (List.mem_of_getElem? hx)
  have hb1 := tup_pen hp0 b1 hb0
  refine ⟨_, rfl, _, rfl, b, _, _, _, rfl, rfl, SqT.of hb1, atI_nat (iv_at hx), ?_⟩
  refine ⟨(by show 3 ≤ sizeLine; decide), fun t nt => ?_⟩
  have s2 := same_new (H := H1) (o := .tup [.int 2, .int 3, .int 5]) nt
  have hp2 := hp1.same s2
  have ht2 : (upd H1 t (.tup [.int 2, .int 3, .int 5])) t = some (.tup (([2, 3, 5] : List Int).map V.int)) := upd_same
  refine ⟨_, rfl, _, _, rfl, d, a, ns, _, _, rfl, rfl, hp2, by decide, by decide, by omega, fun r3 H3 r30 r31 hp3 b3 => ?_⟩
  have ht3 := tup_pen hp2 b3 ht2
  obtain ⟨z, hz, hat⟩ := cell_in (ns := [2, 3, 5]) r30 r31
  refine ⟨t, _, _, _, rfl, rfl, SqT.of ht3, hat, ?_⟩
  have hz2 : 2 ≤ z ∧ z ≤ 5 := by
    simp only [List.mem_cons, List.not_mem_nil, or_false] at hz
    omega
  obtain ⟨y, rfl⟩ : ∃ y : Nat, z = y := ⟨z.toNat, by omega⟩
  have hb3 := tup_pen hp2 b3 (s2 _ _ hb1)
  refine ⟨_, rfl, _, _, rfl, d, a, ns, _, _, rfl, rfl, hp3, by decide, by decide, by omega, fun way H4 w0 w1 hp4 b4 => ?_⟩
  have hb4 := tup_pen hp3 b4 hb3
  have b04 : But d H H4 := ((((But.same s0).trans b1).trans (But.same s2)).trans b3).trans b4
  have hp4' : Pen K H4 d a ns (c + 3) := hp4.mono (by omega)
  have done : ∀ (us : List Nat), us ≠ [] → us.length ≤ 2 → Lim m us → ∀ r H', Same H4 H' → H' r = some (.tup (iv (ms.take j ++ us ++ ms.drop (j + 1)))) → Q (.ref r) H' := fun us _ ul lu r H' s' h' => by
    refine q r H' _ h' ?_ (fun v hv => ?_) (hp4'.same s') (b04.trans (But.same s'))
    · rw [List.length_append, List.length_append, List.length_take, List.length_drop]
      omega
    · rcases List.mem_append.mp hv with z | z
      · rcases List.mem_append.mp z with z | z
        · exact lim v (List.mem_of_mem_take z)
        · exact lu v z
      · exact lim v (List.mem_of_mem_drop z)
  have kdrop : ((j : Int)) + 1 = ((j + 1 : Nat) : Int) := by omega
  have part : ∀ (us : List Nat), us ≠ [] → us.length ≤ 2 → Lim m us → ∀ (t1 : Addr) (H5 : Hp), Same H4 H5 → H5 t1 = some (.tup (iv (ms.take j))) → ∀ (t2 : Addr) (H6 : Hp), Same H5 H6 → H6 t2 = some (.tup (iv us)) → ∀ {Q2 : VK}, (∀ p H', Same H4 H' → H' p = some (.tup (iv (ms.take j ++ us))) → Q2 (.ref p) H') → rCatA K (.ref t1) (.ref t2) H6 Q2 := fun us _ ul _ t1 H5 s5 h5 t2 H6 s6 h6' Q2 q2 =>
    cat_iv (s6 _ _ h5) h6' (by rw [List.length_take]; omega) fun p H' s' h' => q2 p H' ((s5.trans s6).trans s') h'
  have yx : ∀ {q : Prop}, ((y : Nat) ∣ x → q) → ((x : Int)) % ((y : Nat) : Int) = 0 → q := fun h e => h (Int.natCast_dvd_natCast.mp (Int.dvd_of_emod_eq_zero e))
  try dsimp only [gName]
  refine seq_inv1 (fun σ' H' => σ' = [some (.ref d), some (.ref b), some (.int (m : Int)), some (.int (j : Int)), some (.int (x : Int)), some (.int (y : Int)), some (.int way)] ∧ H' = H4) ?_ ?_
  · rintro σ' H' ⟨rfl, rfl⟩
    refine seq_inv1 (fun σ' H2 => σ' = [some (.ref d), some (.ref b), some (.int (m : Int)), some (.int (j : Int)), some (.int (x : Int)), some (.int (y : Int)), some (.int way)] ∧ H2 = H') ?_ ?_
    · rintro σ' H5 ⟨rfl, rfl⟩
      refine seq_inv1 (fun σ' H2 => σ' = [some (.ref d), some (.ref b), some (.int (m : Int)), some (.int (j : Int)), some (.int (x : Int)), some (.int (y : Int)), some (.int way)] ∧ H2 = H5) ?_ ?_
      · rintro σ' H6 ⟨rfl, rfl⟩
        refine ⟨_, rfl, b, _, rfl, SqT.of hb4, fun p np => ?_⟩
        rw [iv_rev]
        exact q p _ ms.reverse upd_same (by rw [List.length_reverse]; exact h6) (fun v hv => lim v (List.mem_reverse.mp hv)) (hp4'.same (same_new np)) (b04.trans (But.new np))
      · intro tail
        refine ⟨_, rfl, rfl, _, rfl, ite2 (fun e1 => ?_) (fun e1 => ?_)⟩
        · refine ⟨_, rfl, _, rfl, _, _, rfl, rfl, (show (0 : Int) < ((y : Nat) : Int) by omega), rfl, _, rfl, ite2 (fun e2 => ?_) (fun e2 => ?_)⟩
          · refine yx (fun dv => ?_) (eq_yes e2)
            have q1 : 1 ≤ x / y := Nat.div_pos (Nat.le_of_dvd (by omega) dv) (by omega)
            have q2 : x / y ≤ x := Nat.div_le_self _ _
            have lu : Lim m [x / y] := fun v hv => by rw [List.mem_singleton.mp hv]; omega
            refine ⟨_, rfl, _, rfl, _, rfl, ?_⟩
            refine sl_take hb4 jl fun t1 H7 s5 h5 => ?_
            refine ⟨_, rfl, _, rfl, _, _, rfl, rfl, ⟨(show (0 : Int) < ((y : Nat) : Int) by omega), by omega⟩, (by show 1 ≤ sizeLine; decide), fun t2 n2 => ?_⟩
            refine part [x / y] (by simp) (by simp) lu t1 H7 s5 h5 t2 _ (same_new n2) (by rw [upd_same]; show _ = some (HO.tup [V.int ((x / y : Nat) : Int)]); rw [Int.natCast_ediv]) fun p H8 s7 h7 => ?_
            refine ⟨_, rfl, _, rfl, _, _, rfl, rfl, _, rfl, ?_⟩
            refine sl_drop (s7 _ _ hb4) jl kdrop fun p8 H9 s8 h8 => ?_
            refine cat_iv (s8 _ _ h7) h8 (by rw [List.length_append, List.length_take, List.length_drop]; simp; omega) fun p9 H10 s9 h9 => ?_
            exact done [x / y] (by simp) (by simp) lu p9 H10 ((s7.trans s8).trans s9) h9
          · exact tail _ _ ⟨rfl, rfl⟩
        · exact iteF (tail _ _ ⟨rfl, rfl⟩)
    · intro tail
      refine ⟨_, rfl, rfl, _, rfl, ite2 (fun e1 => ?_) (fun e1 => ?_)⟩
      · refine ⟨_, rfl, _, rfl, _, _, rfl, rfl, (show (0 : Int) < ((y : Nat) : Int) by omega), rfl, _, rfl, ite2 (fun e2 => ?_) (fun e2 => ?_)⟩
        · refine yx (fun dv => ?_) (eq_yes e2)
          have q1 : 1 ≤ x / y := Nat.div_pos (Nat.le_of_dvd (by omega) dv) (by omega)
          have q2 : x / y ≤ x := Nat.div_le_self _ _
          have lu : Lim m [x / y, y] := fun v hv => by
            simp only [List.mem_cons, List.not_mem_nil, or_false] at hv
            omega
          refine ⟨_, rfl, _, rfl, _, rfl, ?_⟩
          refine sl_take hb4 jl fun t1 H7 s5 h5 => ?_
          refine ⟨_, rfl, _, rfl, _, _, rfl, rfl, ⟨(show (0 : Int) < ((y : Nat) : Int) by omega), by omega⟩, _, rfl, (by show 2 ≤ sizeLine; decide), fun t2 n2 => ?_⟩
          refine part [x / y, y] (by simp) (by simp) lu t1 H7 s5 h5 t2 _ (same_new n2) (by rw [upd_same]; show _ = some (HO.tup [V.int ((x / y : Nat) : Int), V.int ((y : Nat) : Int)]); rw [Int.natCast_ediv]) fun p H8 s7 h7 => ?_
          refine ⟨_, rfl, _, rfl, _, _, rfl, rfl, _, rfl, ?_⟩
          refine sl_drop (s7 _ _ hb4) jl kdrop fun p8 H9 s8 h8 => ?_
          refine cat_iv (s8 _ _ h7) h8 (by rw [List.length_append, List.length_take, List.length_drop]; simp; omega) fun p9 H10 s9 h9 => ?_
          exact done [x / y, y] (by simp) (by simp) lu p9 H10 ((s7.trans s8).trans s9) h9
        · exact tail _ _ ⟨rfl, rfl⟩
      · exact iteF (tail _ _ ⟨rfl, rfl⟩)
  · intro tail
    refine ⟨_, rfl, rfl, _, rfl, ite2 (fun e1 => ?_) (fun e1 => ?_)⟩
    · refine ⟨_, rfl, _, rfl, _, _, rfl, rfl, .inl ⟨by omega, by omega⟩, _, rfl, _, _, rfl, rfl, _, rfl, ite2 (fun e2 => ?_) (fun e2 => ?_)⟩
      · have le : x * y ≤ m := by
          have h1 : ((x : Nat) : Int) * ((y : Nat) : Int) ≤ ((m : Nat) : Int) := of_decide_eq_true e2
          rw [← Int.natCast_mul] at h1
          omega
        have xy : 1 ≤ x * y := Nat.mul_pos (by omega) (by omega)
        refine ⟨_, rfl, _, rfl, _, rfl, ?_⟩
        refine sl_take hb4 jl fun t1 H5 s5 h5 => ?_
        refine ⟨_, rfl, _, rfl, _, _, rfl, rfl, .inl ⟨by omega, by omega⟩, (by show 1 ≤ sizeLine; decide), fun t2 n2 => ?_⟩
        have lu : Lim m [x * y] := fun v hv => by rw [List.mem_singleton.mp hv]; omega
        refine part [x * y] (by simp) (by simp) lu t1 H5 s5 h5 t2 _ (same_new n2) (by rw [upd_same]; show _ = some (HO.tup [V.int ((x * y : Nat) : Int)]); rw [Int.natCast_mul]) fun p H7 s7 h7 => ?_
        refine ⟨_, rfl, _, rfl, _, _, rfl, rfl, _, rfl, ?_⟩
        refine sl_drop (s7 _ _ hb4) jl kdrop fun p8 H8 s8 h8 => ?_
        refine cat_iv (s8 _ _ h7) h8 (by rw [List.length_append, List.length_take, List.length_drop]; simp; omega) fun p9 H9 s9 h9 => ?_
        exact done [x * y] (by simp) (by simp) lu p9 H9 ((s7.trans s8).trans s9) h9
      · exact tail _ _ ⟨rfl, rfl⟩
    · exact iteF (tail _ _ ⟨rfl, rfl⟩)

/-! ### the law's own least number and powers -/
theorem lim_bd {b : Nat} {ms : List Nat} (h : Lim b ms) (hb : b ≤ 1000000) : Bd ms := fun z hz => by
  have := h z hz
  omega
def gs (A B : List Nat) (l : List Nat) : List Nat := l.filter fun n => decide (F n A ≠ F n B)
theorem gs_snoc (A B l : List Nat) (x : Nat) : gs A B (l ++ [x]) = gs A B l ++ (if F x A = F x B then [] else [x]) := by
  unfold gs
  rw [List.filter_append]
  by_cases z : F x A = F x B
  · rw [if_pos z]
    simp [z]
  · rw [if_neg z]
    simp [z]
theorem gs_mem {A B l : List Nat} {z : Nat} : z ∈ gs A B l ↔ z ∈ l ∧ Apt A B z := by
  unfold gs
  rw [List.mem_filter, decide_eq_true_iff]
  rfl
theorem gs_least {A B l : List Nat} (up : l.Pairwise (· < ·)) {P : Nat → Prop} (h : ∀ n, (n ∈ l ∧ Apt A B n) ↔ P n) : Least P (gs A B l).head? := by
  have u2 : (gs A B l).Pairwise (· < ·) := up.filter _
  have m2 : ∀ n, n ∈ gs A B l ↔ P n := fun n => by rw [gs_mem, h n]
  cases e : gs A B l with
  | nil =>
    intro n hn
    have := (m2 n).mpr hn
    rw [e] at this
    simp at this
  | cons g r =>
    rw [e] at u2 m2
    refine ⟨(m2 g).mp List.mem_cons_self, fun n hn => ?_⟩
    rcases List.mem_cons.mp ((m2 n).mpr hn) with z | z
    · omega
    · have := (List.pairwise_cons.mp u2).1 n z
      omega
def rLe : V → V → Hp → VK → Prop := fun x y H Q => ∃ (a : Addr) (A : List Nat) (b : Addr) (B : List Nat), x = .ref a ∧ y = .ref b ∧ H a = some (.tup (iv A)) ∧ H b = some (.tup (iv B)) ∧ A.length ≤ 6 ∧ B.length ≤ 6 ∧ Bd A ∧ Bd B ∧
  ∀ H' (o : Option Nat), Same H H' → Least (fun n => 1 ≤ n ∧ n ≤ 30 ∧ Apt A B n) o → Q (ov o) H'
theorem head_at {g : List Nat} : atI (iv g ++ [V.non]) 0 = some (ov g.head?) := by
  cases g with
  | nil => exact atI_nat (j := 0) rfl
  | cons x r => exact atI_nat (j := 0) rfl
theorem ok_law_least (T : Txt K mg) : Fn P w K mg base 3 "_law_least" ["_law_one", "_law_other"] (sp2 rLe) := by
  have G_law_count := ok_law_count (P := P) (w := w) (base := base) T
  refine T.d_law_least.ok sc_law_least len2 fun f cdv Ar outer s H vs Q E hr hg h => ?_
  obtain ⟨_, _, rfl, a, A, b, B, rfl, rfl, ha, hb, lA, lB, bA, bB, q⟩ := h
  refine ⟨_, (pss_cons (ps_setLc (i := 2) (own := [("_law_n", 3)]) rfl sc_law_least.nd rfl rfl (sw_true rfl rfl rfl (by decide +kernel)) (pi_range2 (by rfl) T.n_range (pa_cons pe_int (pa_cons pe_int pa_nil))) (blkOk_by (own := [("_law_n", 3)]) (N := N_law_least) (sc := defScope s_law_least) (by decide +kernel)) (fun _ _ _ _ _ => (pg_name (i := 3) sc_law_least.nd rfl (by first | exact Or.inl rfl | exact Or.inr rfl))) (fun _ _ _ _ _ => (pts_one (pt_cmpR op_ne (pe_fn G_law_count (hr.mono (by decide)) hg (by rfl) (pa_cons (pv 0) (pa_cons (pv 3) pa_nil))) (pe_fn G_law_count (hr.mono (by decide)) hg (by rfl) (pa_cons (pv 1) (pa_cons (pv 3) pa_nil))) (nomark _)))) (fun _ _ _ _ _ => (pv 3)))
(pss_one (ps_ret (pe_ix (ixL_K (K := K) rfl) (pe_op op_cat (pv 2) (pe_lst (pa_cons pe_non pa_nil))) pe_int (fun _ _ => rfl))))), ?_⟩
  refine ⟨_, _, rfl, ⟨by decide, by decide, by decide, by decide⟩, fun D nD => lc_range (lo := 1) (n := ((31 : Int) - 1).toNat) (fun k H' => Same H H' ∧ H' D = some (.lst (iv (gs A B ((List.range k).map fun i => i + 1))))) ⟨same_new nD, upd_same⟩ ?_ ?_⟩
  · rintro k H1 kl ⟨s1, hD⟩
    have kl2 : k < 30 := kl
    have hn : V.int (1 + (k : Int)) = V.int (((k + 1 : Nat)) : Int) := congrArg V.int (by omega)
    have gl : (gs A B ((List.range k).map fun i => i + 1)).length ≤ 30 := by
      unfold gs
      refine Nat.le_trans (List.length_filter_le _ _) ?_
      rw [List.length_map, List.length_range]
      omega
    have nxt : gs A B ((List.range (k + 1)).map fun i => i + 1) = gs A B ((List.range k).map fun i => i + 1) ++ (if F (k + 1) A = F (k + 1) B then [] else [k + 1]) := by
      rw [List.range_succ, List.map_append]
      exact gs_snoc A B _ (k + 1)
    refine ⟨rfl, _, rfl, _, rfl, _, _, rfl, a, A, k + 1, rfl, hn, s1 _ _ ha, lA, bA, _, rfl, _, rfl, _, _, rfl, b, B, k + 1, rfl, hn, s1 _ _ hb, lB, bB, rfl, _, rfl, ite2 (fun e => ?_) (fun e => ?_)⟩
    · have ne : F (k + 1) A ≠ F (k + 1) B := fun z => ne_yes e (by rw [z])
      refine ⟨_, rfl, _, hD, by rw [iv_len]; exact small1000 (by omega), fresh_upd s1 nD, ?_⟩
      rw [upd_same, nxt, if_neg ne, iv_app, hn]
      rfl
    · have eq : F (k + 1) A = F (k + 1) B := by
        have := ne_no e
        omega
      refine ⟨s1, ?_⟩
      rw [nxt, if_pos eq, List.append_nil]
      exact hD
  · rintro H1 ⟨s1, hD⟩
    refine ⟨_, rfl, (by show 1 ≤ sizeLine; decide), fun l nl => ⟨D, l, _, _, rfl, rfl, (same_new nl) _ _ hD, upd_same, ?_, fun p np => ?_⟩⟩
    · rw [iv_len]
      unfold gs
      refine Nat.le_trans (Nat.add_le_add_right (List.length_filter_le _ _) _) ?_
      rw [List.length_map, List.length_range]
      decide
    · refine ⟨p, _, _, _, rfl, rfl, SqL.of upd_same, head_at, ?_⟩
      refine q _ _ ((s1.trans (same_new nl)).trans (same_new np)) (gs_least ?_ fun n => ?_)
      · rw [List.pairwise_map]
        exact List.pairwise_lt_range.imp fun h => by omega
      · rw [List.mem_map]
        constructor
        · rintro ⟨⟨i, hi, rfl⟩, d⟩
          have := List.mem_range.mp hi
          have h30 : ((31 : Int) - 1).toNat = 30 := rfl
          exact ⟨by omega, by omega, d⟩
        · rintro ⟨n1, n2, d⟩
          have h30 : ((31 : Int) - 1).toNat = 30 := rfl
          exact ⟨⟨n - 1, List.mem_range.mpr (by omega), by omega⟩, d⟩
theorem nat_up {u : List Int} {l : List Nat} (up : u.Pairwise (· < ·)) (h : ∀ j, j ∈ u ↔ j ∈ l.map fun n : Nat => (n : Int)) : ∃ us : List Nat, (u = us.map fun n : Nat => (n : Int)) ∧ us.Pairwise (· < ·) ∧ ∀ n, n ∈ us ↔ n ∈ l := by
  have e : u = (u.map Int.toNat).map fun n : Nat => (n : Int) := by
    rw [List.map_map]
    refine (List.map_id u).symm.trans (List.map_congr_left fun x hx => ?_)
    obtain ⟨y, _, rfl⟩ := List.mem_map.mp ((h x).mp hx)
    rfl
  refine ⟨u.map Int.toNat, e, ?_, fun n => ?_⟩
  · rw [e, List.pairwise_map] at up
    exact up.imp fun h => by omega
  · constructor
    · intro hn
      have : ((n : Nat) : Int) ∈ u := by rw [e]; exact List.mem_map_of_mem hn
      obtain ⟨y, hy, e2⟩ := List.mem_map.mp ((h _).mp this)
      have : y = n := by omega
      rw [← this]
      exact hy
    · intro hn
      have := (h (n : Int)).mpr (List.mem_map_of_mem hn)
      rw [e] at this
      obtain ⟨y, hy, e2⟩ := List.mem_map.mp this
      have : y = n := by omega
      rw [← this]
      exact hy
def rPs : V → Hp → VK → Prop := fun x H Q => ∃ (b : Addr) (ms : List Nat), x = .ref b ∧ H b = some (.tup (iv ms)) ∧ ms.length ≤ 12 ∧ Bd ms ∧
  ∀ r H' (u : List Nat), Same H H' → H' r = some (.lst (iv u)) → u.Pairwise (· < ·) → (∀ q, q ∈ u ↔ PP ms q) → u.length ≤ 4000 → Q (.ref r) H'
theorem ok_law_powers (T : Txt K mg) : Fn P w K mg base 2 "_law_powers" ["_law_house_here"] (sp1 rPs) := by
  have G_law_factors := ok_law_factors (P := P) (w := w) (base := base) T
  refine T.d_law_powers.ok sc_law_powers len1 fun f cdv Ar outer s H vs Q E hr hg h => ?_
  obtain ⟨_, rfl, b, ms, rfl, hb, l12, bd, q⟩ := h
  refine ⟨_, (pss_cons (ps_set (i := 1) sc_law_powers.nd rfl (by first | exact Or.inl rfl | exact Or.inr rfl) (pe_lst pa_nil))
(pss_cons (ps_for PassesOwn.never rfl (piT_K (K := K) rfl (pv 0)) (pg_name (i := 2) sc_law_powers.nd rfl (by first | exact Or.inl rfl | exact Or.inr rfl))
(pss_one (ps_for PassesOwn.never rfl (piL_K (K := K) rfl (pe_fn G_law_factors (hr.mono (by decide)) hg (by rfl) (pa_cons (pv 2) pa_nil))) (pg_tup rfl (pgs_cons (pg_name (i := 3) sc_law_powers.nd rfl (by first | exact Or.inl rfl | exact Or.inr rfl)) (pgs_cons (pg_name (i := 4) sc_law_powers.nd rfl (by first | exact Or.inl rfl | exact Or.inr rfl)) pgs_nil)))
(pss_cons (ps_set (i := 5) sc_law_powers.nd rfl (by first | exact Or.inl rfl | exact Or.inr rfl) pe_int)
(pss_one (ps_for PassesOwn.never rfl (pi_range1 (by rfl) T.n_range (pa_cons (pv 4) pa_nil)) (pg_name (i := 6) sc_law_powers.nd rfl (by first | exact Or.inl rfl | exact Or.inr rfl))
(pss_cons (ps_set (i := 5) sc_law_powers.nd rfl (by first | exact Or.inl rfl | exact Or.inr rfl) (pe_op op_mul (pv 5) (pv 3)))
(pss_one (ps_expr (pe_bm PySem.F.plainAttrs_list PySem.F.slot_list_append PySem.F.type_list_append mt_append (pv 1) (pa_cons (pv 5) pa_nil)))))))))))
(pss_one (ps_ret (SL.pe_sortedSetN rfl (by rfl) T.n_sorted (by rfl) T.n_set (pv 1)))))), ?_⟩
  refine ⟨Nat.zero_le _, fun D nD => ?_⟩
  have hb1 : (upd H D (.lst [])) b = some (.tup (iv ms)) := (same_new nD) _ _ hb
  have hD1 : (upd H D (.lst [])) D = some (.lst []) := upd_same
  have s1 := same_new (H := H) (o := .lst []) nD
  generalize upd H D (.lst []) = H1 at *
  have nbD : b ≠ D := ne_of hb1 hD1 (by intro z; cases z)
  refine ⟨_, rfl, b, rfl, ⟨_, SqT.of hb1⟩, for_tup (K := K) (a := b) (xs := iv ms) (fun i σ H' => ∃ (o2 o3 o4 o5 o6 : Option V) (fl : List Nat), σ = [some (.ref b), some (.ref D), o2, o3, o4, o5, o6] ∧ But D H1 H' ∧ H' D = some (.lst (iv fl)) ∧ (∀ q, q ∈ fl ↔ PP (ms.take i) q) ∧ fl.length ≤ 160 * i)
    ⟨none, none, none, none, none, [], rfl, But.refl D H1, hD1, fun q => ⟨fun h => by simp at h, fun ⟨h, hh, _⟩ => by simp at hh⟩, Nat.le_refl _⟩ (fun i σ H' _ ⟨_, _, _, _, _, _, _, bb, _⟩ => SqT.of (bb _ _ nbD hb1)) ?_ ?_⟩
  · rintro i v σ H2 hi ⟨o2, o3, o4, o5, o6, fl, rfl, b2, hD2, mem, fll⟩
    obtain ⟨x, hx, rfl⟩ := iv_get hi
    have xb := bd x (List.mem_of_getElem? hx)
    have il : i < 12 := by
      have := (List.getElem?_eq_some_iff.mp hx).1
      omega
    refine ⟨_, rfl, _, rfl, x, rfl, xb.1, xb.2, fun qs R H3 nR fc s3 hpl => ?_⟩
    obtain ⟨ts, hR, hts⟩ := hpl
    have q8 := fc.few xb.2
    have tl : ts.length = qs.length := by
      have := Paired.length hts
      rw [List.length_map] at this
      exact this
    have hD3 := s3 _ _ hD2
    have es := exp_small fc xb.2 xb.1
    have nRD : R ≠ D := by
      rintro rfl
      rw [hD2] at nR
      cases nR
    refine ⟨R, rfl, ⟨_, SqL.of hR⟩, for_list (K := K) (a := R) (xs := ts.map V.ref) (fun j σ H' => ∃ (o3 o4 o5 o6 : Option V) (gl : List Nat), σ = [some (.ref b), some (.ref D), some (.int (x : Int)), o3, o4, o5, o6] ∧ But D H3 H' ∧ H' D = some (.lst (iv gl)) ∧ (∀ q, q ∈ gl ↔ q ∈ fl ∨ q ∈ pws (qs.take j)) ∧ gl.length ≤ fl.length + 20 * j)
      ⟨o3, o4, o5, o6, fl, rfl, But.refl D H3, hD3, fun q => ⟨.inl, fun h => h.elim id fun z => by simp [pws] at z⟩, Nat.le_refl _⟩ (fun j σ H' _ ⟨_, _, _, _, _, _, bb, _⟩ => SqL.of (bb _ _ nRD hR)) ?_ ?_⟩
    · rintro j v σ H4 hj ⟨o3, o4, o5, o6, gl, rfl, b4, hD4, mem4, gll⟩
      obtain ⟨u, htj, rfl⟩ := ref_at hj
      obtain ⟨pe, hpe, ht⟩ := paired_get hts htj
      rw [List.getElem?_map] at hpe
      obtain ⟨⟨p, e⟩, hqe, rfl⟩ := Option.map_eq_some_iff.mp hpe
      have hmem := List.mem_of_getElem? hqe
      have hp := fc.pr _ hmem
      have hp2 : 2 ≤ p := hp.1
      obtain ⟨e20, small⟩ := es _ hmem
      replace e20 : e ≤ 20 := e20
      have jl : j < qs.length := (List.getElem?_eq_some_iff.mp hqe).1
      have hu4 : H4 u = some (.tup [.int (p : Int), .int (e : Int)]) := b4 _ _ (ne_of ht hD3 (by intro z; cases z)) ht
      refine ⟨u, _, rfl, SqT.of hu4, rfl, _, _, rfl, _, _, rfl, rfl, ?_⟩
      refine ⟨_, rfl, ((e : Nat) : Int), rfl, by omega, by omega, for_range (lo := 0) (n := e) (fun k σ H' => ∃ o6 : Option V, σ = [some (.ref b), some (.ref D), some (.int (x : Int)), some (.int (p : Int)), some (.int (e : Int)), some (.int ((p ^ k : Nat) : Int)), o6] ∧ But D H3 H' ∧ H' D = some (.lst (iv (gl ++ (List.range k).map fun j => p ^ (j + 1)))))
        ⟨o6, rfl, b4, by rw [List.range_zero, List.map_nil, List.append_nil]; exact hD4⟩ ?_ ?_⟩
      · rintro k σ H5 kl ⟨o6, rfl, b5, hD5⟩
        have bk := small k (by show k ≤ e; omega)
        replace bk : p ^ k ≤ 1000000 := bk
        have e2 : ((p ^ k : Nat) : Int) * ((p : Nat) : Int) = ((p ^ (k + 1) : Nat) : Int) := by rw [← Int.natCast_mul, Nat.pow_succ]
        refine ⟨_, rfl, _, rfl, _, _, rfl, rfl, .inl ⟨by omega, by omega⟩, ?_⟩
        refine ⟨_, rfl, .inl ⟨rfl, _, SqL.of hD5⟩, _, rfl, D, _, _, rfl, rfl, hD5, ?_, some (.int (0 + (k : Int))), ?_, b5.trans But.upd, ?_⟩
        · rw [iv_len, List.length_append, List.length_map, List.length_range]
          exact Nat.lt_of_le_of_lt (show gl.length + k ≤ 4000 by omega) (by decide)
        · rw [← e2]
          rfl
        · have e3 : iv (gl ++ (List.range (k + 1)).map fun j => p ^ (j + 1)) = iv (gl ++ (List.range k).map fun j => p ^ (j + 1)) ++ [V.int ((p ^ (k + 1) : Nat) : Int)] := by
            rw [List.range_succ, List.map_append, ← List.append_assoc, iv_app]
            rfl
          rw [upd_same, e3, ← e2]
      · rintro σ H5 ⟨o6, rfl, b5, hD5⟩
        refine ⟨_, _, _, _, gl ++ (List.range e).map (fun j => p ^ (j + 1)), rfl, b5, hD5, fun z => ?_, ?_⟩
        · have e1 : pws (qs.take (j + 1)) = pws (qs.take j) ++ (List.range e).map (fun j => p ^ (j + 1)) := by
            unfold pws
            rw [take_one hqe, List.map_append, List.flatten_append]
            simp
          rw [e1, List.mem_append, List.mem_append, mem4 z, or_assoc]
        · rw [List.length_append, List.length_map, List.length_range]
          omega
    · rintro σ H4 ⟨o3, o4, o5, o6, gl, rfl, b4, hD4, mem4, gll⟩
      rw [List.length_map, tl, List.take_length] at mem4
      rw [List.length_map, tl] at gll
      refine ⟨_, _, _, _, _, gl, rfl, (b2.trans (But.same s3)).trans b4, hD4, fun z => ?_, by omega⟩
      rw [mem4 z, mem z, take_one hx, pp_app, pws_pp fc]
  · rintro σ H2 ⟨o2, o3, o4, o5, o6, fl, rfl, b2, hD2, mem, fll⟩
    rw [iv_len, List.take_length] at mem
    rw [iv_len] at fll
    have s02 : Same H H2 := fun x o e => b2 _ _ (ne_of_none e nD) (s1 _ _ e)
    rw [iv_eq] at hD2
    refine ⟨_, rfl, D, _, rfl, SqL.of hD2, by rw [List.length_map]; omega, fun u p up um ul np => ?_⟩
    obtain ⟨us, rfl, up2, mem2⟩ := nat_up up um
    refine q p _ us (s02.trans (same_new np)) (by rw [upd_same, iv_eq]) up2 (fun z => by rw [mem2 z, mem z]) ?_
    rw [List.length_map, List.length_map] at ul
    omega
def rWh : V → Hp → VK → Prop := fun x H Q => ∃ i, x = .int i ∧ Q (.bl true) H
theorem ok_law_whole (T : Txt K mg) : Fn P w K mg base 1 "_law_whole" ["_law_thing_here"] (sp1 rWh) := by
  refine T.d_law_whole.ok sc_law_whole len1 fun f cdv A outer s H vs Q E hr hg h => ?_
  obtain ⟨_, rfl, i, rfl, q⟩ := h
  refine ⟨_, (pss_one (ps_ret (pe_and (pe_callB (isi_K (K := K) rfl) (by rfl) T.n_isinstance (by decide +kernel) (pa_cons (pv 0) (pa_cons (pe_bltn (v := .ty "int") (by rfl) T.n_int (by decide +kernel) rfl) pa_nil))) (pe_one (pe_not (pe_callB (isi_K (K := K) rfl) (by rfl) T.n_isinstance (by decide +kernel) (pa_cons (pv 0) (pa_cons (pe_bltn (v := .ty "bool") (by rfl) T.n_bool (by decide +kernel) rfl) pa_nil)))))))), ?_⟩
  refine ⟨_, rfl, _, _, _, _, true, rfl, .ty "int", .base (.int _), kit_ty (by decide +kernel), true, rfl, iteT ?_⟩
  refine ⟨_, rfl, _, _, _, _, false, rfl, .ty "bool", .base (.int _), kit_ty (by decide +kernel), false, rfl, ?_⟩
  exact q
def rGr : V → V → Hp → VK → Prop := fun x y H Q => ∃ (a : Addr) (A : List Nat) (b : Addr) (B : List Nat), x = .ref a ∧ y = .ref b ∧ H a = some (.tup (iv A)) ∧ H b = some (.tup (iv B)) ∧ A.length ≤ 6 ∧ B.length ≤ 6 ∧ Bd A ∧ Bd B ∧ ∀ H', Same H H' → Q (.bl true) H'
theorem ok_law_great_right (T : Txt K mg) : Fn P w K mg base 4 "_law_great_right" ["_law_one", "_law_other"] (sp2 rGr) := by
  have G_apart_at := ok_apart_at (P := P) (w := w) (base := base) T
  have G_law_powers := ok_law_powers (P := P) (w := w) (base := base) T
  have G_law_count := ok_law_count (P := P) (w := w) (base := base) T
  have G_law_whole := ok_law_whole (P := P) (w := w) (base := base) T
  refine T.d_law_great_right.ok sc_law_great_right len2 fun f cdv Ar outer s H vs Q E hr hg h => ?_
  obtain ⟨_, _, rfl, a, A, b, B, rfl, rfl, ha, hb, lA, lB, bA, bB, q⟩ := h
  refine ⟨_, (pss_cons (ps_set (i := 2) sc_law_great_right.nd rfl (by first | exact Or.inl rfl | exact Or.inr rfl) (pe_fn G_apart_at (hr.mono (by decide)) hg (by rfl) (pa_cons (pv 0) (pa_cons (pv 1) pa_nil))))
(pss_cons (ps_setLc (i := 3) (own := [("_law_n", 4)]) rfl sc_law_great_right.nd rfl rfl (sw_true rfl rfl rfl (by decide +kernel)) (piL_K (K := K) rfl (pe_fn G_law_powers (hr.mono (by decide)) hg (by rfl) (pa_cons (pe_op (cat_K (K := K) rfl) (pv 0) (pv 1)) pa_nil))) (blkOk_by (own := [("_law_n", 4)]) (N := N_law_great_right) (sc := defScope s_law_great_right) (by decide +kernel)) (fun _ _ _ _ _ => (pg_name (i := 4) sc_law_great_right.nd rfl (by first | exact Or.inl rfl | exact Or.inr rfl))) (fun _ _ _ _ _ => (pts_one (pt_cmpR op_ne (pe_fn G_law_count (hr.mono (by decide)) hg (by rfl) (pa_cons (pv 0) (pa_cons (pv 4) pa_nil))) (pe_fn G_law_count (hr.mono (by decide)) hg (by rfl) (pa_cons (pv 1) (pa_cons (pv 4) pa_nil))) (nomark _)))) (fun _ _ _ _ _ => (pv 4)))
(pss_cons (ps_if (pt_cmpR (op_eqLE hr) (pv 3) (pe_lst pa_nil) (nomark _))
(pss_one (ps_ret (pe_cmpR op_isN (pv 2) pe_non (nomark _))))
pss_nil)
(pss_one (ps_ret (pe_and (pe_fn G_law_whole (hr.mono (by decide)) hg (by rfl) (pa_cons (pv 2) pa_nil)) (pe_one (pe_cmpR op_eq (pv 2) (pe_ix (ixL_K (K := K) rfl) (pv 3) pe_int (fun _ _ => rfl)) (nomark _))))))))), ?_⟩
  refine ⟨_, rfl, _, rfl, _, _, rfl, a, A, b, B, rfl, rfl, ha, hb, lA, lB, bA, bB, fun H1 o s1 le om => ?_⟩
  have ha1 := s1 _ _ ha
  have hb1 := s1 _ _ hb
  have bAB : Bd (A ++ B) := fun z hz => by
    rcases List.mem_append.mp hz with y | y
    · exact bA z y
    · exact bB z y
  refine ⟨_, rfl, _, rfl, ?_⟩
  refine cat_iv ha1 hb1 (by omega) fun p H2 s2 h2 => ?_
  refine ⟨_, rfl, p, A ++ B, rfl, h2, by rw [List.length_append]; omega, bAB, fun r H3 u s3 hr3 up mem ul => ?_⟩
  have s13 := s2.trans s3
  refine ⟨r, rfl, ⟨_, SqL.of hr3⟩, fun D nD => lc_list (K := K) (a := r) (xs := iv u) (fun k H' => Same H3 H' ∧ H' D = some (.lst (iv (gs A B (u.take k))))) ⟨same_new nD, upd_same⟩ (fun k H' _ ⟨s4, _⟩ => SqL.of (s4 _ _ hr3)) ?_ ?_⟩
  · rintro k v H4 hk ⟨s4, hD⟩
    obtain ⟨n, hn, rfl⟩ := iv_get hk
    have kl : k < u.length := (List.getElem?_eq_some_iff.mp hn).1
    have s14 := s13.trans s4
    have gl : (gs A B (u.take k)).length ≤ 4000 := by
      unfold gs
      refine Nat.le_trans (List.length_filter_le _ _) ?_
      rw [List.length_take]
      omega
    refine ⟨rfl, _, rfl, _, rfl, _, _, rfl, a, A, n, rfl, rfl, s14 _ _ ha1, lA, bA, _, rfl, _, rfl, _, _, rfl, b, B, n, rfl, rfl, s14 _ _ hb1, lB, bB, rfl, _, rfl, ite2 (fun e => ?_) (fun e => ?_)⟩
    · have ne : F n A ≠ F n B := fun z => ne_yes e (by rw [z])
      refine ⟨_, rfl, _, hD, by rw [iv_len]; exact Nat.lt_of_le_of_lt gl (by decide), fresh_upd s4 nD, ?_⟩
      rw [upd_same, take_one hn, gs_snoc, if_neg ne, iv_app]
      rfl
    · have eq : F n A = F n B := by
        have := ne_no e
        omega
      refine ⟨s4, ?_⟩
      rw [take_one hn, gs_snoc, if_pos eq, List.append_nil]
      exact hD
  · rintro H4 ⟨s4, hD⟩
    rw [iv_len, List.take_length] at hD
    have le2 : Least (fun q => PP (A ++ B) q ∧ Apt A B q) (gs A B u).head? := gs_least up fun n => by rw [mem n]
    have eo := least_uniq le le2
    refine ⟨_, rfl, Nat.zero_le _, fun l nl => ⟨D, l, _, rfl, rfl, (same_new nl) _ _ hD, upd_same, _, rfl, ite2 (fun e => ?_) (fun e => ?_)⟩⟩
    · have g0 : gs A B u = [] := by
        have : (iv (gs A B u)).isEmpty = true := e
        rw [List.isEmpty_iff] at this
        exact List.map_eq_nil_iff.mp this
      rw [g0] at eo
      obtain rfl : o = none := eo
      refine ⟨_, rfl, rfl, ?_⟩
      rw [show ov none = V.non from rfl, decide_eq_true rfl]
      exact q _ ((s1.trans s13).trans (s4.trans (same_new nl)))
    · cases hg2 : gs A B u with
      | nil =>
        exfalso
        rw [hg2] at e
        exact e rfl
      | cons g t =>
        rw [hg2] at eo hD
        obtain rfl : o = some g := eo
        refine ⟨_, rfl, _, rfl, (g : Int), rfl, true, rfl, iteT ?_⟩
        refine ⟨_, rfl, _, rfl, D, _, _, _, rfl, rfl, SqL.of ((same_new nl) _ _ hD), atI_nat (j := 0) rfl, rfl, ?_⟩
        rw [show ov (some g) = V.int (g : Int) from rfl, decide_eq_true rfl]
        exact q _ ((s1.trans s13).trans (s4.trans (same_new nl)))

theorem nats_of {hs : List Int} (h : ∀ x ∈ hs, 1 ≤ x ∧ x ≤ 1000000) : ∃ ms : List Nat, hs.map V.int = iv ms ∧ ms.length = hs.length ∧ Bd ms := by
  refine ⟨hs.map Int.toNat, ?_, List.length_map _, fun z hz => ?_⟩
  · unfold iv
    rw [List.map_map]
    refine List.map_congr_left fun x hx => ?_
    have := h x hx
    show V.int x = V.int ((x.toNat : Nat) : Int)
    rw [Int.toNat_of_nonneg (by omega)]
  · obtain ⟨x, hx, rfl⟩ := List.mem_map.mp hz
    have := h x hx
    omega

/-! ### the law -/
def spLaw (K : PySem.W.Frag) : Sp := fun vs H Q _ => ∃ (a : Addr) (ns : List Int), vs = [.ref a] ∧ SqL K H a (ns.map V.int) ∧ ns.length ≤ 63 ∧ ∀ H', Q (.bl true) H'
theorem ok_law {f : Addr} {fd : FuncData} (T : Txt K mg) (Fu : Fun K "law" "law" s_law f fd) : FnG P w K mg base CX0 5 f fd ["_law_script"] (spLaw K) := by
  have G_law_pen := ok_law_pen (P := P) (w := w) (base := base) T
  have G_law_draw := ok_law_draw (P := P) (w := w) (base := base) T
  have G_law_house := ok_law_house (P := P) (w := w) (base := base) T
  have G_law_small := ok_law_small (P := P) (w := w) (base := base) T
  have G_law_near := ok_law_near (P := P) (w := w) (base := base) T
  have G_law_least := ok_law_least (P := P) (w := w) (base := base) T
  have G_apart_at := ok_apart_at (P := P) (w := w) (base := base) T
  have G_law_great_right := ok_law_great_right (P := P) (w := w) (base := base) T
  refine fng_mk Fu sc_law (fun vs H Q E h => ?_) (fun cdv Ar outer s H vs Q E hr hg h => ?_)
  · obtain ⟨a, ns, rfl, _⟩ := h
    rfl
  obtain ⟨a0, ns, rfl, hS, hl, q⟩ := h
  refine ⟨_, PSs.nox (pss_cons (ps_set (i := 1) sc_law.nd rfl (by first | exact Or.inl rfl | exact Or.inr rfl) (pe_fn G_law_pen (hr.mono (by decide)) hg (by rfl) (pa_cons (pv 0) pa_nil)))
(pss_cons (ps_for PassesOwn.never rfl (pi_range1 (by rfl) T.n_range (pa_cons pe_int pa_nil)) (pg_name (i := 2) sc_law.nd rfl (by first | exact Or.inl rfl | exact Or.inr rfl))
(pss_cons (ps_set (i := 3) sc_law.nd rfl (by first | exact Or.inl rfl | exact Or.inr rfl) (pe_fn G_law_small (hr.mono (by decide)) hg (by rfl) (pa_cons (pv 1) pa_nil)))
(pss_cons (ps_set (i := 4) sc_law.nd rfl (by first | exact Or.inl rfl | exact Or.inr rfl) (pe_ix (ixL_K (K := K) rfl) (pe_lst (pa_cons (pe_fn G_law_small (hr.mono (by decide)) hg (by rfl) (pa_cons (pv 1) pa_nil)) (pa_cons (pe_fn G_law_near (hr.mono (by decide)) hg (by rfl) (pa_cons (pv 1) (pa_cons (pv 3) (pa_cons pe_int pa_nil)))) (pa_cons (pe_fn G_law_near (hr.mono (by decide)) hg (by rfl) (pa_cons (pv 1) (pa_cons (pv 3) (pa_cons pe_int pa_nil)))) pa_nil)))) (pe_fn G_law_draw (hr.mono (by decide)) hg (by rfl) (pa_cons (pv 1) (pa_cons pe_int pa_nil))) (fun _ _ => rfl)))
(pss_cons (ps_set (i := 5) sc_law.nd rfl (by first | exact Or.inl rfl | exact Or.inr rfl) (pe_fn G_law_least (hr.mono (by decide)) hg (by rfl) (pa_cons (pv 3) (pa_cons (pv 4) pa_nil))))
(pss_one (ps_for PassesOwn.never rfl (pi_tup (pe_tup (pa_cons (pe_fn G_apart_at (hr.mono (by decide)) hg (by rfl) (pa_cons (pv 3) (pa_cons (pv 4) pa_nil))) (pa_cons (pe_fn G_apart_at (hr.mono (by decide)) hg (by rfl) (pa_cons (pv 4) (pa_cons (pv 3) pa_nil))) pa_nil)))) (pg_name (i := 6) sc_law.nd rfl (by first | exact Or.inl rfl | exact Or.inr rfl))
(pss_one (ps_if (pt_cmpR op_ne (pe_callB call_reprO (by rfl) T.n_repr (by decide +kernel) (pa_cons (pv 6) pa_nil)) (pe_callB call_reprO (by rfl) T.n_repr (by decide +kernel) (pa_cons (pv 5) pa_nil)) (nomark _))
(pss_one (ps_ret pe_bl))
pss_nil))))))))
(pss_cons (ps_set (i := 3) sc_law.nd rfl (by first | exact Or.inl rfl | exact Or.inr rfl) (pe_fn G_law_house (hr.mono (by decide)) hg (by rfl) (pa_cons (pv 1) pa_nil)))
(pss_cons (ps_set (i := 4) sc_law.nd rfl (by first | exact Or.inl rfl | exact Or.inr rfl) (pe_ix (ixL_K (K := K) rfl) (pe_lst (pa_cons (pe_fn G_law_house (hr.mono (by decide)) hg (by rfl) (pa_cons (pv 1) pa_nil)) (pa_cons (pe_fn G_law_near (hr.mono (by decide)) hg (by rfl) (pa_cons (pv 1) (pa_cons (pv 3) (pa_cons (pe_op op_pow pe_int pe_int) pa_nil)))) pa_nil))) (pe_fn G_law_draw (hr.mono (by decide)) hg (by rfl) (pa_cons (pv 1) (pa_cons pe_int pa_nil))) (fun _ _ => rfl)))
(pss_one (ps_ret (pe_and (pe_fn G_law_great_right (hr.mono (by decide)) hg (by rfl) (pa_cons (pv 3) (pa_cons (pv 4) pa_nil))) (pe_and (pe_fn G_law_great_right (hr.mono (by decide)) hg (by rfl) (pa_cons (pv 4) (pa_cons (pv 3) pa_nil))) (pe_one (pe_cmpR op_isN (pe_fn G_apart_at (hr.mono (by decide)) hg (by rfl) (pa_cons (pv 3) (pa_cons (pv 3) pa_nil))) pe_non (nomark _))))))))))), ?_⟩
  refine ⟨_, rfl, _, rfl, a0, ns, rfl, hS, fun d H1 nd sm hp => ?_⟩
  refine ⟨2, rfl, by decide, by decide, for_range (lo := 0) (n := 2) (fun k σ H' => ∃ o2 o3 o4 o5 o6 : Option V, σ = [some (.ref a0), some (.ref d), o2, o3, o4, o5, o6] ∧ Pen K H' d a0 ns (20 * k)) ⟨none, none, none, none, none, rfl, by simpa using hp⟩ ?_ ?_⟩
  · rintro k σ H2 hk ⟨o2, o3, o4, o5, o6, rfl, hp2⟩
    refine ⟨_, rfl, _, rfl, d, a0, ns, _, rfl, hp2, by omega, fun a H3 A ha lA limA hp3 b3 => ?_⟩
    have bA := lim_bd limA (by decide)
    -- other
    refine ⟨_, rfl, _, rfl, d, a0, ns, _, rfl, hp3, by omega, fun x1 H4 B1 hx1 l1 lim1 hp4 b4 => ?_⟩
    have ha4 := tup_pen hp3 b4 ha
    refine ⟨_, rfl, _, rfl, _, _, _, rfl, d, a0, ns, _, a, A, 30, rfl, rfl, rfl, hp4, by omega, ha4, lA, limA, by decide, by decide, fun x2 H5 B2 hx2 l2 lim2 hp5 b5 => ?_⟩
    have ha5 := tup_pen hp4 b5 ha4
    have hx15 := tup_pen hp4 b5 hx1
    refine ⟨_, rfl, _, rfl, _, _, _, rfl, d, a0, ns, _, a, A, 30, rfl, rfl, rfl, hp5, by omega, ha5, lA, limA, by decide, by decide, fun x3 H6 B3 hx3 l3 lim3 hp6 b6 => ?_⟩
    have ha6 := tup_pen hp5 b6 ha5
    have hx16 := tup_pen hp5 b6 hx15
    have hx26 := tup_pen hp5 b6 hx2
    refine ⟨(by show 3 ≤ sizeLine; decide), fun l nl => ?_⟩
    have s7 := same_new (H := H6) (o := .lst [.ref x1, .ref x2, .ref x3]) nl
    have hp7 := hp6.same s7
    have hl7 : (upd H6 l (.lst [.ref x1, .ref x2, .ref x3])) l = some (.lst [.ref x1, .ref x2, .ref x3]) := upd_same
    refine ⟨_, rfl, _, _, rfl, d, a0, ns, _, _, rfl, rfl, hp7, by decide, by decide, by omega, fun r H8 r0 r1 hp8 b8 => ?_⟩
    have hl8 : H8 l = some (.lst [.ref x1, .ref x2, .ref x3]) := by
      obtain ⟨kvs, hd⟩ := pen_at3 hp7
      exact b8 _ _ (ne_of hl7 hd (by intro z; cases z)) hl7
    have ha8 := tup_pen hp7 b8 (s7 _ _ ha6)
    obtain ⟨b, B, hat, hb8, lB, limB⟩ : ∃ (b : Addr) (B : List Nat), atI [V.ref x1, V.ref x2, V.ref x3] r = some (.ref b) ∧ H8 b = some (.tup (iv B)) ∧ B.length ≤ 6 ∧ Lim 30 B := by
      rcases (show r = 0 ∨ r = 1 ∨ r = 2 by omega) with rfl | rfl | rfl
      · exact ⟨x1, B1, atI_nat (j := 0) rfl, tup_pen hp7 b8 (s7 _ _ hx16), l1, lim1⟩
      · exact ⟨x2, B2, atI_nat (j := 1) rfl, tup_pen hp7 b8 (s7 _ _ hx26), l2, lim2⟩
      · exact ⟨x3, B3, atI_nat (j := 2) rfl, tup_pen hp7 b8 (s7 _ _ hx3), l3, lim3⟩
    have bB := lim_bd limB (by decide)
    refine ⟨l, _, _, _, rfl, rfl, SqL.of hl8, hat, ?_⟩
    -- due
    refine ⟨_, rfl, _, rfl, _, _, rfl, a, A, b, B, rfl, rfl, ha8, hb8, lA, lB, bA, bB, fun H9 o s9 lo => ?_⟩
    have ha9 := s9 _ _ ha8
    have hb9 := s9 _ _ hb8
    refine ⟨_, rfl, _, rfl, _, _, rfl, a, A, b, B, rfl, rfl, ha9, hb9, lA, lB, bA, bB, fun H10 o1 s10 le1 om1 => ?_⟩
    refine ⟨_, rfl, _, rfl, _, _, rfl, b, B, a, A, rfl, rfl, s10 _ _ hb9, s10 _ _ ha9, lB, lA, bB, bA, fun H11 oz s11 lez om2 => ?_⟩
    have e1 : o1 = o := least_uniq (least_small limA limB le1) lo
    have e2 : oz = o := least_uniq (least_small limA limB (least_congr (fun n => pp_comm) lez)) lo
    subst e2
    subst e1
    refine ⟨(by show 2 ≤ sizeLine; decide), fun t nt => ?_⟩
    have s12 := same_new (H := H11) (o := .tup [ov o1, ov o1]) nt
    have hp12 := hp8.same (((s9.trans s10).trans s11).trans s12)
    refine ⟨t, rfl, ⟨_, SqT.of upd_same⟩, for_tup (K := K) (a := t) (xs := [ov o1, ov o1]) (fun i σ H' => ∃ o6 : Option V, σ = [some (.ref a0), some (.ref d), some (.int (0 + (k : Int))), some (.ref a), some (.ref b), some (ov o1), o6] ∧ H' = upd H11 t (.tup [ov o1, ov o1])) ⟨_, rfl, rfl⟩ (fun i σ H' _ ⟨_, _, e⟩ => by rw [e]; exact SqT.of upd_same) ?_ ?_⟩
    · rintro i v σ H' hi ⟨o6, rfl, rfl⟩
      have ev : v = ov o1 := by
        have := List.mem_of_getElem? hi
        simp only [List.mem_cons, List.not_mem_nil, or_false, or_self] at this
        exact this
      subst ev
      try dsimp only [gName]
      refine if_no1 (fun H' => H' = upd H11 t (.tup [ov o1, ov o1])) (fun Q2 q2 => ?_) (fun H' e => ?_)
      · refine ⟨_, rfl, o1, rfl, om1, _, rfl, o1, rfl, om1, rfl, _, rfl, ?_⟩
        rw [decide_eq_true rfl]
        exact q2 _ rfl
      · exact ⟨_, rfl, e⟩
    · rintro σ H' ⟨o6, rfl, rfl⟩
      exact ⟨_, _, _, _, _, rfl, hp12.mono (by omega)⟩
  · rintro σ H2 ⟨o2, o3, o4, o5, o6, rfl, hp2⟩
    refine ⟨_, rfl, _, rfl, d, a0, ns, _, rfl, hp2, by omega, fun a H3 hs hhb h6 hx hp3 b3 => ?_⟩
    obtain ⟨A, eA, mlA, bA⟩ := nats_of hx
    rw [eA] at hhb
    have lA : A.length ≤ 6 := by omega
    refine ⟨_, rfl, _, rfl, d, a0, ns, _, rfl, hp3, by omega, fun x1 H4 hs4 hx1 h64 hx4 hp4 b4 => ?_⟩
    obtain ⟨B1, eB, mlB, bB1⟩ := nats_of hx4
    rw [eB] at hx1
    have ha4 := tup_pen hp3 b4 hhb
    have e6 : (10 : Int) ^ (6 : Int).toNat = ((1000000 : Nat) : Int) := by decide
    refine ⟨_, rfl, _, rfl, 10, 6, rfl, rfl, ⟨by decide, by decide, by decide⟩, _, _, _, rfl, d, a0, ns, _, a, A, 1000000, rfl, rfl, congrArg V.int e6, hp4, by omega, ha4, lA, bA, by decide, by decide, fun x2 H5 B2 hx2 l2 lim2 hp5 b5 => ?_⟩
    have ha5 := tup_pen hp4 b5 ha4
    have hx15 := tup_pen hp4 b5 hx1
    refine ⟨(by show 2 ≤ sizeLine; decide), fun l nl => ?_⟩
    have s7 := same_new (H := H5) (o := .lst [.ref x1, .ref x2]) nl
    have hp7 := hp5.same s7
    have hl7 : (upd H5 l (.lst [.ref x1, .ref x2])) l = some (.lst [.ref x1, .ref x2]) := upd_same
    refine ⟨_, rfl, _, _, rfl, d, a0, ns, _, _, rfl, rfl, hp7, by decide, by decide, by omega, fun r H8 r0 r1 hp8 b8 => ?_⟩
    have hl8 : H8 l = some (.lst [.ref x1, .ref x2]) := by
      obtain ⟨kvs, hd⟩ := pen_at3 hp7
      exact b8 _ _ (ne_of hl7 hd (by intro z; cases z)) hl7
    have ha8 := tup_pen hp7 b8 (s7 _ _ ha5)
    obtain ⟨b, B, hat, hb8, lB, bB⟩ : ∃ (b : Addr) (B : List Nat), atI [V.ref x1, V.ref x2] r = some (.ref b) ∧ H8 b = some (.tup (iv B)) ∧ B.length ≤ 6 ∧ Bd B := by
      rcases (show r = 0 ∨ r = 1 by omega) with rfl | rfl
      · exact ⟨x1, B1, atI_nat (j := 0) rfl, tup_pen hp7 b8 (s7 _ _ hx15), by omega, bB1⟩
      · exact ⟨x2, B2, atI_nat (j := 1) rfl, tup_pen hp7 b8 (s7 _ _ hx2), l2, lim2⟩
    refine ⟨l, _, _, _, rfl, rfl, SqL.of hl8, hat, ?_⟩
    refine ⟨_, rfl, _, rfl, _, _, rfl, a, A, b, B, rfl, rfl, ha8, hb8, lA, lB, bA, bB, fun H9 s9 => ⟨true, rfl, iteT ?_⟩⟩
    refine ⟨_, rfl, _, rfl, _, _, rfl, b, B, a, A, rfl, rfl, s9 _ _ hb8, s9 _ _ ha8, lB, lA, bB, bA, fun H10 s10 => ⟨true, rfl, iteT ?_⟩⟩
    have ha10 := s10 _ _ (s9 _ _ ha8)
    refine ⟨_, rfl, _, rfl, _, _, rfl, a, A, a, A, rfl, rfl, ha10, ha10, lA, lA, bA, bA, fun H11 o s11 le _ => ?_⟩
    have eo : o = none := by
      cases o with
      | none => rfl
      | some m => exact absurd rfl le.1.2
    subst eo
    refine ⟨rfl, ?_⟩
    rw [show ov none = V.non from rfl, decide_eq_true rfl]
    exact q _

end
theorem all_mk {l : PySem.W.OpenLaw} {w : World} {K : PySem.W.Frag} {h : Heap} {mg : Str → Option Value} {fa : Addr} (X : K.In h) (G : h.Ns mainGlobals mg) (hfa : mg "law" = some (.ref fa))
    {f1 : Addr} {od1 an1 : Option Addr} {sl1 : Array (Option Value)} {oc1 kV1 dc1 pm1 cd1 ct1 : Value}
    {f2 : Addr} {od2 an2 : Option Addr} {sl2 : Array (Option Value)} {oc2 kV2 dc2 pm2 cd2 ct2 : Value}
    {f3 : Addr} {od3 an3 : Option Addr} {sl3 : Array (Option Value)} {oc3 kV3 dc3 pm3 cd3 ct3 : Value}
    {f4 : Addr} {od4 an4 : Option Addr} {sl4 : Array (Option Value)} {oc4 kV4 dc4 pm4 cd4 ct4 : Value}
    {f5 : Addr} {od5 an5 : Option Addr} {sl5 : Array (Option Value)} {oc5 kV5 dc5 pm5 cd5 ct5 : Value}
    {f6 : Addr} {od6 an6 : Option Addr} {sl6 : Array (Option Value)} {oc6 kV6 dc6 pm6 cd6 ct6 : Value}
    {f7 : Addr} {od7 an7 : Option Addr} {sl7 : Array (Option Value)} {oc7 kV7 dc7 pm7 cd7 ct7 : Value}
    {f8 : Addr} {od8 an8 : Option Addr} {sl8 : Array (Option Value)} {oc8 kV8 dc8 pm8 cd8 ct8 : Value}
    {f9 : Addr} {od9 an9 : Option Addr} {sl9 : Array (Option Value)} {oc9 kV9 dc9 pm9 cd9 ct9 : Value}
    {f10 : Addr} {od10 an10 : Option Addr} {sl10 : Array (Option Value)} {oc10 kV10 dc10 pm10 cd10 ct10 : Value}
    {f11 : Addr} {od11 an11 : Option Addr} {sl11 : Array (Option Value)} {oc11 kV11 dc11 pm11 cd11 ct11 : Value}
    {f12 : Addr} {od12 an12 : Option Addr} {sl12 : Array (Option Value)} {oc12 kV12 dc12 pm12 cd12 ct12 : Value}
    {f13 : Addr} {od13 an13 : Option Addr} {sl13 : Array (Option Value)} {oc13 kV13 dc13 pm13 cd13 ct13 : Value}
    {f14 : Addr} {od14 an14 : Option Addr} {sl14 : Array (Option Value)} {oc14 kV14 dc14 pm14 cd14 ct14 : Value}
    {f15 : Addr} {od15 an15 : Option Addr} {sl15 : Array (Option Value)} {oc15 kV15 dc15 pm15 cd15 ct15 : Value}
    {f16 : Addr} {od16 an16 : Option Addr} {sl16 : Array (Option Value)} {oc16 kV16 dc16 pm16 cd16 ct16 : Value}
    {f17 : Addr} {od17 an17 : Option Addr} {sl17 : Array (Option Value)} {oc17 kV17 dc17 pm17 cd17 ct17 : Value}
    {f18 : Addr} {od18 an18 : Option Addr} {sl18 : Array (Option Value)} {oc18 kV18 dc18 pm18 cd18 ct18 : Value}
    {f19 : Addr} {od19 an19 : Option Addr} {sl19 : Array (Option Value)} {oc19 kV19 dc19 pm19 cd19 ct19 : Value}
    (a1 : PySem.W.nsIn K mainGlobals "common_measure" = some (some (.ref f1))) (l1 : K.lookup f1 = some ⟨oc1, od1, .func (PySem.W.fnOf "common_measure" "common_measure" (defArgs s_common_measure) (defBody s_common_measure) (defScope s_common_measure) .none kV1 dc1 pm1 an1 cd1 ct1), sl1⟩) (c1 : PySem.W.codeIn K cd1 "common_measure" = true) (k1 : PySem.W.keepIn K (.ref f1) = true)
    (a2 : PySem.W.nsIn K mainGlobals "power" = some (some (.ref f2))) (l2 : K.lookup f2 = some ⟨oc2, od2, .func (PySem.W.fnOf "power" "power" (defArgs s_power) (defBody s_power) (defScope s_power) .none kV2 dc2 pm2 an2 cd2 ct2), sl2⟩) (c2 : PySem.W.codeIn K cd2 "power" = true) (k2 : PySem.W.keepIn K (.ref f2) = true)
    (a3 : PySem.W.nsIn K mainGlobals "primes_of" = some (some (.ref f3))) (l3 : K.lookup f3 = some ⟨oc3, od3, .func (PySem.W.fnOf "primes_of" "primes_of" (defArgs s_primes_of) (defBody s_primes_of) (defScope s_primes_of) .none kV3 dc3 pm3 an3 cd3 ct3), sl3⟩) (c3 : PySem.W.codeIn K cd3 "primes_of" = true) (k3 : PySem.W.keepIn K (.ref f3) = true)
    (a4 : PySem.W.nsIn K mainGlobals "nought_at" = some (some (.ref f4))) (l4 : K.lookup f4 = some ⟨oc4, od4, .func (PySem.W.fnOf "nought_at" "nought_at" (defArgs s_nought_at) (defBody s_nought_at) (defScope s_nought_at) .none kV4 dc4 pm4 an4 cd4 ct4), sl4⟩) (c4 : PySem.W.codeIn K cd4 "nought_at" = true) (k4 : PySem.W.keepIn K (.ref f4) = true)
    (a5 : PySem.W.nsIn K mainGlobals "apart_at" = some (some (.ref f5))) (l5 : K.lookup f5 = some ⟨oc5, od5, .func (PySem.W.fnOf "apart_at" "apart_at" (defArgs s_apart_at) (defBody s_apart_at) (defScope s_apart_at) .none kV5 dc5 pm5 an5 cd5 ct5), sl5⟩) (c5 : PySem.W.codeIn K cd5 "apart_at" = true) (k5 : PySem.W.keepIn K (.ref f5) = true)
    (a6 : PySem.W.nsIn K mainGlobals "_law_pen" = some (some (.ref f6))) (l6 : K.lookup f6 = some ⟨oc6, od6, .func (PySem.W.fnOf "_law_pen" "_law_pen" (defArgs s_law_pen) (defBody s_law_pen) (defScope s_law_pen) .none kV6 dc6 pm6 an6 cd6 ct6), sl6⟩) (c6 : PySem.W.codeIn K cd6 "_law_pen" = true) (k6 : PySem.W.keepIn K (.ref f6) = true)
    (a7 : PySem.W.nsIn K mainGlobals "_law_draw" = some (some (.ref f7))) (l7 : K.lookup f7 = some ⟨oc7, od7, .func (PySem.W.fnOf "_law_draw" "_law_draw" (defArgs s_law_draw) (defBody s_law_draw) (defScope s_law_draw) .none kV7 dc7 pm7 an7 cd7 ct7), sl7⟩) (c7 : PySem.W.codeIn K cd7 "_law_draw" = true) (k7 : PySem.W.keepIn K (.ref f7) = true)
    (a8 : PySem.W.nsIn K mainGlobals "_law_round" = some (some (.ref f8))) (l8 : K.lookup f8 = some ⟨oc8, od8, .func (PySem.W.fnOf "_law_round" "_law_round" (defArgs s_law_round) (defBody s_law_round) (defScope s_law_round) .none kV8 dc8 pm8 an8 cd8 ct8), sl8⟩) (c8 : PySem.W.codeIn K cd8 "_law_round" = true) (k8 : PySem.W.keepIn K (.ref f8) = true)
    (a9 : PySem.W.nsIn K mainGlobals "_law_house" = some (some (.ref f9))) (l9 : K.lookup f9 = some ⟨oc9, od9, .func (PySem.W.fnOf "_law_house" "_law_house" (defArgs s_law_house) (defBody s_law_house) (defScope s_law_house) .none kV9 dc9 pm9 an9 cd9 ct9), sl9⟩) (c9 : PySem.W.codeIn K cd9 "_law_house" = true) (k9 : PySem.W.keepIn K (.ref f9) = true)
    (a10 : PySem.W.nsIn K mainGlobals "_law_factors" = some (some (.ref f10))) (l10 : K.lookup f10 = some ⟨oc10, od10, .func (PySem.W.fnOf "_law_factors" "_law_factors" (defArgs s_law_factors) (defBody s_law_factors) (defScope s_law_factors) .none kV10 dc10 pm10 an10 cd10 ct10), sl10⟩) (c10 : PySem.W.codeIn K cd10 "_law_factors" = true) (k10 : PySem.W.keepIn K (.ref f10) = true)
    (a11 : PySem.W.nsIn K mainGlobals "_law_whole" = some (some (.ref f11))) (l11 : K.lookup f11 = some ⟨oc11, od11, .func (PySem.W.fnOf "_law_whole" "_law_whole" (defArgs s_law_whole) (defBody s_law_whole) (defScope s_law_whole) .none kV11 dc11 pm11 an11 cd11 ct11), sl11⟩) (c11 : PySem.W.codeIn K cd11 "_law_whole" = true) (k11 : PySem.W.keepIn K (.ref f11) = true)
    (a12 : PySem.W.nsIn K mainGlobals "_law_measure" = some (some (.ref f12))) (l12 : K.lookup f12 = some ⟨oc12, od12, .func (PySem.W.fnOf "_law_measure" "_law_measure" (defArgs s_law_measure) (defBody s_law_measure) (defScope s_law_measure) .none kV12 dc12 pm12 an12 cd12 ct12), sl12⟩) (c12 : PySem.W.codeIn K cd12 "_law_measure" = true) (k12 : PySem.W.keepIn K (.ref f12) = true)
    (a13 : PySem.W.nsIn K mainGlobals "_law_count" = some (some (.ref f13))) (l13 : K.lookup f13 = some ⟨oc13, od13, .func (PySem.W.fnOf "_law_count" "_law_count" (defArgs s_law_count) (defBody s_law_count) (defScope s_law_count) .none kV13 dc13 pm13 an13 cd13 ct13), sl13⟩) (c13 : PySem.W.codeIn K cd13 "_law_count" = true) (k13 : PySem.W.keepIn K (.ref f13) = true)
    (a14 : PySem.W.nsIn K mainGlobals "_law_small" = some (some (.ref f14))) (l14 : K.lookup f14 = some ⟨oc14, od14, .func (PySem.W.fnOf "_law_small" "_law_small" (defArgs s_law_small) (defBody s_law_small) (defScope s_law_small) .none kV14 dc14 pm14 an14 cd14 ct14), sl14⟩) (c14 : PySem.W.codeIn K cd14 "_law_small" = true) (k14 : PySem.W.keepIn K (.ref f14) = true)
    (a15 : PySem.W.nsIn K mainGlobals "_law_near" = some (some (.ref f15))) (l15 : K.lookup f15 = some ⟨oc15, od15, .func (PySem.W.fnOf "_law_near" "_law_near" (defArgs s_law_near) (defBody s_law_near) (defScope s_law_near) .none kV15 dc15 pm15 an15 cd15 ct15), sl15⟩) (c15 : PySem.W.codeIn K cd15 "_law_near" = true) (k15 : PySem.W.keepIn K (.ref f15) = true)
    (a16 : PySem.W.nsIn K mainGlobals "_law_least" = some (some (.ref f16))) (l16 : K.lookup f16 = some ⟨oc16, od16, .func (PySem.W.fnOf "_law_least" "_law_least" (defArgs s_law_least) (defBody s_law_least) (defScope s_law_least) .none kV16 dc16 pm16 an16 cd16 ct16), sl16⟩) (c16 : PySem.W.codeIn K cd16 "_law_least" = true) (k16 : PySem.W.keepIn K (.ref f16) = true)
    (a17 : PySem.W.nsIn K mainGlobals "_law_powers" = some (some (.ref f17))) (l17 : K.lookup f17 = some ⟨oc17, od17, .func (PySem.W.fnOf "_law_powers" "_law_powers" (defArgs s_law_powers) (defBody s_law_powers) (defScope s_law_powers) .none kV17 dc17 pm17 an17 cd17 ct17), sl17⟩) (c17 : PySem.W.codeIn K cd17 "_law_powers" = true) (k17 : PySem.W.keepIn K (.ref f17) = true)
    (a18 : PySem.W.nsIn K mainGlobals "_law_great_right" = some (some (.ref f18))) (l18 : K.lookup f18 = some ⟨oc18, od18, .func (PySem.W.fnOf "_law_great_right" "_law_great_right" (defArgs s_law_great_right) (defBody s_law_great_right) (defScope s_law_great_right) .none kV18 dc18 pm18 an18 cd18 ct18), sl18⟩) (c18 : PySem.W.codeIn K cd18 "_law_great_right" = true) (k18 : PySem.W.keepIn K (.ref f18) = true)
    (a19 : PySem.W.nsIn K mainGlobals "law" = some (some (.ref f19))) (l19 : K.lookup f19 = some ⟨oc19, od19, .func (PySem.W.fnOf "law" "law" (defArgs s_law) (defBody s_law) (defScope s_law) .none kV19 dc19 pm19 an19 cd19 ct19), sl19⟩) (c19 : PySem.W.codeIn K cd19 "law" = true) (k19 : PySem.W.keepIn K (.ref f19) = true)
    (z1 : PySem.W.nsIn K mainGlobals "abs" = some none)
    (z2 : PySem.W.nsIn K mainGlobals "bool" = some none)
    (z3 : PySem.W.nsIn K mainGlobals "int" = some none)
    (z4 : PySem.W.nsIn K mainGlobals "isinstance" = some none)
    (z5 : PySem.W.nsIn K mainGlobals "len" = some none)
    (z6 : PySem.W.nsIn K mainGlobals "min" = some none)
    (z7 : PySem.W.nsIn K mainGlobals "range" = some none)
    (z8 : PySem.W.nsIn K mainGlobals "repr" = some none)
    (z9 : PySem.W.nsIn K mainGlobals "set" = some none)
    (z10 : PySem.W.nsIn K mainGlobals "sorted" = some none)
    (z11 : PySem.W.nsIn K mainGlobals "tuple" = some none) :
    ∃ fd : FuncData, (∀ (s : Shared) (v : Value), BindsTo s fd ⟨[v], []⟩ [("_law_script", v)]) ∧ ∀ base : Heap, K.In base → base.Ns mainGlobals mg → FnG l.prog w K mg base CX0 5 fa fd ["_law_script"] (spLaw K) := by
  have e := hfa.symm.trans (PySem.W.mg_of X G a19)
  cases e
  have T : Txt K mg := ⟨df_mk (PySem.W.mg_of X G a1) l1 c1 k1 (fun _ _ _ _ _ _ us hl => match us, hl with | [_, _], _ => rfl),
    df_mk (PySem.W.mg_of X G a2) l2 c2 k2 (fun _ _ _ _ _ _ us hl => match us, hl with | [_, _], _ => rfl),
    df_mk (PySem.W.mg_of X G a3) l3 c3 k3 (fun _ _ _ _ _ _ us hl => match us, hl with | [_], _ => rfl),
    df_mk (PySem.W.mg_of X G a4) l4 c4 k4 (fun _ _ _ _ _ _ us hl => match us, hl with | [_, _], _ => rfl),
    df_mk (PySem.W.mg_of X G a5) l5 c5 k5 (fun _ _ _ _ _ _ us hl => match us, hl with | [_, _], _ => rfl),
    df_mk (PySem.W.mg_of X G a6) l6 c6 k6 (fun _ _ _ _ _ _ us hl => match us, hl with | [_], _ => rfl),
    df_mk (PySem.W.mg_of X G a7) l7 c7 k7 (fun _ _ _ _ _ _ us hl => match us, hl with | [_, _], _ => rfl),
    df_mk (PySem.W.mg_of X G a8) l8 c8 k8 (fun _ _ _ _ _ _ us hl => match us, hl with | [_], _ => rfl),
    df_mk (PySem.W.mg_of X G a9) l9 c9 k9 (fun _ _ _ _ _ _ us hl => match us, hl with | [_], _ => rfl),
    df_mk (PySem.W.mg_of X G a10) l10 c10 k10 (fun _ _ _ _ _ _ us hl => match us, hl with | [_], _ => rfl),
    df_mk (PySem.W.mg_of X G a11) l11 c11 k11 (fun _ _ _ _ _ _ us hl => match us, hl with | [_], _ => rfl),
    df_mk (PySem.W.mg_of X G a12) l12 c12 k12 (fun _ _ _ _ _ _ us hl => match us, hl with | [_, _], _ => rfl),
    df_mk (PySem.W.mg_of X G a13) l13 c13 k13 (fun _ _ _ _ _ _ us hl => match us, hl with | [_, _], _ => rfl),
    df_mk (PySem.W.mg_of X G a14) l14 c14 k14 (fun _ _ _ _ _ _ us hl => match us, hl with | [_], _ => rfl),
    df_mk (PySem.W.mg_of X G a15) l15 c15 k15 (fun _ _ _ _ _ _ us hl => match us, hl with | [_, _, _], _ => rfl),
    df_mk (PySem.W.mg_of X G a16) l16 c16 k16 (fun _ _ _ _ _ _ us hl => match us, hl with | [_, _], _ => rfl),
    df_mk (PySem.W.mg_of X G a17) l17 c17 k17 (fun _ _ _ _ _ _ us hl => match us, hl with | [_], _ => rfl),
    df_mk (PySem.W.mg_of X G a18) l18 c18 k18 (fun _ _ _ _ _ _ us hl => match us, hl with | [_, _], _ => rfl),
    df_mk (PySem.W.mg_of X G a19) l19 c19 k19 (fun _ _ _ _ _ _ us hl => match us, hl with | [_], _ => rfl),
    PySem.W.mg_none_of X G z1,
    PySem.W.mg_none_of X G z2,
    PySem.W.mg_none_of X G z3,
    PySem.W.mg_none_of X G z4,
    PySem.W.mg_none_of X G z5,
    PySem.W.mg_none_of X G z6,
    PySem.W.mg_none_of X G z7,
    PySem.W.mg_none_of X G z8,
    PySem.W.mg_none_of X G z9,
    PySem.W.mg_none_of X G z10,
    PySem.W.mg_none_of X G z11⟩
  exact ⟨PySem.W.fnOf "law" "law" (defArgs s_law) (defBody s_law) (defScope s_law) .none kV19 dc19 pm19 an19 cd19 ct19, fun s v => .of_eq rfl, fun base _ _ => ok_law T (fun_mk (st := s_law) l19 c19 k19)⟩
end K38
open PySem PySem.W PyProof.Rows
set_option maxRecDepth 100000 in
set_option maxHeartbeats 0 in
theorem PySem.Challenge.cw_commonhouse_k38_what_tells_apart_holds : PySem.Challenge.rw_commonhouse_k38_what_tells_apart.Holds := by
  w_on; o_law; k_head; (case hw => w_witness2)
  k_fill
  refine Cm.walk_g (l := PySem.Challenge.rw_commonhouse_k38_what_tells_apart) (n := 63) (k := 5) (x := "_law_script") (sp := K38.spLaw) rfl (by decide) rfl ⟨rfl, by decide, by decide⟩ (fun w h Y => PySem.W.kIn_of Y) ?F (fun _ _ a ns hl hS => ⟨a, ns, rfl, hS, hl, fun _ => rfl⟩)
  case F =>
    intro w mg fa h KX G hmg
    refine' K38.all_mk KX G hmg ?a1 ?l1 ?c1 ?k1 ?a2 ?l2 ?c2 ?k2 ?a3 ?l3 ?c3 ?k3 ?a4 ?l4 ?c4 ?k4 ?a5 ?l5 ?c5 ?k5 ?a6 ?l6 ?c6 ?k6 ?a7 ?l7 ?c7 ?k7 ?a8 ?l8 ?c8 ?k8 ?a9 ?l9 ?c9 ?k9 ?a10 ?l10 ?c10 ?k10 ?a11 ?l11 ?c11 ?k11 ?a12 ?l12 ?c12 ?k12 ?a13 ?l13 ?c13 ?k13 ?a14 ?l14 ?c14 ?k14 ?a15 ?l15 ?c15 ?k15 ?a16 ?l16 ?c16 ?k16 ?a17 ?l17 ?c17 ?k17 ?a18 ?l18 ?c18 ?k18 ?a19 ?l19 ?c19 ?k19 ?z1 ?z2 ?z3 ?z4 ?z5 ?z6 ?z7 ?z8 ?z9 ?z10 ?z11
    (case a1 => k_is); (case l1 => k_is); (case c1 => k_is); (case k1 => k_is); (case a2 => k_is); (case l2 => k_is)
    (case c2 => k_is); (case k2 => k_is); (case a3 => k_is); (case l3 => k_is); (case c3 => k_is); (case k3 => k_is)
    (case a4 => k_is); (case l4 => k_is); (case c4 => k_is); (case k4 => k_is); (case a5 => k_is); (case l5 => k_is)
    (case c5 => k_is); (case k5 => k_is); (case a6 => k_is); (case l6 => k_is); (case c6 => k_is); (case k6 => k_is)
    (case a7 => k_is); (case l7 => k_is); (case c7 => k_is); (case k7 => k_is); (case a8 => k_is); (case l8 => k_is)
    (case c8 => k_is); (case k8 => k_is); (case a9 => k_is); (case l9 => k_is); (case c9 => k_is); (case k9 => k_is)
    (case a10 => k_is); (case l10 => k_is); (case c10 => k_is); (case k10 => k_is); (case a11 => k_is); (case l11 => k_is)
    (case c11 => k_is); (case k11 => k_is); (case a12 => k_is); (case l12 => k_is); (case c12 => k_is); (case k12 => k_is)
    (case a13 => k_is); (case l13 => k_is); (case c13 => k_is); (case k13 => k_is); (case a14 => k_is); (case l14 => k_is)
    (case c14 => k_is); (case k14 => k_is); (case a15 => k_is); (case l15 => k_is); (case c15 => k_is); (case k15 => k_is)
    (case a16 => k_is); (case l16 => k_is); (case c16 => k_is); (case k16 => k_is); (case a17 => k_is); (case l17 => k_is)
    (case c17 => k_is); (case k17 => k_is); (case a18 => k_is); (case l18 => k_is); (case c18 => k_is); (case k18 => k_is)
    (case a19 => k_is); (case l19 => k_is); (case c19 => k_is); (case k19 => k_is); (case z1 => k_is); (case z2 => k_is)
    (case z3 => k_is); (case z4 => k_is); (case z5 => k_is); (case z6 => k_is); (case z7 => k_is); (case z8 => k_is)
    (case z9 => k_is); (case z10 => k_is); (case z11 => k_is)

