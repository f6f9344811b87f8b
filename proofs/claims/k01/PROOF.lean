import PyProof.Rows.All
import Wide.All
import OpenK.AllK
import Wide.FinOn
import HandS.ForMost
import HandS.Evl
import HandS.IsInst
import HandS.MakeKwOnly
import PyProof.ReprLen
import KE.KIsAll
import KE.KTryMore
import HandS.Exc
import HandS.ExcIs
import HandS.ExcField
import HandS.ExcInit
import HandS.ExcValue
import HandS.Defaults
import HandS.Base
import HandS.Call
import HandS.List
import HandS.Walk
import PySem.Challenge.RW_macroasm_k01_error_classes
set_option Elab.async false
set_option linter.all false
set_option autoImplicit false
set_option maxRecDepth 100000
set_option maxHeartbeats 4000000
/-! The hand layer where it is known that no repr is under way: promises GOk beside FnOk, calls of them, the end of a law. -/
namespace Gd
open PySem PySem.Spec PyProof.Rows L2

/-- no loop of a repr is under way -/
def Calm (A : Around) : Prop := A.guards = some []
theorem calm_deeper {A : Around} {env : Env} (h : Calm A) : Calm (A.deeper env) := by
  first
  | exact h
  | (unfold Calm at *; simp [Around.deeper, h])

structure GOk (pr : Program) (wo : World) (K : PySem.W.Frag) (mg : Str → Option Value) (base : Heap) (CX : CXT) (k : Nat) (f : Addr) (fd : FuncData) (ps : List Str) (sp : Sp) : Prop where
  many : ∀ vs H Q E, sp vs H Q E → vs.length = ps.length
  goes : ∀ (A : Around) (out : List Env) (s : Shared) (H : Hp) (args : Args) (us : List Value) (vs : List V) (Q : VK) (E : XK),
    Calm A → Room k A → Env0 pr wo K mg base A out s H → BindsTo s fd args (ps.zip us) → Vals vs us → sp vs H Q E →
      codeAny (model pr wo) A (.call (.ref f) args) (CR CX out pr wo H s Q E) s

section
variable {pr : Program} {wo : World} {K : PySem.W.Frag} {mg : Str → Option Value} {base : Heap} {CX : CXT}
theorem GOk.of {k : Nat} {f : Addr} {fd : FuncData} {ps : List Str} {sp : Sp} (F : FnOk pr wo K mg base CX k f fd ps sp) : GOk pr wo K mg base CX k f fd ps sp :=
  ⟨F.len, fun A out s H args us vs Q E _ => F.run A out s H args us vs Q E⟩

/-- a def's body keeps its promise, no repr being under way -/
theorem ok_of {x qual : Str} {st : Stmt} {f : Addr} {fd : FuncData} {N ps : List Str} {k : Nat} {sp : Sp} (F : Fun K x qual st f fd) (S : FnScope N ps (defScope st)) (len : ∀ vs H Q E, sp vs H Q E → vs.length = ps.length)
    (body : ∀ (cdv : Value) (A : Around) (out : List Env) (s : Shared) (H : Hp) (vs : List V) (Q : VK) (E : XK),
      Calm (A.deeper (envOfC qual (defScope st) s.heap.objs.size f cdv)) → Room k (A.deeper (envOfC qual (defScope st) s.heap.objs.size f cdv)) → sp vs H Q E →
        ∃ t, PSs (cxOf CX pr wo K mg base N qual (defScope st) f cdv A out s H E) (defBody st) t ∧
          t { nx := fun _ H' => Q .non H', rt := Q } (start N vs) H) : GOk pr wo K mg base CX (k + 1) f fd ps sp := by
  obtain ⟨oc, od, kV, doc, pm, an, cdv, ct, osl, rfl, lk, hcd⟩ := F.ex
  constructor
  · exact len
  intro A out s H args us vs Q E ca hr e0 hb r hs
  have KX : K.In s.heap := e0.mod.kin.keeps (fun b o e => (e0.bs b o e).left)
  have lim : s.heap.NoLimit := e0.mod.nolimit.keeps (fun b o e => (e0.bs b o e).left)
  refine codeAny_call_function hr.depth (KX _ _ lk) rfl S.co S.gen rfl (PySem.W.codeRec_of KX hcd) (hb _ _ _ _ ?_)
  have kinds : ∀ y ∈ ps.zip us, (defScope st).names.lookup y.1 = some .local ∨
      ((defScope st).names.lookup y.1 = some .cell ∧ ((cellsFrom (s.heap.objs.size + 1) (defScope st).names []).lookup y.1).isSome = true) := by
    rintro ⟨n, v⟩ hy
    cases S.par n (List.of_mem_zip hy).1 with
    | inl q => exact Or.inl q
    | inr q => exact Or.inr ⟨q, PySem.W.cellsFrom_some _ _ _ (Or.inl q)⟩
  refine wpAny_newFunctionEnv_cells S.kind kinds (fun env he s1 xx => ?_)
  cases he
  refine ⟨lim.keeps xx.toInCall.keep, codeAny_func ?_⟩
  obtain ⟨t, ht, hq⟩ := body cdv A out s H vs Q E (calm_deeper ca) (hr.deeper _) hs
  have I := inv_start (CX := CX) (E := E) S hr.hd e0 (len _ _ _ _ hs) r xx
  refine wpAny_mono (ht.run [] s1 (start N vs) H _ I hq) ?_ (fun e s' he => he)
  intro fl s' hfl
  have fin : ∀ {σ2 : L2.St} {H2 : Hp} {v : V} {u : Value}, Inv (cxOf CX pr wo K mg base N qual (defScope st) f cdv A out s H E) [] σ2 H2 s' → RelV v u → Q v H2 → CE out pr wo H s Q u s' := by
    intro σ2 H2 v u J rv q
    exact ⟨v, H2, J.os, J.bare, J.base, J.hok, rv, q⟩
  match fl, hfl with
  | .ret u, ⟨v, σ2, H2, J, rv, q⟩ => exact fin J rv q
  | .next, ⟨σ2, H2, J, q⟩ => exact fin (v := .non) (u := .none) J rfl q
  | .brk, ⟨_, _, _, q⟩ => exact q.elim
  | .cont, ⟨_, _, _, q⟩ => exact q.elim
/-- the same where nothing that is raised leaves the def -/
theorem ok_of0 {x qual : Str} {st : Stmt} {f : Addr} {fd : FuncData} {N ps : List Str} {k : Nat} {sp : Sp} (F : Fun K x qual st f fd) (S : FnScope N ps (defScope st)) (len : ∀ vs H Q E, sp vs H Q E → vs.length = ps.length)
    (body : ∀ (cdv : Value) (A : Around) (out : List Env) (s : Shared) (H : Hp) (vs : List V) (Q : VK) (E : XK),
      Calm (A.deeper (envOfC qual (defScope st) s.heap.objs.size f cdv)) → Room k (A.deeper (envOfC qual (defScope st) s.heap.objs.size f cdv)) → sp vs H Q E →
        ∃ t, PSs (cxOf CX0 pr wo K mg base N qual (defScope st) f cdv A out s H E).nox (defBody st) t ∧
          t { nx := fun _ H' => Q .non H', rt := Q } (start N vs) H) : GOk pr wo K mg base CX0 (k + 1) f fd ps sp :=
  ok_of F S len fun cdv A out s H vs Q E ca hr hs => by
    obtain ⟨t, ht, q⟩ := body cdv A out s H vs Q E ca hr hs
    exact ⟨t, ht.nox, q⟩
end

section
variable {X : Cx} {CX : CXT} {k : Nat} {f : Addr} {fd : FuncData} {ps ks : List Str} {sp : Sp} {E : XK} {x : Str} {p pos : Pos} {e : Expr} {es : List Expr} {ds : List Value} {dvs : List V} {t : TA}
theorem goes_fn {pins : List (Addr × Obj)} {σ : L2.St} {H : Hp} {s : Shared} {Q : VK} {us : List Value} {vs : List V} (F : GOk X.prog X.w X.K X.mg X.base CX k f fd ps sp) (ca : Calm X.A) (hr : Room k X.A)
    (hb : Binds X.K fd ps ds) (hd : Vals dvs ds) (hx : Passes CX X E) (I : Inv X pins σ H s) (r : Vals vs us) (h : sp (vs ++ dvs) H Q E) :
    wpAny (model X.prog X.w) X.A (call (.ref f) us) (EP X pins σ Q) X.xe s := by
  have rr : Vals (vs ++ dvs) (us ++ ds) := r.append hd
  have hl : (us ++ ds).length = ps.length := rr.length ▸ F.many _ _ _ _ h
  have go := F.goes X.A X.stack s H ⟨us, []⟩ (us ++ ds) (vs ++ dvs) Q E ca hr I.env0 (hb s us I.kIn hl) rr h
  refine wpAny_call (codeAny_mono go ?_)
  intro z s' hz
  match z, hz with
  | .error e, hz => exact hx pins σ H s e s' I hz
  | .ok (.ret u), hz => exact I.after hz
  | .ok .next, hz => exact False.elim hz
  | .ok .brk, hz => exact False.elim hz
  | .ok .cont, hz => exact False.elim hz
theorem pe_callG (F : GOk X.prog X.w X.K X.mg X.base CX k f fd ps sp) (ca : Calm X.A) (hr : Room k X.A) (hg : Gl X x) (hm : X.mg x = some (.ref f)) (hk : PySem.W.keepIn X.K (.ref f) = true) (hb : Binds X.K fd ps ds) (hd : Vals dvs ds)
    (hx : Passes CX X E) (ha : PA X (e :: es) t) (hdb : (x == ("__debug__" : Str)) = false := by decide)
    (he : starEach (e :: es) X.env = (false, eval e X.env) :: starEach es X.env := by rfl) (hpl : (backTo pos (starEach es X.env)).any (·.1) = false := by rfl) :
    PE X (.Call (.Name x p) (e :: es) [] pos) (tCall sp dvs E t) := by
  constructor
  intro pins s σ H Q I h
  refine wpAny_Call_Name_kw (ld_glob I hg hm ?_ hdb)
  have go := thn (ha.run pos pins s σ H _ I h) (fun us s1 (hq : AP X pins σ (fun vs H1 => sp (vs ++ dvs) H1 Q E) us s1) => by
    obtain ⟨vs, H1, I1, r, q⟩ := hq
    exact (⟨I1.kIn, goes_fn F ca hr hb hd hx I1 r q⟩ : X.K.In s1.heap ∧ wpAny (model X.prog X.w) X.A (call (.ref f) us) (EP X pins σ Q) X.xe s1))
  exact PySem.W.callWith_K (h₀ := X.base) I.ok.mod.kin hk go he hpl
end
end Gd

set_option maxHeartbeats 4000000
namespace Gd
open PySem PySem.Spec PyProof.Rows L2

/-- the script: it may be read, and it is a bare list -/
def Scr (K : PySem.W.Frag) (H : Hp) (a : Addr) (ns : List Int) : Prop :=
  Rd H a (.lst (ns.map V.int)) ∨ ∃ vs : List Value, K.lookup a = some { cls := .type "list", data := .seq vs.toArray } ∧ vs.length ≤ sizeLine ∧ Vals (ns.map V.int) vs
theorem Scr.sq {K : PySem.W.Frag} {H : Hp} {a : Addr} {ns : List Int} (h : Scr K H a ns) : SqL K H a (ns.map V.int) := by
  cases h with
  | inl h => exact Or.inl h
  | inr h =>
    obtain ⟨vs, h1, h2, h3⟩ := h
    exact Or.inr ⟨_, vs.toArray, _, h1, rfl, rfl, rfl, (by rw [List.size_toArray]; exact h2), (by simpa using h3)⟩

/-- the law's call from the outermost caller, under whom no repr runs -/
theorem outermost {pr : Program} {wo : World} {K : PySem.W.Frag} {mg mb : Str → Option Value} {CX : CXT} {k : Nat} {fa a : Addr} {fd : FuncData} {x : Str} {sp : Sp} {s : Shared} {vs : List Value} {ns : List Int}
    (KX : K.In s.heap) (n1 : s.heap.Ns mainGlobals mg) (n2 : s.heap.Ns builtinsNs mb) (bb : ∀ z : Str, z ≠ "__name__" → mb z = bootBuiltins z) (lim : s.heap.NoLimit) (gn : s.gens = #[])
    (ha : s.heap.get? a = some { cls := .type "list", data := .seq vs.toArray }) (hi : IntsAre vs ns) (hl : ns.length ≤ sizeLine) (room : Room k callerA)
    (F : ∀ base : Heap, K.In base → base.Ns mainGlobals mg → GOk pr wo K mg base CX k fa fd [x] sp) (bind : ∀ (z : Shared) (u : Value), BindsTo z fd ⟨[u], []⟩ [(x, u)])
    (good : ∀ H : Hp, Only H → Scr K H a ns → sp [.ref a] H (fun v _ => v = .bl true) (fun _ _ _ => False))
    (noX : ∀ H e z, CX [] H s (fun _ _ _ => False) e z → False) :
    codeAny (model pr wo) callerA (.call (.ref fa) ⟨[.ref a], []⟩) (fun r z => r = .ok (.ret (.bool true)) ∧ OldK s.heap z.heap ∧ z.os = s.os ∧ AllBare z.gens) s := by
  have rv : Vals (ns.map V.int) vs := vals_ints hi
  have lv := hi.length
  have main : ∀ H : Hp, Only H → Scr K H a ns → HOk pr wo H s.heap → (∀ b, H b ≠ none → b = a) → (H a ≠ none → K.lookup a = none) →
      codeAny (model pr wo) callerA (.call (.ref fa) ⟨[.ref a], []⟩) (fun r z => r = .ok (.ret (.bool true)) ∧ OldK s.heap z.heap ∧ z.os = s.os ∧ AllBare z.gens) s := by
    intro H only sq ok just away
    -- what is tracked is the script alone, which is no dict and nothing of K's
    have nodict : ∀ {b : Addr} {o : Obj} {es : Array DictEntry} {ep : Nat}, s.heap.get? b = some o → o.data = .dict es ep → H b = none := by
      intro b o es ep e d
      match q : H b with
      | none => rfl
      | some u =>
        cases just b (by rw [q]; exact Option.some_ne_none u)
        rw [ha] at e
        cases e
        exact absurd (show Data.seq vs.toArray _ = Data.dict es ep from d) (by intro z; cases z)
    have stays : ∀ {b : Addr} {m : Str → Option Value}, s.heap.Ns b m → (hidT s.heap H).Ns b m := by
      rintro b m ⟨o, es, ep, e, d, r⟩
      exact ⟨o, es, ep, hidT_get e (nodict e d), d, r⟩
    have kin : K.In (hidT s.heap H) := by
      intro b o e
      refine hidT_get (KX b o e) ?_
      match q : H b with
      | none => rfl
      | some u =>
        have some_ne : H b ≠ none := by rw [q]; exact Option.some_ne_none u
        cases just b some_ne
        exact absurd (away some_ne) (by rw [e]; exact Option.some_ne_none o)
    have lim2 : (hidT s.heap H).NoLimit := by
      obtain ⟨mc, h1, h2⟩ := lim
      exact ⟨mc, stays h1, h2⟩
    have at0 : Env0 pr wo K mg (hidT s.heap H) callerA [] s H := {
      frames := rfl, mod := ⟨kin, stays n1, ⟨mb, stays n2, bb⟩, lim2⟩, bs := fun b o e => of_hidT e, bsz := Nat.le_of_eq (hidT_size _ _),
      funs := trivial, frf := (fun b hb => by cases (show b ∈ ([] : List Addr) from hb)), hok := ok, bare := .of_eq gn }
    have go := (F _ kin (stays n1)).goes callerA [] s H ⟨[.ref a], []⟩ [.ref a] [.ref a] _ _ rfl room at0 (bind s (.ref a)) (.cons rfl .nil) (good H only sq)
    refine codeAny_mono go ?_
    intro r z h
    match r, h with
    | .error e, h => exact (noX H e z h).elim
    | .ok .next, h => exact False.elim h
    | .ok .brk, h => exact False.elim h
    | .ok .cont, h => exact False.elim h
    | .ok (.ret u), ⟨v, H2, os, bare, un, ok2, ru, q⟩ =>
      cases (show v = V.bl true from q)
      cases (show u = Value.bool true from ru)
      refine ⟨rfl, OldK.of_keep ?_, os, bare⟩
      intro b o e
      match q : H b with
      | none => exact un.keep b o e q (fun z => by cases (show b ∈ ([] : List Addr) from z)) (fun z => by cases z)
      | some u =>
        cases only b with
        | inl z => rw [q] at z; cases z
        | inr z =>
          obtain ⟨ob, xs, z⟩ := z
          have e1 := (ok b _ z).left
          have e2 := (ok2 b _ (un.frzs b ob _ z)).left
          rw [e] at e1
          cases e1
          exact e2
  match hk : K.lookup a with
  | some o =>
    have e := KX a o hk
    rw [ha] at e
    cases e
    refine main (fun _ => none) (fun _ => Or.inl rfl) (Or.inr ⟨vs, hk, (by rw [lv]; exact hl), rv⟩) ?_ (fun b z => absurd rfl z) (fun z => absurd rfl z)
    intro b u z
    cases (show (none : Option HO) = some u from z)
  | none =>
    have at_a : ∀ b, b = a → (fun b => if b = a then some (HO.frz { cls := .type "list", data := .seq vs.toArray } (.lst (ns.map V.int))) else none) b = some (HO.frz { cls := .type "list", data := .seq vs.toArray } (.lst (ns.map V.int))) := fun b h => if_pos h
    have off_a : ∀ b, ¬ b = a → (fun b => if b = a then some (HO.frz { cls := .type "list", data := .seq vs.toArray } (.lst (ns.map V.int))) else none) b = none := fun b h => if_neg h
    refine main (fun b => if b = a then some (HO.frz { cls := .type "list", data := .seq vs.toArray } (.lst (ns.map V.int))) else none) ?_ (Or.inl (Or.inr ⟨_, at_a a rfl⟩)) ?_ ?_ (fun _ => hk)
    · intro b
      by_cases h : b = a
      · exact Or.inr ⟨_, _, at_a b h⟩
      · exact Or.inl (off_a b h)
    · intro b u z
      by_cases h : b = a
      · have zz := (at_a b h).symm.trans z
        cases zz
        cases h
        exact ⟨ha, (by rw [List.length_map]; exact hl), vs, _, rv, ha⟩
      · have zz := (off_a b h).symm.trans z
        cases zz
    · intro b z
      by_cases h : b = a
      · exact h
      · exact absurd (off_a b h) z

theorem walk_calm {l : PySem.W.OpenLaw} {n k : Nat} {q : Program} {loose : List Str} {XP : (Str → Option Value) → Heap → Prop} {YP : World → Heap → Prop} {d : DefRec} {K : Params → PySem.W.Frag} {CX : World → CXT} {sp : World → Sp} {x : Str}
    (hn : l.most = some n) (hn2 : n ≤ sizeLine) (hdf : d.params.defaults = []) (room : Room k callerA) (hY : ∀ (w : World) (h : Heap), YP w h → (K w.params).In h)
    (F : ∀ (w : World) (mg : Str → Option Value) (fa : Addr) (h : Heap), (K w.params).In h → h.Ns mainGlobals mg → mg d.name = some (.ref fa) → ∃ fd : FuncData,
      (∀ (z : Shared) (u : Value), BindsTo z fd ⟨[u], []⟩ [(x, u)]) ∧ ∀ base : Heap, (K w.params).In base → base.Ns mainGlobals mg → GOk l.prog w (K w.params) mg base (CX w) k fa fd [x] (sp w))
    (good : ∀ (w : World) (H : Hp) (a : Addr) (ns : List Int), ns.length ≤ n → Only H → Scr (K w.params) H a ns → sp w [.ref a] H (fun v _ => v = .bl true) (fun _ _ _ => False))
    (noX : ∀ (w : World) (H : Hp) (s : Shared) (e : Value) (z : Shared), CX w [] H s (fun _ _ _ => False) e z → False) :
    PySem.W.WalkO q loose XP YP l.row.toRowW d [] (fun f vs => PySem.call f vs) := by
  refine Att.attach_call hn hdf ?_
  intro w s0 s1 mg mb fa o pm cd doc a vs ns G Y ho hd hcd hmg hobj hints hlen hg
  obtain ⟨fd, hb, hF⟩ := F w mg fa _ (hY w _ Y) G.T.g hmg
  refine outermost (hY w _ Y) G.T.g G.T.b G.T.builtins G.T.nolimit hg hobj hints (Nat.le_trans hlen hn2) room hF hb ?_ ?_
  · intro H only sq
    exact good w H a ns hlen only sq
  · intro H e z
    exact noX w H s1 e z

/-! ### repr of data -/
section
variable {X : Cx}
/-- repr of lists and tuples that hold data: the text is that of the data alone -/
def rRepr (K : PySem.W.Frag) : List V → Hp → VK → Prop := fun xs H Q => ∃ a d, xs = [.ref a] ∧ Dp K H (.ref a) d ∧ PyData.showable d = true ∧ PyData.hasDict d = false ∧ d.depth ≤ 100 ∧ d.shown.length ≤ sizeLine ∧ Q (.str d.shown) H
theorem call_repr {k : Nat} (ca : Calm X.A) (hr : Room k X.A) : CallR X (.builtin "repr") (rRepr X.K) := by
  intro pins s σ H xs us Q I r h
  obtain ⟨a, d, rfl, hd, h1, h2, h3, h4, q⟩ := h
  obtain ⟨u, rfl, ru⟩ := vals1 r
  cases (show u = Value.ref a from ru)
  obtain ⟨as, hR⟩ := Dp.reads I d _ _ hd rfl
  have hun := hr.un
  refine repr_of_reads' hR h1 (fun z => by rw [h2] at z; cases z) ca (by omega) (fun _ _ e => e) (fun h' u tk keep => ?_) h4
  exact ⟨.str d.shown, H, I.kept keep, ⟨_, rfl⟩, q⟩
end
end Gd

set_option maxHeartbeats 4000000
namespace Gd
open PySem PySem.Spec PyProof.Rows L2 Evl

/-- a def of the module by its name, with its promise -/
structure Df (pr : Program) (wo : World) (K : PySem.W.Frag) (mg : Str → Option Value) (base : Heap) (CX : CXT) (k : Nat) (x : Str) (ps : List Str) (sp : Sp) : Prop where
  ex : ∃ (f : Addr) (fd : FuncData), FnOk pr wo K mg base CX k f fd ps sp ∧ Binds K fd ps [] ∧ PySem.W.keepIn K (.ref f) = true ∧ mg x = some (.ref f)
structure DfG (pr : Program) (wo : World) (K : PySem.W.Frag) (mg : Str → Option Value) (base : Heap) (CX : CXT) (k : Nat) (x : Str) (ps : List Str) (sp : Sp) : Prop where
  ex : ∃ (f : Addr) (fd : FuncData), GOk pr wo K mg base CX k f fd ps sp ∧ Binds K fd ps [] ∧ PySem.W.keepIn K (.ref f) = true ∧ mg x = some (.ref f)
/-- the same, to be called with all its parameters by keywords in their order -/
structure DfK (pr : Program) (wo : World) (K : PySem.W.Frag) (mg : Str → Option Value) (base : Heap) (CX : CXT) (k : Nat) (x : Str) (ps : List Str) (sp : Sp) : Prop where
  ex : ∃ (f : Addr) (fd : FuncData), FnOk pr wo K mg base CX k f fd ps sp ∧ (∀ (s : Shared) (ws : List Value), K.In s.heap → ws.length = ps.length → BindsTo s fd ⟨[], ps.zip ws⟩ (ps.zip ws)) ∧ PySem.W.keepIn K (.ref f) = true ∧ mg x = some (.ref f)
theorem _root_.L2.Fun.kbinds {K : PySem.W.Frag} {x qual : Str} {st : Stmt} {f : Addr} {fd : FuncData} {ps : List Str} (F : Fun K x qual st f fd)
    (h : ∀ (kV doc pm : Value) (an : Option Addr) (cdv ct : Value) (ws : List Value), ws.length = ps.length → bindArgs (PySem.W.fnOf x qual (defArgs st) (defBody st) (defScope st) .none kV doc pm an cdv ct) ⟨[], ps.zip ws⟩ = pure (ps.zip ws))
    (s : Shared) (ws : List Value) (hK : K.In s.heap) (hl : ws.length = ps.length) : BindsTo s fd ⟨[], ps.zip ws⟩ (ps.zip ws) := by
  obtain ⟨oc, od, kV, doc, pm, an, cdv, ct, osl, rfl, lk, hcd⟩ := F.ex
  exact .of_eq (h kV doc pm an cdv ct ws hl)
section
variable {X : Cx} {CX : CXT} {k : Nat} {ps : List Str} {sp : Sp} {E : XK} {x : Str} {p pos : Pos} {e : Expr} {es : List Expr} {t tk : TA} {kws : List Keyword}
theorem pe_df (D : Df X.prog X.w X.K X.mg X.base CX k x ps sp) (hr : Room k X.A) (hg : Gl X x) (ha : PA X (e :: es) t) (hx : Passes CX X E := by exact pass0) (hdb : (x == ("__debug__" : Str)) = false := by decide)
    (he : starEach (e :: es) X.env = (false, eval e X.env) :: starEach es X.env := by rfl) (hpl : (backTo pos (starEach es X.env)).any (·.1) = false := by rfl) :
    PE X (.Call (.Name x p) (e :: es) [] pos) (tCall sp [] E t) := by
  obtain ⟨f, fd, F, b, kp, m⟩ := D.ex
  exact pe_call F hr hg m kp b .nil hx ha hdb he hpl
theorem pe_df0 (D : Df X.prog X.w X.K X.mg X.base CX k x ps sp) (hr : Room k X.A) (hg : Gl X x) (hx : Passes CX X E := by exact pass0) (hdb : (x == ("__debug__" : Str)) = false := by decide) :
    PE X (.Call (.Name x p) [] [] pos) (tCall sp [] E tNil) := by
  obtain ⟨f, fd, F, b, kp, m⟩ := D.ex
  exact pe_call0 F hr hg m kp b .nil hx hdb
theorem pe_dfG (D : DfG X.prog X.w X.K X.mg X.base CX k x ps sp) (ca : Calm X.A) (hr : Room k X.A) (hg : Gl X x) (ha : PA X (e :: es) t) (hx : Passes CX X E := by exact pass0) (hdb : (x == ("__debug__" : Str)) = false := by decide)
    (he : starEach (e :: es) X.env = (false, eval e X.env) :: starEach es X.env := by rfl) (hpl : (backTo pos (starEach es X.env)).any (·.1) = false := by rfl) :
    PE X (.Call (.Name x p) (e :: es) [] pos) (tCall sp [] E t) := by
  obtain ⟨f, fd, F, b, kp, m⟩ := D.ex
  exact pe_callG F ca hr hg m kp b .nil hx ha hdb he hpl
def tCallKw (sp : Sp) (n : Nat) (E : XK) (tk : TA) : TE := fun σ H Q => tk σ H fun zs H2 => zs.length = n ∧ sp zs H2 Q E
theorem pe_dfK (D : DfK X.prog X.w X.K X.mg X.base CX k x ps sp) (hr : Room k X.A) (hg : Gl X x) (hkw : PK X kws tk) (hx : Passes CX X E := by exact pass0)
    (hall : (backToKw pos (keywordEach kws X.env)).all (·.1.isSome) = true := by rfl) (hks : (backToKw pos (keywordEach kws X.env)).filterMap (·.1) = ps := by rfl) (hdb : (x == ("__debug__" : Str)) = false := by decide)
    (hpl : ((backTo pos (starEach [] X.env)).any (·.1) || (backToKw pos (keywordEach kws X.env)).any (·.1.isNone)) = false := by rfl) :
    PE X (.Call (.Name x p) [] kws pos) (tCallKw sp ps.length E tk) := by
  obtain ⟨f, fd, F, b, kp, m⟩ := D.ex
  constructor
  intro pins s σ H Q I h
  refine wpAny_Call_Name_kw (ld_glob I hg m ?_ hdb)
  refine PySem.W.callWith_KW0 (h₀ := X.base) I.ok.mod.kin kp hall ?_ hpl
  refine thn (hkw.run pos pins s σ H _ I h) (fun ws s2 hq => ?_)
  obtain ⟨zs, H2, I2, rz, l2, q2⟩ := hq
  refine ⟨I2.kIn, ?_⟩
  rw [hks]
  have lw : ws.length = ps.length := rz.length.symm.trans l2
  refine wpAny_call (codeAny_mono (F.run X.A X.stack s2 H2 ⟨[], ps.zip ws⟩ ws zs Q E hr I2.env0 (b s2 ws I2.kIn lw) rz q2) ?_)
  intro z s' hz
  match z, hz with
  | .error e, hz => exact hx pins σ H2 s2 e s' I2 hz
  | .ok (.ret u), hz => exact I2.after hz
  | .ok .next, hz => exact False.elim hz
  | .ok .brk, hz => exact False.elim hz
  | .ok .cont, hz => exact False.elim hz
end

/-! ### the module's constants and the built-in classes as values -/
section
variable {X : Cx} {x : Str} {pos : Pos}
theorem pe_gS {z : Str} {t : Tok} (hg : Gl X x) (hm : X.mg x = some (.str z t)) (hd : (x == ("__debug__" : Str)) = false := by decide) : PE X (.Name x pos) (tC (.str z)) := pe_glob hg hm ⟨t, rfl⟩ hd
theorem pe_gI {i : Int} {t : Tok} (hg : Gl X x) (hm : X.mg x = some (.int i t)) (hd : (x == ("__debug__" : Str)) = false := by decide) : PE X (.Name x pos) (tC (.int i)) := pe_glob hg hm ⟨t, rfl⟩ hd
theorem pe_gR {a : Addr} (hg : Gl X x) (hm : X.mg x = some (.ref a)) (hd : (x == ("__debug__" : Str)) = false := by decide) : PE X (.Name x pos) (tC (.ref a)) := pe_glob (v := .ref a) hg hm rfl hd
theorem pe_bT {T : String} (hg : Gl X x) (hm : X.mg x = none) (hv : bootBuiltins x = some (.type T)) (hn : x ≠ "__name__" := by decide) (hd : (x == ("__debug__" : Str)) = false := by decide) : PE X (.Name x pos) (tC (.ty T)) :=
  pe_bltn (v := .ty T) hg hm hv rfl hn hd
end

/-! ### what evaluates to what: texts, tuples, calls -/
section
variable {K : PySem.W.Frag} {σ : L2.St} {H H' : Hp} {ta tb te : TE} {t u : TT} {x y z v : V}
/-- a def's call that hands back a value and lays at most new things -/
def SpIs (sp : Sp) (vs : List V) (H : Hp) (z : V) : Prop := ∀ H1, Ex H H1 → ∀ Q : VK, (∀ H2, Ex H1 H2 → Q z H2) → ∀ E : XK, sp vs H1 Q E
theorem ev_df {sp : Sp} {vs : List V} {E : XK} {tx : TA} (h : EvA tx σ H vs) (hs : SpIs sp vs H z) : Ev (tCall sp [] E tx) σ H z :=
  ev_call h (by rw [List.append_nil]; exact hs)
theorem ev_dfK {sp : Sp} {vs : List V} {E : XK} {tx : TA} {n : Nat} (h : EvA tx σ H vs) (hn : vs.length = n) (hs : SpIs sp vs H z) : Ev (tCallKw sp n E tx) σ H z := fun H1 e Q q =>
  h H1 e _ fun H2 e2 => ⟨hn, hs H2 (e.trans e2) Q (fun H3 e3 => q H3 (e2.trans e3)) E⟩
theorem ev_slS {tl th : TO} {z : Str} {lo hi : Option Int} (h : Ev te σ H (.str z)) (h1 : EvO tl σ H lo) (h2 : EvO th σ H hi) (hz : z.length ≤ 100000) : Ev (tSl rSlS te tl th) σ H (.str (cutS z lo hi)) := fun H1 e Q q =>
  h H1 e _ fun H2 e2 => h1 H2 (e.trans e2) _ fun H3 e3 => h2 H3 ((e.trans e2).trans e3) _ fun H4 e4 => ⟨z, rfl, sz_of hz, q H4 ((e2.trans e3).trans e4)⟩
def rLenStr : List V → Hp → VK → Prop := fun xs H Q => ∃ z, xs = [.str z] ∧ z.length ≤ sizeLine ∧ Q (.int z.length) H
theorem ev_lenS {z : Str} (h : Ev te σ H (.str z)) (hz : z.length ≤ 100000) : Ev (tCB rLenStr (tCons te tNil)) σ H (.int (z.length : Int)) :=
  ev_cb (ea_cons h ea_nil) fun H1 e Q q => ⟨z, rfl, sz_of hz, q H1 (Ex.refl H1)⟩
def rAddS : R2 := fun x y H Q => ∃ i j, x = .str i ∧ y = .str j ∧ i.length + j.length ≤ sizeLine ∧ Q (.str (i ++ j)) H
theorem rv_addS {a b : Str} (h : a.length + b.length ≤ 100000) : RV rAddS (.str a) (.str b) H (.str (a ++ b)) := fun H1 _ Q q => ⟨a, b, rfl, rfl, sz_of h, q H1 (Ex.refl H1)⟩
def rInSg : R2 := fun x y H Q => ∃ (c : Nat) (z : Str), x = .str ⟨#[c]⟩ ∧ y = .str z ∧ Q (.bl (decide (c ∈ z.cps.toList))) H
theorem rv_inSg {c : Nat} {z : Str} : RV rInSg (.str ⟨#[c]⟩) (.str z) H (.bl (decide (c ∈ z.cps.toList))) := fun H1 _ Q q => ⟨c, z, rfl, rfl, q H1 (Ex.refl H1)⟩
end
end Gd

set_option maxHeartbeats 4000000
namespace Gd
open PySem PySem.Spec PyProof.Rows L2 Evl TL

/-! ### the kinds of values that isinstance(x, str) tells apart -/
inductive NotS (K : PySem.W.Frag) (H : Hp) : V → Prop where
  | non : NotS K H .non
  | bl (b : Bool) : NotS K H (.bl b)
  | int (i : Int) : NotS K H (.int i)
  | lst {a : Addr} {xs : List V} (h : H a = some (.lst xs)) : NotS K H (.ref a)
  | tup {a : Addr} {xs : List V} (h : H a = some (.tup xs)) : NotS K H (.ref a)
  | dic {a : Addr} {kvs : List (Key × V)} (h : H a = some (.dK kvs)) : NotS K H (.ref a)
theorem NotS.ex {K : PySem.W.Frag} {H H' : Hp} {v : V} (n : NotS K H v) (e : Ex H H') : NotS K H' v := by
  cases n with
  | non => exact .non
  | bl b => exact .bl b
  | int i => exact .int i
  | lst h => exact .lst (e _ _ h)
  | tup h => exact .tup (e _ _ h)
  | dic h => exact .dic (e _ _ h)
theorem NotS.no {K : PySem.W.Frag} {H : Hp} {v : V} (n : NotS K H v) : ∃ t, TyX K H v (.type t) ∧ kitB t "str" = some false := by
  cases n with
  | non => exact ⟨_, .base .non, by decide +kernel⟩
  | bl b => exact ⟨_, .base (.bl b), by decide +kernel⟩
  | int i => exact ⟨_, .base (.int i), by decide +kernel⟩
  | lst h => exact ⟨_, .base (.lst h), by decide +kernel⟩
  | tup h => exact ⟨_, .base (.tup h), by decide +kernel⟩
  | dic h => exact ⟨_, .base (.dK h), by decide +kernel⟩
section
variable {K : PySem.W.Frag} {σ : L2.St} {H H' : Hp} {ta tb te : TE} {t u : TT} {x y z v : V}
theorem ev_isiS {w : Str} (h : Ev te σ H (.str w)) : Ev (tCB (rIsi K) (tCons te (tCons (tC (.ty "str")) tNil))) σ H (.bl true) :=
  ev_cb (ea_cons h (ea_cons ev_c ea_nil)) fun H1 e Q q => ⟨.str w, .ty "str", _, _, true, rfl, .ty _, .base (.str w), kit_ty (by decide +kernel), q H1 (Ex.refl H1)⟩
theorem ev_isiN (h : Ev te σ H v) (n : NotS K H v) : Ev (tCB (rIsi K) (tCons te (tCons (tC (.ty "str")) tNil))) σ H (.bl false) :=
  ev_cb (ea_cons h (ea_cons ev_c ea_nil)) fun H1 e Q q => by
    obtain ⟨t, h1, h2⟩ := (n.ex e).no
    exact ⟨v, .ty "str", _, _, false, rfl, .ty _, h1, kit_ty h2, q H1 (Ex.refl H1)⟩
/-! ### comprehensions over a text's signs -/
theorem lc_signs {x : Str} {g : TG} {tt : TT} {te : TE} {vs : List Nat} {σ : L2.St} {H1 : Hp} {D : Addr} {Qd : Hp → Prop} (Pv : Nat → Hp → Prop) (h0 : Pv 0 (upd H1 D (.lst [])))
    (hs : ∀ i c H, (tl x)[i]? = some c → Pv i H → g (.str ⟨#[c]⟩) (wipe σ vs) H fun σ2 H2 => wipe σ2 vs = wipe σ vs ∧ tt σ2 H2 fun b H3 =>
      if b = true then te σ2 H3 fun y H4 => ∃ acc, H4 D = some (.lst acc) ∧ acc.length < sizeLine ∧ Pv (i + 1) (upd H4 D (.lst (acc ++ [y]))) else Pv (i + 1) H3) (hd : ∀ H, Pv (tl x).length H → Qd H) :
    ∃ W : Nat → Nat → Hp → Prop, (∃ m, W 0 m (upd H1 D (.lst []))) ∧ ∀ i m H, W i m H →
      ((Its x).stop i H ∧ Qd H) ∨ ((Its x).go i H ∧ ∃ Nx : Hp → Prop, (∀ H', Nx H' → ∃ m', m' < m ∧ W (i + 1) m' H') ∧ ∀ v H', (Its x).yld i H v H' → g v (wipe σ vs) H' fun σ2 H2 => wipe σ2 vs = wipe σ vs ∧ tt σ2 H2 fun b H3 =>
        if b = true then te σ2 H3 fun y H4 => ∃ acc, H4 D = some (.lst acc) ∧ acc.length < sizeLine ∧ Nx (upd H4 D (.lst (acc ++ [y]))) else Nx H3) := by
  have en : x.cps.size = (tl x).length := by simp [tl]
  refine ⟨fun i m H => m + i = (tl x).length ∧ Pv i H, ⟨(tl x).length, rfl, h0⟩, ?_⟩
  intro i m H hw
  obtain ⟨hm, p⟩ := hw
  cases m with
  | zero =>
    have ei : i = (tl x).length := by omega
    refine Or.inl ⟨?_, ?_⟩
    · show x.cps.size ≤ i
      omega
    · rw [ei] at p
      exact hd H p
  | succ m =>
    refine Or.inr ⟨?_, Pv (i + 1), fun H' p' => ⟨m, Nat.lt_succ_self m, by omega, p'⟩, fun v H' yv => ?_⟩
    · show i < x.cps.size
      omega
    · obtain ⟨rfl, c, hc, rfl⟩ := yv
      exact hs i c _ (by rw [← hc]; exact Array.getElem?_toList) p
theorem el_lcS {te0 : TE} {z : Str} {j : Nat} {vs : List Nat} (f : Nat → Bool) (v : Nat → V) (h : Ev te0 σ H (.str z)) (hz : z.length ≤ 40000) (hw : ∀ x, wipe ((wipe σ vs).set j (some x)) vs = wipe σ vs)
    (ht : ∀ (i c : Nat) H1, Ex H H1 → (tl z)[i]? = some c → EvT t ((wipe σ vs).set j (some (.str ⟨#[c]⟩))) H1 (f i)) (he : ∀ (i c : Nat) H1, Ex H H1 → (tl z)[i]? = some c → f i = true → Ev te ((wipe σ vs).set j (some (.str ⟨#[c]⟩))) H1 (v i)) :
    EvL (tLc (iStr te0) (gName j) t te vs) σ H (given (tl z).length f v) := fun H0 e Q q => h H0 e _ fun H1 e1 => ⟨z, rfl, fun Dl hD =>
  lc_signs (x := z) (Cw H1 f v Dl) ⟨hD, Ex.new hD, upd_same⟩ (fun i c H' hi p => ⟨hw _, cw_turn p (by have := (List.getElem?_eq_some_iff.mp hi).1; have e2 := len_tl z; omega) (ht i c H1 (e.trans e1) hi) (fun hf => he i c H1 (e.trans e1) hi hf)⟩)
    (fun H' p => q Dl H' (fresh_back e1 p.1) (e1.trans p.2.1) p.2.2)⟩
/-- how many signs a comprehension keeps -/
theorem given_count (l : List Nat) (p : Nat → Bool) (f : Nat → Bool) (v : Nat → V) (hf : ∀ i c, l[i]? = some c → f i = p c) : (given l.length f v).length = (l.filter p).length := by
  unfold given
  rw [List.length_map]
  have key : ∀ n, n ≤ l.length → ((List.range n).filter f).length = ((l.take n).filter p).length := by
    intro n
    induction n with
    | zero => intro _; rfl
    | succ n ih =>
      intro hn
      have hn' : n < l.length := by omega
      rw [List.range_succ, List.filter_append, List.length_append, ih (by omega), List.take_add_one, List.filter_append, List.length_append]
      rw [List.getElem?_eq_getElem hn']
      have e := hf n l[n] (List.getElem?_eq_getElem hn')
      rw [Option.toList_some, List.filter_cons, List.filter_cons, e]
      cases p l[n] <;> rfl
  have h := key l.length (Nat.le_refl _)
  rw [List.take_length] at h
  exact h
theorem filter_all (l : List Nat) (p : Nat → Bool) : (l.filter p).length = l.length ↔ ∀ c ∈ l, p c = true := List.length_filter_eq_length_iff

/-! ### parts -/
def rParts : V → List V → Hp → VK → Prop := fun x xs H Q => ∃ a b, x = .str a ∧ xs = [.str b] ∧ (b.length == 0) = false ∧ a.length ≤ sizeLine ∧
    ∀ p, H p = none → Q (.ref p) (upd H p (.tup [.str (Txt.partition a b).1, .str (Txt.partition a b).2.1, .str (Txt.partition a b).2.2]))
theorem eu_partition {a b : Str} (h : Ev ta σ H (.str a)) (h2 : Ev tb σ H (.str b)) (hb : (b.length == 0) = false) (ha : a.length ≤ 100000) :
    EvU (tM1 rParts ta tb) σ H [.str (Txt.partition a b).1, .str (Txt.partition a b).2.1, .str (Txt.partition a b).2.2] := fun H1 e Q q =>
  h H1 e _ fun H2 e2 => ⟨⟨a, rfl⟩, h2 H2 (e.trans e2) _ fun H3 e3 => ⟨a, b, rfl, rfl, hb, sz_of ha, fun p hp => q p _ (fresh_back (e2.trans e3) hp) ((e2.trans e3).trans (Ex.new hp)) upd_same⟩⟩
def rSplit : V → List V → Hp → VK → Prop := fun x xs H Q => ∃ a b, x = .str a ∧ xs = [.str b] ∧ (b.length == 0) = false ∧ a.length + 2 ≤ sizeLine ∧ rNewStrs (Txt.split a b) H Q
theorem el_split {a b : Str} (h : Ev ta σ H (.str a)) (h2 : Ev tb σ H (.str b)) (hb : (b.length == 0) = false) (ha : a.length ≤ 90000) :
    EvL (tM1 rSplit ta tb) σ H ((Txt.split a b).map V.str) := fun H1 e Q q =>
  h H1 e _ fun H2 e2 => ⟨⟨a, rfl⟩, h2 H2 (e.trans e2) _ fun H3 e3 => ⟨a, b, rfl, rfl, hb, sz_of (by omega), fun p hp => q p _ (fresh_back (e2.trans e3) hp) ((e2.trans e3).trans (Ex.new hp)) upd_same⟩⟩
def rStarts : V → List V → Hp → VK → Prop := fun x xs H Q => ∃ a b, x = .str a ∧ xs = [.str b] ∧ Q (.bl (Txt.startswith a b)) H
theorem ev_starts {a b : Str} (h : Ev ta σ H (.str a)) (h2 : Ev tb σ H (.str b)) : Ev (tM1 rStarts ta tb) σ H (.bl (Txt.startswith a b)) := fun H1 e Q q =>
  h H1 e _ fun H2 e2 => ⟨⟨a, rfl⟩, h2 H2 (e.trans e2) _ fun H3 e3 => ⟨a, b, rfl, rfl, q H3 (e2.trans e3)⟩⟩
theorem ev_allL {bs : List Bool} (h : EvL te σ H (bs.map V.bl)) : Ev (tCB (rAll K) (tCons te tNil)) σ H (.bl (bs.all id)) := fun H1 e Q q =>
  h H1 e _ fun p H2 hp e2 h2 => ⟨p, bs, rfl, sq_of h2, q H2 e2⟩
/-- a, b, c = a new tuple -/
theorem q_unpack3 {D : Ends} {tz : TS} {i j k : Nat} {a b c : V} (h : EvU te σ H [a, b, c]) (kk : ∀ H1, Ex H H1 → tz D (((σ.set i (some a)).set j (some b)).set k (some c)) H1) :
    tSeq (tAsg te (gTup K 3 (gCons (gName i) (gCons (gName j) (gCons (gName k) gNil))))) tz D σ H := h H (Ex.refl H) _ fun p H1 hp e h1 =>
  ⟨p, [a, b, c], rfl, st_of h1, rfl, a, [b, c], rfl, b, [c], rfl, c, [], rfl, rfl, kk H1 e⟩
theorem spl_len (S : List Nat) : ∀ (l : List Nat) (k : Nat) (acc : List Nat), ∀ y ∈ spl S k acc l, y.length ≤ acc.length + l.length
  | [], k, acc, y, hy => by
    rw [spl_nil] at hy
    cases List.mem_singleton.mp hy
    exact Nat.le_add_right _ _
  | c :: r, 0, acc, y, hy => by
    rw [List.length_cons]
    cases q : pre S (c :: r) with
    | true =>
      rw [spl_hit q] at hy
      cases List.mem_cons.mp hy with
      | inl e => rw [e]; omega
      | inr hy =>
        have := spl_len S r _ [] y hy
        rw [List.length_nil] at this
        omega
    | false =>
      rw [spl_miss q] at hy
      have := spl_len S r 0 _ y hy
      rw [List.length_append, List.length_singleton] at this
      omega
  | c :: r, k + 1, acc, y, hy => by
    have := spl_len S r k acc y hy
    rw [List.length_cons]
    omega
theorem split_len {x y p : Str} (hy : tl y ≠ []) (hk : y.cps.all (· < 256) = true) (h : p ∈ Txt.split x y) : p.length ≤ x.length := by
  have h1 := split_spl x y hy (kind_ok hk)
  have h2 : tl p ∈ (Txt.split x y).map tl := List.mem_map_of_mem h
  rw [h1] at h2
  have h3 := spl_len _ _ _ _ _ h2
  rw [List.length_nil, Nat.zero_add] at h3
  rw [len_tl, len_tl]
  exact h3
theorem par_len (S : List Nat) : ∀ (l acc a b : List Nat), par S acc l = some (a, b) → a.length + b.length ≤ acc.length + l.length
  | [], acc, a, b, h => by cases h
  | c :: r, acc, a, b, h => by
    cases q : pre S (c :: r) with
    | true =>
      rw [par_hit q] at h
      cases h
      rw [List.length_drop]
      omega
    | false =>
      rw [par_miss q] at h
      have := par_len S r _ a b h
      rw [List.length_append, List.length_singleton] at this
      rw [List.length_cons]
      omega
theorem part_facts (x y : Str) (hy : tl y ≠ []) : (Txt.partition x y).1.length + (Txt.partition x y).2.2.length ≤ x.length ∧ ((Txt.partition x y).2.1 = Str.empty → (Txt.partition x y).1 = x) := by
  rw [partition_par x y hy]
  cases q : par (tl y) [] (tl x) with
  | none => exact ⟨by show x.length + Str.empty.length ≤ x.length; exact Nat.le_refl _, fun _ => rfl⟩
  | some ab =>
    obtain ⟨a, b⟩ := ab
    have h := par_len _ _ _ _ _ q
    rw [List.length_nil, Nat.zero_add, ← len_tl] at h
    refine ⟨?_, fun e => ?_⟩
    · show (⟨a.toArray⟩ : Str).length + (⟨b.toArray⟩ : Str).length ≤ x.length
      rw [len_tl, len_tl]
      exact h
    · have e2 : y = Str.empty := e
      exact absurd (by rw [e2]; rfl) hy
/-! ### chains, sums of lists, texts many times -/
theorem ev_chain {r r' : R2} {tc : TE} {z' : V} {a b : Bool} (ha : Ev ta σ H x) (hb : Ev tb σ H y) (hr : RV r x y H (.bl a)) (hc : a = true → Ev tc σ H z') (hr' : a = true → RV r' y z' H (.bl b)) : Ev (tChain r r' ta tb tc) σ H (.bl (a && b)) := fun H1 e Q q =>
  ha H1 e _ fun H2 e2 => hb H2 (e.trans e2) _ fun H3 e3 => hr H3 ((e.trans e2).trans e3) _ fun H4 e4 => ⟨a, rfl, by
    cases a with
    | true =>
      show tc σ H4 fun w' H5 => r' y w' H5 Q
      exact hc rfl H4 (((e.trans e2).trans e3).trans e4) _ fun H5 e5 => hr' rfl H5 ((((e.trans e2).trans e3).trans e4).trans e5) Q fun H6 e6 => q H6 ((((e2.trans e3).trans e4).trans e5).trans e6)
    | false =>
      show Q (.bl false) H4
      exact q H4 ((e2.trans e3).trans e4)⟩
theorem el_cat {xs ys : List V} (ha : EvL ta σ H xs) (hb : EvL tb σ H ys) (hz : xs.length + ys.length ≤ 100000) : EvL (tOp rCat ta tb) σ H (xs ++ ys) := fun H1 e Q q =>
  ha H1 e _ fun p H2 hp e2 h2 => hb H2 (e.trans e2) _ fun p' H3 hp' e3 h3 => ⟨p, p', xs, ys, rfl, rfl, e3 p _ h2, h3, sz_of hz, fun r hr => q r _ (fresh_back (e2.trans e3) hr) ((e2.trans e3).trans (Ex.new hr)) upd_same⟩
theorem el_cat1 {l : Addr} {xs ys : List V} (ha : Ev ta σ H (.ref l)) (hl : H l = some (.lst xs)) (hb : EvL tb σ H ys) (hz : xs.length + ys.length ≤ 100000) : EvL (tOp rCat ta tb) σ H (xs ++ ys) := fun H1 e Q q =>
  ha H1 e _ fun H2 e2 => hb H2 (e.trans e2) _ fun p' H3 hp' e3 h3 => ⟨l, p', xs, ys, rfl, rfl, ((e.trans e2).trans e3) l _ hl, h3, sz_of hz, fun r hr => q r _ (fresh_back (e2.trans e3) hr) ((e2.trans e3).trans (Ex.new hr)) upd_same⟩
theorem el_rep {xs : List V} {k : Nat} (ha : EvL ta σ H xs) (hb : Ev tb σ H (.int (k : Int))) (hz : xs.length * k ≤ 100000) (hk : k ≤ 100000) : EvL (tOp rRep ta tb) σ H (List.replicate k xs).flatten := fun H1 e Q q =>
  ha H1 e _ fun p H2 hp e2 h2 => hb H2 (e.trans e2) _ fun H3 e3 => ⟨p, (k : Int), xs, rfl, rfl, e3 p _ h2, by omega, by omega, by rw [Int.toNat_natCast]; exact sz_of hz, fun r hr => by
    rw [Int.toNat_natCast]
    exact q r _ (fresh_back (e2.trans e3) hr) ((e2.trans e3).trans (Ex.new hr)) upd_same⟩
end
section
variable {X : Cx}
/-- the script and a new list, joined -/
def rCatS (K : PySem.W.Frag) : R2 := fun x y H Q => ∃ l b ns zs, x = .ref l ∧ y = .ref b ∧ Scr K H l ns ∧ H b = some (.lst zs) ∧ ns.length + zs.length ≤ sizeLine ∧ ∀ p, H p = none → Q (.ref p) (upd H p (.lst (ns.map V.int ++ zs)))
theorem op_catS : OpR X (binaryOp .Add) (rCatS X.K) := by
  intro pins s σ H x y v u Q I rx ry h
  obtain ⟨l, b, ns, zs, rfl, rfl, hS, hB, hz, q⟩ := h
  cases rx
  cases ry
  obtain ⟨z2, its2, n2, r2, hl2, e2⟩ := I.lstM hB
  have key : ∃ (its : List Value) (n : Nat), Vals (ns.map V.int) its ∧ s.heap.get? l = some { cls := .type "list", data := .seq its.toArray n } := by
    cases hS with
    | inl h =>
      obtain ⟨_, its, n, r, e⟩ := h.ok I.hok
      exact ⟨its, n, r, e⟩
    | inr h =>
      obtain ⟨vs, h1, h2, h3⟩ := h
      exact ⟨vs, _, h3, I.kIn l _ h1⟩
  obtain ⟨its, n, r, e⟩ := key
  have hn : its.length = ns.length := by rw [← r.length, List.length_map]
  refine PySem.P.add_list e e2 ?_ (by rw [List.size_toArray, List.size_toArray]; omega)
  have ea : its.toArray ++ its2.toArray = (its ++ its2).toArray := by simp
  rw [ea]
  exact ⟨.ref _, _, I.lnew (t' := s.toks) (r.append r2) (by rw [List.length_append, List.length_map]; omega), rfl, q _ I.fresh⟩
/-- a text so many times -/
def rMulS : R2 := fun x y H Q => ∃ z k, x = .str z ∧ y = .int k ∧ MulOk z k ∧ Q (.str (Txt.mul z k)) H
theorem op_mulS : OpR X (binaryOp .Mult) rMulS := by
  intro pins s σ H x y v u Q I rx ry h
  obtain ⟨z, k, rfl, rfl, hz, q⟩ := h
  obtain ⟨t, rfl⟩ := rx
  obtain ⟨t', rfl⟩ := ry
  exact PySem.SB.mul hz fun t2 k2 => ⟨.str (Txt.mul z k), H, I.tok _, ⟨_, rfl⟩, q⟩
end
section
variable {K : PySem.W.Frag} {σ : L2.St} {H : Hp} {ta tb : TE}
theorem rv_mulS {z : Str} {k : Int} (h : MulOk z k) : RV rMulS (.str z) (.int k) H (.str (Txt.mul z k)) := fun H1 _ Q q => ⟨z, k, rfl, rfl, h, q H1 (Ex.refl H1)⟩
theorem Scr.ex {H1 : Hp} {a : Addr} {ns : List Int} (h : Scr K H a ns) (e : Ex H H1) : Scr K H1 a ns := by
  cases h with
  | inl h => exact Or.inl (ex_rd e h)
  | inr h => exact Or.inr h
theorem el_catS {l : Addr} {ns : List Int} {ys : List V} (ha : Ev ta σ H (.ref l)) (hS : Scr K H l ns) (hb : EvL tb σ H ys) (hz : ns.length + ys.length ≤ 100000) : EvL (tOp (rCatS K) ta tb) σ H (ns.map V.int ++ ys) := fun H1 e Q q =>
  ha H1 e _ fun H2 e2 => hb H2 (e.trans e2) _ fun p' H3 hp' e3 h3 => ⟨l, p', ns, ys, rfl, rfl, hS.ex ((e.trans e2).trans e3), h3, sz_of hz, fun r hr => q r _ (fresh_back (e2.trans e3) hr) ((e2.trans e3).trans (Ex.new hr)) upd_same⟩
end
end Gd

set_option maxHeartbeats 4000000
namespace Gd
open PySem PySem.Spec PyProof.Rows L2 Evl TL
/-! ### list(a text) -/
section
variable {X : Cx}
def signV (c : Nat) : V := .str ⟨#[c]⟩
def rSigns : List V → Hp → VK → Prop := fun xs H Q => ∃ z, xs = [.str z] ∧ z.length ≤ sizeLine ∧ ∀ l, H l = none → Q (.ref l) (upd H l (.lst ((tl z).map signV)))
theorem vals_signs : ∀ {l : List Value} {m : List Nat}, l.length = m.length → (∀ (i : Nat) (v : Value), l[i]? = some v → ∃ (c : Nat) (t : Tok), m[i]? = some c ∧ v = Value.str ⟨#[c]⟩ t) → Vals (m.map signV) l
  | [], [], _, _ => .nil
  | v :: l, c :: m, hl, h => by
    obtain ⟨c', t, h1, h2⟩ := h 0 v rfl
    cases h1
    exact .cons ⟨t, h2⟩ (vals_signs (by simpa using hl) fun i v hv => h (i + 1) v hv)
  | [], _ :: _, hl, _ => by simp at hl
  | _ :: _, [], hl, _ => by simp at hl
theorem call_list_signs (hc : X.calm = true) : CallR X (.type "list") rSigns := by
  intro pins s σ H xs us Q I r h
  obtain ⟨z, rfl, hz, q⟩ := h
  obtain ⟨u, rfl, t, rfl⟩ := vals1 r
  have e0 : z.cps.size = (tl z).length := by simp [tl]
  refine PySem.call_list_str (I.ok.hd hc) z t (fun h' tk acc c keep hS hi => ?_) (by rw [e0, ← len_tl]; exact hz)
  have hv : Vals ((tl z).map signV) acc.toList := by
    refine vals_signs (by rw [← e0, Array.length_toList]; exact hi.1) fun i v hv => ?_
    obtain ⟨c, t, h1, h2⟩ := hi.2 i v (by rw [← hv]; exact Array.getElem?_toList.symm)
    exact ⟨c, t, by rw [← h1]; exact Array.getElem?_toList, h2⟩
  refine ⟨.ref _, _, I.laid (o := .lst ((tl z).map signV)) keep (Nat.le_refl _) ⟨by rw [List.length_map, ← len_tl]; exact hz, acc.toList, c, hv, by simpa using hS⟩, rfl, q _ I.fresh⟩
end
theorem el_signs {σ : L2.St} {H : Hp} {te : TE} {z : Str} (h : Ev te σ H (.str z)) (hz : z.length ≤ 100000) : EvL (tCB rSigns (tCons te tNil)) σ H ((tl z).map signV) :=
  el_cb (ea_cons h ea_nil) fun H1 e Q q => ⟨z, rfl, sz_of hz, fun l hl => q l _ hl (Ex.new hl) upd_same⟩
/-- int(n) of an int -/
def rInt1 : List V → Hp → VK → Prop := fun xs H Q => (∃ i, xs = [.int i] ∧ Q (.int i) H) ∨ ∃ k, xs = [.bl k] ∧ Q (.int (if k then 1 else 0)) H
theorem ev_int1 {σ : L2.St} {H : Hp} {te : TE} {i : Int} (h : Ev te σ H (.int i)) : Ev (tCB rInt1 (tCons te tNil)) σ H (.int i) :=
  ev_cb (ea_cons h ea_nil) fun H1 e Q q => Or.inl ⟨i, rfl, q H1 (Ex.refl H1)⟩

/-! ### a stream of draws: the list of three ints at p -/
def Sx (p : Addr) (b : Int) (H : Hp) : Prop := ∃ a c : Int, H p = some (.lst [.int a, .int b, .int c])
/-- a heap without what stands at p -/
def wo (p : Addr) (H : Hp) : Hp := fun a => if a = p then none else H a
theorem wo_at {p : Addr} {H : Hp} : wo p H p = none := if_pos rfl
theorem wo_ne {p a : Addr} {H : Hp} (h : a ≠ p) : wo p H a = H a := if_neg h
theorem wo_ex {p : Addr} {H : Hp} : Ex (wo p H) H := fun a o h => by
  by_cases e : a = p
  · rw [e, wo_at] at h
    cases h
  · rw [wo_ne e] at h
    exact h
theorem wo_mono {p : Addr} {H H' : Hp} (e : Ex H H') : Ex (wo p H) (wo p H') := fun a o h => by
  by_cases q : a = p
  · rw [q, wo_at] at h
    cases h
  · rw [wo_ne q] at h ⊢
    exact e a o h
theorem wo_upd {p : Addr} {H : Hp} {o : HO} : Ex (wo p H) (upd H p o) := fun a u h => by
  by_cases q : a = p
  · rw [q, wo_at] at h
    cases h
  · rw [wo_ne q] at h
    rw [upd_ne q]
    exact h
theorem wo_trans {p : Addr} {H H1 H2 : Hp} (e : Ex (wo p H) H1) (e2 : Ex (wo p H1) H2) : Ex (wo p H) H2 := fun a u h => by
  by_cases q : a = p
  · rw [q, wo_at] at h
    cases h
  · exact e2 a u (by rw [wo_ne q]; exact e a u h)
theorem wo_go {p : Addr} {G H1 H2 : Hp} (hg : G p = none) (e : Ex G H1) (e2 : Ex (wo p H1) H2) : Ex G H2 := fun a u h => by
  have q : a ≠ p := ne_of_none h hg
  exact e2 a u (by rw [wo_ne q]; exact e a u h)
theorem sq_wo {K : PySem.W.Frag} {p l : Addr} {H : Hp} {xs : List V} (np : l ≠ p) (h : SqL K H l xs) : SqL K (wo p H) l xs := by
  rcases h with (h | ⟨o, h⟩) | h
  · exact Or.inl (Or.inl (by rw [wo_ne np]; exact h))
  · exact Or.inl (Or.inr ⟨o, by rw [wo_ne np]; exact h⟩)
  · exact Or.inr h
theorem Sx.ex {p : Addr} {b : Int} {H H' : Hp} (s : Sx p b H) (e : Ex H H') : Sx p b H' := by
  obtain ⟨a, c, h⟩ := s
  exact ⟨a, c, e _ _ h⟩
/-- what follows a number of draws, at most k: the value, the heap, the draws so far -/
def Cn (p : Addr) (H1 : Hp) (b : Int) (k : Nat) (R : V → Hp → Prop) (Q : VK) : Prop := ∀ v H2 b', b ≤ b' → b' ≤ b + k → Sx p b' H2 → Ex (wo p H1) H2 → R v H2 → Q v H2
/-- an expression that draws at most k times; G: what stands besides -/
def Dv (p : Addr) (te : TE) (σ : L2.St) (G : Hp) (k : Nat) (R : V → Prop) : Prop :=
  ∀ H1, Ex G H1 → ∀ b : Int, 0 ≤ b → b + k ≤ 1000000000 → Sx p b H1 → ∀ Q : VK, Cn p H1 b k (fun v _ => R v) Q → te σ H1 Q
/-- the same, a new list comes -/
def DvL (p : Addr) (te : TE) (σ : L2.St) (G : Hp) (k : Nat) (R : List V → Prop) : Prop :=
  ∀ H1, Ex G H1 → ∀ b : Int, 0 ≤ b → b + k ≤ 1000000000 → Sx p b H1 → ∀ Q : VK, Cn p H1 b k (fun v H2 => ∃ l ys, v = .ref l ∧ l ≠ p ∧ H1 l = none ∧ H2 l = some (.lst ys) ∧ R ys) Q → te σ H1 Q
def DvA (p : Addr) (ta : TA) (σ : L2.St) (G : Hp) (k : Nat) (R : List V → Prop) : Prop :=
  ∀ H1, Ex G H1 → ∀ b : Int, 0 ≤ b → b + k ≤ 1000000000 → Sx p b H1 → ∀ Q : List V → Hp → Prop, (∀ vs H2 b', b ≤ b' → b' ≤ b + k → Sx p b' H2 → Ex (wo p H1) H2 → R vs → Q vs H2) → ta σ H1 Q
section
variable {K : PySem.W.Frag} {p : Addr} {σ : L2.St} {G : Hp} {te ta tb : TE} {k j : Nat} {R : V → Prop} {v : V}
theorem dv_ev (h : Ev te σ G v) : Dv p te σ G 0 (fun x => x = v) := fun H1 e b hb hk s Q q =>
  h H1 e _ fun H2 e2 => q v H2 b (Int.le_refl _) (by omega) (s.ex e2) (fun a o z => e2 a o (wo_ex a o z)) rfl
theorem dv_imp {R' : V → Prop} (h : Dv p te σ G k R) (hi : ∀ x, R x → R' x) (hj : k ≤ j) : Dv p te σ G j R' := fun H1 e b hb hk s Q q =>
  h H1 e b hb (by omega) s Q fun v H2 b' h1 h2 h3 h4 h5 => q v H2 b' h1 (by omega) h3 h4 (hi v h5)
theorem dvl_imp {R R' : List V → Prop} (h : DvL p te σ G k R) (hi : ∀ x, R x → R' x) (hj : k ≤ j) : DvL p te σ G j R' := fun H1 e b hb hk s Q q =>
  h H1 e b hb (by omega) s Q fun v H2 b' h1 h2 h3 h4 h5 => q v H2 b' h1 (by omega) h3 h4 (by obtain ⟨l, ys, a1, a2, a3, a4, a5⟩ := h5; exact ⟨l, ys, a1, a2, a3, a4, hi ys a5⟩)
theorem dvl_ev {xs : List V} (h : EvL te σ G xs) : DvL p te σ G 0 (fun x => x = xs) := fun H1 e b hb hk s Q q =>
  h H1 e _ fun l H2 hl e2 h2 => q (.ref l) H2 b (Int.le_refl _) (by omega) (s.ex e2) (fun a o z => e2 a o (wo_ex a o z)) ⟨l, xs, rfl, by
    obtain ⟨a, c, hp⟩ := s
    exact (ne_of_none hp hl).symm, hl, h2, rfl⟩
theorem dva_nil : DvA p tNil σ G 0 (fun vs => vs = []) := fun H1 e b hb hk s Q q => q [] H1 b (Int.le_refl _) (by omega) s wo_ex rfl
theorem dva_cons {tr : TA} {Rs : List V → Prop} (hg : G p = none) (h : Dv p te σ G k R) (hr : DvA p tr σ G j Rs) : DvA p (tCons te tr) σ G (k + j) (fun vs => ∃ v r, vs = v :: r ∧ R v ∧ Rs r) := fun H1 e b hb hk s Q q =>
  h H1 e b hb (by omega) s _ fun v H2 b2 h1 h2 h3 h4 h5 => hr H2 (wo_go hg e h4) b2 (by omega) (by omega) h3 _ fun vs H3 b3 g1 g2 g3 g4 g5 =>
    q (v :: vs) H3 b3 (by omega) (by omega) g3 (wo_trans h4 g4) ⟨v, vs, rfl, h5, g5⟩
theorem dvl_lst {ta : TA} {Rs : List V → Prop} (h : DvA p ta σ G k Rs) (hl : ∀ vs, Rs vs → vs.length ≤ 100000) : DvL p (tLst ta) σ G k Rs := fun H1 e b hb hk s Q q =>
  h H1 e b hb hk s _ fun vs H2 b2 h1 h2 h3 h4 h5 => ⟨sz_of (hl vs h5), fun l nl => by
    obtain ⟨a, c, hp⟩ := h3
    have np : l ≠ p := (ne_of_none hp nl).symm
    have hl1 : H1 l = none := by
      cases z : H1 l with
      | none => rfl
      | some o =>
        rw [h4 l o (by rw [wo_ne np]; exact z)] at nl
        cases nl
    exact q (.ref l) _ b2 h1 h2 ⟨a, c, by rw [upd_ne np.symm]; exact hp⟩ (fun x o z => Ex.new nl x o (h4 x o z)) ⟨l, vs, rfl, np, hl1, upd_same, h5⟩⟩
/-- two operands, the result a value by r -/
theorem dv_op {r : R2} {Ra Rb Rz : V → Prop} (hg : G p = none) (ha : Dv p ta σ G k Ra) (hb : Dv p tb σ G j Rb) (hr : ∀ x y, Ra x → Rb y → ∃ z, (∀ H : Hp, RV r x y H z) ∧ Rz z) : Dv p (tOp r ta tb) σ G (k + j) Rz := fun H1 e b hb0 hk s Q q =>
  ha H1 e b hb0 (by omega) s _ fun x H2 b2 h1 h2 h3 h4 h5 => hb H2 (wo_go hg e h4) b2 (by omega) (by omega) h3 _ fun y H3 b3 g1 g2 g3 g4 g5 => by
    obtain ⟨z, hz, rz⟩ := hr x y h5 g5
    exact hz H3 H3 (Ex.refl H3) Q fun H4 e4 => q z H4 b3 (by omega) (by omega) (g3.ex e4) (fun a o w => e4 a o (wo_trans h4 g4 a o w)) rz
/-! ### the statements over draws -/
variable {D : Ends} {tz : TS} {H : Hp} {b : Int}
theorem q_dv {i : Nat} (h : Dv p te σ G k R) (hg : G p = none) (e : Ex G H) (hb : 0 ≤ b) (hk : b + k ≤ 1000000000) (s : Sx p b H)
    (kk : ∀ v H2 b', b ≤ b' → b' ≤ b + k → Sx p b' H2 → Ex G H2 → R v → tz D (σ.set i (some v)) H2) : tSeq (tAsg te (gName i)) tz D σ H :=
  h H e b hb hk s _ fun v H2 b' h1 h2 h3 h4 h5 => kk v H2 b' h1 h2 h3 (wo_go hg e h4) h5
theorem s_dv {i : Nat} (h : Dv p te σ G k R) (hg : G p = none) (e : Ex G H) (hb : 0 ≤ b) (hk : b + k ≤ 1000000000) (s : Sx p b H)
    (kk : ∀ v H2 b', b ≤ b' → b' ≤ b + k → Sx p b' H2 → Ex G H2 → R v → D.nx (σ.set i (some v)) H2) : tAsg te (gName i) D σ H :=
  h H e b hb hk s _ fun v H2 b' h1 h2 h3 h4 h5 => kk v H2 b' h1 h2 h3 (wo_go hg e h4) h5
theorem s_dvRet (h : Dv p te σ G k R) (hg : G p = none) (e : Ex G H) (hb : 0 ≤ b) (hk : b + k ≤ 1000000000) (s : Sx p b H)
    (kk : ∀ v H2 b', b ≤ b' → b' ≤ b + k → Sx p b' H2 → Ex G H2 → R v → D.rt v H2) : tRet te D σ H :=
  h H e b hb hk s _ fun v H2 b' h1 h2 h3 h4 h5 => kk v H2 b' h1 h2 h3 (wo_go hg e h4) h5
/-! ### the promises of the law's draws -/
def mixed (n k : Int) : Int := (((n % 2147483647 + 7919 * k * k + 31 * k) * 48271) % 2147483647 * (69621 + 2 * k)) % 2147483629
theorem mixed_range (n k : Int) : 0 ≤ mixed n k ∧ mixed n k < 2147483629 := ⟨Int.emod_nonneg _ (by decide), Int.emod_lt_of_pos _ (by decide)⟩
def spMixed : Sp := fun vs H Q _ => ∃ n k : Int, vs = [.int n, .int k] ∧ 0 ≤ k ∧ k ≤ 2000000000 ∧ RetV (.int (mixed n k)) H Q
theorem is_mixed {n k : Int} (h0 : 0 ≤ k) (h1 : k ≤ 2000000000) : SpIs spMixed [.int n, .int k] H (.int (mixed n k)) := fun H1 _ Q q E => ⟨n, k, rfl, h0, h1, fun H2 e => q H2 e⟩
def spStream : Sp := fun vs H Q _ => ∃ n k : Int, vs = [.int n, .int k] ∧ 0 ≤ k ∧ k ≤ 2000000000 ∧ ∀ p H2, H p = none → Ex H H2 → Sx p 0 H2 → Q (.ref p) H2
def spDraw : Sp := fun vs H Q _ => ∃ (p : Addr) (b top : Int), vs = [.ref p, .int top] ∧ 0 ≤ b ∧ b + 1 ≤ 1000000000 ∧ Sx p b H ∧ 0 < top ∧ top ≤ 1000000 ∧
  ∀ (n : Int) H2, 0 ≤ n → n < top → Sx p (b + 1) H2 → Ex (wo p H) H2 → Q (.int n) H2
def spPick (K : PySem.W.Frag) : Sp := fun vs H Q _ => ∃ (p l : Addr) (b : Int) (xs : List V), vs = [.ref p, .ref l] ∧ 0 ≤ b ∧ b + 1 ≤ 1000000000 ∧ Sx p b H ∧ l ≠ p ∧ SqL K H l xs ∧ 0 < xs.length ∧ xs.length ≤ 100000 ∧
  ∀ v H2 b', v ∈ xs → b ≤ b' → b' ≤ b + 1 → Sx p b' H2 → Ex (wo p H) H2 → Q v H2
def InR (lo hi : Int) (v : V) : Prop := ∃ n : Int, v = .int n ∧ lo ≤ n ∧ n < hi
def IsS (n : Nat) (v : V) : Prop := ∃ z, v = .str z ∧ z.length ≤ n
/-- draw(stream, top) with a known top -/
theorem dv_draw {i : Nat} {E : XK} {top : Int} (hp : σ[i]? = some (some (.ref p))) (ht : Ev te σ G (.int top)) (h0 : 0 < top) (h1 : top ≤ 1000000) :
    Dv p (tCall spDraw [] E (tCons (tVar i) (tCons te tNil))) σ G 1 (InR 0 top) := fun H1 e b hb hk s Q q =>
  ⟨.ref p, hp, ht H1 e _ fun H2 e2 => by
    refine ⟨p, b, top, rfl, hb, by omega, s.ex e2, h0, h1, fun n H3 n0 n1 s3 e3 => q (.int n) H3 (b + 1) (by omega) (by omega) s3 (fun a o z => e3 a o (wo_mono e2 a o z)) ⟨n, rfl, n0, n1⟩⟩⟩
theorem dv_pick {i : Nat} {E : XK} {Rs : List V → Prop} (hg : G p = none) (hp : σ[i]? = some (some (.ref p))) (h : DvL p te σ G k Rs) (hn : ∀ ys, Rs ys → 0 < ys.length ∧ ys.length ≤ 100000) :
    Dv p (tCall (spPick K) [] E (tCons (tVar i) (tCons te tNil))) σ G (k + 1) (fun v => ∃ ys, Rs ys ∧ v ∈ ys) := fun H1 e b hb hk s Q q =>
  ⟨.ref p, hp, h H1 e b hb (by omega) s _ fun v H2 b2 h1 h2 h3 h4 h5 => by
    obtain ⟨l, ys, rfl, np, nl, hl, ry⟩ := h5
    refine ⟨p, l, b2, ys, rfl, by omega, by omega, h3, np, sq_of hl, (hn ys ry).1, (hn ys ry).2, fun v H3 b3 hv g1 g2 s3 e3 => q v H3 b3 (by omega) (by omega) s3 (wo_trans h4 e3) ⟨ys, ry, hv⟩⟩⟩
theorem dv_pickV {i : Nat} {E : XK} {l : Addr} {ys : List V} (hp : σ[i]? = some (some (.ref p))) (h : Ev te σ G (.ref l)) (np : l ≠ p) (hl : SqL K G l ys) (h0 : 0 < ys.length) (h1 : ys.length ≤ 100000) :
    Dv p (tCall (spPick K) [] E (tCons (tVar i) (tCons te tNil))) σ G 1 (fun v => v ∈ ys) := fun H1 e b hb hk s Q q =>
  ⟨.ref p, hp, h H1 e _ fun H2 e2 => by
    refine ⟨p, l, b, ys, rfl, hb, by omega, s.ex e2, np, ex_l (e.trans e2) hl, h0, h1, fun v H3 b3 hv g1 g2 s3 e3 => q v H3 b3 (by omega) (by omega) s3 (fun a o z => e3 a o (wo_mono e2 a o z)) hv⟩⟩
theorem t_dv {b : Int} {H : Hp} {Q : Bool → Hp → Prop} (h : Dv p te σ G k R) (hR : ∀ v, R v → ∃ c, v = V.bl c) (hg : G p = none) (e : Ex G H) (hb : 0 ≤ b) (hk : b + k ≤ 1000000000) (s : Sx p b H)
    (kk : ∀ c H2 b', b ≤ b' → b' ≤ b + k → Sx p b' H2 → Ex G H2 → Q c H2) : tTest te σ H Q :=
  h H e b hb hk s _ fun v H2 b' h1 h2 h3 h4 h5 => by
    obtain ⟨c, rfl⟩ := hR v h5
    exact ⟨c, rfl, kk c H2 b' h1 h2 h3 (wo_go hg e h4)⟩
theorem t_ev {t : TT} {b : Int} {H : Hp} {c : Bool} {Q : Bool → Hp → Prop} (h : EvT t σ G c) (e : Ex G H) (s : Sx p b H) (kk : ∀ H2, Sx p b H2 → Ex G H2 → Q c H2) : t σ H Q :=
  h H e Q fun H2 e2 => kk H2 (s.ex e2) (e.trans e2)
/-- draws: a comparison with a written number -/
theorem dv_cmp {f : Int → Int → Bool} {top m : Int} {ta : TE} {i : Nat} {E : XK} (hg : G p = none) (hp : σ[i]? = some (some (.ref p))) (ht : Ev ta σ G (.int top)) (h0 : 0 < top) (h1 : top ≤ 1000000) :
    Dv p (tOp (rI0 fun a b => .bl (f a b)) (tCall spDraw [] E (tCons (tVar i) (tCons ta tNil))) (tC (.int m))) σ G 1 (fun v => ∃ c, v = V.bl c) :=
  dv_imp (dv_op (Rz := fun v => ∃ c, v = V.bl c) hg (dv_draw hp ht h0 h1) (dv_ev ev_c) fun x y hx hy => by
    obtain ⟨n, rfl, _⟩ := hx
    cases hy
    exact ⟨_, fun H => rv_I0, _, rfl⟩) (fun _ h => h) (by omega)
theorem dv_eqZ {top m : Int} {ta : TE} {i : Nat} {E : XK} (hg : G p = none) (hp : σ[i]? = some (some (.ref p))) (ht : Ev ta σ G (.int top)) (h0 : 0 < top) (h1 : top ≤ 1000000) :
    Dv p (tOp rEq (tCall spDraw [] E (tCons (tVar i) (tCons ta tNil))) (tC (.int m))) σ G 1 (fun v => ∃ c, v = V.bl c) :=
  dv_imp (dv_op (Rz := fun v => ∃ c, v = V.bl c) hg (dv_draw hp ht h0 h1) (dv_ev ev_c) fun x y hx hy => by
    obtain ⟨n, rfl, _⟩ := hx
    cases hy
    exact ⟨_, fun H => rv_eq rfl, _, rfl⟩) (fun _ h => h) (by omega)
theorem dv_str {z : Str} {m : Nat} (h : Ev te σ G (.str z)) (hz : z.length ≤ m) : Dv p te σ G 0 (IsS m) := dv_imp (dv_ev h) (fun x e => ⟨z, e, hz⟩) (Nat.le_refl _)
theorem dv_addS {m n : Nat} (hg : G p = none) (ha : Dv p ta σ G k (IsS m)) (hb : Dv p tb σ G j (IsS n)) (hz : m + n ≤ 100000) : Dv p (tOp rAddS ta tb) σ G (k + j) (IsS (m + n)) :=
  dv_op hg ha hb fun x y hx hy => by
    obtain ⟨a, rfl, h1⟩ := hx
    obtain ⟨b, rfl, h2⟩ := hy
    exact ⟨_, fun H => rv_addS (by omega), _, rfl, by rw [Str.length_append]; omega⟩
/-! ### comprehensions that draw; joins -/
theorem dvl_lcR {tc : TA} {jj : Nat} {vs : List Nat} {n : Nat} (hg : G p = none) (h : EvA tc σ G [.int (n : Int)]) (hn : n ≤ 1000) (hw : ∀ x, wipe ((wipe σ vs).set jj (some x)) vs = wipe σ vs)
    (he : ∀ i : Nat, i < n → Dv p te ((wipe σ vs).set jj (some (.int (i : Int)))) G k R) : DvL p (tLc (iRng1 tc) (gName jj) tYes te vs) σ G (n * k) (fun ys => ys.length = n ∧ ∀ y ∈ ys, R y) := fun H1 e b hb hk s Q q =>
  h H1 e _ fun H2 e2 => ⟨(n : Int), rfl, by omega, by omega, fun Dl hD => by
    have np : Dl ≠ p := by
      obtain ⟨a, c, hp⟩ := s.ex e2
      exact (ne_of_none hp hD).symm
    refine lc_range (lo := 0) (n := ((n : Int)).toNat) (fun i H3 => ∃ (b3 : Int) (acc : List V), b ≤ b3 ∧ b3 ≤ b + (i * k : Nat) ∧ Sx p b3 H3 ∧ Ex (wo p H2) H3 ∧ H3 Dl = some (.lst acc) ∧ acc.length = i ∧ ∀ y ∈ acc, R y)
      ⟨b, [], Int.le_refl _, by omega, ?_, fun a o z => Ex.new hD a o (wo_ex a o z), upd_same, rfl, fun y hy => by cases hy⟩ ?_ ?_
    · obtain ⟨a, c, hp⟩ := s.ex e2
      exact ⟨a, c, by rw [upd_ne np.symm]; exact hp⟩
    · rintro i H3 hi ⟨b3, acc, h1, h2, h3, h4, h5, h6, h7⟩
      have hi' : i < n := by omega
      have e0 : (0 : Int) + (i : Int) = (i : Int) := Int.zero_add _
      have hkk : (i + 1) * k ≤ n * k := Nat.mul_le_mul_right k hi'
      have hk1 : (i + 1) * k = i * k + k := by rw [Nat.add_mul, Nat.one_mul]
      show wipe ((wipe σ vs).set jj (some (.int ((0 : Int) + (i : Int))))) vs = wipe σ vs ∧ _
      rw [e0]
      refine ⟨hw _, ?_⟩
      show te ((wipe σ vs).set jj (some (.int (i : Int)))) H3 _
      refine he i hi' H3 (fun a o z => h4 a o (by rw [wo_ne (ne_of_none z hg)]; exact (e.trans e2) a o z)) b3 (by omega) (by omega) h3 _ fun v H4 b4 g1 g2 g3 g4 g5 => ?_
      have h5' : H4 Dl = some (.lst acc) := g4 _ _ (by rw [wo_ne np]; exact h5)
      refine ⟨acc, h5', sz_lt (by omega), b4, acc ++ [v], by omega, by omega, ?_, ?_, upd_same, by rw [List.length_append, h6]; rfl, fun y hy => ?_⟩
      · obtain ⟨a, c, hp⟩ := g3
        exact ⟨a, c, by rw [upd_ne np.symm]; exact hp⟩
      · exact fun a o z => by
          have na : a ≠ Dl := by
            intro q2
            rw [q2, wo_ne np, hD] at z
            cases z
          rw [upd_ne na]
          exact wo_trans h4 g4 a o z
      · cases List.mem_append.mp hy with
        | inl hy => exact h7 y hy
        | inr hy => rw [List.mem_singleton.mp hy]; exact g5
    · rintro H3 ⟨b3, acc, h1, h2, h3, h4, h5, h6, h7⟩
      have en : ((n : Int)).toNat = n := Int.toNat_natCast n
      rw [en] at h2 h6
      have hl1 : H1 Dl = none := fresh_back e2 hD
      exact q (.ref Dl) H3 b3 h1 h2 h3 (fun a o z => h4 a o (wo_mono e2 a o z)) ⟨Dl, acc, rfl, np, hl1, h5, h6, h7⟩⟩
/-- the same over range(n), n itself drawn, below m -/
theorem dvl_lcRD {td : TE} {jj : Nat} {vs : List Nat} {m k0 : Nat} (hg : G p = none) (h : Dv p td σ G k0 (InR 1 m)) (hn : m ≤ 1000) (hw : ∀ x, wipe ((wipe σ vs).set jj (some x)) vs = wipe σ vs)
    (he : ∀ i : Nat, i < m → Dv p te ((wipe σ vs).set jj (some (.int (i : Int)))) G k R) : DvL p (tLc (iRng1 (tCons td tNil)) (gName jj) tYes te vs) σ G (k0 + m * k) (fun ys => 0 < ys.length ∧ ys.length < m ∧ ∀ y ∈ ys, R y) := fun H1 e b hb hk s Q q =>
  h H1 e b hb (by omega) s _ fun v H2 b2 h1 h2 h3 h4 h5 => by
    obtain ⟨n0, rfl, n1, n2⟩ := h5
    obtain ⟨n, rfl⟩ : ∃ n : Nat, n0 = (n : Int) := ⟨n0.toNat, by omega⟩
    have hkk : n * k ≤ m * k := Nat.mul_le_mul_right k (by omega)
    have e2 : Ex (wo p H1) H2 := h4
    refine dvl_lcR (G := wo p H2) (σ := σ) (n := n) (k := k) (R := R) (te := te) (jj := jj) (vs := vs) (tc := tCons (tC (.int (n : Int))) tNil) wo_at (ea_cons ev_c ea_nil) (by omega) hw (fun i hi H3 e3 => he i (by omega) H3 (fun a o z => e3 a o (by
      have q2 : a ≠ p := ne_of_none z hg
      rw [wo_ne q2]
      exact h4 a o (by rw [wo_ne q2]; exact e a o z)))) H2 wo_ex b2 (by omega) (by omega) h3 Q fun v3 H3 b3 g1 g2 g3 g4 g5 => ?_
    obtain ⟨l, ys, rfl, np, nl, hl, hn3, hy⟩ := g5
    refine q (.ref l) H3 b3 (by omega) (by omega) g3 (wo_trans h4 g4) ⟨l, ys, rfl, np, ?_, hl, by omega, by omega, hy⟩
    cases z : H1 l with
    | none => rfl
    | some o =>
      rw [h4 l o (by rw [wo_ne np]; exact z)] at nl
      cases nl
theorem q_dvL {D : Ends} {tz : TS} {H : Hp} {b : Int} {i : Nat} {Rs : List V → Prop} (h : DvL p te σ G k Rs) (hg : G p = none) (e : Ex G H) (hb : 0 ≤ b) (hk : b + k ≤ 1000000000) (s : Sx p b H)
    (kk : ∀ l ys H2 b', b ≤ b' → b' ≤ b + k → Sx p b' H2 → Ex G H2 → l ≠ p → H2 l = some (.lst ys) → Rs ys → tz D (σ.set i (some (.ref l))) H2) : tSeq (tAsg te (gName i)) tz D σ H :=
  h H e b hb hk s _ fun v H2 b' h1 h2 h3 h4 h5 => by
    obtain ⟨l, ys, rfl, np, nl, hl, ry⟩ := h5
    exact kk l ys H2 b' h1 h2 h3 (wo_go hg e h4) np hl ry
/-! ### lists of things that are no texts -/
def EvN (K : PySem.W.Frag) (te : TE) (σ : L2.St) (H : Hp) : Prop := ∀ H1, Ex H H1 → ∀ Q : VK, (∀ v H2, Ex H1 H2 → NotS K H2 v → Q v H2) → te σ H1 Q
def EvAN (K : PySem.W.Frag) (ta : TA) (σ : L2.St) (H : Hp) (n : Nat) : Prop := ∀ H1, Ex H H1 → ∀ Q : List V → Hp → Prop, (∀ vs H2, Ex H1 H2 → vs.length = n → (∀ v ∈ vs, NotS K H2 v) → Q vs H2) → ta σ H1 Q
theorem en_ev {H : Hp} (h : Ev te σ H v) (n : ∀ H1 : Hp, NotS K H1 v) : EvN K te σ H := fun H1 e Q q => h H1 e Q fun H2 e2 => q v H2 e2 (n H2)
theorem en_tup {H : Hp} {xs : List V} (h : EvU te σ H xs) : EvN K te σ H := fun H1 e Q q => h H1 e Q fun a H2 ha e2 h2 => q _ H2 e2 (.tup h2)
theorem en_lst {H : Hp} {xs : List V} (h : EvL te σ H xs) : EvN K te σ H := fun H1 e Q q => h H1 e Q fun a H2 ha e2 h2 => q _ H2 e2 (.lst h2)
theorem ean_nil {H : Hp} : EvAN K tNil σ H 0 := fun H1 e Q q => q [] H1 (Ex.refl H1) rfl fun v hv => by cases hv
theorem ean_cons {H : Hp} {tr : TA} {n : Nat} (h : EvN K te σ H) (hr : EvAN K tr σ H n) : EvAN K (tCons te tr) σ H (n + 1) := fun H1 e Q q =>
  h H1 e _ fun v H2 e2 nv => hr H2 (e.trans e2) _ fun vs H3 e3 hl hv => q (v :: vs) H3 (e2.trans e3) (by rw [List.length_cons, hl]) fun y hy => by
    cases List.mem_cons.mp hy with
    | inl e => rw [e]; exact nv.ex e3
    | inr hy => exact hv y hy
theorem en_dict1 {H : Hp} {kx : Str} {y : V} {tk tv : TE} (hk : Ev tk σ H (.str kx)) (hv : Ev tv σ H y) : EvN K (tDisp [(tk, tv)]) σ H := fun H1 e Q q =>
  fun d hd => by
    have e1 : Ex H (upd H1 d (.dK [])) := e.trans (Ex.new hd)
    refine hk _ e1 _ fun H2 e2 => hv H2 (e1.trans e2) _ fun H3 e3 => ?_
    have hd3 : H3 d = some (.dK []) := e3 _ _ (e2 _ _ upd_same)
    refine ⟨hd3, [(Sum.inr kx, y)], rfl, by show 1 ≤ 15; decide, q (.ref d) _ (fun a o z => ?_) (.dic upd_same)⟩
    have na : a ≠ d := ne_of_none z hd
    rw [upd_ne na]
    exact e3 a o (e2 a o (by rw [upd_ne na]; exact z))
theorem NotS.wo {H H' : Hp} {b : Int} (n : NotS K H v) (e : Ex (Gd.wo p H) H') (s : Sx p b H') : NotS K H' v := by
  have at_p : ∀ {a : Addr} {o : HO}, H a = some o → a = p ∨ H' a = some o := fun {a o} h => by
    by_cases q : a = p
    · exact Or.inl q
    · exact Or.inr (e a o (by rw [wo_ne q]; exact h))
  obtain ⟨a0, c0, hp⟩ := s
  cases n with
  | non => exact .non
  | bl b => exact .bl b
  | int i => exact .int i
  | lst h => cases at_p h with | inl q => rw [q]; exact .lst hp | inr h => exact .lst h
  | tup h => cases at_p h with | inl q => rw [q]; exact .lst hp | inr h => exact .tup h
  | dic h => cases at_p h with | inl q => rw [q]; exact .lst hp | inr h => exact .dic h
def rJoin (K : PySem.W.Frag) : V → List V → Hp → VK → Prop := fun x xs H Q => ∃ a p, ∃ ys : List Str, x = .str a ∧ xs = [.ref p] ∧ (SqL K H p (ys.map V.str) ∨ SqT K H p (ys.map V.str)) ∧
      (ys.map (·.length)).sum + ys.length * a.length ≤ 16777216 ∧ Q (.str (Txt.join a ys)) H
theorem texts_of {m : Nat} : ∀ {ys : List V}, (∀ y ∈ ys, IsS m y) → ∃ zs : List Str, ys = zs.map V.str ∧ (zs.map (·.length)).sum ≤ zs.length * m ∧ zs.length = ys.length
  | [], _ => ⟨[], rfl, Nat.zero_le _, rfl⟩
  | y :: ys, h => by
    obtain ⟨z, rfl, hz⟩ := h y List.mem_cons_self
    obtain ⟨zs, e, hs, hl⟩ := texts_of fun x hx => h x (List.mem_cons_of_mem _ hx)
    refine ⟨z :: zs, by rw [e]; rfl, ?_, by rw [List.length_cons, List.length_cons, hl]⟩
    rw [List.map_cons, List.sum_cons, List.length_cons, Nat.add_mul, Nat.one_mul]
    omega
theorem join_le (a : Str) (zs : List Str) : (Txt.join a zs).length ≤ (zs.map (·.length)).sum + zs.length * a.length := by
  rw [join_eq]
  exact PySem.StrLaws.join_length_le a zs
theorem dv_join {z0 : Str} {m n : Nat} (h : DvL p te σ G k (fun ys => ys.length ≤ n ∧ ∀ y ∈ ys, IsS m y)) (hz : n * (m + z0.length) ≤ 100000) : Dv p (tM1 (rJoin K) (tC (.str z0)) te) σ G k (IsS (n * (m + z0.length))) := fun H1 e b hb hk s Q q =>
  ⟨⟨z0, rfl⟩, h H1 e b hb hk s _ fun v H2 b' h1 h2 h3 h4 h5 => by
    obtain ⟨l, ys, rfl, np, nl, hl, hn, hy⟩ := h5
    obtain ⟨zs, e1, hs, hlen⟩ := texts_of hy
    have e2 : zs.length * m + zs.length * z0.length = zs.length * (m + z0.length) := (Nat.mul_add _ _ _).symm
    have e3 : zs.length * (m + z0.length) ≤ n * (m + z0.length) := Nat.mul_le_mul_right _ (by omega)
    have hj := join_le z0 zs
    exact ⟨z0, l, zs, rfl, rfl, Or.inl (sq_of (by rw [← e1]; exact hl)), by omega, q _ H2 b' h1 h2 h3 h4 ⟨_, rfl, by omega⟩⟩⟩
theorem ev_join {H : Hp} {z0 : Str} {zs : List Str} {l : Addr} (h : Ev te σ H (.ref l)) (hl : H l = some (.lst (zs.map V.str))) (hz : (zs.map (·.length)).sum + zs.length * z0.length ≤ 16777216) : Ev (tM1 (rJoin K) (tC (.str z0)) te) σ H (.str (Txt.join z0 zs)) := fun H1 e Q q =>
  ⟨⟨z0, rfl⟩, h H1 e _ fun H2 e2 => ⟨z0, l, zs, rfl, rfl, Or.inl (sq_of ((e.trans e2) _ _ hl)), hz, q H2 e2⟩⟩
theorem ev_joinL {H : Hp} {z0 : Str} {zs : List Str} (h : EvL te σ H (zs.map V.str)) (hz : (zs.map (·.length)).sum + zs.length * z0.length ≤ 16777216) : Ev (tM1 (rJoin K) (tC (.str z0)) te) σ H (.str (Txt.join z0 zs)) := fun H1 e Q q =>
  ⟨⟨z0, rfl⟩, h H1 e _ fun l H2 hl e2 h2 => ⟨z0, l, zs, rfl, rfl, Or.inl (sq_of h2), hz, q H2 e2⟩⟩
def rUpper : V → List V → Hp → VK → Prop := fun x xs H Q => ∃ a, x = .str a ∧ xs = [] ∧ a.length ≤ 5592405 ∧ Q (.str (Txt.upper a)) H
theorem ev_upper {H : Hp} {z : Str} (h : Ev te σ H (.str z)) (hz : z.length ≤ 100000) : Ev (tM0 rUpper te) σ H (.str (Txt.upper z)) := fun H1 e Q q =>
  h H1 e _ fun H2 e2 => ⟨⟨z, rfl⟩, z, rfl, rfl, by omega, q H2 e2⟩
theorem mulOk_of {z : Str} {n : Nat} (hz : z.length ≤ 100) (hn : n ≤ 10000) : MulOk z (n : Int) := by
  refine ⟨?_, fun h1 _ => ?_, fun _ _ => ?_⟩
  · rw [decide_eq_false (by omega), decide_eq_false (by omega)] <;> rfl
  · have h3 : (100 : Int) ≤ ((2 : Int) ^ 63 - 1) / (n : Int) := Int.le_ediv_of_mul_le (by omega) (by omega)
    omega
  · have h4 : z.length * ((n : Int)).toNat ≤ 100 * 10000 := Nat.mul_le_mul hz (by rw [Int.toNat_natCast]; exact hn)
    exact decide_eq_false (by have : (100 * 10000 : Nat) ≤ sizeLine := by decide
                              omega)
theorem mul_len (z : Str) (n : Nat) : (Txt.mul z (n : Int)).length ≤ z.length * n := by
  have fl : ∀ (m : Nat) (acc : Array Nat), ((List.replicate m z.cps).foldl (fun (x1 x2 : Array Nat) => x1 ++ x2) acc).size = acc.size + m * z.cps.size := by
    intro m
    induction m with
    | zero => intro acc; simp
    | succ m ih =>
      intro acc
      rw [List.replicate_succ, List.foldl_cons, ih, Array.size_append, Nat.add_mul, Nat.one_mul]
      omega
  unfold Txt.mul
  split
  · exact Nat.zero_le _
  · split
    · next h1 h2 =>
      have : 1 ≤ n := by omega
      exact Nat.le_mul_of_pos_right _ this
    · show ((List.replicate ((n : Int)).toNat z.cps).foldl (fun (x1 x2 : Array Nat) => x1 ++ x2) #[]).size ≤ _
      rw [fl, Int.toNat_natCast]
      show 0 + n * z.length ≤ z.length * n
      rw [Nat.mul_comm]
      omega
theorem el_slN {H : Hp} {tl th : TO} {xs : List V} {lo hi : Option Int} (h : EvL te σ H xs) (h1 : EvO tl σ H lo) (h2 : EvO th σ H hi) : EvL (tSl (rSlL K) te tl th) σ H (cutV xs lo hi) := fun H1 e Q q =>
  h H1 e _ fun a H2 ha e2 hx => h1 H2 (e.trans e2) _ fun H3 e3 => h2 H3 ((e.trans e2).trans e3) _ fun H4 e4 =>
    ⟨a, xs, rfl, sq_of (e4 _ _ (e3 _ _ hx)), fun p hp => q p _ (fresh_back ((e2.trans e3).trans e4) hp) (((e2.trans e3).trans e4).trans (Ex.new hp)) upd_same⟩
theorem mulOkZ {z : Str} {k : Int} (hz : z.length ≤ 100) (h0 : 0 ≤ k) (h1 : k ≤ 10000) : MulOk z k := by
  obtain ⟨n, rfl⟩ : ∃ n : Nat, k = (n : Int) := ⟨k.toNat, by omega⟩
  exact mulOk_of hz (by omega)
theorem mul_lenZ {z : Str} {k : Int} (h0 : 0 ≤ k) : (Txt.mul z k).length ≤ z.length * k.toNat := by
  obtain ⟨n, rfl⟩ : ∃ n : Nat, k = (n : Int) := ⟨k.toNat, by omega⟩
  rw [Int.toNat_natCast]
  exact mul_len z n
/-- a for over a new tuple -/
theorem s_forNT {D : Ends} {tu : TS} {H : Hp} {xs : List V} {tl : TE} {jj : Nat} (h : EvU tl σ H xs) (Pv : Hp → Nat → L2.St → Hp → Prop) (h0 : ∀ H1, Ex H H1 → Pv H1 0 σ H1) (hx : ∀ H1 i σ' H', Pv H1 i σ' H' → Ex H1 H')
    (hs : ∀ H1, Ex H H1 → ∀ (i : Nat) (x : V) σ' H', xs[i]? = some x → Pv H1 i σ' H' → tu { D with nx := Pv H1 (i + 1), ct := Pv H1 (i + 1), bk := D.nx } (σ'.set jj (some x)) H') (hd : ∀ H1 σ' H', Ex H H1 → Pv H1 xs.length σ' H' → D.nx σ' H') : tFor (iTup K tl) (gName jj) tu D σ H :=
  h H (Ex.refl H) _ fun a H1 ha e1 h1 => ⟨a, rfl, ⟨xs, st_of h1⟩, for_tup (Pv H1) (h0 H1 e1) (fun i σ' H' hi p => st_of (hx H1 i σ' H' p a _ h1)) (hs H1 e1) (fun σ' H' p => hd H1 σ' H' e1 p)⟩
/-- one of some things that are no texts -/
theorem q_pickN {D : Ends} {tz : TS} {H : Hp} {b : Int} {i jj n : Nat} {E : XK} {ta : TA} (hp : σ[i]? = some (some (.ref p))) (h : EvAN K ta σ H n) (h0 : 0 < n) (h1 : n ≤ 100) (hb : 0 ≤ b) (hk : b + 1 ≤ 1000000000) (s : Sx p b H)
    (kk : ∀ v H2 b', b ≤ b' → b' ≤ b + 1 → Sx p b' H2 → Ex (Gd.wo p H) H2 → NotS K H2 v → tz D (σ.set jj (some v)) H2) : tSeq (tAsg (tCall (spPick K) [] E (tCons (tVar i) (tCons (tLst ta) tNil))) (gName jj)) tz D σ H :=
  ⟨.ref p, hp, h H (Ex.refl H) _ fun vs H6 e6 hl hv => ⟨sz_of (by omega), fun l hl6 => by
    have s6 := s.ex e6
    have np : l ≠ p := by
      obtain ⟨_, _, hpp⟩ := s6
      exact (ne_of_none hpp hl6).symm
    refine ⟨p, l, b, vs, rfl, hb, hk, s6.ex (Ex.new hl6), np, sq_of upd_same, by omega, by omega, fun v H7 b7 hv7 b70 b71 s7 e7 => ?_⟩
    exact kk v H7 b7 b70 b71 s7 (fun x o z => e7 x o (wo_mono (e6.trans (Ex.new hl6)) x o z)) (((hv v hv7).ex (Ex.new hl6)).wo e7 s7)⟩⟩
/-- a def that draws and hands back a text -/
def spGive (kk m : Nat) : Sp := fun vs H Q _ => ∃ (p : Addr) (b : Int), vs = [.ref p] ∧ 0 ≤ b ∧ b + kk ≤ 1000000000 ∧ Sx p b H ∧ Cn p H b kk (fun v _ => IsS m v) Q
theorem dv_give {i kk m : Nat} {E : XK} (hp : σ[i]? = some (some (.ref p))) : Dv p (tCall (spGive kk m) [] E (tCons (tVar i) tNil)) σ G kk (IsS m) := fun H1 e b hb hk s Q q =>
  ⟨.ref p, hp, p, b, rfl, hb, hk, s, q⟩
end
end Gd

set_option maxHeartbeats 4000000
namespace Gd
open PySem PySem.Spec PyProof.Rows L2 Evl

/-! ### repr of a list that may hold a dict -/
/-- v holds the data d in H; where B, it lies apart from the modules' table -/
def Dat (P : Program) (w : World) (K : PySem.W.Frag) (B : Prop) (H : Hp) (v : V) (d : PyData) : Prop :=
  ∀ H1, Ex H H1 → ∀ h : Heap, HOk P w H1 h → K.In h → ∀ u, L2.RelV v u → ∃ as, Reads h u d as ∧ (B → sysModules ∉ as)
def DatAll (P : Program) (w : World) (K : PySem.W.Frag) (B : Prop) (H : Hp) (vs : List V) (ds : List PyData) : Prop :=
  ∀ H1, Ex H H1 → ∀ h : Heap, HOk P w H1 h → K.In h → ∀ us, Vals vs us → ∃ as, ReadsAll h us ds as ∧ (B → sysModules ∉ as)
section
variable {P : Program} {w : World} {K : PySem.W.Frag} {B : Prop} {H : Hp}
theorem Dat.ex {H2 : Hp} {v : V} {d : PyData} (x : Dat P w K B H v d) (e : Ex H H2) : Dat P w K B H2 v d := fun H1 e1 => x H1 (e.trans e1)
theorem dat_non : Dat P w K B H .non .none := fun _ _ _ _ _ u r => by
  cases r
  exact ⟨[], .none, fun _ h => by cases h⟩
theorem dat_bl (b : Bool) : Dat P w K B H (.bl b) (.bool b) := fun _ _ _ _ _ u r => by
  cases r
  exact ⟨[], .bool b, fun _ h => by cases h⟩
theorem dat_int (i : Int) : Dat P w K B H (.int i) (.int i) := fun _ _ _ _ _ u r => by
  obtain ⟨t, rfl⟩ := r
  exact ⟨[], .int i t, fun _ h => by cases h⟩
theorem dat_str (x : Str) : Dat P w K B H (.str x) (.str x) := fun _ _ _ _ _ u r => by
  obtain ⟨t, rfl⟩ := r
  exact ⟨[], .str x t, fun _ h => by cases h⟩
theorem dats_nil : DatAll P w K B H [] [] := fun _ _ _ _ _ us r => by
  cases r
  exact ⟨[], .nil, fun _ h => by cases h⟩
theorem dats_cons {v : V} {d : PyData} {vs : List V} {ds : List PyData} (x : Dat P w K B H v d) (y : DatAll P w K B H vs ds) : DatAll P w K B H (v :: vs) (d :: ds) := fun H1 e h ok X us r => by
  cases r with
  | cons r1 r2 =>
    obtain ⟨as, a1, a2⟩ := x H1 e h ok X _ r1
    obtain ⟨bs, b1, b2⟩ := y H1 e h ok X _ r2
    exact ⟨as ++ bs, .cons a1 b1, fun hB hm => (List.mem_append.mp hm).elim (a2 hB) (b2 hB)⟩
theorem dat_lst {a : Addr} {vs : List V} {ds : List PyData} (ha : H a = some (.lst vs)) (y : DatAll P w K B H vs ds) (na : B → a ≠ sysModules) : Dat P w K B H (.ref a) (.list ds) := fun H1 e h ok X u r => by
  cases r
  obtain ⟨hl, its, n, rv, g⟩ := (ok a _ (e _ _ ha) : ObjOk P w H1 h a (.lst vs))
  obtain ⟨as, a1, a2⟩ := y H1 e h ok X its rv
  exact ⟨_, Reads.list g rfl rfl (by rw [List.toList_toArray]; exact a1), fun hB hm => (List.mem_cons.mp hm).elim (fun z => na hB z.symm) (a2 hB)⟩
theorem dat_tup {a : Addr} {vs : List V} {ds : List PyData} (ha : H a = some (.tup vs)) (y : DatAll P w K B H vs ds) : Dat P w K B H (.ref a) (.tuple ds) := fun H1 e h ok X u r => by
  cases r
  obtain ⟨hl, its, rv, o, g1, g2, n, g3⟩ := (ok a _ (e _ _ ha) : ObjOk P w H1 h a (.tup vs))
  obtain ⟨as, a1, a2⟩ := y H1 e h ok X its rv
  exact ⟨_, Reads.tuple g1 g2 g3 (by rw [List.toList_toArray]; exact a1), a2⟩
/-- {text: integer} -/
theorem dat_dict1 {a : Addr} {kx : Str} {i : Int} (ha : H a = some (.dK [(Sum.inr kx, .int i)])) : Dat P w K B H (.ref a) (.dict [(.str kx, .int i)]) := fun H1 e h ok X u r => by
  cases r
  obtain ⟨hl, hs, vs, kv, o, es, ep, g1, g2, g3, g4, g5, g6⟩ := (ok a _ (e _ _ ha) : ObjOk P w H1 h a (.dK [(Sum.inr kx, .int i)]))
  cases kv with
  | cons r1 r2 =>
    cases r2
    rename_i q
    obtain ⟨k1, v1⟩ := q
    obtain ⟨rk, rv⟩ := r1
    cases rk
    obtain ⟨t, hv⟩ := rv
    dsimp only at hv
    subst hv
    generalize hes : es.toList = L at g5
    cases g5 with
    | cons hk hv hp =>
      cases hp
      rename_i e1
      have rk : ∃ t2, e1.key = .str kx t2 := by
        rcases keyIs_shape (k := Sum.inr kx) (v := e1.key) hk with ⟨j, t2, z, ek⟩ | ⟨y, t2, z, ek⟩
        · cases z
        · cases z
          exact ⟨t2, ek⟩
      obtain ⟨t2, ek⟩ := rk
      refine ⟨a :: [] ++ [], Reads.dict g1 g2.1 g3 ?_ ?_, fun _ hm => ?_⟩
      · rw [hes]
        show ReadsAll h [e1.key] [.str kx] []
        rw [ek]
        exact ReadsAll.cons (.str kx t2) .nil
      · rw [hes]
        show ReadsAll h [e1.val] [.int i] []
        rw [hv]
        exact ReadsAll.cons (.int i t) .nil
      · have hm2 : sysModules = a := by simpa using hm
        rw [← hm2] at hs
        exact absurd hs (by decide)
/-- repr(a new list) -/
def rReprD (P : Program) (w : World) (K : PySem.W.Frag) : List V → Hp → VK → Prop := fun xs H Q => ∃ a d, xs = [.ref a] ∧ Dat P w K (d.hasDict = true) H (.ref a) d ∧ PyData.showable d = true ∧ d.depth ≤ 100 ∧ d.shown.length ≤ sizeLine ∧ Q (.str d.shown) H
theorem call_reprD {X : Cx} {k : Nat} (ca : Calm X.A) (hr : Room k X.A) : CallR X (.builtin "repr") (rReprD X.prog X.w X.K) := by
  intro pins s σ H xs us Q I r h
  obtain ⟨a, d, rfl, hd, h1, h3, h4, q⟩ := h
  obtain ⟨u, rfl, ru⟩ := vals1 r
  cases (show u = Value.ref a from ru)
  obtain ⟨as, hR, hs⟩ := hd H (Ex.refl H) _ I.hok I.kIn _ ru
  have hun := hr.un
  refine repr_of_reads' hR h1 hs ca (by omega) (fun _ _ e => e) (fun h' u tk keep => ?_) h4
  exact ⟨.str d.shown, H, I.kept keep, ⟨_, rfl⟩, q⟩
end
/-- list + list: the new one is not the modules' table -/
def rCatN : R2 := fun x y H Q => ∃ l b xs zs, x = .ref l ∧ y = .ref b ∧ H l = some (.lst xs) ∧ H b = some (.lst zs) ∧ xs.length + zs.length ≤ sizeLine ∧ ∀ p, H p = none → p ≠ sysModules → Q (.ref p) (upd H p (.lst (xs ++ zs)))
theorem op_catN {X : Cx} : OpR X (binaryOp .Add) rCatN := by
  intro pins s σ H x y v u Q I rx ry h
  obtain ⟨l, b, xs, zs, rfl, rfl, h1, h2, hz, q⟩ := h
  cases rx
  cases ry
  obtain ⟨z, is1, n, r, hl, e⟩ := I.lstM h1
  obtain ⟨z2, is2, n2, r2, hl2, e2⟩ := I.lstM h2
  refine PySem.P.add_list e e2 ?_ (by rw [List.size_toArray, List.size_toArray]; omega)
  have ea : is1.toArray ++ is2.toArray = (is1 ++ is2).toArray := by simp
  rw [ea]
  exact ⟨.ref _, _, I.lnew (t' := s.toks) (r.append r2) (by rw [List.length_append]; omega), rfl, q _ I.fresh (Nat.ne_of_gt I.big)⟩
/-- an evaluation to a new list that is not the modules' table -/
def EvLN (te : TE) (σ : L2.St) (H : Hp) (xs : List V) : Prop := ∀ H1, Ex H H1 → ∀ Q : VK, (∀ p H2, H1 p = none → p ≠ sysModules → Ex H1 H2 → H2 p = some (.lst xs) → Q (.ref p) H2) → te σ H1 Q
section
variable {σ : L2.St} {H : Hp} {ta tb te : TE} {D : Ends} {tz : TS}
theorem eln_cat {xs ys : List V} (ha : EvL ta σ H xs) (hb : EvL tb σ H ys) (hz : xs.length + ys.length ≤ 100000) : EvLN (tOp rCatN ta tb) σ H (xs ++ ys) := fun H1 e Q q =>
  ha H1 e _ fun p H2 hp e2 h2 => hb H2 (e.trans e2) _ fun p' H3 hp' e3 h3 => ⟨p, p', xs, ys, rfl, rfl, e3 p _ h2, h3, Nat.le_trans hz (by decide), fun r hr ns => q r _ (fresh_back (e2.trans e3) hr) ns ((e2.trans e3).trans (Ex.new hr)) upd_same⟩
theorem eln_cat1 {l : Addr} {xs ys : List V} (ha : Ev ta σ H (.ref l)) (hl : H l = some (.lst xs)) (hb : EvL tb σ H ys) (hz : xs.length + ys.length ≤ 100000) : EvLN (tOp rCatN ta tb) σ H (xs ++ ys) := fun H1 e Q q =>
  ha H1 e _ fun H2 e2 => hb H2 (e.trans e2) _ fun p' H3 hp' e3 h3 => ⟨l, p', xs, ys, rfl, rfl, ((e.trans e2).trans e3) l _ hl, h3, Nat.le_trans hz (by decide), fun r hr ns => q r _ (fresh_back (e2.trans e3) hr) ns ((e2.trans e3).trans (Ex.new hr)) upd_same⟩
theorem q_asgLN {i : Nat} {xs : List V} (h : EvLN te σ H xs) (k : ∀ p H1, H p = none → p ≠ sysModules → Ex H H1 → H1 p = some (.lst xs) → tz D (σ.set i (some (.ref p))) H1) : tSeq (tAsg te (gName i)) tz D σ H := h H (Ex.refl H) _ k
theorem s_retLN {xs : List V} (h : EvLN te σ H xs) (k : ∀ p H1, H p = none → p ≠ sysModules → Ex H H1 → H1 p = some (.lst xs) → D.rt (.ref p) H1) : tRet te D σ H := h H (Ex.refl H) _ k
end
end Gd

set_option maxHeartbeats 4000000
namespace Gd
open PySem PySem.Spec PyProof.Rows L2

/-! ### an exception that outlives its suite -/
/-- at a stands an exception of the class cls with the dict d -/
def xob (a : Addr) (cls : Value) (d : Option Addr) : HO :=
  .ext fun h => ∃ oe : Obj, h.get? a = some oe ∧ Zc cls d oe ∧ ∃ vs, oe.data = .fields vs
theorem xob_ok {P : Program} {w : World} {H : Hp} {h : Heap} {a : Addr} {cls : Value} {d : Option Addr} {oe : Obj} {vs : Array Value}
    (e : h.get? a = some oe) (z : Zc cls d oe) (f : oe.data = .fields vs) : ObjOk P w H h a (xob a cls d) :=
  ⟨⟨oe, e, z, vs, f⟩, ⟨oe, e⟩, fun _ _ ⟨o, q, r⟩ k => ⟨o, k o q, r⟩⟩
theorem xob_at {P : Program} {w : World} {H : Hp} {h : Heap} {a : Addr} {cls : Value} {d : Option Addr} (ok : HOk P w H h) (e : H a = some (xob a cls d)) :
    ∃ oe : Obj, h.get? a = some oe ∧ Zc cls d oe ∧ ∃ vs, oe.data = .fields vs := (ok a _ e).1

section
variable {X : Cx} {pins : List (Addr × Obj)} {σ : L2.St} {H : Hp} {s : Shared}
/-- an object that stands in the heap and that nobody tracked, new since the entry, is tracked from now on -/
theorem track {a : Addr} {o : HO} (I : Inv X pins σ H s) (na : H a = none) (n0 : X.s_0.heap.get? a = none) (nL : a ≠ X.env.locals)
    (nC : ∀ x c, X.env.cells.lookup x = some c → c ≠ a) (nP : ∀ p ∈ X.pn ++ pins, p.1 ≠ a) (new : ObjOk X.prog X.w (upd H a o) s.heap a o) :
    Inv X pins σ (upd H a o) s := by
  have ne0 : ∀ {b : Addr} {u : Obj}, X.s_0.heap.get? b = some u → b ≠ a := fun {b u} e z => by
    rw [z, n0] at e
    cases e
  refine ⟨I.ok, I.os, I.bare, ⟨I.base.keep, I.base.slot, ?_, I.base.there, ?_, ?_, ?_⟩, I.loc, I.cell, ?_, ?_, ?_, ?_, I.len⟩
  · intro b u e n hx
    rw [upd_ne (ne0 e)]
    exact I.base.free b u e n hx
  · intro b xs e
    have q := I.base.tups b xs e
    rw [upd_ne (ne_of_none q na)]
    exact q
  · intro b u xs e
    have q := I.base.frzs b u xs e
    rw [upd_ne (ne_of_none q na)]
    exact q
  · intro b ps e
    obtain ⟨m, q⟩ := I.base.tbls b ps e
    exact ⟨m, by rw [upd_ne (ne_of_none q na)]; exact q⟩
  · rw [upd_ne (Ne.symm nL)]
    exact I.free
  · intro x c e
    rw [upd_ne (nC x c e)]
    exact I.freeC x c e
  · intro p hp
    obtain ⟨e, n, r⟩ := I.pin p hp
    exact ⟨e, by rw [upd_ne (nP p hp)]; exact n, r⟩
  · intro b u e
    by_cases hb : b = a
    · subst hb
      rw [upd_same] at e
      cases e
      exact new
    · rw [upd_ne hb] at e
      refine (I.hok b u e).stay (fun c v _ q => q) (fun c q => ?_) fun c xs q => ?_
      · rw [upd_ne (ne_of_none q na)]
        exact q
      · rw [upd_ne (ne_of_none q na)]
        exact q
end

/-- the clause's test: an expression that names the classes cs -/
def HTest (X : Cx) (t : Expr) (cs : List Value) : Prop :=
  ∀ {a : Addr} {oe : Obj} {pn : List (Addr × Obj)} {σ : L2.St} {H : Hp} {s : Shared} {cls : Value} {b : Bool} {Q : Bool → Shared → Prop} {E : Value → Shared → Prop},
    Inv (X.suite a ((a, oe) :: pn)) [] σ H s → s.heap.get? a = some oe → oe.cls = cls → PySem.W.exmAny X.K cls cs = some b →
    (∀ h', (∀ q o, s.heap.get? q = some o → h'.get? q = some o) → Q b { s with heap := h' }) →
    wpAny (model X.prog X.w) (X.A.mark (some (.ref a))) (eval t X.env) (fun c s₁ => wpAny (model X.prog X.w) (X.A.mark (some (.ref a))) (excMatches (.ref a) c) Q E s₁) E s
theorem nameIn {X : Cx} {a : Addr} {oe : Obj} {pn : List (Addr × Obj)} {σ : L2.St} {H : Hp} {s : Shared} {x : Str} {c : Value} {np : Pos} {Q : Value → Shared → Prop} {E : Value → Shared → Prop}
    (I : Inv (X.suite a ((a, oe) :: pn)) [] σ H s) (hc : Names X x c) (q : Q c s) : wpAny (model X.prog X.w) (X.A.mark (some (.ref a))) (eval (.Name x np) X.env) Q E s := by
  obtain ⟨hg, hd, hm | ⟨hm, hv, hn⟩⟩ := hc
  · exact ld_glob (X := X.suite a ((a, oe) :: pn)) I hg hm q hd
  · exact ld_blt (X := X.suite a ((a, oe) :: pn)) I hg hm hv q hn hd
theorem looksCls {M : Model} {h : Heap} {a : Addr} {oe : Obj} {cls : Value} (e : h.get? a = some oe) (c : oe.cls = cls) : PySem.W.Looks M h (typeOf (.ref a)) cls :=
  fun A Q E s k q => wpAny_typeOf_ref (k _ _ e) (by rw [c]; exact q)
theorem ht_one {X : Cx} {x : Str} {c : Value} {np : Pos} (hc : Names X x c) : HTest X (.Name x np) [c] := by
  intro a oe pn σ H s cls b Q E I e ec hx q
  obtain ⟨b1, d1, x1, y1, z1⟩ := PySem.W.exmAny_cons hx
  have w1 : some false = some d1 := y1
  cases w1
  rw [Bool.or_false] at z1
  subst z1
  exact nameIn I hc ((PySem.W.exm_one I.kIn (looksCls e ec) x1).here (q s.heap fun _ _ z => z))
theorem ht_two {X : Cx} {x y : Str} {c d : Value} {np mp tp : Pos} {kk : Nat} (hc : Names X x c) (hd : Names X y d) :
    HTest X (.Tuple [.Name x np, .Name y mp] kk tp) [c, d] := by
  intro a oe pn σ H s cls b Q E I e ec hx q
  refine wpAny_Tuple ?_
  refine wpAny_items_cons (nameIn I hc ?_)
  refine wpAny_items_cons (nameIn I hd ?_)
  refine wpAny_items_nil ⟨by size_fits, ?_⟩
  have kp : ∀ b' o, s.heap.get? b' = some o → (s.heap.push { cls := .type "tuple", data := .seq [c, d].toArray }).get? b' = some o := fun _ _ z => Heap.get?_push_of_some _ z
  have LT := looksCls (M := model X.prog X.w) e ec
  have KI : X.K.In s.heap := I.kIn
  exact (PySem.W.exm_tup2 (KI.keeps kp) (LT.keeps kp) (Heap.get?_push_size s.heap rfl) hx).here (q _ kp)
theorem fly_kept {B : Heap} {l : List Env} {a : Addr} {Z : Obj → Prop} {h h' : Heap} (f : HandSPX.FlyingZ B l a Z h) (k : ∀ q o, h.get? q = some o → h'.get? q = some o) : HandSPX.FlyingZ B l a Z h' := by
  obtain ⟨k1, k2, k3, oe, vs, T, oT, ts, e1, e2, e3, e4, e5, e6, e7, e8, e9⟩ := f
  exact ⟨fun b o e => k b o (k1 b o e), k2, k3.of_keeps fun b o e _ => ⟨o, k b o e, rfl⟩, oe, vs, T, oT, ts, k _ _ e1, e2, e3, e4, e5, e6, k _ _ e7, e8, e9⟩

/-- the ends behind the suite: the clause's name (slot i) is gone, the exception at a stands -/
def dHeld (a : Addr) (cls : Value) (d : Option Addr) (i : Nat) (D : Ends) : Ends where
  nx := fun σ H => H a = none → D.nx (σ.set i none) (upd H a (xob a cls d))
  rt := fun v H => H a = none → D.rt v (upd H a (xob a cls d))
  bk := fun σ H => H a = none → D.bk (σ.set i none) (upd H a (xob a cls d))
  ct := fun σ H => H a = none → D.ct (σ.set i none) (upd H a (xob a cls d))
/-- what the clause 'except (c ..) as n' wishes of an exception of the body -/
def wHeld (K : PySem.W.Frag) (cs : List Value) (i : Nat) (ts : Addr → Value → Option Addr → TS) (Wout : WX) (D : Ends) : WX := fun cls d σ H =>
  ∃ b, PySem.W.exmAny K cls cs = some b ∧ (b = true → ∀ a, H a = none → ts a cls d (dHeld a cls d i D) (σ.set i (some (.ref a))) H) ∧ (b = false → Wout cls d σ H)

section
variable {X : Cx} {t : Expr} {n : Str} {cs : List Value} {i : Nat} {body suite : List Stmt} {b₀ : Stmt} {pos pos' : Pos} {tb : WX → TS} {ts : Addr → Value → Option Addr → TS} {Wout : WX}
theorem ps_try_held (hs : X.stack = X.env :: X.outer) (hf : X.env.frame = some X.env.locals) (hN : X.N.Nodup) (hi : X.N[i]? = some n) (hln : X.env.kindOf n = some .local) (ht : HTest X t cs) (tk : Takes X Wout) (hx0 : X.ex = [])
    (hb : ∀ (W : WX) (pn : List (Addr × Obj)) (xe : Value → Shared → Prop), Takes (X.tr pn xe) W → PassesOwn (model X.prog X.w) X.A X.env xe → PSs (X.tr pn xe) body (tb W))
    (hsu : ∀ (a : Addr) (oe : Obj) (cls : Value) (d : Option Addr) (pn : List (Addr × Obj)), Zc cls d oe → (∃ vs, oe.data = .fields vs) → PSs (X.suite a ((a, oe) :: pn)) (b₀ :: suite) (ts a cls d)) :
    PS X (.Try body [.ExceptHandler (some t) (some n) (b₀ :: suite) pos'] [] [] pos) (fun D σ H => tb (wHeld X.K cs i ts Wout D) D σ H) := by
  refine ⟨fun pins s σ H D I h => ?_⟩
  have ok := I.ok
  have hfr : X.A.frames = some (X.env :: X.outer) := by rw [ok.frames, hs]
  have hloc : Loc X.env.scope n := .inl hln
  refine wpAny_Try_except ?_
  refine wpAny_mono ((hb (wHeld X.K cs i ts Wout D) (X.pn ++ pins) (fun e z₁ => wpAny (model X.prog X.w) X.A (noteFrame e X.env) (fun _ z₂ => wpAny (model X.prog X.w) X.A (setFlight e none) (fun _ z₃ =>
    wpAny (model X.prog X.w) X.A (handleBy e X.env [.ExceptHandler (some t) (some n) (b₀ :: suite) pos']) (SP X pins D) X.xe z₃) X.xe z₂) X.xe z₁) (fun u z xx => ?_) PassesOwn.looking).run [] s σ H D (I.toTry _) h) (fun f s1 hsp => ?_) (fun e s1 he => he)
  · obtain ⟨a, B, sI, pins', τ, G, cls, d, rfl, J0, nb, up, sky, na, os, ag, b, hb1, hyes, hno⟩ := xx
    have J : Inv X pins τ G sI := J0.ofTry ok
    have sky2 : Sky B (X.env :: X.outer) a (Zc cls d) X.env.locals z.heap := by rw [← hs]; exact sky
    show wpAny (model X.prog X.w) X.A (noteFrame (.ref a) X.env) _ _ _
    refine Sky.land Zc.steady hfr hf sky2 fun h3 fl3 up3 => ?_
    have J3 : Inv X pins τ G { z with heap := h3 } := J.landed nb fl3.1 (up.trans up3) os ag
    obtain ⟨oe3, vs3, he3, hz3, hd3⟩ := fl3.there
    have nfr : a ∉ frs (X.env :: X.outer) := fun hm => by
      obtain ⟨_, o', e', hnf⟩ := fl3.2.2.1.mem hm
      rw [he3] at e'
      cases e'
      exact hnf _ hd3
    have nL : a ≠ X.env.locals := fun q => nfr (List.mem_filterMap.mpr ⟨X.env, List.mem_cons_self, by rw [hf, q]⟩)
    have nF : a ∉ X.fs := fun hm => by
      obtain ⟨e, he, q⟩ := List.mem_filterMap.mp hm
      exact nfr (List.mem_filterMap.mpr ⟨e, List.mem_cons_of_mem _ he, q⟩)
    -- the exception is new since the entry, and no pin
    have nI : sI.heap.get? a = none := by
      cases e : sI.heap.get? a with
      | none => rfl
      | some o =>
        have q := nb a o e (by rw [hs]; exact nfr)
        rw [fl3.2.1] at q
        cases q
    have n0 : X.s_0.heap.get? a = none := by
      cases e : X.s_0.heap.get? a with
      | none => rfl
      | some o =>
        obtain ⟨o', q⟩ := J.base.there a o e (by rw [hx0]; exact fun q => nomatch q)
        rw [nI] at q
        cases q
    have nP : ∀ p ∈ X.pn ++ pins, p.1 ≠ a := fun p hp q => by
      obtain ⟨e, _⟩ := J.pin p hp
      rw [q, nI] at e
      cases e
    have nC : ∀ x c, X.env.cells.lookup x = some c → c ≠ a := fun x c e q => by
      obtain ⟨v, o, ho, _⟩ := J.cell x c e
      rw [q, nI] at ho
      cases ho
    have S3 := J3.suite he3 hd3 na nL nF
    refine wpAny_handleBy_cons (codeAny_handlers_test ?_) (by intro q; cases q)
    refine ht S3 he3 hz3.1 hb1 fun h5 kp5 => ?_
    have fl5 := fly_kept fl3 kp5
    have up5 : z.heap.UpToSlots h5 := up3.trans (Heap.UpToSlots.of_keeps kp5)
    cases b with
    | true =>
      refine codeAny_handlers_suite_as ?_
      refine HandSPX.lands_againZ (s := { z with heap := h5 }) fl5 fun h4 fl4 up4 => ?_
      have J4 : Inv X pins τ G { z with heap := h4 } := J.landed nb fl4.1 ((up.trans up5).trans up4) os ag
      obtain ⟨oe4, vs4, he4, hz4, hd4⟩ := fl4.there
      have S4 := J4.suite he4 hd4 na nL nF
      refine store_ok (X := X.suite a ((a, oe4) :: (X.pn ++ pins))) (v := .ref a) S4 hN hi hloc rfl (fun s5 S5 => ?_) (.inr hln)
      refine wpAny_mono ((hsu a oe4 cls d (X.pn ++ pins) hz4 ⟨_, hd4⟩).run [] s5 _ G _ S5 (hyes rfl a na)) (fun f s6 hsp => ?_) (fun _ _ q => False.elim q)
      have fin : ∀ {σ6 : L2.St} {H6 : Hp} {Q : Shared → Prop}, Inv (X.suite a ((a, oe4) :: (X.pn ++ pins))) [] σ6 H6 s6 → (∀ s7, H6 a = none → Inv X pins (σ6.set i none) (upd H6 a (xob a cls d)) s7 → Q s7) →
          wpAny (model X.prog X.w) X.A (do bindName X.env n .none; unbindBehindTheSuite X.env n pos') (fun _ s7 => Q s7) X.xe s6 := fun {σ6 H6 Q} S6 hq => by
        obtain ⟨e6, n6, _⟩ := S6.pin (a, oe4) (List.mem_append.mpr (.inl List.mem_cons_self))
        have T6 : Inv X pins σ6 (upd H6 a (xob a cls d)) s6 := track (S6.unsuite ok) n6 n0 nL nC nP (xob_ok e6 hz4 hd4)
        exact gone_ok T6 hN hi hln fun s7 J7 => hq s7 n6 J7
      cases f with
      | next =>
        obtain ⟨σ6, H6, S6, q6⟩ := hsp
        exact fin S6 fun s7 n6 J7 => ⟨_, _, J7, q6 n6⟩
      | brk =>
        obtain ⟨σ6, H6, S6, q6⟩ := hsp
        exact fin S6 fun s7 n6 J7 => ⟨_, _, J7, q6 n6⟩
      | cont =>
        obtain ⟨σ6, H6, S6, q6⟩ := hsp
        exact fin S6 fun s7 n6 J7 => ⟨_, _, J7, q6 n6⟩
      | ret u =>
        obtain ⟨v6, σ6, H6, S6, r6, q6⟩ := hsp
        exact fin S6 fun s7 n6 J7 => ⟨_, _, _, J7, r6, q6 n6⟩
    | false =>
      show wpAny _ X.A (handleBy (.ref a) X.env []) _ _ _
      refine wpAny_handleBy_nil ?_
      obtain ⟨k1, k2, k3, oe, vs, T, oT, ts', he, hz, hd, h1, hr⟩ := id fl5
      unfold PySem.passOn
      refine wpAny_bind (wpAny_field he hd h1 ?_)
      rw [if_neg (show ¬ ((Value.ref T == Value.none) = true) from by simp)]
      have fin : wpAny (model X.prog X.w) X.A (setFlight (.ref a) X.env.frame) (fun _ s4 => wpAny (model X.prog X.w) X.A (throw (.ref a) : Sem Flow) (SP X pins D) X.xe s4) X.xe { z with heap := h5 } := by
        rw [hf]
        refine HandSPX.setFlight_upZ (s := { z with heap := h5 }) fl5 fun h4 hh4 up4 => wpAny_throw (tk _ _ ?_)
        exact ⟨a, B, sI, pins, τ, G, cls, d, rfl, J, nb, (up.trans up5).trans up4, .inr (.inr (by rw [hs]; exact hh4)), na, os, ag, hno rfl⟩
      first
        | exact wpAny_bind (wpAny_pure (wpAny_bind fin))
        | exact wpAny_bind fin
  · cases f with
    | next =>
      obtain ⟨τ, G, J, q⟩ := hsp
      exact wpAny_execs_nil ⟨τ, G, J.ofTry ok, q⟩
    | brk =>
      obtain ⟨τ, G, J, q⟩ := hsp
      exact ⟨τ, G, J.ofTry ok, q⟩
    | cont =>
      obtain ⟨τ, G, J, q⟩ := hsp
      exact ⟨τ, G, J.ofTry ok, q⟩
    | ret u =>
      obtain ⟨v, τ, G, J, r, q⟩ := hsp
      exact ⟨v, τ, G, J.ofTry ok, r, q⟩
end
end Gd

set_option maxHeartbeats 4000000
namespace Gd
open PySem PySem.Spec PyProof.Rows L2

/-! ### such an exception is asked: isinstance, a field -/
section
open PySem.W PySem.Calls
variable {prog : Program} {w : World} {A : Around} {E : Value → Shared → Prop} {s : Shared} {K : Frag} {x D : Addr} {ox : Obj} {od : Option Obj}
theorem find_bound {C : Addr} {od : Option Obj} {nm : Str} {at0 g : Value} (hc : (clsIn K C).isSome = true) (h1 : findIn K (.ref C) nm = some (some at0))
    (h2 : specialIn K at0 "__get__" = some (some g)) (h3 : takesIn K at0 = some true) : findObj K C od nm = some (.bind g at0) := by
  obtain ⟨cd, hcd⟩ := Option.isSome_iff_exists.mp hc
  unfold findObj
  rw [hcd, Option.bind_some, h1, Option.bind_some]
  simp [h2, h3]
/-- e.__class__ of an exception with or without a dict -/
theorem class_of_exc {Q : Option Value → Shared → Prop} (T : ExcC K D) (X : K.In s.heap) (I : InstAt s.heap x ox D od) (h : Q (some (.ref D)) { s with toks := s.toks + 1 }) :
    wpAny (model prog w) A (getAttr? (.ref x) "__class__") Q E s := by
  have hf : findObj K D od "__class__" = some (.bind (.builtin "getset_descriptor.__get__") (.builtin "object.__class__")) :=
    find_bound (by obtain ⟨cd, hc, _⟩ := any_some T.hd; rw [hc]; rfl) T.ha T.hn T.ht
  obtain ⟨hp, gg, dr, tt, oss⟩ := s
  have A0 := I.type (M := model prog w)
  have A1 := looks_findIn (M := model prog w) X T.hg
  have A2 := looks_findIn (M := model prog w) X T.hk
  have A3 := looks_find (M := model prog w) X I hf
  have isb : Looks (model prog w) hp (isInstance (.ref x) (.type "BaseException")) true := A0.andThen (looks_subIn X T.hs)
  have n0 : (false && onTheHeap (Value.builtin "BaseException.__getattribute__")) = false := rfl
  have n2 : (Value.builtin "BaseException.__getattribute__" == Value.builtin "object.__getattribute__") = false := by decide +kernel
  have n1 : (onTheHeap (Value.ref D) && Value.builtin "BaseException.__getattribute__" == Value.builtin "object.__getattribute__") = false := by rw [n2]; rfl
  unfold getAttr? getAttrBy? getAttrBy
  refine wpAny_bind (wpAny_mkText (wpAny_bind (wpAny_attempt (wpAny_holding (wpAny_bind (A0.at (wpAny_bind (A1.at ?_))))))))
  show wpAny _ _ (if (onTheHeap (Value.ref D) && Value.builtin "BaseException.__getattribute__" == Value.builtin "object.__getattribute__") = true then _ else _) _ _ _
  rw [n1, if_neg Bool.false_ne_true]
  unfold getAttrByItsOwn hookBefore
  refine wpAny_bind ?_
  rw [if_pos (show onTheHeap (Value.ref D) = true from rfl)]
  refine A2.at ?_
  refine wpAny_bind (wpAny_attempt (wpAny_holding ?_))
  unfold callGetattribute
  rw [n0, if_neg Bool.false_ne_true]
  unfold boundAndCalled
  rw [PySem.F.excAttr_ValueError.ga.bind (.ref x)]
  refine wpAny_bind (wpAny_pure ?_)
  show wpAny _ _ (call (.builtin "BaseException.__getattribute__") [.ref x, .str "__class__" tt]) _ _ _
  refine wpAny_call (codeAny_call_builtin PySem.F.excAttr_ValueError.ga.plain PySem.F.entry_bexc_ga ?_)
  refine @check_slot (model prog w) _ _ ⟨hp, gg, dr, tt + 1, oss⟩ "BaseException.__getattribute__" "BaseException" "__getattribute__" (.ref x) [.str "__class__" tt] [] _
    (by decide +kernel) (by decide +kernel) isb (PySem.F.args_bexc_ga (.ref x) (.str "__class__" tt)) ?_
  unfold Builtin.«object.__getattribute__»
  refine wpAny_bind (wpAny_of_eq (a := ((Value.ref x : Value), [Value.str "__class__" tt])) (by first | rfl | (simp only [slotArgs]; rfl)) ?_)
  refine wpAny_bind (wpAny_pure (wpAny_bind (A0.at (wpAny_bind (A3.at ?_)))))
  show wpAny _ _ (holding [Value.builtin "object.__class__"] (call (.builtin "getset_descriptor.__get__") [.builtin "object.__class__", .ref x, .ref D]) >>= ret) _ _ _
  refine wpAny_bind (wpAny_holding (wpAny_call (class_get (s := ⟨hp, gg, dr, tt + 1, oss⟩) (ox := ox) (od := od) X I T.hm ?_)))
  refine wpAny_pure ?_
  show wpAny _ _ (handedOut (.ref D)) _ _ _
  rw [handedOut_of (v := .ref D) rfl]
  first
    | exact wpAny_pure (wpAny_pure h)
    | exact wpAny_pure h
    | exact wpAny_pure (wpAny_bind (wpAny_pure (wpAny_pure h)))
theorem kit_exc (T : ExcC K D) : KitX K (.ref x) (.ref D) (fun h => ∃ (o : Obj) (u : Option Obj), InstAt h x o D u) where
  ty := fun _ _ _ ⟨_, _, I⟩ => I.type
  it := fun _ _ X _ => by
    obtain ⟨cd0, hcd0, _⟩ := any_some T.hd
    unfold clsIn at hcd0
    split at hcd0
    · rename_i c1 d1 cd1 sl1 ho1
      intro A1 Q1 E1 s1 k1 q1
      unfold isType loadHead
      exact wpAny_bind (wpAny_loadPart (k1 _ _ (X _ _ ho1)) (wpAny_pure q1))
    · cases hcd0
  ne := fun h tp dd its n sl X htp => by
    obtain ⟨cd0, hcd0, _⟩ := any_some T.hd
    refine Bool.eq_false_iff.mpr fun q => ?_
    have e : D = tp := Value.ref.inj (beq_iff_eq.mp q)
    subst e
    unfold clsIn at hcd0
    split at hcd0
    · rename_i c1 d1 cd1 sl1 ho1
      have y := (X _ _ ho1).symm.trans htp
      cases y
    · cases hcd0
  ca := fun X ⟨_, _, I⟩ k => class_of_exc T X I k
end

/-- an exception of the class at C, with the fields fs -/
def Xn (H : Hp) (a C : Addr) (d : Option Addr) : Prop := H a = some (xob a (.ref C) d) ∧ ∀ dd, d = some dd → ∃ fs, H dd = some (.xd fs)
theorem xd_at {P : Program} {w : World} {H : Hp} {h : Heap} {a : Addr} {fs : List (Str × V)} (ok : HOk P w H h) (e : H a = some (.xd fs)) : ∃ mA, h.Ns1 a mA ∧ ∀ f, RelO (fs.lookup f) (mA f) :=
  (ok a _ e : ObjOk P w H h a (.xd fs))
theorem inst_of {P : Program} {w : World} {H : Hp} {h : Heap} {a C : Addr} {d : Option Addr} (ok : HOk P w H h) (x : Xn H a C d) : ∃ (o : Obj) (u : Option Obj), PySem.W.InstAt h a o C u := by
  obtain ⟨oe, he, ⟨z1, z2⟩, vs, hv⟩ := xob_at ok x.1
  obtain ⟨oc, odi, oda, osl⟩ := oe
  dsimp only at z1 z2 hv
  subst z1 z2 hv
  cases odi with
  | none => exact ⟨_, none, he, rfl, rfl, trivial⟩
  | some dd =>
    obtain ⟨fs, e⟩ := x.2 dd rfl
    obtain ⟨mA, ⟨o, es, ep, ho, _⟩, _⟩ := xd_at ok e
    exact ⟨_, some o, he, rfl, rfl, ho⟩

/-- isinstance(e, c), e an exception that stands -/
def rIsX (K : PySem.W.Frag) : List V → Hp → VK → Prop := fun xs H Q => ∃ (a C : Addr) (d : Option Addr) (c : V) (cv : Value) (b : Bool), xs = [.ref a, c] ∧ Xn H a C d ∧ ExcC K C ∧ ClsV c cv ∧ PySem.W.kitOne K (.ref C) cv = some b ∧ Q (.bl b) H
theorem call_isX {X : Cx} : CallR X (.builtin "isinstance") (rIsX X.K) := by
  intro pins s σ H xs us Q I r h
  obtain ⟨a, C, d, c, cv, b, rfl, x, T, k, e, q⟩ := h
  obtain ⟨u1, u2, rfl, r1, r2⟩ := vals2 r
  have e2 := k.eq r2
  subst e2
  cases (show u1 = Value.ref a from r1)
  exact PySem.W.kia_one (kit_exc T) I.kIn (inst_of I.hok x) e (fun z => nomatch z) fun tk => ⟨.bl b, H, I.tok tk, rfl, q⟩
/-- isinstance(e, (c1, c2, ..)), the tuple laid in the call -/
def rIsXT (K : PySem.W.Frag) : List V → Hp → VK → Prop := fun xs H Q => ∃ (a C tp : Addr) (d : Option Addr) (cs : List V) (us : List Value) (b : Bool), xs = [.ref a, .ref tp] ∧ Xn H a C d ∧ ExcC K C ∧ H tp = some (.tup cs) ∧ Paired ClsV cs us ∧ PySem.W.kitAny K (.ref C) us = some b ∧ Q (.bl b) H
theorem call_isXT {X : Cx} : CallR X (.builtin "isinstance") (rIsXT X.K) := by
  intro pins s σ H xs us Q I r h
  obtain ⟨a, C, tp, d, cs, ws, b, rfl, x, T, ht, k, e, q⟩ := h
  obtain ⟨u1, u2, rfl, r1, r2⟩ := vals2 r
  cases (show u1 = Value.ref a from r1)
  cases (show u2 = Value.ref tp from r2)
  obtain ⟨hl, its, hv, o, h1, h2, h3⟩ := (I.hok tp _ ht : ObjOk X.prog X.w H s.heap tp (.tup cs))
  have ei := ClsV.all k hv
  subst ei
  obtain ⟨oc, odi, oda, osl⟩ := o
  dsimp only at h2 h3
  obtain ⟨n3, h3⟩ := h3
  subst h2 h3
  exact PySem.W.kia_tup (kit_exc T) I.kIn (inst_of I.hok x) h1 e (fun z => nomatch z) fun tk => ⟨.bl b, H, I.tok tk, rfl, q⟩

/-- e.f, e an exception that stands -/
def tXo (K : PySem.W.Frag) (f : Str) (te : TE) : TE := fun σ H Q => te σ H fun x H1 => ∃ (a C dd : Addr) (fs : List (Str × V)) (v : V), x = .ref a ∧ XfC K C ∧ PySem.W.findIn K (.ref C) f = some none ∧
  H1 a = some (xob a (.ref C) (some dd)) ∧ H1 dd = some (.xd fs) ∧ fs.lookup f = some v ∧ Q v H1
theorem pe_xo {X : Cx} {e : Expr} {te : TE} {pos : Pos} {n : Str} (he : PE X e te) (hb : attributeBase e n X.env (eval e X.env) = eval e X.env := by rfl) : PE X (.Attribute e n pos) (tXo X.K n te) := by
  refine ⟨fun pins s σ H Q I h => ?_⟩
  refine attr_of hb (thn (he.run pins s σ H _ I h) fun u s1 hh => ?_)
  obtain ⟨x, H1, I1, rx, a, C, dd, fs, v, ex, T, hno, ha, hd, l, q⟩ := hh
  subst ex
  cases (show u = Value.ref a from rx)
  obtain ⟨oe, he', ⟨z1, z2⟩, vs, hv⟩ := xob_at I1.hok ha
  obtain ⟨mA, hns, hr⟩ := xd_at I1.hok hd
  obtain ⟨od, ho, hl⟩ := lookIn_ns hns
  obtain ⟨u', hu, ru⟩ := RelO.some_of (v := v) (o := mA n) (by rw [← l]; exact hr n)
  have J : PySem.W.InstAt s1.heap a oe C (some od) := ⟨he', z1, by unfold PySem.W.notCls; rw [hv] <;> rfl, by rw [z2]; exact ho⟩
  exact HandSPX.exc_get I1.kIn J T.ga T.gg T.exC (PySem.W.findObj_own T.hdC hno rfl (by rw [hl, hu])) (handed_of ru) ⟨v, H1, I1.tok _, ru, q⟩
end Gd

set_option maxHeartbeats 4000000

/-! ### own exceptions over any of the families -/
namespace Gd
open PySem PySem.Spec PyProof.Rows L2
def refV : Value → Bool
  | .ref _ => true
  | _ => false
theorem refs_of : ∀ {l b : List Value}, l.dropWhile refV = b → ∃ rs : List Addr, l = rs.map Value.ref ++ b
  | [], b, h => ⟨[], by simpa using h⟩
  | a :: r, b, h => by
    rw [List.dropWhile_cons] at h
    cases a with
    | ref c =>
      obtain ⟨rs, e⟩ := refs_of (l := r) (b := b) (by simpa [refV] using h)
      exact ⟨c :: rs, by rw [e]; rfl⟩
    | _ => exact ⟨[], by simpa [refV] using h⟩
/-- what is asked of a family's base -/
structure Fam (newId : String) (b : List Value) : Prop where
  fac : ∃ B initId, ExcBaseFacts B newId initId b
  pass : ∀ self, PySem.refuseLoop self "__setattr__" b = pure ()
  ob : b.contains (.type "object") = true
theorem fam_Value : Fam "ValueError.__new__" [.type "ValueError", .type "Exception", .type "BaseException", .type "object"] := ⟨⟨_, _, F.excBase_ValueError⟩, fun self => by kernel_rfl, by decide +kernel⟩
theorem fam_Arith : Fam "ArithmeticError.__new__" [.type "ArithmeticError", .type "Exception", .type "BaseException", .type "object"] := ⟨⟨_, _, F.excBase_ArithmeticError⟩, fun self => by kernel_rfl, by decide +kernel⟩
theorem fam_Lookup : Fam "LookupError.__new__" [.type "LookupError", .type "Exception", .type "BaseException", .type "object"] := ⟨⟨_, _, F.excBase_LookupError⟩, fun self => by kernel_rfl, by decide +kernel⟩
theorem fam_Runtime : Fam "RuntimeError.__new__" [.type "RuntimeError", .type "Exception", .type "BaseException", .type "object"] := ⟨⟨_, _, F.excBase_RuntimeError⟩, fun self => by kernel_rfl, by decide +kernel⟩
theorem fam_Overflow : Fam "OverflowError.__new__" [.type "OverflowError", .type "ArithmeticError", .type "Exception", .type "BaseException", .type "object"] := ⟨⟨_, _, F.excBase_OverflowError⟩, fun self => by kernel_rfl, by decide +kernel⟩
theorem fam_Exc : Fam "Exception.__new__" [.type "Exception", .type "BaseException", .type "object"] := ⟨⟨_, _, F.excBase_Exception⟩, fun self => by kernel_rfl, by decide +kernel⟩
theorem pass_refs {b : List Value} (p : ∀ self, PySem.refuseLoop self "__setattr__" b = pure ()) (self : Value) : ∀ rs : List Addr, PySem.refuseLoop self "__setattr__" (rs.map Value.ref ++ b) = pure ()
  | [] => p self
  | c :: r => by
    rw [List.map_cons, List.cons_append, PySem.refuseLoop_ref]
    exact pass_refs p self r
theorem contains_refs {b : List Value} (Y : String) : ∀ rs : List Addr, (rs.map Value.ref ++ b).contains (.type Y) = b.contains (.type Y)
  | [] => rfl
  | c :: r => by
    rw [List.map_cons, List.cons_append, List.contains_cons, contains_refs Y r]
    rfl
end Gd

namespace Gd.Sa
open PySem PySem.W PySem.Calls PyProof.Rows Builtin Builtin.ObjectAttr
section
variable {prog : Program} {w : World} {A : Around} {E : Value → Shared → Prop} {R : Result → Shared → Prop} {hh : Heap} {gg : Array GenState} {dr : Drawn} {tt : Nat} {oss : OsState}
variable {K : W.Frag} {nm : Str} {tk : Tok} {v : Value} {x C : Addr} {ox : Obj} {od : Option Obj} {cd : ClassData} {newId : String} {b : List Value}
/-- the way of a store to the own dict -/
theorem osa_way (X : K.In hh) (I : InstAt hh x ox C od) (Fm : Fam newId b) (hcd : clsIn K C = some cd) (hm : cd.mro.dropWhile refV = b) (ha : findIn K (.ref C) nm = some none)
    (hq : wpAny (model prog w) A.in1 (storeInOwnDict (.ref x) (.ref C) (.str nm tk) nm v false)
      (fun fin z => match fin with
        | .done f => R (.ok f) z
        | .again c => c.quiet = true ∧ codeAny (model prog w) A c R z) (fun e z => R (.error e) z) ⟨hh, gg, dr, tt, oss⟩) :
    codeAny (model prog w) A (.call (.builtin "object.__setattr__") ⟨[.ref x, .str nm tk, v], []⟩) R ⟨hh, gg, dr, tt, oss⟩ := by
  obtain ⟨rs, er⟩ := refs_of hm
  have cob : cd.mro.contains (.type "object") = true := by rw [er, contains_refs, Fm.ob]
  have nemp : cd.mro.isEmpty = false := by
    cases e : cd.mro with
    | nil =>
      rw [e] at cob
      cases cob
    | cons _ _ => rfl
  have inob : mroIn K C (.type "object") = some true := by
    unfold mroIn
    rw [hcd, Option.bind_some, if_neg (by rw [nemp]; decide), cob]
  have SO := PySem.F.store_object
  have isob : Looks (model prog w) hh (isInstance (.ref x) (.type "object")) true := I.type.andThen (looks_mroIn X inob)
  have lm : Looks (model prog w) hh (mroOf (.ref C)) cd.mro := (looks_clsIn X hcd).andThen .now
  have lt : Looks (model prog w) hh (storeTaker? none) none := .now
  refine codeAny_call_builtin SO.slot.plain SO.entry (@check_slot (model prog w) _ _ ⟨hh, gg, dr, tt, oss⟩ "object.__setattr__" "object" "__setattr__" (.ref x) [.str nm tk, v] [] _ SO.kind SO.split isob
    (SO.args (.ref x) (.str nm tk) v) ?_)
  rw [osa_eq, refuse_eq]
  refine wpAny_bind (wpAny_bind (I.type.at (wpAny_bind (lm.at ?_))))
  rw [er, pass_refs Fm.pass]
  refine wpAny_pure (wpAny_bind (I.type.at (wpAny_bind ((looks_findIn X ha).at (wpAny_bind (lt.at ?_))))))
  exact hq
theorem osa_first {fv : Array Value} (X : K.In hh) (hx : hh.get? x = some { cls := .ref C, data := .fields fv }) (Fm : Fam newId b) (hcd : clsIn K C = some cd) (hm : cd.mro.dropWhile refV = b) (hd : cd.hasDict = true) (ha : findIn K (.ref C) nm = some none)
    (hq : ∀ h2 tk2 dx, (∀ c o, c ≠ x → hh.get? c = some o → h2.get? c = some o) → hh.objs.size ≤ dx → dx ≠ x → h2.get? x = some { cls := .ref C, dict := some dx, data := .fields fv } →
      h2.Ns1 dx (fun y => if y = nm then some v else none) → R (.ok (.ret .none)) ⟨h2, gg, dr, tk2, oss⟩) :
    codeAny (model prog w) A (.call (.builtin "object.__setattr__") ⟨[.ref x, .str nm tk, v], []⟩) R ⟨hh, gg, dr, tt, oss⟩ := by
  have I : InstAt hh x { cls := .ref C, data := .fields fv } C none := ⟨hx, rfl, rfl, trivial⟩
  have xs : x ≠ hh.objs.size := Nat.ne_of_lt (Heap.lt_size hx)
  refine osa_way X I Fm hcd hm ha ?_
  have lc : Looks (model prog w) hh (classData C) cd := looks_clsIn X hcd
  obtain ⟨n0, b0, m0, ns0, q0, hd0, sn0, sb0, ab0, co0, de0⟩ := cd
  dsimp only at hd
  subst hd
  unfold storeInOwnDict ownDictForStores
  repeat (first
    | with_reducible refine PySem.HandSPX.store_in_new ?_ ?_
    | with_reducible refine wpAny_loadPart_at hx ?_
    | with_reducible refine lc.at ?_
    | wp_step)
  · exact ⟨_, #[], _, (Heap.get?_update_ne _ _ _ _ xs.symm).trans (Heap.get?_push_at rfl rfl), rfl, fun e he => absurd he (by simp), fun _ => rfl⟩
  · intro h2 tk2 hn2 sb2
    have px : (hh.push { cls := .type "dict", data := .dict #[] }).get? x = some { cls := .ref C, data := .fields fv } := Heap.get?_push_of_some _ hx
    refine hq h2 tk2 hh.objs.size (fun c o hc ho => ?_) (Nat.le_refl _) xs.symm ?_ hn2
    · exact (sb2.2 c (Nat.ne_of_lt (Heap.lt_size ho))).trans ((Heap.get?_update_ne _ _ _ _ hc).trans (Heap.get?_push_of_some _ ho))
    · exact (sb2.2 x xs).trans (Heap.get?_update_self _ px rfl)
theorem osa_more {fv : Array Value} {dx : Addr} {m0 : Str → Option Value} {nl : List Str} (X : K.In hh) (hx : hh.get? x = some { cls := .ref C, dict := some dx, data := .fields fv }) (hn : hh.Ns1 dx m0) (hw : Within m0 nl) (hz : nl.length ≤ 1000)
    (Fm : Fam newId b) (hcd : clsIn K C = some cd) (hm : cd.mro.dropWhile refV = b) (hd : cd.hasDict = true) (ha : findIn K (.ref C) nm = some none)
    (hq : ∀ h2 tk2, (∀ c o, c ≠ dx → hh.get? c = some o → h2.get? c = some o) → h2.Ns1 dx (fun y => if y = nm then some v else m0 y) → R (.ok (.ret .none)) ⟨h2, gg, dr, tk2, oss⟩) :
    codeAny (model prog w) A (.call (.builtin "object.__setattr__") ⟨[.ref x, .str nm tk, v], []⟩) R ⟨hh, gg, dr, tt, oss⟩ := by
  obtain ⟨oD, _, _, ho, _, _⟩ := hn.count hw
  have I : InstAt hh x { cls := .ref C, dict := some dx, data := .fields fv } C (some oD) := ⟨hx, rfl, rfl, ho⟩
  refine osa_way X I Fm hcd hm ha ?_
  have lc : Looks (model prog w) hh (classData C) cd := looks_clsIn X hcd
  obtain ⟨n0, b0, mr0, ns0, q0, hd0, sn0, sb0, ab0, co0, de0⟩ := cd
  dsimp only at hd
  subst hd
  unfold storeInOwnDict ownDictForStores
  repeat (first
    | with_reducible refine PySem.OEX.store_in_old hn hw hz ?_
    | with_reducible refine wpAny_loadPart_at hx ?_
    | with_reducible refine lc.at ?_
    | wp_step)
  intro h2 tk2 hn2 sb2
  exact hq h2 tk2 (fun c o hc ho => (sb2.2 c hc).trans ho) hn2
end
end Gd.Sa

namespace Gd
open PySem PySem.Spec PyProof.Rows L2
/-- what the written part says of an own exception class -/
structure OxC (K : PySem.W.Frag) (C : Addr) : Prop where
  cls : ∃ newId b nm q N bs bm sn sub ab col dd k0 k1 k2 k3 k5, Fam newId b ∧ K.lookup C = some (excClassObj nm q C N bs bm true sn sub ab col dd k0 k1 k2 k3 k5 newId) ∧ bm.dropWhile refV = b
  sa : PySem.W.findIn K (.ref C) "__setattr__" = some (some (.builtin "object.__setattr__"))
  exC : PySem.W.subIn K (.ref C) (.type "BaseException") = some true
  tyC : PySem.W.typeIn K (.ref C) = some (.type "type")
  kC : PySem.W.keepIn K (.ref C) = true
theorem OxC.clsIn {K : PySem.W.Frag} {C : Addr} (T : OxC K C) : ∃ newId b cd, Fam newId b ∧ PySem.W.clsIn K C = some cd ∧ cd.mro.dropWhile refV = b ∧ cd.hasDict = true := by
  obtain ⟨newId, b, nm, q, N, bs, bm, sn, sub, ab, col, dd, k0, k1, k2, k3, k5, Fm, hC, hb⟩ := T.cls
  exact ⟨newId, b, { name := nm, bases := bs, mro := .ref C :: bm, ns := N, qualname := q, hasDict := true, slotNames := sn, subclasses := sub, abstract := ab, collection := col, hasDel := false }, Fm, by unfold PySem.W.clsIn; rw [hC] <;> rfl, hb, rfl⟩

section
variable {X : Cx} {pins : List (Addr × Obj)} {σ : L2.St} {H : Hp} {s : Shared} {a C dx : Addr} {f : Str} {y : V} {u : Value} {fs : List (Str × V)} {Q : Unit → Shared → Prop} {E : Value → Shared → Prop} {A : Around}
theorem xst_new (T : OxC X.K C) (I : Inv X pins σ H s) (e : H a = some (exo a C none)) (hno : PySem.W.findIn X.K (.ref C) f = some none) (ry : L2.RelV y u)
    (h : ∀ dx z, H dx = none → dx ≠ a → Inv X pins σ (upd (upd H dx (exd dx [(f, y)])) a (exo a C (some dx))) z → Q () z) : wpAny (model X.prog X.w) A (setAttr (.ref a) f u) Q E s := by
  obtain ⟨newId, b, cd, Fm, hcd, hm, hd⟩ := T.clsIn
  obtain ⟨t1, ho⟩ := exo_at I.hok e
  obtain ⟨hp, gg, dr, tt, oss⟩ := s
  refine PySem.W.set_plain I.kIn (od := none) ⟨ho, rfl, rfl, trivial⟩ T.sa ?_
  refine Sa.osa_first I.kIn ho Fm hcd hm hd hno fun h2 tk2 dx k dn dne hx hn => ?_
  have hnd : H dx = none := I.hok.fresh dn
  have nd : ∀ {c : Addr} {o : Obj}, hp.get? c = some o → c ≠ dx := fun {c o} q => Nat.ne_of_lt (Nat.lt_of_lt_of_le (Heap.lt_size q) dn)
  have na : ∀ {c : Addr}, H c = none → c ≠ a := fun {c} n q => by
    rw [q, e] at n
    cases n
  have U : Un X.fs [] H (upd (upd H dx (exd dx [(f, y)])) a (exo a C (some dx))) hp h2 := by
    refine ⟨fun c o q n _ _ => k c o (na n) q, fun c o q n _ _ => ⟨o.slots, k c o (na n) q⟩, fun c o q n _ => ?_, fun c o q _ => ?_, fun c xs q => ?_, fun c o v q => ?_, fun c ps q => ?_⟩
    · rw [upd_ne (na n), upd_ne (nd q)]
      exact n
    · by_cases hc : c = a
      · exact ⟨_, by rw [hc]; exact hx⟩
      · exact ⟨o, k c o hc q⟩
    · rw [upd_ne (at_ne e q exo_tup), upd_ne (ne_of_none q hnd)]
      exact q
    · rw [upd_ne (at_ne e q exo_frz), upd_ne (ne_of_none q hnd)]
      exact q
    · exact ⟨#[], by rw [upd_ne (at_ne e q exo_tbl), upd_ne (ne_of_none q hnd), q]; simp⟩
  refine h dx _ hnd dne (I.un (t' := tk2) U fun c o q => ?_)
  by_cases hc : c = a
  · subst hc
    rw [upd_same] at q
    cases q
    exact exo_ok hx
  · rw [upd_ne hc] at q
    by_cases hd2 : c = dx
    · subst hd2
      rw [upd_same] at q
      cases q
      exact exd_ok hn (relO_put (fs := []) ry fun g => True.intro)
    · rw [upd_ne hd2] at q
      refine (I.hok c o q).stay (fun c2 v h3 z => k c2 v ?_ z) (fun c2 h3 => ?_) fun c2 xs h3 => ?_
      · rcases h3 with h3 | h3
        · rw [h3]
          exact hc
        · exact at_ne e h3 exo_own
      · rw [upd_ne (at_ne e h3 exo_own), upd_ne (ne_of_none h3 hnd)]
        exact h3
      · rw [upd_ne (at_ne e h3 exo_tup), upd_ne (ne_of_none h3 hnd)]
        exact h3
theorem xst_more (T : OxC X.K C) (I : Inv X pins σ H s) (e : H a = some (exo a C (some dx))) (ed : H dx = some (exd dx fs)) (hl : fs.length ≤ 900) (hno : PySem.W.findIn X.K (.ref C) f = some none) (ry : L2.RelV y u)
    (h : ∀ z, Inv X pins σ (upd H dx (exd dx ((f, y) :: fs))) z → Q () z) : wpAny (model X.prog X.w) A (setAttr (.ref a) f u) Q E s := by
  obtain ⟨newId, b, cd, Fm, hcd, hm, hd⟩ := T.clsIn
  obtain ⟨t1, ho⟩ := exo_at I.hok e
  obtain ⟨mA, hns, rel⟩ := exd_at I.hok ed
  have hw := within_of rel
  obtain ⟨hp, gg, dr, tt, oss⟩ := s
  obtain ⟨oD, _, _, hoD, _, _⟩ := hns.count hw
  refine PySem.W.set_plain I.kIn (od := some oD) ⟨ho, rfl, rfl, hoD⟩ T.sa ?_
  refine Sa.osa_more I.kIn ho hns hw (by rw [List.length_map]; omega) Fm hcd hm hd hno fun h2 tk2 k hn => ?_
  obtain ⟨o2, es2, ep2, e2, r2⟩ := id hn
  exact h _ (I.write (t' := tk2) (x := dx) (e := dx) (o := exd dx ((f, y) :: fs)) (by rw [ed]; exact True.intro) (.inl rfl) k ⟨o2, e2⟩ (exd_ok hn (relO_put ry rel)))
end
/-- self.f = e, in the __init__ of an own exception -/
def tXst (K : PySem.W.Frag) (f : Str) (to te : TE) : TS := fun D σ H => te σ H fun y H1 => to σ H1 fun x H2 => ∃ a C : Addr, x = .ref a ∧ OxC K C ∧ PySem.W.findIn K (.ref C) f = some none ∧
  ((H2 a = some (exo a C none) ∧ ∀ dx, H2 dx = none → dx ≠ a → D.nx σ (upd (upd H2 dx (exd dx [(f, y)])) a (exo a C (some dx)))) ∨
    ∃ (dx : Addr) (fs : List (Str × V)), H2 a = some (exo a C (some dx)) ∧ H2 dx = some (exd dx fs) ∧ fs.length ≤ 900 ∧ D.nx σ (upd H2 dx (exd dx ((f, y) :: fs))))
theorem ps_xst {X : Cx} {o e : Expr} {to te : TE} {f : Str} {p' pos : Pos} (ho : PE X o to) (he : PE X e te) (hs : swapsWith e (some (.Attribute o f p')) pos.line X.env = pure false := by rfl) :
    PS X (.Assign [.Attribute o f p'] e pos) (tXst X.K f to te) := by
  refine ⟨fun pins s σ H D I h => ?_⟩
  refine plainObj_wpAny_Assign_Attribute (thn (he.run pins s σ H _ I h) fun v s1 h1 => ?_) hs
  obtain ⟨y, H1, I1, r1, q1⟩ := h1
  refine thn (ho.run pins s1 σ H1 _ I1 q1) fun u s2 h2 => ?_
  obtain ⟨x, H2, I2, r2, a, C, ex, T, hno, q⟩ := h2
  subst ex
  cases (show u = Value.ref a from r2)
  rcases q with ⟨ea, q⟩ | ⟨dx, fs, ea, ed, hl, q⟩
  · exact xst_new T I2 ea hno r1 fun dx z n ne J => ⟨σ, _, J, q dx n ne⟩
  · exact xst_more T I2 ea ed hl hno r1 fun z J => ⟨σ, _, J, q⟩
end Gd

set_option maxHeartbeats 4000000
namespace Gd
open PySem PySem.Spec PyProof.Rows L2

/-! ### C(e, ..) of an own exception class with an own __init__, as a value and raised -/
/-- what stands behind the __init__: its exception at a, with the fields fs in the dict d -/
def Made (a C d : Addr) (fs : List (Str × V)) (H : Hp) : Prop := H a = some (exo a C (some d)) ∧ H d = some (exd d fs)
/-- the heap in which it stands as an exception -/
def stand (H : Hp) (a C d : Addr) (fs : List (Str × V)) : Hp := upd (upd H a (xob a (.ref C) (some d))) d (.xd fs)
theorem exo_mut {e C : Addr} {d : Option Addr} : Mut (some (exo e C d)) := True.intro
theorem exd_mut {e : Addr} {fs : List (Str × V)} : Mut (some (exd e fs)) := True.intro
theorem upd_self {H : Hp} {a : Addr} {o : HO} (e : H a = some o) : upd H a o = H := by
  funext b
  by_cases hb : b = a
  · rw [hb, upd_same, e]
  · rw [upd_ne hb]
theorem made_ne {H : Hp} {h : Heap} {P : Program} {w : World} {a C d : Addr} {fs : List (Str × V)} (ok : HOk P w H h) (m : Made a C d fs H) : d ≠ a := fun z => by
  obtain ⟨t0, hoe⟩ := exo_at ok m.1
  obtain ⟨mA, ⟨o, es, ep, e1, e2, _⟩, _⟩ := exd_at ok m.2
  rw [z, hoe] at e1
  have z2 := Option.some.inj e1
  subst z2
  cases e2
theorem inv_stand {X : Cx} {pins : List (Addr × Obj)} {σ : L2.St} {H : Hp} {s : Shared} {a C d : Addr} {fs : List (Str × V)} (I : Inv X pins σ H s) (m : Made a C d fs H) : Inv X pins σ (stand H a C d fs) s := by
  have ne := made_ne I.hok m
  obtain ⟨t0, hoe⟩ := exo_at I.hok m.1
  have I1 := I.write (h' := s.heap) (t' := s.toks) (x := a) (e := a) (o := xob a (.ref C) (some d)) (by rw [m.1]; exact exo_mut) (.inl rfl) (fun b u _ e => e) ⟨_, hoe⟩ (xob_ok hoe ⟨rfl, rfl⟩ rfl)
  obtain ⟨mA, hns, rel⟩ := exd_at I.hok m.2
  obtain ⟨o, es, ep, e1, e2⟩ := id hns
  have ed : upd H a (xob a (.ref C) (some d)) d = some (exd d fs) := by rw [upd_ne ne]; exact m.2
  exact I1.write (h' := s.heap) (t' := s.toks) (x := d) (e := d) (o := .xd fs) (by rw [ed]; exact exd_mut) (.inl rfl) (fun b u _ e => e) ⟨_, e1⟩ ⟨mA, hns, rel⟩

/-- the class's own __init__: its def, its place -/
structure OxI (K : PySem.W.Frag) (C fI : Addr) : Prop extends OxC K C where
  iC : PySem.W.findIn K (.ref C) "__init__" = some (some (.ref fI))
  tI : PySem.W.typeIn K (.ref fI) = some (.type "function")
def tXmV (C : Addr) (sp : Sp) (dvs : List V) (ta : TA) : TE := fun σ H Q => ta σ H fun vs H1 => vs.length ≤ 1000 ∧ ∀ a, H1 a = none → sp (.ref a :: (vs ++ dvs)) (upd H1 a (exo a C none))
  (fun v H2 => v = .non ∧ ∃ (d : Addr) (fs : List (Str × V)), Made a C d fs H2 ∧ Q (.ref a) (stand H2 a C d fs)) (fun _ _ _ => False)
section
variable {X : Cx} {CX : CXT} {k : Nat} {C fI : Addr} {fd : FuncData} {ps : List Str} {sp : Sp} {ds : List Value} {dvs : List V} {x : Str} {e : Expr} {es : List Expr} {ta : TA} {p pos : Pos}
theorem run_xm {pins : List (Addr × Obj)} {σ : L2.St} {H1 : Hp} {s1 : Shared} {us : List Value} {vs : List V} {R : Value → Shared → Prop} (T : OxI X.K C fI) (F1 : FnOk X.prog X.w X.K X.mg X.base CX k fI fd ps sp) (hr : Room (k + 1) X.A) (hb : Binds X.K fd ps ds) (hd : Vals dvs ds)
    (hx : Passes CX X (fun _ _ _ => False)) (I1 : Inv X pins σ H1 s1) (r1 : Vals vs us) (hz : vs.length ≤ 1000) {Q : Addr → VK} (q1 : ∀ a, H1 a = none → sp (.ref a :: (vs ++ dvs)) (upd H1 a (exo a C none)) (Q a) (fun _ _ _ => False))
    (fin : ∀ (a : Addr) (v : V) (H2 : Hp) (z : Shared) (u : Value), H1 a = none → Inv X pins σ H2 z → L2.RelV v u → Q a v H2 → u = .none ∧ R (.ref a) z) :
    wpAny (model X.prog X.w) X.A (call (.ref C) us) R X.xe s1 := by
  obtain ⟨newId, b, nm, q, N, bs, bm, sn, sub, ab, col, dd, k0, k1, k2, k3, k5, Fm, hC, hbm⟩ := T.cls
  obtain ⟨B, initId, FB⟩ := Fm.fac
  obtain ⟨rs, er⟩ := refs_of hbm
  have hT : ∀ Y : String, bm.contains (.type Y) = b.contains (.type Y) := fun Y => by rw [er, contains_refs]
  obtain ⟨hp, g, dr, tk, os⟩ := s1
  have hsz : hp.objs.size ≤ hp.objs.size + 1 := Nat.le_succ _
  have hn : H1 (hp.objs.size + 1) = none := I1.hok.fresh hsz
  have hq := q1 (hp.objs.size + 1) hn
  have kk : ∀ c o, hp.get? c = some o → ((hp.push (PySem.W.kdv_tup us)).push (PySem.HandSPX.excO C hp.objs.size)).get? c = some o := fun c o y => Heap.get?_push_of_some _ (Heap.get?_push_of_some _ y)
  have hget : ((hp.push (PySem.W.kdv_tup us)).push (PySem.HandSPX.excO C hp.objs.size)).get? (hp.objs.size + 1) = some (PySem.HandSPX.excO C hp.objs.size) := by heap_get
  have I2 : Inv X pins σ (upd H1 (hp.objs.size + 1) (exo (hp.objs.size + 1) C none)) ⟨(hp.push (PySem.W.kdv_tup us)).push (PySem.HandSPX.excO C hp.objs.size), g, dr, tk, os⟩ :=
    I1.laid (t' := tk) kk hsz (exo_ok hget)
  have r2 : Vals (V.ref (hp.objs.size + 1) :: (vs ++ dvs)) (Value.ref (hp.objs.size + 1) :: (us ++ ds)) := .cons rfl (r1.append hd)
  have hl : (Value.ref (hp.objs.size + 1) :: us ++ ds).length = ps.length := by
    have y := r2.length
    rw [F1.len _ _ _ _ hq] at y
    exact y.symm
  have hus : us.length ≤ sizeLine := by
    rw [← Paired.length r1, sizeLine_eq]
    omega
  refine wpAny_call (PySem.HandSPX.call_own FB hT (I1.kIn _ _ hC) (PySem.W.looks_findIn I1.kIn T.iC) (fun self => PySem.W.bind_fn I1.kIn self T.tI) hus ?_)
  refine codeAny_mono (F1.run _ X.stack _ _ ⟨Value.ref (hp.objs.size + 1) :: us, []⟩ (Value.ref (hp.objs.size + 1) :: (us ++ ds)) _ _ (fun _ _ _ => False) (hr.make C us []) (I2.env0.make C us []) (hb _ (Value.ref (hp.objs.size + 1) :: us) I2.kIn hl) r2 hq) fun r z hz2 => ?_
  cases r with
  | error er2 => exact hx pins σ _ _ er2 z I2 hz2
  | ok fl =>
    cases fl with
    | ret u =>
      obtain ⟨v, H3, I3, rv, q3⟩ := I2.after hz2
      obtain ⟨e1, e2⟩ := fin _ v H3 z u hn I3 rv q3
      exact ⟨e1, e2⟩
    | next => exact False.elim hz2
    | brk => exact False.elim hz2
    | cont => exact False.elim hz2
/-- as a value -/
theorem pe_xm (T : OxI X.K C fI) (F1 : FnOk X.prog X.w X.K X.mg X.base CX k fI fd ps sp) (hr : Room (k + 1) X.A) (hg : Gl X x) (hm : X.mg x = some (.ref C)) (hb : Binds X.K fd ps ds) (hd : Vals dvs ds) (hx : Passes CX X (fun _ _ _ => False)) (ha : PA X (e :: es) ta)
    (hdb : (x == ("__debug__" : Str)) = false := by decide) (he : starEach (e :: es) X.env = (false, eval e X.env) :: starEach es X.env := by rfl) (hpl : (backTo pos (starEach es X.env)).any (·.1) = false := by rfl) :
    PE X (.Call (.Name x p) (e :: es) [] pos) (tXmV C sp dvs ta) := by
  refine ⟨fun pins s σ H Q I h => ?_⟩
  refine wpAny_Call_Name_kw (ld_glob I hg hm ?_ hdb)
  refine PySem.W.callWith_K (h₀ := X.base) I.ok.mod.kin T.kC (thn (ha.run pos pins s σ H _ I h) fun us s1 h1 => ?_) he hpl
  obtain ⟨vs, H1, I1, r1, hz, q1⟩ := h1
  refine ⟨I1.kIn, ?_⟩
  show wpAny _ _ (call (.ref C) us) _ _ _
  refine run_xm T F1 hr hb hd hx I1 r1 hz q1 fun a v H2 z u hn I2 rv q => ?_
  obtain ⟨ev, d, fs, m, q⟩ := q
  subst ev
  exact ⟨rv, .ref a, _, inv_stand I2 m, rfl, q⟩
/-- raised -/
theorem pmk_xm (T : OxI X.K C fI) (F1 : FnOk X.prog X.w X.K X.mg X.base CX k fI fd ps sp) (hr : Room (k + 1) X.A) (hg : Gl X x) (hm : X.mg x = some (.ref C)) (hb : Binds X.K fd ps ds) (hd : Vals dvs ds) (hx : Passes CX X (fun _ _ _ => False)) (ha : PA X (e :: es) ta)
    (hdb : (x == ("__debug__" : Str)) = false := by decide) (he : starEach (e :: es) X.env = (false, eval e X.env) :: starEach es X.env := by rfl) (hpl : (backTo pos (starEach es X.env)).any (·.1) = false := by rfl) :
    PMk X (.Call (.Name x p) (e :: es) [] pos) (tMkO C sp dvs ta) := by
  intro pins s σ H Q I h
  obtain ⟨newId, b, nm, q, N, bs, bm, sn, sub, ab, col, dd, k0, k1, k2, k3, k5, Fm, hC, hbm⟩ := T.cls
  obtain ⟨B, initId, FB⟩ := Fm.fac
  obtain ⟨rs, er⟩ := refs_of hbm
  have hT : ∀ Y : String, bm.contains (.type Y) = b.contains (.type Y) := fun Y => by rw [er, contains_refs]
  refine wpAny_Call_Name_kw (ld_glob I hg hm ?_ hdb)
  refine PySem.W.callWith_K (h₀ := X.base) I.ok.mod.kin T.kC (thn (ha.run pos pins s σ H _ I h) fun us s1 h1 => ?_) he hpl
  obtain ⟨vs, H1, I1, r1, hz, q1⟩ := h1
  refine ⟨I1.kIn, ?_⟩
  show wpAny _ _ (call (.ref C) us) _ _ _
  obtain ⟨hp, g, dr, tk, os⟩ := s1
  have sz1 : hp.objs.size ≤ hp.objs.size + 1 := Nat.le_succ _
  have n1 : H1 (hp.objs.size + 1) = none := I1.hok.fresh sz1
  have q2 := q1 (hp.objs.size + 1) n1
  have kk : ∀ c o, hp.get? c = some o → ((hp.push (PySem.W.kdv_tup us)).push (PySem.HandSPX.excO C hp.objs.size)).get? c = some o := fun c o y => Heap.get?_push_of_some _ (Heap.get?_push_of_some _ y)
  have got : ((hp.push (PySem.W.kdv_tup us)).push (PySem.HandSPX.excO C hp.objs.size)).get? (hp.objs.size + 1) = some (PySem.HandSPX.excO C hp.objs.size) := by heap_get
  have J2 : Inv X pins σ (upd H1 (hp.objs.size + 1) (exo (hp.objs.size + 1) C none)) ⟨(hp.push (PySem.W.kdv_tup us)).push (PySem.HandSPX.excO C hp.objs.size), g, dr, tk, os⟩ :=
    I1.laid (t' := tk) kk sz1 (exo_ok got)
  have rr : Vals (V.ref (hp.objs.size + 1) :: (vs ++ dvs)) (Value.ref (hp.objs.size + 1) :: (us ++ ds)) := .cons rfl (r1.append hd)
  have ll : (Value.ref (hp.objs.size + 1) :: us ++ ds).length = ps.length := by
    have y := rr.length
    rw [F1.len _ _ _ _ q2] at y
    exact y.symm
  have lu : us.length ≤ sizeLine := by
    rw [← Paired.length r1, sizeLine_eq]
    omega
  refine wpAny_call (PySem.HandSPX.call_own FB hT (I1.kIn _ _ hC) (PySem.W.looks_findIn I1.kIn T.iC) (fun self => PySem.W.bind_fn I1.kIn self T.tI) lu ?_)
  refine codeAny_mono (F1.run _ X.stack _ _ ⟨Value.ref (hp.objs.size + 1) :: us, []⟩ (Value.ref (hp.objs.size + 1) :: (us ++ ds)) _ _ (fun _ _ _ => False) (hr.make C us []) (J2.env0.make C us []) (hb _ (Value.ref (hp.objs.size + 1) :: us) J2.kIn ll) rr q2) fun r z hz2 => ?_
  cases r with
  | error er2 => exact hx pins σ _ _ er2 z J2 hz2
  | ok fl =>
    cases fl with
    | ret u =>
      obtain ⟨v, H3, os3, bare3, un3, hok3, rv, ev, d, fs, ea, ed, hd1, q3⟩ := hz2
      subst ev
      obtain ⟨h3, g3, d3, t3, os4⟩ := z
      exact ⟨rv, mk_end (raises_own T.exC T.tyC) I1 sz1 kk un3 hok3 os3 bare3 ea ed hd1 q3⟩
    | next => exact False.elim hz2
    | brk => exact False.elim hz2
    | cont => exact False.elim hz2
end

/-! ### the promise of such an __init__: self.f = f, for each of its parameters -/
def spI (K : PySem.W.Frag) (C : Addr) (fs : List Str) : Sp := fun vs H Q _ => ∃ (a : Addr) (ys : List V), vs = .ref a :: ys ∧ ys.length = fs.length ∧ H a = some (exo a C none) ∧
  ∀ dx, H dx = none → dx ≠ a → Q .non (upd (upd H dx (exd dx (fs.zip ys).reverse)) a (exo a C (some dx)))
theorem stand_eq {H : Hp} {a C dx : Addr} {fs : List (Str × V)} (ne : dx ≠ a) : stand (upd (upd (upd H a (exo a C none)) dx (exd dx fs)) a (exo a C (some dx))) a C dx fs = upd (upd H a (xob a (.ref C) (some dx))) dx (.xd fs) := by
  funext b
  unfold stand
  by_cases h1 : b = dx
  · subst h1
    rw [upd_same, upd_same]
  · rw [upd_ne h1, upd_ne h1]
    by_cases h2 : b = a
    · subst h2
      rw [upd_same, upd_same]
    · rw [upd_ne h2, upd_ne h2, upd_ne h2, upd_ne h1, upd_ne h2]
theorem made_of {H : Hp} {a C dx : Addr} {fs : List (Str × V)} (ne : dx ≠ a) : Made a C dx fs (upd (upd H dx (exd dx fs)) a (exo a C (some dx))) :=
  ⟨upd_same, by rw [upd_ne ne]; exact upd_same⟩
/-- what is left to be shown of C(e, ..) -/
theorem q_xm {K : PySem.W.Frag} {C : Addr} {fs : List Str} {vs : List V} {H1 : Hp} {Q : VK} (hl : vs.length = fs.length) (hs : fs.length ≤ 1000)
    (h : ∀ a dx, H1 a = none → H1 dx = none → dx ≠ a → Q (.ref a) (upd (upd H1 a (xob a (.ref C) (some dx))) dx (.xd (fs.zip vs).reverse))) :
    vs.length ≤ 1000 ∧ ∀ a, H1 a = none → spI K C fs (.ref a :: (vs ++ [])) (upd H1 a (exo a C none))
      (fun v H2 => v = .non ∧ ∃ (d : Addr) (fs : List (Str × V)), Made a C d fs H2 ∧ Q (.ref a) (stand H2 a C d fs)) (fun _ _ _ => False) := by
  refine ⟨by omega, fun a na => ⟨a, vs, by rw [List.append_nil], hl, upd_same, fun dx nd ne => ⟨rfl, dx, _, made_of ne, ?_⟩⟩⟩
  rw [stand_eq ne]
  rw [upd_ne ne] at nd
  exact h a dx na nd ne
/-- .. and of its being raised -/
theorem q_xmr {K : PySem.W.Frag} {C : Addr} {fs : List Str} {vs : List V} {H1 : Hp} {Q : XK} (hl : vs.length = fs.length) (hs : fs.length ≤ 1000)
    (h : ∀ dx, H1 dx = none → Q (.ref C) (some dx) (upd H1 dx (.xd (fs.zip vs).reverse))) :
    vs.length ≤ 1000 ∧ ∀ a, H1 a = none → spI K C fs (.ref a :: (vs ++ [])) (upd H1 a (exo a C none))
      (fun v H2 => v = .non ∧ ∃ (d : Addr) (fs : List (Str × V)), H2 a = some (exo a C (some d)) ∧ H2 d = some (exd d fs) ∧ H1 d = none ∧ Q (.ref C) (some d) (upd (del H2 a) d (.xd fs))) (fun _ _ _ => False) := by
  refine ⟨by omega, fun a na => ⟨a, vs, by rw [List.append_nil], hl, upd_same, fun dx nd ne => ?_⟩⟩
  rw [upd_ne ne] at nd
  refine ⟨rfl, dx, _, upd_same, by rw [upd_ne ne]; exact upd_same, nd, ?_⟩
  have e : upd (del (upd (upd (upd H1 a (exo a C none)) dx (exd dx (fs.zip vs).reverse)) a (exo a C (some dx))) a) dx (.xd (fs.zip vs).reverse) = upd H1 dx (.xd (fs.zip vs).reverse) := by
    funext b
    by_cases h1 : b = dx
    · rw [h1, upd_same, upd_same]
    · rw [upd_ne h1, upd_ne h1]
      by_cases h2 : b = a
      · rw [h2, del_same, na]
      · rw [del_ne h2, upd_ne h2, upd_ne h1, upd_ne h2]
  rw [e]
  exact h dx nd
end Gd

set_option maxHeartbeats 4000000

/-! ### an own exception class called with keywords -/
namespace Gd.Kw
open PySem PySem.W PySem.Calls PyProof.Rows PySem.HandSPX
section
variable {prog : Program} {w : World} {M : Model} {A : Around} {E : Value → Shared → Prop} {R : Result → Shared → Prop} {hh : Heap} {gg : Array GenState} {dr : Drawn} {tt : Nat} {oss : OsState}
variable {nm q : Str} {C N : Addr} {bs bm b : List Value} {hdct : Bool} {sn : List Str} {sub : List Value} {ab : Bool} {col : Option Bool} {dd : Option Addr} {k0 k1 k2 k3 k5 : Option Value} {B newId initId : String} {rest : List Value} {kw : List (Str × Value)}
theorem may_new (FB : ExcBaseFacts B newId initId b) (hT : ∀ Y : String, bm.contains (.type Y) = b.contains (.type Y)) {Q : Unit → Shared → Prop}
    (hC : hh.get? C = some (excClassObj nm q C N bs bm hdct sn sub ab col dd k0 k1 k2 k3 k5 newId)) (hq : Q () ⟨hh, gg, dr, tt, oss⟩) : wpAny M A (checkBuiltinCall newId ⟨.ref C :: rest, kw⟩) Q E ⟨hh, gg, dr, tt, oss⟩ := by
  have has : (Value.ref C :: bm).contains (.type B) = true := by rw [List.contains_cons, hT, FB.hasB, Bool.or_true]
  have st := FB.noStar
  simp only [checkBuiltinCall, FB.newKind, FB.newSplit, FB.newRow]
  repeat (first
    | refine wpAny_loadPart_at hC ?_
    | (refine wpAny_isSubtype_exc hC ?_; rw [has])
    | refine wpAny_staticBase_exc hC ?_
    | refine wpAny_madeBy_exc hC ?_
    | simp only [bne_self_eq_false, Bool.false_eq_true, if_false]
    | wp_step)
  exact hq
theorem made_new (FB : ExcBaseFacts B newId initId b) (hT : ∀ Y : String, bm.contains (.type Y) = b.contains (.type Y))
    (hC : hh.get? C = some (excClassObj nm q C N bs bm hdct sn sub ab col dd k0 k1 k2 k3 k5 newId)) (hl : rest.length ≤ sizeLine)
    (hq : R (.ok (.ret (.ref (hh.objs.size + 1)))) ⟨(hh.push (kdv_tup rest)).push (excO C hh.objs.size), gg, dr, tt, oss⟩) :
    codeAny (model prog w) A (.builtin newId ⟨.ref C :: rest, kw⟩) R ⟨hh, gg, dr, tt, oss⟩ := by
  have en := FB.ends
  have has : (Value.ref C :: bm).contains (.type B) = true := by rw [List.contains_cons, hT, FB.hasB, Bool.or_true]
  have hasA : (Value.ref C :: bm).contains (.type "AttributeError") = false := by
    rw [List.contains_cons, hT, FB.noAttr]
    rfl
  have hasN : (Value.ref C :: bm).contains (.type "NameError") = false := by
    rw [List.contains_cons, hT, FB.noName]
    rfl
  refine codeAny_builtinAt FB.entry ?_
  unfold Builtin.«BaseException.__new__»
  refine PySem.wpAt_bind ?_
  show PySem.wpAt _ _ _ (stack >>= _) _ _ _
  refine PySem.wpAt_bind (PySem.wpAt_stack fun p below => PySem.wpAt_of_wpAny ?_)
  wp_walk
  refine PySem.wpAt_of_wpAny ?_
  rw [FB.owner]
  repeat (first
    | with_reducible refine wpAny_madeHere_exc FB.canon hC ?_
    | with_reducible refine wpAny_loadPart_at hC ?_
    | (with_reducible refine wpAny_isSubtype_exc hC ?_; first | rw [has] | rw [hasA] | rw [hasN])
    | wp_step)
  show R _ _
  rw [Heap.size_push]
  exact hq
theorem type_call (FB : ExcBaseFacts B newId initId b) (hT : ∀ Y : String, bm.contains (.type Y) = b.contains (.type Y)) {fI : Addr} {Q : Fin → Shared → Prop}
    (hC : hh.get? C = some (excClassObj nm q C N bs bm hdct sn sub ab col dd k0 k1 k2 k3 k5 newId)) (hl : rest.length ≤ sizeLine)
    (hi : Looks (model prog w) hh (typeLookup (.ref C) "__init__") (some (.ref fI))) (hb : ∀ self, Looks (model prog w) hh (bindSpecial (.ref fI) self) (.ref fI, [self]))
    (hq : codeAny (model prog w) A (.call (.ref fI) ⟨.ref (hh.objs.size + 1) :: rest, kw⟩)
      (fun r z => match r with
        | .ok (.ret v) => v = .none ∧ Q (.done (.ret (.ref (hh.objs.size + 1)))) z
        | .ok _ => False
        | .error e => E e z)
      ⟨(hh.push (kdv_tup rest)).push (excO C hh.objs.size), gg, dr, tt, oss⟩) :
    wpAny (model prog w) A (Builtin.«type.__call__» ⟨.ref C :: rest, kw⟩) Q E ⟨hh, gg, dr, tt, oss⟩ := by
  repeat (first
    | with_reducible refine wpAny_loadPart_at hC ?_
    | with_reducible refine wpAny_madeBy_exc hC ?_
    | wp_step)
  refine codeAny_call_builtin_code (Code.quiet_builtin _ FB.quiet) (may_new FB hT hC ?_)
  refine made_new FB hT hC hl ?_
  show wpAny _ _ _ _ _ _
  have kk : ∀ c o, hh.get? c = some o → ((hh.push (kdv_tup rest)).push (excO C hh.objs.size)).get? c = some o := fun c o e => Heap.get?_push_of_some _ (Heap.get?_push_of_some _ e)
  have got : ((hh.push (kdv_tup rest)).push (excO C hh.objs.size)).get? (hh.objs.size + 1) = some (excO C hh.objs.size) := by heap_get
  have own : (Value.ref C :: bm).contains (.ref C) = true := by simp
  have hC2 := kk _ _ hC
  have li := hi.keeps kk
  have lb := (hb (.ref (hh.objs.size + 1))).keeps kk
  unfold isInstance
  repeat (first
    | with_reducible refine wpAny_loadPart_at got ?_
    | (with_reducible refine wpAny_isSubtype_exc hC2 ?_; rw [own])
    | wp_step)
  show wpAny _ _ (typeLookup (.ref C) _) _ _ _
  refine li.at ?_
  refine wpAny_holding (wpAny_bind (lb.at ?_))
  refine wpAny_bind (wpAny_call (codeAny_mono hq fun r z y => ?_))
  rcases r with e | (v | _ | _ | _) <;> first | exact y | exact y.elim | skip
  obtain ⟨rfl, y⟩ := y
  first
    | exact wpAny_pure (wpAny_pure y)
    | (wp_walk; exact y)
theorem may_type (hC : hh.get? C = some (excClassObj nm q C N bs bm hdct sn sub ab col dd k0 k1 k2 k3 k5 newId)) {Q : Unit → Shared → Prop}
    (hq : Q () ⟨hh, gg, dr, tt, oss⟩) : wpAny M A (checkBuiltinCall "type.__call__" ⟨.ref C :: rest, kw⟩) Q E ⟨hh, gg, dr, tt, oss⟩ := by
  have f3 := tc_sub
  have ty : (⟨hh, gg, dr, tt, oss⟩ : Shared).TypeIs (.ref C) "type" := ⟨_, hC, rfl⟩
  simp only [checkBuiltinCall, tc_kind, tc_split]
  repeat (any_goals (first
    | assumption
    | with_reducible refine wpAny_loadPart_at hC ?_
    | with_reducible refine wpAny_onRaise ?_
    | with_reducible refine wpAny_map ?_
    | wp_step))
theorem call_kw (FB : ExcBaseFacts B newId initId b) (hT : ∀ Y : String, bm.contains (.type Y) = b.contains (.type Y)) {fI : Addr}
    (hC : hh.get? C = some (excClassObj nm q C N bs bm hdct sn sub ab col dd k0 k1 k2 k3 k5 newId)) (hl : rest.length ≤ sizeLine)
    (hi : Looks (model prog w) hh (typeLookup (.ref C) "__init__") (some (.ref fI))) (hb : ∀ self, Looks (model prog w) hh (bindSpecial (.ref fI) self) (.ref fI, [self]))
    (hq : codeAny (model prog w) (A.under (.builtin "type.__call__" ⟨.ref C :: rest, kw⟩)) (.call (.ref fI) ⟨.ref (hh.objs.size + 1) :: rest, kw⟩) (InitBack (hh.objs.size + 1) R)
      ⟨(hh.push (kdv_tup rest)).push (excO C hh.objs.size), gg, dr, tt, oss⟩) :
    codeAny (model prog w) A (.call (.ref C) ⟨rest, kw⟩) R ⟨hh, gg, dr, tt, oss⟩ := by
  have f1 := tc_lookup
  have f2 := tc_bind (.ref C)
  have ty : (⟨hh, gg, dr, tt, oss⟩ : Shared).TypeIs (.ref C) "type" := ⟨_, hC, rfl⟩
  refine codeAny_of_tree ?_
  show wpAny _ _ (callAny (.ref C) _) _ _ _
  repeat (any_goals (first
    | assumption
    | with_reducible refine wpAny_loadPart_at hC ?_
    | wp_step))
  refine ⟨rfl, ?_⟩
  refine codeAny_call_builtin_at (Code.quiet_builtin _ (by decide +kernel)) entry_typeCall (may_type hC (type_call FB hT hC hl hi hb ?_))
  refine codeAny_mono hq fun r z y => ?_
  rcases r with e | (v | _ | _ | _) <;> exact y
end
end Gd.Kw

set_option maxHeartbeats 4000000
namespace Gd
open PySem PySem.Spec PyProof.Rows L2

/-! C(k = v, ..) of an own exception class, all by keywords -/
section
variable {X : Cx} {CX : CXT} {k : Nat} {C fI : Addr} {fd : FuncData} {ps ks : List Str} {sp : Sp} {x : Str} {p pos : Pos} {g : List Value → List Value → List Value} {gV : List V → List V → List V}
theorem run_xmk {pins : List (Addr × Obj)} {σ : L2.St} {H1 : Hp} {s1 : Shared} {ws : List Value} {zs : List V} {Q : VK} (T : OxI X.K C fI) (F1 : FnOk X.prog X.w X.K X.mg X.base CX k fI fd ps sp) (hr : Room (k + 1) X.A) (hb : KBn X.K fd ps 1 ks g gV) (hx : Passes CX X (fun _ _ _ => False))
    (I1 : Inv X pins σ H1 s1) (rz : Vals zs ws) (l2 : zs.length = ks.length) (q1 : ∀ a, H1 a = none → sp (gV [.ref a] zs) (upd H1 a (exo a C none))
      (fun v H2 => v = .non ∧ ∃ (d : Addr) (fs : List (Str × V)), Made a C d fs H2 ∧ Q (.ref a) (stand H2 a C d fs)) (fun _ _ _ => False)) :
    wpAny (model X.prog X.w) X.A (call (.ref C) [] (ks.zip ws)) (EP X pins σ Q) X.xe s1 := by
  obtain ⟨newId, b, nm, q, N, bs, bm, sn, sub, ab, col, dd, k0, k1, k2, k3, k5, Fm, hC, hbm⟩ := T.cls
  obtain ⟨B, initId, FB⟩ := Fm.fac
  obtain ⟨rs, er⟩ := refs_of hbm
  have hT : ∀ Y : String, bm.contains (.type Y) = b.contains (.type Y) := fun Y => by rw [er, contains_refs]
  obtain ⟨hp, g0, dr, tk0, os⟩ := s1
  have sz1 : hp.objs.size ≤ hp.objs.size + 1 := Nat.le_succ _
  have n1 : H1 (hp.objs.size + 1) = none := I1.hok.fresh sz1
  have q2 := q1 (hp.objs.size + 1) n1
  have kk : ∀ c o, hp.get? c = some o → ((hp.push (PySem.W.kdv_tup [])).push (PySem.HandSPX.excO C hp.objs.size)).get? c = some o := fun c o y => Heap.get?_push_of_some _ (Heap.get?_push_of_some _ y)
  have got : ((hp.push (PySem.W.kdv_tup [])).push (PySem.HandSPX.excO C hp.objs.size)).get? (hp.objs.size + 1) = some (PySem.HandSPX.excO C hp.objs.size) := by heap_get
  have J2 : Inv X pins σ (upd H1 (hp.objs.size + 1) (exo (hp.objs.size + 1) C none)) ⟨(hp.push (PySem.W.kdv_tup [])).push (PySem.HandSPX.excO C hp.objs.size), g0, dr, tk0, os⟩ :=
    I1.laid (t' := tk0) kk sz1 (exo_ok got)
  have r1 : Vals [V.ref (hp.objs.size + 1)] [Value.ref (hp.objs.size + 1)] := .cons rfl .nil
  have r2 := hb.rel r1 rz
  have lw : ws.length = ks.length := rz.length.symm.trans l2
  refine wpAny_call (Kw.call_kw FB hT (I1.kIn _ _ hC) (Nat.zero_le _) (PySem.W.looks_findIn I1.kIn T.iC) (fun self => PySem.W.bind_fn I1.kIn self T.tI) ?_)
  refine codeAny_mono (F1.run _ X.stack _ _ ⟨[Value.ref (hp.objs.size + 1)], ks.zip ws⟩ (g [Value.ref (hp.objs.size + 1)] ws) _ _ (fun _ _ _ => False) (hr.make C [] (ks.zip ws)) (J2.env0.make C [] (ks.zip ws))
    (hb.to _ [Value.ref (hp.objs.size + 1)] ws J2.kIn rfl lw) r2 q2) fun r z hz2 => ?_
  cases r with
  | error er2 => exact hx pins σ _ _ er2 z J2 hz2
  | ok fl =>
    cases fl with
    | ret u =>
      obtain ⟨v, H3, J3, rv, ev, d, fs, m, q3⟩ := J2.after hz2
      subst ev
      exact ⟨rv, .ref _, _, inv_stand J3 m, rfl, q3⟩
    | next => exact False.elim hz2
    | brk => exact False.elim hz2
    | cont => exact False.elim hz2
/-- C() of an own exception class without an own __init__ -/
theorem pe_x0 {bmB : List Value} {B newId initId : String} (F0 : ExcBaseFacts B newId initId bmB) (q : PySem.W.excIn X.K C bmB newId = true) (hg : Gl X x) (gC : X.mg x = some (.ref C)) (kC : PySem.W.keepIn X.K (.ref C) = true)
    (hdb : (x == ("__debug__" : Str)) = false := by decide) : PE X (.Call (.Name x p) [] [] pos) (fun _ H Q => ∀ a, H a = none → Q (.ref a) (upd H a (xob a (.ref C) none))) := by
  refine ⟨fun pins s σ H Q I h => ?_⟩
  refine wpAny_Call_Name_kw (ld_glob I hg gC ?_ hdb)
  refine PySem.W.callWith_K0 I.kIn kC ?_
  obtain ⟨bm, N, nm, qn, bs, hdct, sn, sub, ab, col, dd, k0, k1, k2, k3, k5, mN, hC, hN, hni, T⟩ := exc_obj I.kIn q
  refine wpAny_call_exc_subT F0 T hC hN hni (fun h2 a hm => ?_) (Nat.zero_le _)
  have hn : H a = none := I.hok.gone hm.new
  obtain ⟨t, ht, _, _⟩ := hm.there
  exact ⟨.ref a, upd H a (xob a (.ref C) none), I.laidN hm.keeps hm.new hn (xob_ok ht ⟨rfl, rfl⟩ rfl), rfl, h a hn⟩
end
end Gd

set_option maxHeartbeats 4000000
/-! What evaluates to a value with a property that stays. -/
namespace Gd
open PySem PySem.Spec PyProof.Rows L2 Evl
/-- a value with a property that stays -/
def EvP (te : TE) (σ : L2.St) (H : Hp) (P : V → Hp → Prop) : Prop := ∀ H1, Ex H H1 → ∀ Q : VK, (∀ v H2, Ex H1 H2 → P v H2 → Q v H2) → te σ H1 Q
def EvAP (ta : TA) (σ : L2.St) (H : Hp) (P : List V → Hp → Prop) : Prop := ∀ H1, Ex H H1 → ∀ Q : List V → Hp → Prop, (∀ vs H2, Ex H1 H2 → P vs H2 → Q vs H2) → ta σ H1 Q
section
variable {σ : L2.St} {H : Hp} {te tb : TE} {ta tr tk : TA} {C : Addr} {ps : List Str} {vs : List V}
theorem ex_made {H1 : Hp} {a dx : Addr} {o1 o2 : HO} (na : H1 a = none) (nd : H1 dx = none) : Ex H1 (upd (upd H1 a o1) dx o2) := fun b o e => by
  have n1 : b ≠ dx := fun z => by rw [z, nd] at e; cases e
  have n2 : b ≠ a := fun z => by rw [z, na] at e; cases e
  rw [upd_ne n1, upd_ne n2]
  exact e
theorem eap_nil : EvAP tNil σ H (fun vs _ => vs = []) := fun H1 e Q q => q [] H1 (Ex.refl H1) rfl
theorem eap_cons {P : V → Hp → Prop} {R : List V → Hp → Prop} (h : EvP te σ H P) (up : ∀ v H1 H2, Ex H1 H2 → P v H1 → P v H2) (hr : EvAP tr σ H R) : EvAP (tCons te tr) σ H (fun vs H1 => ∃ v r, vs = v :: r ∧ P v H1 ∧ R r H1) := fun H1 e Q q =>
  h H1 e _ fun v H2 e2 p => hr H2 (e.trans e2) _ fun r H3 e3 w => q _ _ (e2.trans e3) ⟨v, r, rfl, up _ _ _ e3 p, w⟩
/-- a new list of such -/
theorem evp_lst {R : List V → Hp → Prop} (h : EvAP ta σ H R) (up : ∀ vs H1 H2, Ex H1 H2 → R vs H1 → R vs H2) (hl : ∀ vs H1, R vs H1 → vs.length ≤ 100000) : EvP (tLst ta) σ H (fun v H1 => ∃ p vs, v = .ref p ∧ H1 p = some (.lst vs) ∧ R vs H1) := fun H1 e Q q =>
  h H1 e _ fun vs H2 e2 w => ⟨Nat.le_trans (hl vs H2 w) (by decide), fun p np => q _ _ (e2.trans (Ex.new np)) ⟨p, vs, rfl, upd_same, up _ _ _ (Ex.new np) w⟩⟩
/-- a list known and a list with a property -/
theorem evp_cat {l : Addr} {xs : List V} {R : List V → Hp → Prop} (ha : Ev te σ H (.ref l)) (hl : H l = some (.lst xs)) (hb : EvP tb σ H (fun v H1 => ∃ p vs, v = .ref p ∧ H1 p = some (.lst vs) ∧ R vs H1))
    (up : ∀ vs H1 H2, Ex H1 H2 → R vs H1 → R vs H2) (hz : ∀ vs H1, R vs H1 → xs.length + vs.length ≤ 100000) :
    EvP (tOp rCat te tb) σ H (fun v H1 => ∃ p vs, v = .ref p ∧ H1 p = some (.lst (xs ++ vs)) ∧ R vs H1) := fun H1 e Q q =>
  ha H1 e _ fun H2 e2 => hb H2 (e.trans e2) _ fun v H3 e3 w => by
    obtain ⟨p, vs, rfl, h3, r⟩ := w
    exact ⟨l, p, xs, vs, rfl, rfl, ((e.trans e2).trans e3) l _ hl, h3, Nat.le_trans (hz vs H3 r) (by decide), fun r0 hr => q _ _ ((e2.trans e3).trans (Ex.new hr)) ⟨r0, vs, rfl, upd_same, up _ _ _ (Ex.new hr) r⟩⟩
theorem q_asgP {D : Ends} {tz : TS} {i : Nat} {P : V → Hp → Prop} (h : EvP te σ H P) (k : ∀ v H1, Ex H H1 → P v H1 → tz D (σ.set i (some v)) H1) : tSeq (tAsg te (gName i)) tz D σ H := h H (Ex.refl H) _ k
theorem s_retP {D : Ends} {P : V → Hp → Prop} (h : EvP te σ H P) (k : ∀ v H1, Ex H H1 → P v H1 → D.rt v H1) : tRet te D σ H := h H (Ex.refl H) _ k
end
end Gd

set_option maxHeartbeats 4000000
namespace Gd
open PySem PySem.Spec PyProof.Rows L2 Evl

/-! ### what a text must have of an own exception class -/
def oxB (K : PySem.W.Frag) (C fI : Addr) (ps : List Str) : Bool :=
  (decide (PySem.W.findIn K (.ref C) "__setattr__" = some (some (.builtin "object.__setattr__"))) && decide (PySem.W.subIn K (.ref C) (.type "BaseException") = some true)) &&
  ((decide (PySem.W.typeIn K (.ref C) = some (.type "type")) && PySem.W.keepIn K (.ref C)) &&
  ((xfB K C && decide (PySem.W.findIn K (.ref C) "__class__" = some (some (.builtin "object.__class__")))) &&
  ((decide (PySem.W.mroIn K C (.type "object") = some true) && decide (PySem.W.typeIn K (.ref fI) = some (.type "function"))) &&
  ps.all fun f => decide (PySem.W.findIn K (.ref C) f = some none))))
structure OxF (K : PySem.W.Frag) (C fI : Addr) (ps : List Str) : Prop where
  i : OxI K C fI
  xf : XfC K C
  ec : ExcC K C
  nf : ∀ f ∈ ps, PySem.W.findIn K (.ref C) f = some none
theorem oxF_of {K : PySem.W.Frag} {C fI : Addr} {ps : List Str} {newId : String} {b : List Value} {nm q : Str} {N : Addr} {bs bm : List Value} {sn : List Str} {sub : List Value} {ab : Bool} {col : Option Bool} {dd : Option Addr} {k0 k1 k2 k3 k5 : Option Value}
    (Fm : Fam newId b) (xL : K.lookup C = some (excClassObj nm q C N bs bm true sn sub ab col dd k0 k1 k2 k3 k5 newId)) (hb : bm.dropWhile refV = b) (iC : PySem.W.findIn K (.ref C) "__init__" = some (some (.ref fI)))
    (hn : PySem.W.specialIn K (.builtin "object.__class__") "__get__" = some (some (.builtin "getset_descriptor.__get__"))) (ht : PySem.W.takesIn K (.builtin "object.__class__") = some true) (h : oxB K C fI ps = true) : OxF K C fI ps := by
  obtain ⟨h1, h⟩ := Bool.and_eq_true_iff.mp h
  obtain ⟨a1, a2⟩ := Bool.and_eq_true_iff.mp h1
  obtain ⟨h2, h⟩ := Bool.and_eq_true_iff.mp h
  obtain ⟨a3, a4⟩ := Bool.and_eq_true_iff.mp h2
  obtain ⟨h3, h⟩ := Bool.and_eq_true_iff.mp h
  obtain ⟨a5, a6⟩ := Bool.and_eq_true_iff.mp h3
  obtain ⟨h4, h⟩ := Bool.and_eq_true_iff.mp h
  obtain ⟨a7, a8⟩ := Bool.and_eq_true_iff.mp h4
  have X := xfB_ok a5
  have O : OxC K C := ⟨⟨newId, b, nm, q, N, bs, bm, sn, sub, ab, col, dd, k0, k1, k2, k3, k5, Fm, xL, hb⟩, of_decide_eq_true a1, of_decide_eq_true a2, of_decide_eq_true a3, a4⟩
  exact ⟨⟨O, iC, of_decide_eq_true a8⟩, X, ⟨X.ga, X.gg, X.exC, X.hdC, of_decide_eq_true a6, hn, ht, of_decide_eq_true a7⟩, fun f hf => of_decide_eq_true (List.all_eq_true.mp h f hf)⟩
/-- a class by its name, with its __init__ and what that takes -/
structure Xc (pr : Program) (wo : World) (K : PySem.W.Frag) (mg : Str → Option Value) (base : Heap) (CX : CXT) (x : Str) (C : Addr) (ps : List Str) : Prop where
  m : mg x = some (.ref C)
  ex : ∃ (fI : Addr) (fd : FuncData), OxF K C fI ps ∧ FnOk pr wo K mg base CX 1 fI fd (("self" : Str) :: ps) (spI K C ps) ∧ Binds K fd (("self" : Str) :: ps) [] ∧
    ∀ (s : Shared) (u : Value) (ws : List Value), K.In s.heap → ws.length = ps.reverse.length → BindsTo s fd ⟨[u], ps.reverse.zip ws⟩ ((("self" : Str) :: ps).zip (u :: ws.reverse))
theorem _root_.L2.Fun.kbindsR {K : PySem.W.Frag} {x qual : Str} {st : Stmt} {f : Addr} {fd : FuncData} {ps : List Str} (F : Fun K x qual st f fd)
    (h : ∀ (kV doc pm : Value) (an : Option Addr) (cdv ct : Value) (u : Value) (ws : List Value), ws.length = ps.reverse.length → bindArgs (PySem.W.fnOf x qual (defArgs st) (defBody st) (defScope st) .none kV doc pm an cdv ct) ⟨[u], ps.reverse.zip ws⟩ = pure ((("self" : Str) :: ps).zip (u :: ws.reverse)))
    (s : Shared) (u : Value) (ws : List Value) (hK : K.In s.heap) (hl : ws.length = ps.reverse.length) : BindsTo s fd ⟨[u], ps.reverse.zip ws⟩ ((("self" : Str) :: ps).zip (u :: ws.reverse)) := by
  obtain ⟨oc, od, kV, doc, pm, an, cdv, ct, osl, rfl, lk, hcd⟩ := F.ex
  exact .of_eq (h kV doc pm an cdv ct u ws hl)
theorem upd_swap {H : Hp} {a d : Addr} {o e1 e2 : HO} (ne : d ≠ a) : upd (upd (upd H d e1) a o) d e2 = upd (upd H d e2) a o := by
  funext b
  by_cases h1 : b = d
  · subst h1
    rw [upd_same, upd_ne ne, upd_same]
  · rw [upd_ne h1]
    by_cases h2 : b = a
    · rw [h2, upd_same, upd_same]
    · rw [upd_ne h2, upd_ne h2, upd_ne h1, upd_ne h1]

section
variable {X : Cx} {CX : CXT} {C : Addr} {ps : List Str} {x : Str} {e : Expr} {es : List Expr} {ta tk : TA} {p pos : Pos} {kws : List Keyword}
/-- the reading of C(e, ..) -/
def tXc (C : Addr) (ps : List Str) (ta : TA) : TE := fun σ H Q => ta σ H fun vs H1 => vs.length = ps.length ∧
  ∀ a dx, H1 a = none → H1 dx = none → dx ≠ a → Q (.ref a) (upd (upd H1 a (xob a (.ref C) (some dx))) dx (.xd (ps.zip vs).reverse))
theorem pe_xc (D : Xc X.prog X.w X.K X.mg X.base CX x C ps) (hr : Room 2 X.A) (hg : Gl X x) (ha : PA X (e :: es) ta) (hs : ps.length ≤ 1000 := by decide) (hx : Passes CX X (fun _ _ _ => False) := by exact pass0)
    (hdb : (x == ("__debug__" : Str)) = false := by decide) (he : starEach (e :: es) X.env = (false, eval e X.env) :: starEach es X.env := by rfl) (hpl : (backTo pos (starEach es X.env)).any (·.1) = false := by rfl) :
    PE X (.Call (.Name x p) (e :: es) [] pos) (tXc C ps ta) := by
  obtain ⟨m, fI, fd, O, F, B, Kb⟩ := D
  refine ⟨fun pins s σ H Q I h => ?_⟩
  refine wpAny_Call_Name_kw (ld_glob I hg m ?_ hdb)
  refine PySem.W.callWith_K (h₀ := X.base) I.ok.mod.kin O.i.kC (thn (ha.run pos pins s σ H _ I h) fun us s1 h1 => ?_) he hpl
  obtain ⟨vs, H1, I1, r1, hl, q⟩ := h1
  refine ⟨I1.kIn, ?_⟩
  show wpAny _ _ (call (.ref C) us) _ _ _
  obtain ⟨hz, q1⟩ := q_xm (K := X.K) (Q := Q) hl hs q
  refine run_xm O.i F hr B .nil hx I1 r1 hz q1 fun a v H2 z u hn I2 rv q3 => ?_
  obtain ⟨ev, d, fs, mm, q4⟩ := q3
  subst ev
  exact ⟨rv, .ref a, _, inv_stand I2 mm, rfl, q4⟩
/-- raised -/
theorem pmk_xc (D : Xc X.prog X.w X.K X.mg X.base CX x C ps) (hr : Room 2 X.A) (hg : Gl X x) (ha : PA X (e :: es) ta) (hx : Passes CX X (fun _ _ _ => False) := by exact pass0)
    (hdb : (x == ("__debug__" : Str)) = false := by decide) (he : starEach (e :: es) X.env = (false, eval e X.env) :: starEach es X.env := by rfl) (hpl : (backTo pos (starEach es X.env)).any (·.1) = false := by rfl) :
    PMk X (.Call (.Name x p) (e :: es) [] pos) (tMkO C (spI X.K C ps) [] ta) := by
  obtain ⟨m, fI, fd, O, F, B, Kb⟩ := D
  exact pmk_xm O.i F hr hg m B .nil hx ha hdb he hpl
/-- C(k = v, ..): the keywords' names ks, the parameters in their order by g -/
def tXck (C : Addr) (ps : List Str) (n : Nat) (g : List V → List V) (tk : TA) : TE := fun σ H Q => tk σ H fun zs H1 => zs.length = n ∧ (g zs).length = ps.length ∧
  ∀ a dx, H1 a = none → H1 dx = none → dx ≠ a → Q (.ref a) (upd (upd H1 a (xob a (.ref C) (some dx))) dx (.xd (ps.zip (g zs)).reverse))
theorem pe_xck {ks : List Str} {g : {α : Type} → List α → List α} (m : X.mg x = some (.ref C)) {fI : Addr} {fd : FuncData} (O : OxF X.K C fI ps) (F : FnOk X.prog X.w X.K X.mg X.base CX 1 fI fd (("self" : Str) :: ps) (spI X.K C ps))
    (kb : ∀ (s : Shared) (u : Value) (ws : List Value), X.K.In s.heap → ws.length = ks.length → BindsTo s fd ⟨[u], ks.zip ws⟩ ((("self" : Str) :: ps).zip (u :: g ws))) (hgr : ∀ {zs : List V} {ws : List Value}, Vals zs ws → Vals (g zs) (g ws))
    (hr : Room 2 X.A) (hg : Gl X x) (hkw : PK X kws tk) (hs : ps.length ≤ 1000 := by decide) (hx : Passes CX X (fun _ _ _ => False) := by exact pass0)
    (hall : (backToKw pos (keywordEach kws X.env)).all (·.1.isSome) = true := by rfl) (hks : (backToKw pos (keywordEach kws X.env)).filterMap (·.1) = ks := by rfl) (hdb : (x == ("__debug__" : Str)) = false := by decide)
    (hpl : ((backTo pos (starEach [] X.env)).any (·.1) || (backToKw pos (keywordEach kws X.env)).any (·.1.isNone)) = false := by rfl) :
    PE X (.Call (.Name x p) [] kws pos) (tXck C ps ks.length g tk) := by
  refine ⟨fun pins s σ H Q I h => ?_⟩
  refine wpAny_Call_Name_kw (ld_glob I hg m ?_ hdb)
  refine PySem.W.callWith_KW0 (h₀ := X.base) I.ok.mod.kin O.i.kC hall ?_ hpl
  refine thn (hkw.run pos pins s σ H _ I h) fun ws s1 h1 => ?_
  obtain ⟨zs, H1, I1, rz, l2, lg, q⟩ := h1
  refine ⟨I1.kIn, ?_⟩
  rw [hks]
  obtain ⟨hz, q1⟩ := q_xm (K := X.K) (Q := Q) lg hs q
  have KB : KBn X.K fd (("self" : Str) :: ps) 1 ks (fun us ws => us ++ g ws) (fun us ws => us ++ g ws) := ⟨fun s us ws hK l1 l3 => by
    match us, l1 with
    | [u], _ => exact kb s u ws hK l3, fun r1 r2 => r1.append (hgr r2)⟩
  refine run_xmk O.i F hr KB hx I1 rz l2 fun a na => ?_
  have := q1 a na
  rw [List.append_nil] at this
  exact this
theorem rev_vals {zs : List V} {ws : List Value} (h : Vals zs ws) : Vals zs.reverse ws.reverse := by
  induction h with
  | nil => exact .nil
  | cons r t ih =>
    rw [List.reverse_cons, List.reverse_cons]
    exact ih.append (.cons r .nil)
/-- C(k = v, ..), the keywords in the order from the last parameter to the first -/
theorem pe_xckR (D : Xc X.prog X.w X.K X.mg X.base CX x C ps) (hr : Room 2 X.A) (hg : Gl X x) (hkw : PK X kws tk) (hs : ps.length ≤ 1000 := by decide) (hx : Passes CX X (fun _ _ _ => False) := by exact pass0)
    (hall : (backToKw pos (keywordEach kws X.env)).all (·.1.isSome) = true := by rfl) (hks : (backToKw pos (keywordEach kws X.env)).filterMap (·.1) = ps.reverse := by rfl) (hdb : (x == ("__debug__" : Str)) = false := by decide)
    (hpl : ((backTo pos (starEach [] X.env)).any (·.1) || (backToKw pos (keywordEach kws X.env)).any (·.1.isNone)) = false := by rfl) :
    PE X (.Call (.Name x p) [] kws pos) (tXck C ps ps.reverse.length List.reverse tk) := by
  obtain ⟨m, fI, fd, O, F, B, Kb⟩ := D
  exact pe_xck (ks := ps.reverse) (g := fun {_} l => l.reverse) m O F Kb (fun h => rev_vals h) hr hg hkw hs hx hall hks hdb hpl
end

/-! ### an exception that stands, as a property of a value -/
def XA (C : Addr) (fs : Option (List (Str × V))) (v : V) (H : Hp) : Prop := ∃ a : Addr, v = .ref a ∧
  match fs with
  | none => H a = some (xob a (.ref C) none)
  | some l => ∃ dd : Addr, H a = some (xob a (.ref C) (some dd)) ∧ H dd = some (.xd l)
theorem XA.ex {C : Addr} {fs : Option (List (Str × V))} {v : V} {H H1 : Hp} (h : XA C fs v H) (e : Ex H H1) : XA C fs v H1 := by
  obtain ⟨a, ev, h⟩ := h
  refine ⟨a, ev, ?_⟩
  cases fs with
  | none => exact e _ _ h
  | some l =>
    obtain ⟨dd, h1, h2⟩ := h
    exact ⟨dd, e _ _ h1, e _ _ h2⟩
theorem XA.xn {C : Addr} {fs : Option (List (Str × V))} {v : V} {H : Hp} (h : XA C fs v H) : ∃ a d, v = .ref a ∧ Xn H a C d := by
  obtain ⟨a, ev, h⟩ := h
  cases fs with
  | none => exact ⟨a, none, ev, h, fun dd z => by cases z⟩
  | some l =>
    obtain ⟨dd, h1, h2⟩ := h
    exact ⟨a, some dd, ev, h1, fun d2 z => by cases z; exact ⟨l, h2⟩⟩
section
variable {σ : L2.St} {H : Hp} {te tb : TE} {ta tr tk : TA} {C : Addr} {ps : List Str} {vs : List V}
theorem evp_xc (h : EvA ta σ H vs) (hl : vs.length = ps.length) : EvP (tXc C ps ta) σ H (XA C (some (ps.zip vs).reverse)) := fun H1 e Q q => h H1 e _ fun H2 e2 => ⟨hl, fun a dx na nd ne =>
  q _ _ (e2.trans (ex_made na nd)) ⟨a, rfl, dx, by rw [upd_ne (Ne.symm ne)]; exact upd_same, upd_same⟩⟩
theorem evp_xck {n : Nat} {g : List V → List V} (h : EvA tk σ H vs) (h1 : vs.length = n) (hl : (g vs).length = ps.length) : EvP (tXck C ps n g tk) σ H (XA C (some (ps.zip (g vs)).reverse)) := fun H1 e Q q => h H1 e _ fun H2 e2 => ⟨h1, hl, fun a dx na nd ne =>
  q _ _ (e2.trans (ex_made na nd)) ⟨a, rfl, dx, by rw [upd_ne (Ne.symm ne)]; exact upd_same, upd_same⟩⟩
theorem evp_x0 : EvP (fun _ H Q => ∀ a, H a = none → Q (.ref a) (upd H a (xob a (.ref C) none))) σ H (XA C none) := fun H1 e Q q a na => q _ _ (Ex.new na) ⟨a, rfl, upd_same⟩
/-- isinstance of a standing exception -/
theorem ev_isX {K : PySem.W.Frag} {a : Addr} {d : Option Addr} {c : V} {cv : Value} {b : Bool} {tc : TE} (h : Ev te σ H (.ref a)) (hc : Ev tc σ H c) (x : Xn H a C d) (T : ExcC K C) (kc : ClsV c cv) (hk : PySem.W.kitOne K (.ref C) cv = some b) :
    Ev (tCB (rIsX K) (tCons te (tCons tc tNil))) σ H (.bl b) := ev_cb (ea_cons h (ea_cons hc ea_nil)) fun H1 e Q q => ⟨a, C, d, c, cv, b, rfl, ⟨e _ _ x.1, fun dd z => by obtain ⟨fs, y⟩ := x.2 dd z; exact ⟨fs, e _ _ y⟩⟩, T, kc, hk, q H1 (Ex.refl H1)⟩
/-- a field of a standing exception -/
theorem ev_xo {K : PySem.W.Frag} {v y : V} {f : Str} {fs : List (Str × V)} (h : Ev te σ H v) (x : XA C (some fs) v H) (T : XfC K C) (no : PySem.W.findIn K (.ref C) f = some none) (hf : fs.lookup f = some y) : Ev (tXo K f te) σ H y := fun H1 e Q q =>
  h H1 e _ fun H2 e2 => by
    obtain ⟨a, ev, dd, h1, h2⟩ := x.ex (e.trans e2)
    exact ⟨a, C, dd, fs, y, ev, T, no, h1, h2, hf, q H2 e2⟩
end
end Gd

set_option maxHeartbeats 4000000
namespace M1
open PySem PySem.Spec PyProof.Rows L2 Evl TL Gd

def top (i : Nat) : Stmt := PySem.Challenge.pw_macroasm_k01_error_classes.main.body.getD i (.Pass ⟨0, 0, 0, 0⟩)
/-- the fields of the k-th class's exception of one -/
def sf (k : Nat) (one : V) : Option (List (Str × V)) := match k with
  | 0 => some [("column", one)]
  | 1 => some [("given", one)]
  | 2 => some [("index", one)]
  | 3 => some [("line", one)]
  | 4 => some [("given", one)]
  | 5 => some [("word", .int 1), ("row", one)]
  | 6 => some [("form", .int 2), ("row", one)]
  | 7 => some [("given", one)]
  | 8 => some [("given", one)]
  | 9 => some [("given", one)]
  | 10 => some [("path", one)]
  | 11 => none
  | 12 => some [("given", one)]
  | 13 => some [("path", one)]
  | 14 => some [("given", one)]
  | 15 => some [("address", one)]
  | 16 => some [("names", one)]
  | 17 => some [("names", one)]
  | 18 => some [("path", one)]
  | 19 => some [("names", one)]
  | 20 => some [("index", .int 3), ("section", one)]
  | 21 => none
  | 22 => some [("limit", one)]
  | 23 => some [("cause", .int 4), ("origin", one)]
  | _ => none
def famOf (k : Nat) : Nat := if k < 10 then 0 else if k < 13 then 1 else if k < 16 then 2 else if k < 22 then 3 else if k = 22 then 4 else 9
def bt (j : Nat) : String := match j with
  | 0 => "ValueError"
  | 1 => "ArithmeticError"
  | 2 => "LookupError"
  | 3 => "RuntimeError"
  | _ => "OverflowError"
/-- whether the k-th class is of the j-th built-in one -/
def ofBt (k j : Nat) : Bool := decide (famOf k = j) || (decide (j = 1) && decide (famOf k = 4))
def others : List Value := [.type "KeyError", .type "IndexError", .type "NotImplementedError", .type "ZeroDivisionError"]
/-- the table of isinstance, by the classes' places -/
def tabB (K : PySem.W.Frag) (c f : Nat → Addr) : Bool := (List.range 24).all fun k =>
  ((List.range 24).all fun j => decide (PySem.W.kitOne K (.ref (c k)) (.ref (c j)) = some (decide (k = j)))) &&
  (((List.range 5).all fun j => decide (PySem.W.kitOne K (.ref (c k)) (.ref (f j)) = some (decide (famOf k = j)))) &&
  (((List.range 5).all fun j => decide (PySem.W.kitOne K (.ref (c k)) (.type (bt j)) = some (ofBt k j))) &&
  decide (PySem.W.kitAny K (.ref (c k)) others = some false)))
structure Tab (K : PySem.W.Frag) (c f : Nat → Addr) : Prop where
  own : ∀ k j, k < 24 → j < 24 → PySem.W.kitOne K (.ref (c k)) (.ref (c j)) = some (decide (k = j))
  fam : ∀ k j, k < 24 → j < 5 → PySem.W.kitOne K (.ref (c k)) (.ref (f j)) = some (decide (famOf k = j))
  blt : ∀ k j, k < 24 → j < 5 → PySem.W.kitOne K (.ref (c k)) (.type (bt j)) = some (ofBt k j)
  oth : ∀ k, k < 24 → PySem.W.kitAny K (.ref (c k)) others = some false
theorem tab_of {K : PySem.W.Frag} {c f : Nat → Addr} (h : tabB K c f = true) : Tab K c f := by
  have row : ∀ k, k < 24 → _ := fun k hk => List.all_eq_true.mp h k (List.mem_range.mpr hk)
  refine ⟨fun k j hk hj => ?_, fun k j hk hj => ?_, fun k j hk hj => ?_, fun k hk => ?_⟩
  all_goals
    obtain ⟨r1, r⟩ := Bool.and_eq_true_iff.mp (row k hk)
    obtain ⟨r2, r⟩ := Bool.and_eq_true_iff.mp r
    obtain ⟨r3, r4⟩ := Bool.and_eq_true_iff.mp r
  · exact of_decide_eq_true (List.all_eq_true.mp r1 j (List.mem_range.mpr hj))
  · exact of_decide_eq_true (List.all_eq_true.mp r2 j (List.mem_range.mpr hj))
  · exact of_decide_eq_true (List.all_eq_true.mp r3 j (List.mem_range.mpr hj))
  · exact of_decide_eq_true r4
/-- what the text's top has left -/
structure Tx (K : PySem.W.Frag) (mg : Str → Option Value) (c f : Nat → Addr) : Prop where
  b_int : mg "int" = none
  b_len : mg "len" = none
  b_isinstance : mg "isinstance" = none
  b_repr : mg "repr" = none
  b_enumerate : mg "enumerate" = none
  b_range : mg "range" = none
  b_ValueError : mg "ValueError" = none
  b_ArithmeticError : mg "ArithmeticError" = none
  b_LookupError : mg "LookupError" = none
  b_RuntimeError : mg "RuntimeError" = none
  b_OverflowError : mg "OverflowError" = none
  b_KeyError : mg "KeyError" = none
  b_IndexError : mg "IndexError" = none
  b_NotImplementedError : mg "NotImplementedError" = none
  b_ZeroDivisionError : mg "ZeroDivisionError" = none
  c_BadLine : mg "BadLine" = some (.ref (c 0))
  c_BadName : mg "BadName" = some (.ref (c 1))
  c_BadOperands : mg "BadOperands" = some (.ref (c 2))
  c_BadBlock : mg "BadBlock" = some (.ref (c 3))
  c_BadCall : mg "BadCall" = some (.ref (c 4))
  c_BadText : mg "BadText" = some (.ref (c 5))
  c_BadTable : mg "BadTable" = some (.ref (c 6))
  c_BadNumber : mg "BadNumber" = some (.ref (c 7))
  c_BadObject : mg "BadObject" = some (.ref (c 8))
  c_BadTree : mg "BadTree" = some (.ref (c 9))
  c_NotPlain : mg "NotPlain" = some (.ref (c 10))
  c_DividedByZero : mg "DividedByZero" = some (.ref (c 11))
  c_BadShift : mg "BadShift" = some (.ref (c 12))
  c_NoName : mg "NoName" = some (.ref (c 13))
  c_NoInstruction : mg "NoInstruction" = some (.ref (c 14))
  c_NoOrigin : mg "NoOrigin" = some (.ref (c 15))
  c_Ring : mg "Ring" = some (.ref (c 16))
  c_Cycle : mg "Cycle" = some (.ref (c 17))
  c_Taken : mg "Taken" = some (.ref (c 18))
  c_Unresolved : mg "Unresolved" = some (.ref (c 19))
  c_OutOfRange : mg "OutOfRange" = some (.ref (c 20))
  c_NothingLeft : mg "NothingLeft" = some (.ref (c 21))
  c_TooLarge : mg "TooLarge" = some (.ref (c 22))
  c_Trouble : mg "Trouble" = some (.ref (c 23))
  c_TextError : mg "TextError" = some (.ref (f 0))
  c_ValueTrouble : mg "ValueTrouble" = some (.ref (f 1))
  c_LookupTrouble : mg "LookupTrouble" = some (.ref (f 2))
  c_StateTrouble : mg "StateTrouble" = some (.ref (f 3))
  c_LimitTrouble : mg "LimitTrouble" = some (.ref (f 4))
  tab : Tab K c f
  ec : ∀ k, k < 24 → ExcC K (c k)
  xf : ∀ k, k < 24 → k ≠ 11 → k ≠ 21 → XfC K (c k)
  nf : ∀ k l, k < 24 → sf k .non = some l → ∀ p ∈ l, PySem.W.findIn K (.ref (c k)) p.1 = some none
  x_DividedByZero : PySem.W.excIn K (c 11) [.type "ArithmeticError", .type "Exception", .type "BaseException", .type "object"] "ArithmeticError.__new__" = true
  k_DividedByZero : PySem.W.keepIn K (.ref (c 11)) = true
  x_NothingLeft : PySem.W.excIn K (c 21) [.type "RuntimeError", .type "Exception", .type "BaseException", .type "object"] "RuntimeError.__new__" = true
  k_NothingLeft : PySem.W.keepIn K (.ref (c 21)) = true
section
variable {P : Program} {w : World} {K : PySem.W.Frag} {mg : Str → Option Value} {base : Heap}
abbrev si_BadLine : Stmt := inClass (top 2) 0
theorem sci_BadLine : FnScope ["self", "column"] ["self", "column"] (defScope si_BadLine) := ⟨rfl, rfl, rfl, by decide +kernel, rfl, by decide +kernel, by decide +kernel⟩
theorem oki_BadLine {C fI : Addr} {fd : FuncData} (F : Fun K "__init__" "BadLine.__init__" si_BadLine fI fd) (T : OxF K C fI ["column"]) : FnOk P w K mg base CX0 1 fI fd ["self", "column"] (spI K C ["column"]) := by
  refine F.ok sci_BadLine (fun vs H Q E h => ?_) (fun cdv A outer s H vs Q E hr h => ?_)
  · obtain ⟨a, ys, rfl, hl, _⟩ := h
    simpa using hl
  · obtain ⟨a, ys, rfl, hl, ha, hq⟩ := h
    match ys, hl with
    | [y], _ => exact ⟨_, pss_one (ps_xst (pv 0) (pv 1)), ⟨y, rfl, .ref a, rfl, a, C, rfl, T.i.toOxC, T.nf _ (by simp), .inl ⟨ha, fun dx nd ne => hq dx nd ne⟩⟩⟩
abbrev si_BadName : Stmt := inClass (top 3) 0
theorem sci_BadName : FnScope ["self", "given"] ["self", "given"] (defScope si_BadName) := ⟨rfl, rfl, rfl, by decide +kernel, rfl, by decide +kernel, by decide +kernel⟩
theorem oki_BadName {C fI : Addr} {fd : FuncData} (F : Fun K "__init__" "BadName.__init__" si_BadName fI fd) (T : OxF K C fI ["given"]) : FnOk P w K mg base CX0 1 fI fd ["self", "given"] (spI K C ["given"]) := by
  refine F.ok sci_BadName (fun vs H Q E h => ?_) (fun cdv A outer s H vs Q E hr h => ?_)
  · obtain ⟨a, ys, rfl, hl, _⟩ := h
    simpa using hl
  · obtain ⟨a, ys, rfl, hl, ha, hq⟩ := h
    match ys, hl with
    | [y], _ => exact ⟨_, pss_one (ps_xst (pv 0) (pv 1)), ⟨y, rfl, .ref a, rfl, a, C, rfl, T.i.toOxC, T.nf _ (by simp), .inl ⟨ha, fun dx nd ne => hq dx nd ne⟩⟩⟩
abbrev si_BadOperands : Stmt := inClass (top 4) 0
theorem sci_BadOperands : FnScope ["self", "index"] ["self", "index"] (defScope si_BadOperands) := ⟨rfl, rfl, rfl, by decide +kernel, rfl, by decide +kernel, by decide +kernel⟩
theorem oki_BadOperands {C fI : Addr} {fd : FuncData} (F : Fun K "__init__" "BadOperands.__init__" si_BadOperands fI fd) (T : OxF K C fI ["index"]) : FnOk P w K mg base CX0 1 fI fd ["self", "index"] (spI K C ["index"]) := by
  refine F.ok sci_BadOperands (fun vs H Q E h => ?_) (fun cdv A outer s H vs Q E hr h => ?_)
  · obtain ⟨a, ys, rfl, hl, _⟩ := h
    simpa using hl
  · obtain ⟨a, ys, rfl, hl, ha, hq⟩ := h
    match ys, hl with
    | [y], _ => exact ⟨_, pss_one (ps_xst (pv 0) (pv 1)), ⟨y, rfl, .ref a, rfl, a, C, rfl, T.i.toOxC, T.nf _ (by simp), .inl ⟨ha, fun dx nd ne => hq dx nd ne⟩⟩⟩
abbrev si_BadBlock : Stmt := inClass (top 5) 0
theorem sci_BadBlock : FnScope ["self", "line"] ["self", "line"] (defScope si_BadBlock) := ⟨rfl, rfl, rfl, by decide +kernel, rfl, by decide +kernel, by decide +kernel⟩
theorem oki_BadBlock {C fI : Addr} {fd : FuncData} (F : Fun K "__init__" "BadBlock.__init__" si_BadBlock fI fd) (T : OxF K C fI ["line"]) : FnOk P w K mg base CX0 1 fI fd ["self", "line"] (spI K C ["line"]) := by
  refine F.ok sci_BadBlock (fun vs H Q E h => ?_) (fun cdv A outer s H vs Q E hr h => ?_)
  · obtain ⟨a, ys, rfl, hl, _⟩ := h
    simpa using hl
  · obtain ⟨a, ys, rfl, hl, ha, hq⟩ := h
    match ys, hl with
    | [y], _ => exact ⟨_, pss_one (ps_xst (pv 0) (pv 1)), ⟨y, rfl, .ref a, rfl, a, C, rfl, T.i.toOxC, T.nf _ (by simp), .inl ⟨ha, fun dx nd ne => hq dx nd ne⟩⟩⟩
abbrev si_BadCall : Stmt := inClass (top 6) 0
theorem sci_BadCall : FnScope ["self", "given"] ["self", "given"] (defScope si_BadCall) := ⟨rfl, rfl, rfl, by decide +kernel, rfl, by decide +kernel, by decide +kernel⟩
theorem oki_BadCall {C fI : Addr} {fd : FuncData} (F : Fun K "__init__" "BadCall.__init__" si_BadCall fI fd) (T : OxF K C fI ["given"]) : FnOk P w K mg base CX0 1 fI fd ["self", "given"] (spI K C ["given"]) := by
  refine F.ok sci_BadCall (fun vs H Q E h => ?_) (fun cdv A outer s H vs Q E hr h => ?_)
  · obtain ⟨a, ys, rfl, hl, _⟩ := h
    simpa using hl
  · obtain ⟨a, ys, rfl, hl, ha, hq⟩ := h
    match ys, hl with
    | [y], _ => exact ⟨_, pss_one (ps_xst (pv 0) (pv 1)), ⟨y, rfl, .ref a, rfl, a, C, rfl, T.i.toOxC, T.nf _ (by simp), .inl ⟨ha, fun dx nd ne => hq dx nd ne⟩⟩⟩
abbrev si_BadText : Stmt := inClass (top 7) 0
theorem sci_BadText : FnScope ["self", "row", "word"] ["self", "row", "word"] (defScope si_BadText) := ⟨rfl, rfl, rfl, by decide +kernel, rfl, by decide +kernel, by decide +kernel⟩
theorem oki_BadText {C fI : Addr} {fd : FuncData} (F : Fun K "__init__" "BadText.__init__" si_BadText fI fd) (T : OxF K C fI ["row", "word"]) : FnOk P w K mg base CX0 1 fI fd ["self", "row", "word"] (spI K C ["row", "word"]) := by
  refine F.ok sci_BadText (fun vs H Q E h => ?_) (fun cdv A outer s H vs Q E hr h => ?_)
  · obtain ⟨a, ys, rfl, hl, _⟩ := h
    simpa using hl
  · obtain ⟨a, ys, rfl, hl, ha, hq⟩ := h
    match ys, hl with
    | [y, z], _ =>
      refine ⟨_, pss_cons (ps_xst (pv 0) (pv 1)) (pss_one (ps_xst (pv 0) (pv 2))), ⟨y, rfl, .ref a, rfl, a, C, rfl, T.i.toOxC, T.nf _ (by simp), .inl ⟨ha, fun dx nd ne => ?_⟩⟩⟩
      refine ⟨z, rfl, .ref a, rfl, a, C, rfl, T.i.toOxC, T.nf _ (by simp), .inr ⟨dx, _, upd_same, by rw [upd_ne ne]; exact upd_same, by show 1 ≤ 900; decide, ?_⟩⟩
      have q := hq dx nd ne
      rw [upd_swap ne]
      exact q
abbrev si_BadTable : Stmt := inClass (top 8) 0
theorem sci_BadTable : FnScope ["self", "row", "form"] ["self", "row", "form"] (defScope si_BadTable) := ⟨rfl, rfl, rfl, by decide +kernel, rfl, by decide +kernel, by decide +kernel⟩
theorem oki_BadTable {C fI : Addr} {fd : FuncData} (F : Fun K "__init__" "BadTable.__init__" si_BadTable fI fd) (T : OxF K C fI ["row", "form"]) : FnOk P w K mg base CX0 1 fI fd ["self", "row", "form"] (spI K C ["row", "form"]) := by
  refine F.ok sci_BadTable (fun vs H Q E h => ?_) (fun cdv A outer s H vs Q E hr h => ?_)
  · obtain ⟨a, ys, rfl, hl, _⟩ := h
    simpa using hl
  · obtain ⟨a, ys, rfl, hl, ha, hq⟩ := h
    match ys, hl with
    | [y, z], _ =>
      refine ⟨_, pss_cons (ps_xst (pv 0) (pv 1)) (pss_one (ps_xst (pv 0) (pv 2))), ⟨y, rfl, .ref a, rfl, a, C, rfl, T.i.toOxC, T.nf _ (by simp), .inl ⟨ha, fun dx nd ne => ?_⟩⟩⟩
      refine ⟨z, rfl, .ref a, rfl, a, C, rfl, T.i.toOxC, T.nf _ (by simp), .inr ⟨dx, _, upd_same, by rw [upd_ne ne]; exact upd_same, by show 1 ≤ 900; decide, ?_⟩⟩
      have q := hq dx nd ne
      rw [upd_swap ne]
      exact q
abbrev si_BadNumber : Stmt := inClass (top 9) 0
theorem sci_BadNumber : FnScope ["self", "given"] ["self", "given"] (defScope si_BadNumber) := ⟨rfl, rfl, rfl, by decide +kernel, rfl, by decide +kernel, by decide +kernel⟩
theorem oki_BadNumber {C fI : Addr} {fd : FuncData} (F : Fun K "__init__" "BadNumber.__init__" si_BadNumber fI fd) (T : OxF K C fI ["given"]) : FnOk P w K mg base CX0 1 fI fd ["self", "given"] (spI K C ["given"]) := by
  refine F.ok sci_BadNumber (fun vs H Q E h => ?_) (fun cdv A outer s H vs Q E hr h => ?_)
  · obtain ⟨a, ys, rfl, hl, _⟩ := h
    simpa using hl
  · obtain ⟨a, ys, rfl, hl, ha, hq⟩ := h
    match ys, hl with
    | [y], _ => exact ⟨_, pss_one (ps_xst (pv 0) (pv 1)), ⟨y, rfl, .ref a, rfl, a, C, rfl, T.i.toOxC, T.nf _ (by simp), .inl ⟨ha, fun dx nd ne => hq dx nd ne⟩⟩⟩
abbrev si_BadObject : Stmt := inClass (top 10) 0
theorem sci_BadObject : FnScope ["self", "given"] ["self", "given"] (defScope si_BadObject) := ⟨rfl, rfl, rfl, by decide +kernel, rfl, by decide +kernel, by decide +kernel⟩
theorem oki_BadObject {C fI : Addr} {fd : FuncData} (F : Fun K "__init__" "BadObject.__init__" si_BadObject fI fd) (T : OxF K C fI ["given"]) : FnOk P w K mg base CX0 1 fI fd ["self", "given"] (spI K C ["given"]) := by
  refine F.ok sci_BadObject (fun vs H Q E h => ?_) (fun cdv A outer s H vs Q E hr h => ?_)
  · obtain ⟨a, ys, rfl, hl, _⟩ := h
    simpa using hl
  · obtain ⟨a, ys, rfl, hl, ha, hq⟩ := h
    match ys, hl with
    | [y], _ => exact ⟨_, pss_one (ps_xst (pv 0) (pv 1)), ⟨y, rfl, .ref a, rfl, a, C, rfl, T.i.toOxC, T.nf _ (by simp), .inl ⟨ha, fun dx nd ne => hq dx nd ne⟩⟩⟩
abbrev si_BadTree : Stmt := inClass (top 11) 0
theorem sci_BadTree : FnScope ["self", "given"] ["self", "given"] (defScope si_BadTree) := ⟨rfl, rfl, rfl, by decide +kernel, rfl, by decide +kernel, by decide +kernel⟩
theorem oki_BadTree {C fI : Addr} {fd : FuncData} (F : Fun K "__init__" "BadTree.__init__" si_BadTree fI fd) (T : OxF K C fI ["given"]) : FnOk P w K mg base CX0 1 fI fd ["self", "given"] (spI K C ["given"]) := by
  refine F.ok sci_BadTree (fun vs H Q E h => ?_) (fun cdv A outer s H vs Q E hr h => ?_)
  · obtain ⟨a, ys, rfl, hl, _⟩ := h
    simpa using hl
  · obtain ⟨a, ys, rfl, hl, ha, hq⟩ := h
    match ys, hl with
    | [y], _ => exact ⟨_, pss_one (ps_xst (pv 0) (pv 1)), ⟨y, rfl, .ref a, rfl, a, C, rfl, T.i.toOxC, T.nf _ (by simp), .inl ⟨ha, fun dx nd ne => hq dx nd ne⟩⟩⟩
abbrev si_NotPlain : Stmt := inClass (top 13) 0
theorem sci_NotPlain : FnScope ["self", "path"] ["self", "path"] (defScope si_NotPlain) := ⟨rfl, rfl, rfl, by decide +kernel, rfl, by decide +kernel, by decide +kernel⟩
theorem oki_NotPlain {C fI : Addr} {fd : FuncData} (F : Fun K "__init__" "NotPlain.__init__" si_NotPlain fI fd) (T : OxF K C fI ["path"]) : FnOk P w K mg base CX0 1 fI fd ["self", "path"] (spI K C ["path"]) := by
  refine F.ok sci_NotPlain (fun vs H Q E h => ?_) (fun cdv A outer s H vs Q E hr h => ?_)
  · obtain ⟨a, ys, rfl, hl, _⟩ := h
    simpa using hl
  · obtain ⟨a, ys, rfl, hl, ha, hq⟩ := h
    match ys, hl with
    | [y], _ => exact ⟨_, pss_one (ps_xst (pv 0) (pv 1)), ⟨y, rfl, .ref a, rfl, a, C, rfl, T.i.toOxC, T.nf _ (by simp), .inl ⟨ha, fun dx nd ne => hq dx nd ne⟩⟩⟩
abbrev si_BadShift : Stmt := inClass (top 15) 0
theorem sci_BadShift : FnScope ["self", "given"] ["self", "given"] (defScope si_BadShift) := ⟨rfl, rfl, rfl, by decide +kernel, rfl, by decide +kernel, by decide +kernel⟩
theorem oki_BadShift {C fI : Addr} {fd : FuncData} (F : Fun K "__init__" "BadShift.__init__" si_BadShift fI fd) (T : OxF K C fI ["given"]) : FnOk P w K mg base CX0 1 fI fd ["self", "given"] (spI K C ["given"]) := by
  refine F.ok sci_BadShift (fun vs H Q E h => ?_) (fun cdv A outer s H vs Q E hr h => ?_)
  · obtain ⟨a, ys, rfl, hl, _⟩ := h
    simpa using hl
  · obtain ⟨a, ys, rfl, hl, ha, hq⟩ := h
    match ys, hl with
    | [y], _ => exact ⟨_, pss_one (ps_xst (pv 0) (pv 1)), ⟨y, rfl, .ref a, rfl, a, C, rfl, T.i.toOxC, T.nf _ (by simp), .inl ⟨ha, fun dx nd ne => hq dx nd ne⟩⟩⟩
abbrev si_NoName : Stmt := inClass (top 17) 0
theorem sci_NoName : FnScope ["self", "path"] ["self", "path"] (defScope si_NoName) := ⟨rfl, rfl, rfl, by decide +kernel, rfl, by decide +kernel, by decide +kernel⟩
theorem oki_NoName {C fI : Addr} {fd : FuncData} (F : Fun K "__init__" "NoName.__init__" si_NoName fI fd) (T : OxF K C fI ["path"]) : FnOk P w K mg base CX0 1 fI fd ["self", "path"] (spI K C ["path"]) := by
  refine F.ok sci_NoName (fun vs H Q E h => ?_) (fun cdv A outer s H vs Q E hr h => ?_)
  · obtain ⟨a, ys, rfl, hl, _⟩ := h
    simpa using hl
  · obtain ⟨a, ys, rfl, hl, ha, hq⟩ := h
    match ys, hl with
    | [y], _ => exact ⟨_, pss_one (ps_xst (pv 0) (pv 1)), ⟨y, rfl, .ref a, rfl, a, C, rfl, T.i.toOxC, T.nf _ (by simp), .inl ⟨ha, fun dx nd ne => hq dx nd ne⟩⟩⟩
abbrev si_NoInstruction : Stmt := inClass (top 18) 0
theorem sci_NoInstruction : FnScope ["self", "given"] ["self", "given"] (defScope si_NoInstruction) := ⟨rfl, rfl, rfl, by decide +kernel, rfl, by decide +kernel, by decide +kernel⟩
theorem oki_NoInstruction {C fI : Addr} {fd : FuncData} (F : Fun K "__init__" "NoInstruction.__init__" si_NoInstruction fI fd) (T : OxF K C fI ["given"]) : FnOk P w K mg base CX0 1 fI fd ["self", "given"] (spI K C ["given"]) := by
  refine F.ok sci_NoInstruction (fun vs H Q E h => ?_) (fun cdv A outer s H vs Q E hr h => ?_)
  · obtain ⟨a, ys, rfl, hl, _⟩ := h
    simpa using hl
  · obtain ⟨a, ys, rfl, hl, ha, hq⟩ := h
    match ys, hl with
    | [y], _ => exact ⟨_, pss_one (ps_xst (pv 0) (pv 1)), ⟨y, rfl, .ref a, rfl, a, C, rfl, T.i.toOxC, T.nf _ (by simp), .inl ⟨ha, fun dx nd ne => hq dx nd ne⟩⟩⟩
abbrev si_NoOrigin : Stmt := inClass (top 19) 0
theorem sci_NoOrigin : FnScope ["self", "address"] ["self", "address"] (defScope si_NoOrigin) := ⟨rfl, rfl, rfl, by decide +kernel, rfl, by decide +kernel, by decide +kernel⟩
theorem oki_NoOrigin {C fI : Addr} {fd : FuncData} (F : Fun K "__init__" "NoOrigin.__init__" si_NoOrigin fI fd) (T : OxF K C fI ["address"]) : FnOk P w K mg base CX0 1 fI fd ["self", "address"] (spI K C ["address"]) := by
  refine F.ok sci_NoOrigin (fun vs H Q E h => ?_) (fun cdv A outer s H vs Q E hr h => ?_)
  · obtain ⟨a, ys, rfl, hl, _⟩ := h
    simpa using hl
  · obtain ⟨a, ys, rfl, hl, ha, hq⟩ := h
    match ys, hl with
    | [y], _ => exact ⟨_, pss_one (ps_xst (pv 0) (pv 1)), ⟨y, rfl, .ref a, rfl, a, C, rfl, T.i.toOxC, T.nf _ (by simp), .inl ⟨ha, fun dx nd ne => hq dx nd ne⟩⟩⟩
abbrev si_Ring : Stmt := inClass (top 21) 0
theorem sci_Ring : FnScope ["self", "names"] ["self", "names"] (defScope si_Ring) := ⟨rfl, rfl, rfl, by decide +kernel, rfl, by decide +kernel, by decide +kernel⟩
theorem oki_Ring {C fI : Addr} {fd : FuncData} (F : Fun K "__init__" "Ring.__init__" si_Ring fI fd) (T : OxF K C fI ["names"]) : FnOk P w K mg base CX0 1 fI fd ["self", "names"] (spI K C ["names"]) := by
  refine F.ok sci_Ring (fun vs H Q E h => ?_) (fun cdv A outer s H vs Q E hr h => ?_)
  · obtain ⟨a, ys, rfl, hl, _⟩ := h
    simpa using hl
  · obtain ⟨a, ys, rfl, hl, ha, hq⟩ := h
    match ys, hl with
    | [y], _ => exact ⟨_, pss_one (ps_xst (pv 0) (pv 1)), ⟨y, rfl, .ref a, rfl, a, C, rfl, T.i.toOxC, T.nf _ (by simp), .inl ⟨ha, fun dx nd ne => hq dx nd ne⟩⟩⟩
abbrev si_Cycle : Stmt := inClass (top 22) 0
theorem sci_Cycle : FnScope ["self", "names"] ["self", "names"] (defScope si_Cycle) := ⟨rfl, rfl, rfl, by decide +kernel, rfl, by decide +kernel, by decide +kernel⟩
theorem oki_Cycle {C fI : Addr} {fd : FuncData} (F : Fun K "__init__" "Cycle.__init__" si_Cycle fI fd) (T : OxF K C fI ["names"]) : FnOk P w K mg base CX0 1 fI fd ["self", "names"] (spI K C ["names"]) := by
  refine F.ok sci_Cycle (fun vs H Q E h => ?_) (fun cdv A outer s H vs Q E hr h => ?_)
  · obtain ⟨a, ys, rfl, hl, _⟩ := h
    simpa using hl
  · obtain ⟨a, ys, rfl, hl, ha, hq⟩ := h
    match ys, hl with
    | [y], _ => exact ⟨_, pss_one (ps_xst (pv 0) (pv 1)), ⟨y, rfl, .ref a, rfl, a, C, rfl, T.i.toOxC, T.nf _ (by simp), .inl ⟨ha, fun dx nd ne => hq dx nd ne⟩⟩⟩
abbrev si_Taken : Stmt := inClass (top 23) 0
theorem sci_Taken : FnScope ["self", "path"] ["self", "path"] (defScope si_Taken) := ⟨rfl, rfl, rfl, by decide +kernel, rfl, by decide +kernel, by decide +kernel⟩
theorem oki_Taken {C fI : Addr} {fd : FuncData} (F : Fun K "__init__" "Taken.__init__" si_Taken fI fd) (T : OxF K C fI ["path"]) : FnOk P w K mg base CX0 1 fI fd ["self", "path"] (spI K C ["path"]) := by
  refine F.ok sci_Taken (fun vs H Q E h => ?_) (fun cdv A outer s H vs Q E hr h => ?_)
  · obtain ⟨a, ys, rfl, hl, _⟩ := h
    simpa using hl
  · obtain ⟨a, ys, rfl, hl, ha, hq⟩ := h
    match ys, hl with
    | [y], _ => exact ⟨_, pss_one (ps_xst (pv 0) (pv 1)), ⟨y, rfl, .ref a, rfl, a, C, rfl, T.i.toOxC, T.nf _ (by simp), .inl ⟨ha, fun dx nd ne => hq dx nd ne⟩⟩⟩
abbrev si_Unresolved : Stmt := inClass (top 24) 0
theorem sci_Unresolved : FnScope ["self", "names"] ["self", "names"] (defScope si_Unresolved) := ⟨rfl, rfl, rfl, by decide +kernel, rfl, by decide +kernel, by decide +kernel⟩
theorem oki_Unresolved {C fI : Addr} {fd : FuncData} (F : Fun K "__init__" "Unresolved.__init__" si_Unresolved fI fd) (T : OxF K C fI ["names"]) : FnOk P w K mg base CX0 1 fI fd ["self", "names"] (spI K C ["names"]) := by
  refine F.ok sci_Unresolved (fun vs H Q E h => ?_) (fun cdv A outer s H vs Q E hr h => ?_)
  · obtain ⟨a, ys, rfl, hl, _⟩ := h
    simpa using hl
  · obtain ⟨a, ys, rfl, hl, ha, hq⟩ := h
    match ys, hl with
    | [y], _ => exact ⟨_, pss_one (ps_xst (pv 0) (pv 1)), ⟨y, rfl, .ref a, rfl, a, C, rfl, T.i.toOxC, T.nf _ (by simp), .inl ⟨ha, fun dx nd ne => hq dx nd ne⟩⟩⟩
abbrev si_OutOfRange : Stmt := inClass (top 25) 0
theorem sci_OutOfRange : FnScope ["self", "section", "index"] ["self", "section", "index"] (defScope si_OutOfRange) := ⟨rfl, rfl, rfl, by decide +kernel, rfl, by decide +kernel, by decide +kernel⟩
theorem oki_OutOfRange {C fI : Addr} {fd : FuncData} (F : Fun K "__init__" "OutOfRange.__init__" si_OutOfRange fI fd) (T : OxF K C fI ["section", "index"]) : FnOk P w K mg base CX0 1 fI fd ["self", "section", "index"] (spI K C ["section", "index"]) := by
  refine F.ok sci_OutOfRange (fun vs H Q E h => ?_) (fun cdv A outer s H vs Q E hr h => ?_)
  · obtain ⟨a, ys, rfl, hl, _⟩ := h
    simpa using hl
  · obtain ⟨a, ys, rfl, hl, ha, hq⟩ := h
    match ys, hl with
    | [y, z], _ =>
      refine ⟨_, pss_cons (ps_xst (pv 0) (pv 1)) (pss_one (ps_xst (pv 0) (pv 2))), ⟨y, rfl, .ref a, rfl, a, C, rfl, T.i.toOxC, T.nf _ (by simp), .inl ⟨ha, fun dx nd ne => ?_⟩⟩⟩
      refine ⟨z, rfl, .ref a, rfl, a, C, rfl, T.i.toOxC, T.nf _ (by simp), .inr ⟨dx, _, upd_same, by rw [upd_ne ne]; exact upd_same, by show 1 ≤ 900; decide, ?_⟩⟩
      have q := hq dx nd ne
      rw [upd_swap ne]
      exact q
abbrev si_TooLarge : Stmt := inClass (top 28) 0
theorem sci_TooLarge : FnScope ["self", "limit"] ["self", "limit"] (defScope si_TooLarge) := ⟨rfl, rfl, rfl, by decide +kernel, rfl, by decide +kernel, by decide +kernel⟩
theorem oki_TooLarge {C fI : Addr} {fd : FuncData} (F : Fun K "__init__" "TooLarge.__init__" si_TooLarge fI fd) (T : OxF K C fI ["limit"]) : FnOk P w K mg base CX0 1 fI fd ["self", "limit"] (spI K C ["limit"]) := by
  refine F.ok sci_TooLarge (fun vs H Q E h => ?_) (fun cdv A outer s H vs Q E hr h => ?_)
  · obtain ⟨a, ys, rfl, hl, _⟩ := h
    simpa using hl
  · obtain ⟨a, ys, rfl, hl, ha, hq⟩ := h
    match ys, hl with
    | [y], _ => exact ⟨_, pss_one (ps_xst (pv 0) (pv 1)), ⟨y, rfl, .ref a, rfl, a, C, rfl, T.i.toOxC, T.nf _ (by simp), .inl ⟨ha, fun dx nd ne => hq dx nd ne⟩⟩⟩
abbrev si_Trouble : Stmt := inClass (top 29) 0
theorem sci_Trouble : FnScope ["self", "origin", "cause"] ["self", "origin", "cause"] (defScope si_Trouble) := ⟨rfl, rfl, rfl, by decide +kernel, rfl, by decide +kernel, by decide +kernel⟩
theorem oki_Trouble {C fI : Addr} {fd : FuncData} (F : Fun K "__init__" "Trouble.__init__" si_Trouble fI fd) (T : OxF K C fI ["origin", "cause"]) : FnOk P w K mg base CX0 1 fI fd ["self", "origin", "cause"] (spI K C ["origin", "cause"]) := by
  refine F.ok sci_Trouble (fun vs H Q E h => ?_) (fun cdv A outer s H vs Q E hr h => ?_)
  · obtain ⟨a, ys, rfl, hl, _⟩ := h
    simpa using hl
  · obtain ⟨a, ys, rfl, hl, ha, hq⟩ := h
    match ys, hl with
    | [y, z], _ =>
      refine ⟨_, pss_cons (ps_xst (pv 0) (pv 1)) (pss_one (ps_xst (pv 0) (pv 2))), ⟨y, rfl, .ref a, rfl, a, C, rfl, T.i.toOxC, T.nf _ (by simp), .inl ⟨ha, fun dx nd ne => ?_⟩⟩⟩
      refine ⟨z, rfl, .ref a, rfl, a, C, rfl, T.i.toOxC, T.nf _ (by simp), .inr ⟨dx, _, upd_same, by rw [upd_ne ne]; exact upd_same, by show 1 ≤ 900; decide, ?_⟩⟩
      have q := hq dx nd ne
      rw [upd_swap ne]
      exact q
end
end M1

set_option maxHeartbeats 4000000
namespace M1
open PySem PySem.Spec PyProof.Rows L2 Evl TL Gd
section
variable {P : Program} {w : World} {K : PySem.W.Frag} {mg : Str → Option Value} {base : Heap} {c f₀ : Nat → Addr}
abbrev s_law_mixed : Stmt := top 31
theorem sc_law_mixed : FnScope ["_law_number", "_law_k"] ["_law_number", "_law_k"] (defScope s_law_mixed) := ⟨rfl, rfl, rfl, by decide +kernel, rfl, by decide +kernel, by decide +kernel⟩
theorem ok_law_mixed {f : Addr} {fd : FuncData} (F : Fun K "_law_mixed" "_law_mixed" s_law_mixed f fd) (T : Tx K mg c f₀) : FnOk P w K mg base CX0 1 f fd ["_law_number", "_law_k"] spMixed := by
  refine F.ok sc_law_mixed (fun vs H Q E h => ?_) (fun cdv A outer s H vs Q E hr h => ?_)
  · obtain ⟨n, k, rfl, _⟩ := h
    rfl
  · obtain ⟨n, k, rfl, h0, h1, kk⟩ := h
    refine ⟨_, (pss_cons (ps_set (i := 0) sc_law_mixed.nd rfl (Or.inl rfl) (pe_op op_mod (pe_callTy call_int1 (by rfl) T.b_int (by decide +kernel) (pa_cons (pe_op op_mul (pe_op op_add (pe_op op_add (pe_op op_mod (pe_callTy call_int1 (by rfl) T.b_int (by decide +kernel) (pa_cons (pv 0) pa_nil)) pe_int) (pe_op op_mul (pe_op op_mul pe_int (pv 1)) (pv 1))) (pe_op op_mul pe_int (pv 1))) pe_int) pa_nil)) pe_int))
  (pss_one (ps_ret (pe_op op_mod (pe_callTy call_int1 (by rfl) T.b_int (by decide +kernel) (pa_cons (pe_op op_mul (pv 0) (pe_op op_add pe_int (pe_op op_mul pe_int (pv 1)))) pa_nil)) pe_int)))), ?_⟩
    refine q_asg (ev_op (ev_int1 (ev_op (ev_op (ev_op (ev_op (ev_int1 (ev_var rfl)) ev_c (rv_I (by decide))) (ev_op (ev_op ev_c (ev_var rfl) (rv_I (Or.inl (by decide)))) (ev_var rfl) (rv_I (Or.inr ⟨by omega, by omega⟩))) rv_I0) (ev_op ev_c (ev_var rfl) (rv_I (Or.inl (by decide)))) rv_I0) ev_c (rv_I (Or.inr (by decide))))) ev_c (rv_I (by decide))) fun H1 e1 => ?_
    have hm : 0 ≤ ((n % 2147483647 + 7919 * k * k + 31 * k) * 48271) % 2147483647 ∧ ((n % 2147483647 + 7919 * k * k + 31 * k) * 48271) % 2147483647 < 2147483647 := ⟨Int.emod_nonneg _ (by decide), Int.emod_lt_of_pos _ (by decide)⟩
    refine s_ret (ev_op (ev_int1 (ev_op (ev_var rfl) (ev_op ev_c (ev_op ev_c (ev_var rfl) (rv_I (Or.inl (by decide)))) rv_I0) (rv_I (Or.inl ⟨by omega, by omega⟩)))) ev_c (rv_I (by decide))) fun H2 e2 => ?_
    exact kk H2 (e1.trans e2)
abbrev s_law_stream : Stmt := top 32
theorem sc_law_stream : FnScope ["_law_item", "_law_k"] ["_law_item", "_law_k"] (defScope s_law_stream) := ⟨rfl, rfl, rfl, by decide +kernel, rfl, by decide +kernel, by decide +kernel⟩
theorem ok_law_stream {f : Addr} {fd : FuncData} (F : Fun K "_law_stream" "_law_stream" s_law_stream f fd) (T : Tx K mg c f₀) (D_law_mixed : Df P w K mg base CX0 1 "_law_mixed" ["_law_number", "_law_k"] spMixed) : FnOk P w K mg base CX0 2 f fd ["_law_item", "_law_k"] spStream := by
  refine F.ok sc_law_stream (fun vs H Q E h => ?_) (fun cdv A outer s H vs Q E hr h => ?_)
  · obtain ⟨n, k, rfl, _⟩ := h
    rfl
  · obtain ⟨n, k, rfl, h0, h1, kk⟩ := h
    refine ⟨_, (pss_one (ps_ret (pe_lst (pa_cons (pe_ifExp (pt_cmpR op_ge (pv 0) (pe_op op_pow pe_int pe_int) (nomark _)) (pv 0) pe_int) (pa_cons pe_int (pa_cons (pe_df D_law_mixed (hr.mono (by decide)) rfl (pa_cons (pv 0) (pa_cons (pv 1) pa_nil))) pa_nil)))))), ?_⟩
    by_cases hn : (10 : Int) ^ (18 : Int).toNat ≤ n
    · refine s_retL (el_lst (ea_cons (ev_if (v := .int n) (et_test (ev_op (ev_var rfl) (ev_op ev_c ev_c (rv_I ⟨by decide, by decide, by decide⟩)) rv_I0)) (fun _ => ev_var rfl) (fun h => absurd hn (of_decide_eq_false h))) (ea_cons ev_c (ea_cons (ev_df (ea_cons (ev_var rfl) (ea_cons (ev_var rfl) ea_nil)) (is_mixed h0 h1)) ea_nil))) (by show 3 ≤ 100000; decide)) fun p H2 hp e2 h2 => ?_
      exact kk p H2 hp e2 ⟨_, _, h2⟩
    · refine s_retL (el_lst (ea_cons (ev_if (v := .int 0) (et_test (ev_op (ev_var rfl) (ev_op ev_c ev_c (rv_I ⟨by decide, by decide, by decide⟩)) rv_I0)) (fun h => absurd (of_decide_eq_true h) hn) (fun _ => ev_c)) (ea_cons ev_c (ea_cons (ev_df (ea_cons (ev_var rfl) (ea_cons (ev_var rfl) ea_nil)) (is_mixed h0 h1)) ea_nil))) (by show 3 ≤ 100000; decide)) fun p H2 hp e2 h2 => ?_
      exact kk p H2 hp e2 ⟨_, _, h2⟩
abbrev s_law_draw : Stmt := top 33
theorem sc_law_draw : FnScope ["_law_stream_here", "_law_top", "_law_number"] ["_law_stream_here", "_law_top"] (defScope s_law_draw) := ⟨rfl, rfl, rfl, by decide +kernel, rfl, by decide +kernel, by decide +kernel⟩
theorem ok_law_draw {f : Addr} {fd : FuncData} (F : Fun K "_law_draw" "_law_draw" s_law_draw f fd) (T : Tx K mg c f₀) (D_law_mixed : Df P w K mg base CX0 1 "_law_mixed" ["_law_number", "_law_k"] spMixed) : FnOk P w K mg base CX0 2 f fd ["_law_stream_here", "_law_top"] spDraw := by
  refine F.ok sc_law_draw (fun vs H Q E h => ?_) (fun cdv A outer s H vs Q E hr h => ?_)
  · obtain ⟨p, b, top, rfl, _⟩ := h
    rfl
  · obtain ⟨p, b, top, rfl, h0, h1, ⟨a, c, hs⟩, t0, t1, kk⟩ := h
    refine ⟨_, (pss_cons (ps_asg (pe_op op_add (pe_ix ix_list (pv 0) pe_int (fun _ _ => rfl)) pe_int) (pg_sub (pv 0) pe_int set_list))
  (pss_cons (ps_if (pt_cmpR op_eq (pe_ix ix_list (pv 0) pe_int (fun _ _ => rfl)) pe_int (nomark _))
    (pss_one (ps_ret (pe_op op_modN (pe_callTy call_int1 (by rfl) T.b_int (by decide +kernel) (pa_cons (pe_df D_law_mixed (hr.mono (by decide)) rfl (pa_cons (pe_df D_law_mixed (hr.mono (by decide)) rfl (pa_cons (pe_ix ix_list (pv 0) pe_int (fun _ _ => rfl)) (pa_cons (pe_ix ix_list (pv 0) pe_int (fun _ _ => rfl)) pa_nil))) (pa_cons pe_int pa_nil))) pa_nil)) (pv 1))))
    pss_nil)
  (pss_cons (ps_set (i := 2) sc_law_draw.nd rfl (Or.inl rfl) (pe_op op_modN (pe_callTy call_int1 (by rfl) T.b_int (by decide +kernel) (pa_cons (pe_ix ix_list (pv 0) pe_int (fun _ _ => rfl)) pa_nil)) (pv 1)))
  (pss_cons (ps_asg (pe_op op_fdivN (pe_ix ix_list (pv 0) pe_int (fun _ _ => rfl)) (pv 1)) (pg_sub (pv 0) pe_int set_list))
  (pss_one (ps_ret (pv 2))))))), ?_⟩
    have ix : ∀ {σ' : L2.St} {H' : Hp} {a b c : Int} {j : Nat} {v : V}, σ'[0]? = some (some (.ref p)) → H' p = some (.lst [.int a, .int b, .int c]) → [V.int a, V.int b, V.int c][j]? = some v → Ev (tOp (rIxL K) (tVar 0) (tC (.int ((j : Nat) : Int)))) σ' H' v :=
      fun h0 h1 h2 => ev_op (ev_var h0) ev_c (rv_ixL (sq_of h1) (atI_nat h2))
    have tp : top.fmod top = 0 := Int.fmod_self
    refine q_setL (j := 1) (v := .int (b + 1)) hs (ev_op (ix (j := 1) rfl hs rfl) ev_c rv_I0) (ev_var rfl) (ev_c (v := .int ((1 : Nat) : Int))) (by show 1 < 3; decide) fun H1 e1 => ?_
    have g1 : (upd H1 p (.lst ([V.int a, V.int b, V.int c].set 1 (.int (b + 1))))) p = some (.lst [.int a, .int (b + 1), .int c]) := upd_same
    generalize hK : upd H1 p (.lst ([V.int a, V.int b, V.int c].set 1 (.int (b + 1)))) = H2 at g1
    have ew : Ex (wo p H) H2 := by rw [← hK]; exact wo_trans (fun x o z => e1 x o (wo_ex x o z)) wo_upd
    refine q_when (et_test (ev_op (ix (j := 0) rfl g1 rfl) ev_c (rv_eq rfl))) (fun hb H3 e3 => ?_) (fun hb H3 e3 => ?_)
    · have g3 := e3 _ _ g1
      have mr := mixed_range c (b + 1)
      refine s_ret (ev_op (ev_int1 (ev_df (ea_cons (ev_df (ea_cons (ix (j := 2) rfl g3 rfl) (ea_cons (ix (j := 1) rfl g3 rfl) ea_nil)) (is_mixed (by omega) (by omega))) (ea_cons ev_c ea_nil)) (is_mixed (by decide) (by decide)))) (ev_var rfl) (rv_I (by omega))) fun H4 e4 => ?_
      exact kk _ H4 (Int.fmod_nonneg_of_pos _ t0) (Int.fmod_lt_of_pos _ t0) ⟨_, _, e4 _ _ g3⟩ (fun x o z => e4 x o (e3 x o (ew x o z)))
    · refine q_asg (ev_op (ev_int1 (ix (j := 0) rfl (e3 _ _ g1) rfl)) (ev_var rfl) (rv_I (by omega))) fun H4 e4 => ?_
      have g4 := e4 _ _ (e3 _ _ g1)
      refine q_setL (j := 0) (v := .int (a.fdiv top)) g4 (ev_op (ix (j := 0) rfl g4 rfl) (ev_var rfl) (rv_I ⟨by omega, by omega⟩)) (ev_var rfl) (ev_c (v := .int ((0 : Nat) : Int))) (by show 0 < 3; decide) fun H5 e5 => ?_
      refine s_ret (ev_var rfl) fun H6 e6 => ?_
      exact kk _ H6 (Int.fmod_nonneg_of_pos _ t0) (Int.fmod_lt_of_pos _ t0) ⟨_, _, e6 _ _ upd_same⟩ (fun x o z => e6 x o (wo_trans (H1 := H5) (fun x o z => e5 x o (e4 x o (e3 x o (ew x o z)))) wo_upd x o z))
abbrev s_law_pick : Stmt := top 34
theorem sc_law_pick : FnScope ["_law_stream_here", "_law_some"] ["_law_stream_here", "_law_some"] (defScope s_law_pick) := ⟨rfl, rfl, rfl, by decide +kernel, rfl, by decide +kernel, by decide +kernel⟩
theorem ok_law_pick {f : Addr} {fd : FuncData} (F : Fun K "_law_pick" "_law_pick" s_law_pick f fd) (T : Tx K mg c f₀) (D_law_draw : Df P w K mg base CX0 2 "_law_draw" ["_law_stream_here", "_law_top"] spDraw) : FnOk P w K mg base CX0 3 f fd ["_law_stream_here", "_law_some"] (spPick K) := by
  refine F.ok sc_law_pick (fun vs H Q E h => ?_) (fun cdv A outer s H vs Q E hr h => ?_)
  · obtain ⟨p, l, b, xs, rfl, _⟩ := h
    rfl
  · obtain ⟨p, l, b, xs, rfl, h0, h1, hs, np, hl, l0, l1, kk⟩ := h
    refine ⟨_, (pss_one (ps_ret (pe_ix ix_list (pv 1) (pe_df D_law_draw (hr.mono (by decide)) rfl (pa_cons (pv 0) (pa_cons (pe_callB call_len_seq (by rfl) T.b_len (by decide +kernel) (pa_cons (pv 1) pa_nil)) pa_nil))) (fun _ _ => rfl)))), ?_⟩
    refine ⟨.ref l, rfl, ?_⟩
    refine dv_draw (p := p) (G := H) (top := (xs.length : Int)) rfl (ev_len (ev_var rfl) hl) (by omega) (by omega) H (Ex.refl H) b h0 h1 hs _ fun v H2 b' b0 b1 s2 e2 hv => ?_
    obtain ⟨n, rfl, n0, n1⟩ := hv
    have hl2 : SqL K H2 l xs := ex_l e2 (sq_wo np hl)
    have hn : n.toNat < xs.length := by omega
    have en : n = ((n.toNat : Nat) : Int) := by omega
    have gx : xs[n.toNat]? = some xs[n.toNat] := List.getElem?_eq_getElem hn
    refine rv_ixL (K := K) (H := H2) hl2 (by rw [en]; exact atI_nat gx) H2 (Ex.refl H2) _ fun H3 e3 => ?_
    exact kk _ H3 b' (List.getElem_mem hn) b0 (by omega) (s2.ex e3) (fun x o z => e3 x o (e2 x o z))
end
end M1


set_option maxHeartbeats 4000000
namespace M1
open PySem PySem.Spec PyProof.Rows L2 Evl TL Gd

/-- a row of standing exceptions, from the n-th class on -/
def Seg (c : Nat → Addr) (one : V) (n m : Nat) (vs : List V) (H : Hp) : Prop := vs.length = m ∧ ∀ j v, vs[j]? = some v → XA (c (n + j)) (sf (n + j) one) v H
section
variable {c : Nat → Addr} {one : V} {n m : Nat} {σ : L2.St} {H : Hp} {te tb : TE} {ta tr : TA}
theorem Seg.ex {vs : List V} {H1 : Hp} (h : Seg c one n m vs H) (e : Ex H H1) : Seg c one n m vs H1 := ⟨h.1, fun j v q => (h.2 j v q).ex e⟩
theorem seg_nil : EvAP tNil σ H (Seg c one n 0) := fun H1 e Q q => q [] H1 (Ex.refl H1) ⟨rfl, fun j v h => by simp at h⟩
theorem seg_cons (h : EvP te σ H (XA (c n) (sf n one))) (hr : EvAP tr σ H (Seg c one (n + 1) m)) : EvAP (tCons te tr) σ H (Seg c one n (m + 1)) := fun H1 e Q q =>
  h H1 e _ fun v H2 e2 x => hr H2 (e.trans e2) _ fun r H3 e3 sg => q _ _ (e2.trans e3) ⟨by rw [List.length_cons, sg.1], fun j u hj => by
    cases j with
    | zero =>
      cases hj
      exact x.ex e3
    | succ j =>
      have y := sg.2 j u hj
      rw [Nat.add_assoc, Nat.add_comm 1 j] at y
      exact y⟩
theorem seg_lst (h : EvAP ta σ H (Seg c one n m)) (hm : m ≤ 100000) : EvP (tLst ta) σ H (fun v H1 => ∃ p vs, v = .ref p ∧ H1 p = some (.lst vs) ∧ Seg c one n m vs H1) := evp_lst h (fun vs H1 H2 e s => s.ex e) (fun vs H1 s => by rw [s.1]; exact hm)
theorem seg_cat {l : Addr} {xs : List V} (ha : Ev te σ H (.ref l)) (hl : H l = some (.lst xs)) (s0 : Seg c one 0 n xs H) (hb : EvP tb σ H (fun v H1 => ∃ p vs, v = .ref p ∧ H1 p = some (.lst vs) ∧ Seg c one n m vs H1)) (hm : n + m ≤ 100000) :
    EvP (tOp rCat te tb) σ H (fun v H1 => ∃ p vs, v = .ref p ∧ H1 p = some (.lst vs) ∧ Seg c one 0 (n + m) vs H1) := fun H1 e Q q =>
  evp_cat ha hl hb (fun vs H1 H2 e s => s.ex e) (fun vs H1 s => by rw [s.1, s0.1]; exact hm) H1 e Q fun v H2 e2 w => by
    obtain ⟨p, vs, rfl, h2, sg⟩ := w
    refine q _ _ e2 ⟨p, xs ++ vs, rfl, h2, by rw [List.length_append, s0.1, sg.1], fun j u hj => ?_⟩
    by_cases hlt : j < xs.length
    · rw [List.getElem?_append_left hlt] at hj
      exact (s0.2 j u hj).ex (e.trans e2)
    · have hle : xs.length ≤ j := by omega
      rw [List.getElem?_append_right hle] at hj
      have y := sg.2 _ u hj
      rw [s0.1] at y hle
      have ej : n + (j - n) = 0 + j := by omega
      rw [ej] at y
      exact y
end
/-- _law_made, _law_named: a list of the exceptions of one -/
def spMade (c : Nat → Addr) : Sp := fun vs H Q _ => ∃ one, vs = [one] ∧ ∀ p xs H1, Ex H H1 → H1 p = some (.lst xs) → Seg c one 0 24 xs H1 → Q (.ref p) H1
section
variable {P : Program} {w : World} {K : PySem.W.Frag} {mg : Str → Option Value} {base : Heap} {c f₀ : Nat → Addr}

abbrev s_law_made : Stmt := top 35
theorem sc_law_made : FnScope ["_law_one", "_law_found"] ["_law_one"] (defScope s_law_made) := ⟨rfl, rfl, rfl, by decide +kernel, rfl, by decide +kernel, by decide +kernel⟩
theorem ok_law_made {f : Addr} {fd : FuncData} (F : Fun K "_law_made" "_law_made" s_law_made f fd) (T : Tx K mg c f₀) (D_BadLine : Xc P w K mg base CX0 "BadLine" (c 0) ["column"]) (D_BadName : Xc P w K mg base CX0 "BadName" (c 1) ["given"]) (D_BadOperands : Xc P w K mg base CX0 "BadOperands" (c 2) ["index"]) (D_BadBlock : Xc P w K mg base CX0 "BadBlock" (c 3) ["line"]) (D_BadCall : Xc P w K mg base CX0 "BadCall" (c 4) ["given"]) (D_BadText : Xc P w K mg base CX0 "BadText" (c 5) ["row", "word"]) (D_BadTable : Xc P w K mg base CX0 "BadTable" (c 6) ["row", "form"]) (D_BadNumber : Xc P w K mg base CX0 "BadNumber" (c 7) ["given"]) (D_BadObject : Xc P w K mg base CX0 "BadObject" (c 8) ["given"]) (D_BadTree : Xc P w K mg base CX0 "BadTree" (c 9) ["given"]) (D_NotPlain : Xc P w K mg base CX0 "NotPlain" (c 10) ["path"]) (D_BadShift : Xc P w K mg base CX0 "BadShift" (c 12) ["given"]) (D_NoName : Xc P w K mg base CX0 "NoName" (c 13) ["path"]) (D_NoInstruction : Xc P w K mg base CX0 "NoInstruction" (c 14) ["given"]) (D_NoOrigin : Xc P w K mg base CX0 "NoOrigin" (c 15) ["address"]) (D_Ring : Xc P w K mg base CX0 "Ring" (c 16) ["names"]) (D_Cycle : Xc P w K mg base CX0 "Cycle" (c 17) ["names"]) (D_Taken : Xc P w K mg base CX0 "Taken" (c 18) ["path"]) (D_Unresolved : Xc P w K mg base CX0 "Unresolved" (c 19) ["names"]) (D_OutOfRange : Xc P w K mg base CX0 "OutOfRange" (c 20) ["section", "index"]) (D_TooLarge : Xc P w K mg base CX0 "TooLarge" (c 22) ["limit"]) (D_Trouble : Xc P w K mg base CX0 "Trouble" (c 23) ["origin", "cause"]) : FnOk P w K mg base CX0 3 f fd ["_law_one"] (spMade c) := by
  refine F.ok sc_law_made (fun vs H Q E h => ?_) (fun cdv A outer s H vs Q E hr h => ?_)
  · obtain ⟨one, rfl, _⟩ := h
    rfl
  · obtain ⟨one, rfl, kk⟩ := h
    refine ⟨_, (pss_cons (ps_set (i := 1) sc_law_made.nd rfl (Or.inl rfl) (pe_lst (pa_cons (pe_xc D_BadLine (hr.mono (by decide)) rfl (pa_cons (pv 0) pa_nil)) (pa_cons (pe_xc D_BadName (hr.mono (by decide)) rfl (pa_cons (pv 0) pa_nil)) (pa_cons (pe_xc D_BadOperands (hr.mono (by decide)) rfl (pa_cons (pv 0) pa_nil)) (pa_cons (pe_xc D_BadBlock (hr.mono (by decide)) rfl (pa_cons (pv 0) pa_nil)) (pa_cons (pe_xc D_BadCall (hr.mono (by decide)) rfl (pa_cons (pv 0) pa_nil)) (pa_cons (pe_xc D_BadText (hr.mono (by decide)) rfl (pa_cons (pv 0) (pa_cons pe_int pa_nil))) pa_nil))))))))
  (pss_cons (ps_set (i := 1) sc_law_made.nd rfl (Or.inl rfl) (pe_op op_cat (pv 1) (pe_lst (pa_cons (pe_xc D_BadTable (hr.mono (by decide)) rfl (pa_cons (pv 0) (pa_cons pe_int pa_nil))) (pa_cons (pe_xc D_BadNumber (hr.mono (by decide)) rfl (pa_cons (pv 0) pa_nil)) (pa_cons (pe_xc D_BadObject (hr.mono (by decide)) rfl (pa_cons (pv 0) pa_nil)) (pa_cons (pe_xc D_BadTree (hr.mono (by decide)) rfl (pa_cons (pv 0) pa_nil)) (pa_cons (pe_xc D_NotPlain (hr.mono (by decide)) rfl (pa_cons (pv 0) pa_nil)) pa_nil))))))))
  (pss_cons (ps_set (i := 1) sc_law_made.nd rfl (Or.inl rfl) (pe_op op_cat (pv 1) (pe_lst (pa_cons (pe_x0 PySem.F.excBase_ArithmeticError T.x_DividedByZero rfl T.c_DividedByZero T.k_DividedByZero) (pa_cons (pe_xc D_BadShift (hr.mono (by decide)) rfl (pa_cons (pv 0) pa_nil)) pa_nil)))))
  (pss_cons (ps_set (i := 1) sc_law_made.nd rfl (Or.inl rfl) (pe_op op_cat (pv 1) (pe_lst (pa_cons (pe_xc D_NoName (hr.mono (by decide)) rfl (pa_cons (pv 0) pa_nil)) (pa_cons (pe_xc D_NoInstruction (hr.mono (by decide)) rfl (pa_cons (pv 0) pa_nil)) (pa_cons (pe_xc D_NoOrigin (hr.mono (by decide)) rfl (pa_cons (pv 0) pa_nil)) (pa_cons (pe_xc D_Ring (hr.mono (by decide)) rfl (pa_cons (pv 0) pa_nil)) (pa_cons (pe_xc D_Cycle (hr.mono (by decide)) rfl (pa_cons (pv 0) pa_nil)) (pa_cons (pe_xc D_Taken (hr.mono (by decide)) rfl (pa_cons (pv 0) pa_nil)) (pa_cons (pe_xc D_Unresolved (hr.mono (by decide)) rfl (pa_cons (pv 0) pa_nil)) pa_nil))))))))))
  (pss_one (ps_ret (pe_op op_cat (pv 1) (pe_lst (pa_cons (pe_xc D_OutOfRange (hr.mono (by decide)) rfl (pa_cons (pv 0) (pa_cons pe_int pa_nil))) (pa_cons (pe_x0 PySem.F.excBase_RuntimeError T.x_NothingLeft rfl T.c_NothingLeft T.k_NothingLeft) (pa_cons (pe_xc D_TooLarge (hr.mono (by decide)) rfl (pa_cons (pv 0) pa_nil)) (pa_cons (pe_xc D_Trouble (hr.mono (by decide)) rfl (pa_cons (pv 0) (pa_cons pe_int pa_nil))) pa_nil)))))))))))), ?_⟩
    refine q_asgP (seg_lst (n := 0) (m := 6) (seg_cons (c := c) (one := one) (n := 0) (evp_xc (vs := [one]) (ea_cons (ev_var rfl) ea_nil) rfl) (seg_cons (c := c) (one := one) (n := 1) (evp_xc (vs := [one]) (ea_cons (ev_var rfl) ea_nil) rfl) (seg_cons (c := c) (one := one) (n := 2) (evp_xc (vs := [one]) (ea_cons (ev_var rfl) ea_nil) rfl) (seg_cons (c := c) (one := one) (n := 3) (evp_xc (vs := [one]) (ea_cons (ev_var rfl) ea_nil) rfl) (seg_cons (c := c) (one := one) (n := 4) (evp_xc (vs := [one]) (ea_cons (ev_var rfl) ea_nil) rfl) (seg_cons (c := c) (one := one) (n := 5) (evp_xc (vs := [one, .int 1]) (ea_cons (ev_var rfl) (ea_cons ev_c ea_nil)) rfl) seg_nil)))))) (by decide)) fun v H0 e0 g => ?_
    obtain ⟨p, xs, rfl, hp, sg⟩ := g
    refine q_asgP (seg_cat (n := 6) (m := 5) (ev_var rfl) hp sg (seg_lst (seg_cons (c := c) (one := one) (n := 6) (evp_xc (vs := [one, .int 2]) (ea_cons (ev_var rfl) (ea_cons ev_c ea_nil)) rfl) (seg_cons (c := c) (one := one) (n := 7) (evp_xc (vs := [one]) (ea_cons (ev_var rfl) ea_nil) rfl) (seg_cons (c := c) (one := one) (n := 8) (evp_xc (vs := [one]) (ea_cons (ev_var rfl) ea_nil) rfl) (seg_cons (c := c) (one := one) (n := 9) (evp_xc (vs := [one]) (ea_cons (ev_var rfl) ea_nil) rfl) (seg_cons (c := c) (one := one) (n := 10) (evp_xc (vs := [one]) (ea_cons (ev_var rfl) ea_nil) rfl) seg_nil))))) (by decide)) (by decide)) fun v H1 e1 g => ?_
    obtain ⟨p, xs, rfl, hp, sg⟩ := g
    refine q_asgP (seg_cat (n := 11) (m := 2) (ev_var rfl) hp sg (seg_lst (seg_cons (c := c) (one := one) (n := 11) evp_x0 (seg_cons (c := c) (one := one) (n := 12) (evp_xc (vs := [one]) (ea_cons (ev_var rfl) ea_nil) rfl) seg_nil)) (by decide)) (by decide)) fun v H2 e2 g => ?_
    obtain ⟨p, xs, rfl, hp, sg⟩ := g
    refine q_asgP (seg_cat (n := 13) (m := 7) (ev_var rfl) hp sg (seg_lst (seg_cons (c := c) (one := one) (n := 13) (evp_xc (vs := [one]) (ea_cons (ev_var rfl) ea_nil) rfl) (seg_cons (c := c) (one := one) (n := 14) (evp_xc (vs := [one]) (ea_cons (ev_var rfl) ea_nil) rfl) (seg_cons (c := c) (one := one) (n := 15) (evp_xc (vs := [one]) (ea_cons (ev_var rfl) ea_nil) rfl) (seg_cons (c := c) (one := one) (n := 16) (evp_xc (vs := [one]) (ea_cons (ev_var rfl) ea_nil) rfl) (seg_cons (c := c) (one := one) (n := 17) (evp_xc (vs := [one]) (ea_cons (ev_var rfl) ea_nil) rfl) (seg_cons (c := c) (one := one) (n := 18) (evp_xc (vs := [one]) (ea_cons (ev_var rfl) ea_nil) rfl) (seg_cons (c := c) (one := one) (n := 19) (evp_xc (vs := [one]) (ea_cons (ev_var rfl) ea_nil) rfl) seg_nil))))))) (by decide)) (by decide)) fun v H3 e3 g => ?_
    obtain ⟨p, xs, rfl, hp, sg⟩ := g
    refine s_retP (seg_cat (n := 20) (m := 4) (ev_var rfl) hp sg (seg_lst (seg_cons (c := c) (one := one) (n := 20) (evp_xc (vs := [one, .int 3]) (ea_cons (ev_var rfl) (ea_cons ev_c ea_nil)) rfl) (seg_cons (c := c) (one := one) (n := 21) evp_x0 (seg_cons (c := c) (one := one) (n := 22) (evp_xc (vs := [one]) (ea_cons (ev_var rfl) ea_nil) rfl) (seg_cons (c := c) (one := one) (n := 23) (evp_xc (vs := [one, .int 4]) (ea_cons (ev_var rfl) (ea_cons ev_c ea_nil)) rfl) seg_nil)))) (by decide)) (by decide)) fun v H4 e4 g => ?_
    obtain ⟨p, xs, rfl, hp, sg⟩ := g
    exact kk p xs H4 ((((e0.trans e1).trans e2).trans e3).trans e4) hp sg
abbrev s_law_named : Stmt := top 36
theorem sc_law_named : FnScope ["_law_one", "_law_found"] ["_law_one"] (defScope s_law_named) := ⟨rfl, rfl, rfl, by decide +kernel, rfl, by decide +kernel, by decide +kernel⟩
theorem ok_law_named {f : Addr} {fd : FuncData} (F : Fun K "_law_named" "_law_named" s_law_named f fd) (T : Tx K mg c f₀) (D_BadLine : Xc P w K mg base CX0 "BadLine" (c 0) ["column"]) (D_BadName : Xc P w K mg base CX0 "BadName" (c 1) ["given"]) (D_BadOperands : Xc P w K mg base CX0 "BadOperands" (c 2) ["index"]) (D_BadBlock : Xc P w K mg base CX0 "BadBlock" (c 3) ["line"]) (D_BadCall : Xc P w K mg base CX0 "BadCall" (c 4) ["given"]) (D_BadText : Xc P w K mg base CX0 "BadText" (c 5) ["row", "word"]) (D_BadTable : Xc P w K mg base CX0 "BadTable" (c 6) ["row", "form"]) (D_BadNumber : Xc P w K mg base CX0 "BadNumber" (c 7) ["given"]) (D_BadObject : Xc P w K mg base CX0 "BadObject" (c 8) ["given"]) (D_BadTree : Xc P w K mg base CX0 "BadTree" (c 9) ["given"]) (D_NotPlain : Xc P w K mg base CX0 "NotPlain" (c 10) ["path"]) (D_BadShift : Xc P w K mg base CX0 "BadShift" (c 12) ["given"]) (D_NoName : Xc P w K mg base CX0 "NoName" (c 13) ["path"]) (D_NoInstruction : Xc P w K mg base CX0 "NoInstruction" (c 14) ["given"]) (D_NoOrigin : Xc P w K mg base CX0 "NoOrigin" (c 15) ["address"]) (D_Ring : Xc P w K mg base CX0 "Ring" (c 16) ["names"]) (D_Cycle : Xc P w K mg base CX0 "Cycle" (c 17) ["names"]) (D_Taken : Xc P w K mg base CX0 "Taken" (c 18) ["path"]) (D_Unresolved : Xc P w K mg base CX0 "Unresolved" (c 19) ["names"]) (D_OutOfRange : Xc P w K mg base CX0 "OutOfRange" (c 20) ["section", "index"]) (D_TooLarge : Xc P w K mg base CX0 "TooLarge" (c 22) ["limit"]) (D_Trouble : Xc P w K mg base CX0 "Trouble" (c 23) ["origin", "cause"]) : FnOk P w K mg base CX0 3 f fd ["_law_one"] (spMade c) := by
  refine F.ok sc_law_named (fun vs H Q E h => ?_) (fun cdv A outer s H vs Q E hr h => ?_)
  · obtain ⟨one, rfl, _⟩ := h
    rfl
  · obtain ⟨one, rfl, kk⟩ := h
    refine ⟨_, (pss_cons (ps_set (i := 1) sc_law_named.nd rfl (Or.inl rfl) (pe_lst (pa_cons (pe_xckR D_BadLine (hr.mono (by decide)) rfl (pk_cons (pv 0) pk_nil)) (pa_cons (pe_xckR D_BadName (hr.mono (by decide)) rfl (pk_cons (pv 0) pk_nil)) (pa_cons (pe_xckR D_BadOperands (hr.mono (by decide)) rfl (pk_cons (pv 0) pk_nil)) (pa_cons (pe_xckR D_BadBlock (hr.mono (by decide)) rfl (pk_cons (pv 0) pk_nil)) (pa_cons (pe_xckR D_BadCall (hr.mono (by decide)) rfl (pk_cons (pv 0) pk_nil)) pa_nil)))))))
  (pss_cons (ps_set (i := 1) sc_law_named.nd rfl (Or.inl rfl) (pe_op op_cat (pv 1) (pe_lst (pa_cons (pe_xckR D_BadText (hr.mono (by decide)) rfl (pk_cons pe_int (pk_cons (pv 0) pk_nil))) (pa_cons (pe_xckR D_BadTable (hr.mono (by decide)) rfl (pk_cons pe_int (pk_cons (pv 0) pk_nil))) (pa_cons (pe_xckR D_BadNumber (hr.mono (by decide)) rfl (pk_cons (pv 0) pk_nil)) (pa_cons (pe_xckR D_BadObject (hr.mono (by decide)) rfl (pk_cons (pv 0) pk_nil)) pa_nil)))))))
  (pss_cons (ps_set (i := 1) sc_law_named.nd rfl (Or.inl rfl) (pe_op op_cat (pv 1) (pe_lst (pa_cons (pe_xckR D_BadTree (hr.mono (by decide)) rfl (pk_cons (pv 0) pk_nil)) (pa_cons (pe_xckR D_NotPlain (hr.mono (by decide)) rfl (pk_cons (pv 0) pk_nil)) (pa_cons (pe_x0 PySem.F.excBase_ArithmeticError T.x_DividedByZero rfl T.c_DividedByZero T.k_DividedByZero) (pa_cons (pe_xckR D_BadShift (hr.mono (by decide)) rfl (pk_cons (pv 0) pk_nil)) (pa_cons (pe_xckR D_NoName (hr.mono (by decide)) rfl (pk_cons (pv 0) pk_nil)) pa_nil))))))))
  (pss_cons (ps_set (i := 1) sc_law_named.nd rfl (Or.inl rfl) (pe_op op_cat (pv 1) (pe_lst (pa_cons (pe_xckR D_NoInstruction (hr.mono (by decide)) rfl (pk_cons (pv 0) pk_nil)) (pa_cons (pe_xckR D_NoOrigin (hr.mono (by decide)) rfl (pk_cons (pv 0) pk_nil)) (pa_cons (pe_xckR D_Ring (hr.mono (by decide)) rfl (pk_cons (pv 0) pk_nil)) (pa_cons (pe_xckR D_Cycle (hr.mono (by decide)) rfl (pk_cons (pv 0) pk_nil)) pa_nil)))))))
  (pss_cons (ps_set (i := 1) sc_law_named.nd rfl (Or.inl rfl) (pe_op op_cat (pv 1) (pe_lst (pa_cons (pe_xckR D_Taken (hr.mono (by decide)) rfl (pk_cons (pv 0) pk_nil)) (pa_cons (pe_xckR D_Unresolved (hr.mono (by decide)) rfl (pk_cons (pv 0) pk_nil)) (pa_cons (pe_xckR D_OutOfRange (hr.mono (by decide)) rfl (pk_cons pe_int (pk_cons (pv 0) pk_nil))) (pa_cons (pe_x0 PySem.F.excBase_RuntimeError T.x_NothingLeft rfl T.c_NothingLeft T.k_NothingLeft) pa_nil)))))))
  (pss_one (ps_ret (pe_op op_cat (pv 1) (pe_lst (pa_cons (pe_xckR D_TooLarge (hr.mono (by decide)) rfl (pk_cons (pv 0) pk_nil)) (pa_cons (pe_xckR D_Trouble (hr.mono (by decide)) rfl (pk_cons pe_int (pk_cons (pv 0) pk_nil))) pa_nil))))))))))), ?_⟩
    refine q_asgP (seg_lst (n := 0) (m := 5) (seg_cons (c := c) (one := one) (n := 0) (evp_xck (vs := [one]) (ea_cons (ev_var rfl) ea_nil) rfl rfl) (seg_cons (c := c) (one := one) (n := 1) (evp_xck (vs := [one]) (ea_cons (ev_var rfl) ea_nil) rfl rfl) (seg_cons (c := c) (one := one) (n := 2) (evp_xck (vs := [one]) (ea_cons (ev_var rfl) ea_nil) rfl rfl) (seg_cons (c := c) (one := one) (n := 3) (evp_xck (vs := [one]) (ea_cons (ev_var rfl) ea_nil) rfl rfl) (seg_cons (c := c) (one := one) (n := 4) (evp_xck (vs := [one]) (ea_cons (ev_var rfl) ea_nil) rfl rfl) seg_nil))))) (by decide)) fun v H0 e0 g => ?_
    obtain ⟨p, xs, rfl, hp, sg⟩ := g
    refine q_asgP (seg_cat (n := 5) (m := 4) (ev_var rfl) hp sg (seg_lst (seg_cons (c := c) (one := one) (n := 5) (evp_xck (vs := [.int 1, one]) (ea_cons ev_c (ea_cons (ev_var rfl) ea_nil)) rfl rfl) (seg_cons (c := c) (one := one) (n := 6) (evp_xck (vs := [.int 2, one]) (ea_cons ev_c (ea_cons (ev_var rfl) ea_nil)) rfl rfl) (seg_cons (c := c) (one := one) (n := 7) (evp_xck (vs := [one]) (ea_cons (ev_var rfl) ea_nil) rfl rfl) (seg_cons (c := c) (one := one) (n := 8) (evp_xck (vs := [one]) (ea_cons (ev_var rfl) ea_nil) rfl rfl) seg_nil)))) (by decide)) (by decide)) fun v H1 e1 g => ?_
    obtain ⟨p, xs, rfl, hp, sg⟩ := g
    refine q_asgP (seg_cat (n := 9) (m := 5) (ev_var rfl) hp sg (seg_lst (seg_cons (c := c) (one := one) (n := 9) (evp_xck (vs := [one]) (ea_cons (ev_var rfl) ea_nil) rfl rfl) (seg_cons (c := c) (one := one) (n := 10) (evp_xck (vs := [one]) (ea_cons (ev_var rfl) ea_nil) rfl rfl) (seg_cons (c := c) (one := one) (n := 11) evp_x0 (seg_cons (c := c) (one := one) (n := 12) (evp_xck (vs := [one]) (ea_cons (ev_var rfl) ea_nil) rfl rfl) (seg_cons (c := c) (one := one) (n := 13) (evp_xck (vs := [one]) (ea_cons (ev_var rfl) ea_nil) rfl rfl) seg_nil))))) (by decide)) (by decide)) fun v H2 e2 g => ?_
    obtain ⟨p, xs, rfl, hp, sg⟩ := g
    refine q_asgP (seg_cat (n := 14) (m := 4) (ev_var rfl) hp sg (seg_lst (seg_cons (c := c) (one := one) (n := 14) (evp_xck (vs := [one]) (ea_cons (ev_var rfl) ea_nil) rfl rfl) (seg_cons (c := c) (one := one) (n := 15) (evp_xck (vs := [one]) (ea_cons (ev_var rfl) ea_nil) rfl rfl) (seg_cons (c := c) (one := one) (n := 16) (evp_xck (vs := [one]) (ea_cons (ev_var rfl) ea_nil) rfl rfl) (seg_cons (c := c) (one := one) (n := 17) (evp_xck (vs := [one]) (ea_cons (ev_var rfl) ea_nil) rfl rfl) seg_nil)))) (by decide)) (by decide)) fun v H3 e3 g => ?_
    obtain ⟨p, xs, rfl, hp, sg⟩ := g
    refine q_asgP (seg_cat (n := 18) (m := 4) (ev_var rfl) hp sg (seg_lst (seg_cons (c := c) (one := one) (n := 18) (evp_xck (vs := [one]) (ea_cons (ev_var rfl) ea_nil) rfl rfl) (seg_cons (c := c) (one := one) (n := 19) (evp_xck (vs := [one]) (ea_cons (ev_var rfl) ea_nil) rfl rfl) (seg_cons (c := c) (one := one) (n := 20) (evp_xck (vs := [.int 3, one]) (ea_cons ev_c (ea_cons (ev_var rfl) ea_nil)) rfl rfl) (seg_cons (c := c) (one := one) (n := 21) evp_x0 seg_nil)))) (by decide)) (by decide)) fun v H4 e4 g => ?_
    obtain ⟨p, xs, rfl, hp, sg⟩ := g
    refine s_retP (seg_cat (n := 22) (m := 2) (ev_var rfl) hp sg (seg_lst (seg_cons (c := c) (one := one) (n := 22) (evp_xck (vs := [one]) (ea_cons (ev_var rfl) ea_nil) rfl rfl) (seg_cons (c := c) (one := one) (n := 23) (evp_xck (vs := [.int 4, one]) (ea_cons ev_c (ea_cons (ev_var rfl) ea_nil)) rfl rfl) seg_nil)) (by decide)) (by decide)) fun v H5 e5 g => ?_
    obtain ⟨p, xs, rfl, hp, sg⟩ := g
    exact kk p xs H5 (((((e0.trans e1).trans e2).trans e3).trans e4).trans e5) hp sg
end
end M1

set_option maxHeartbeats 4000000
namespace M1
open PySem PySem.Spec PyProof.Rows L2 Evl TL Gd

theorem Xn.ex {H H1 : Hp} {a C : Addr} {d : Option Addr} (x : Xn H a C d) (e : Ex H H1) : Xn H1 a C d := ⟨e _ _ x.1, fun dd z => by
  obtain ⟨fs, y⟩ := x.2 dd z
  exact ⟨fs, e _ _ y⟩⟩
def kindsV (k : Nat) : List V := [.bl (decide (k = 0)), .bl (decide (k = 1)), .bl (decide (k = 2)), .bl (decide (k = 3)), .bl (decide (k = 4)), .bl (decide (k = 5)), .bl (decide (k = 6)), .bl (decide (k = 7)), .bl (decide (k = 8)), .bl (decide (k = 9)), .bl (decide (k = 10)), .bl (decide (k = 11)), .bl (decide (k = 12)), .bl (decide (k = 13)), .bl (decide (k = 14)), .bl (decide (k = 15)), .bl (decide (k = 16)), .bl (decide (k = 17)), .bl (decide (k = 18)), .bl (decide (k = 19)), .bl (decide (k = 20)), .bl (decide (k = 21)), .bl (decide (k = 22)), .bl (decide (k = 23))]
def famsV (k : Nat) : List V := [.bl (decide (famOf k = 0)), .bl (decide (famOf k = 1)), .bl (decide (famOf k = 2)), .bl (decide (famOf k = 3)), .bl (decide (famOf k = 4)), .bl (ofBt k 0), .bl (ofBt k 1), .bl (ofBt k 2), .bl (ofBt k 3), .bl (ofBt k 4), .bl false]
def duesV (one : V) : List V := [one, one, one, one, one, one, .int 1, one, .int 2, one, one, one, one, one, one, one, one, one, one, one, one, one, .int 3, one, one, .int 4]
/-- _law_kinds, _law_families: of the k-th class's exception -/
def spKinds (c : Nat → Addr) (r : Nat → List V) : Sp := fun vs H Q _ => ∃ (a : Addr) (k : Nat) (d : Option Addr), vs = [.ref a] ∧ k < 24 ∧ Xn H a (c k) d ∧ ∀ p H1, H p = none → Ex H H1 → H1 p = some (.lst (r k)) → Q (.ref p) H1
/-- _law_fields -/
def spFields (c : Nat → Addr) : Sp := fun vs H Q _ => ∃ (a : Addr) (xs : List V) (one : V), vs = [.ref a] ∧ H a = some (.lst xs) ∧ Seg c one 0 24 xs H ∧ ∀ p H1, H p = none → p ≠ sysModules → Ex H H1 → H1 p = some (.lst (duesV one)) → Q (.ref p) H1
theorem pe_cls {X : Cx} {x : Str} {C : Addr} {pos : Pos} (hg : Gl X x) (hm : X.mg x = some (.ref C)) (hd : (x == ("__debug__" : Str)) = false := by decide) : PE X (.Name x pos) (tC (.ref C)) := pe_glob hg hm rfl hd
/-- a row of all the exceptions stands at a -/
def Row (a : Addr) (c : Nat → Addr) (one : V) (H : Hp) : Prop := ∃ xs : List V, H a = some (.lst xs) ∧ xs.length = 24 ∧ ∀ j v, xs[j]? = some v → XA (c j) (sf j one) v H
theorem Row.ex {a : Addr} {c : Nat → Addr} {one : V} {H H1 : Hp} (h : Row a c one H) (e : Ex H H1) : Row a c one H1 := by
  obtain ⟨xs, h1, h2, h3⟩ := h
  exact ⟨xs, e _ _ h1, h2, fun j v q => (h3 j v q).ex e⟩
section
variable {K : PySem.W.Frag} {mg : Str → Option Value} {c f₀ : Nat → Addr}
theorem ev_isXT {H : Hp} {σ : L2.St} {a C : Addr} {d : Option Addr} {cs : List V} {us : List Value} {b : Bool} {i : Nat} (h : Ev (tVar i) σ H (.ref a)) (x : Xn H a C d) (T : ExcC K C) (kc : Paired ClsV cs us) (hk : PySem.W.kitAny K (.ref C) us = some b) {tu : TE} (hu : EvU tu σ H cs := by exact eu_tup (ea_cons ev_c (ea_cons ev_c (ea_cons ev_c (ea_cons ev_c ea_nil)))) (by show 4 ≤ 100000; decide)) :
    Ev (tCB (rIsXT K) (tCons (tVar i) (tCons tu tNil))) σ H (.bl b) := fun H1 e Q q => by
  show tVar i σ H1 (fun x G => tCons tu tNil σ G fun ys G2 => rIsXT K (x :: ys) G2 Q)
  exact h H1 e _ fun H2 e2 => hu H2 (e.trans e2) _ fun p H3 np e3 h3 => ⟨a, C, p, d, cs, us, b, rfl, Xn.ex x ((e.trans e2).trans e3), T, h3, kc, hk, q H3 (e2.trans e3)⟩
theorem ev_fld {H : Hp} {σ : L2.St} {a : Addr} {one y : V} {l0 : List (Str × V)} (T : Tx K mg c f₀) (h : Row a c one H) {k : Nat} {f : Str} {l : List (Str × V)} (hk : k < 24) (hs : sf k one = some l) (hn : sf k .non = some l0) (hf : l.lookup f = some y) (h1 : k ≠ 11) (h2 : k ≠ 21)
    (hm : ∃ p ∈ l0, p.1 = f := by first | exact ⟨_, List.mem_cons_self, rfl⟩ | exact ⟨_, List.mem_cons_of_mem _ List.mem_cons_self, rfl⟩) (hσ : σ[0]? = some (some (.ref a)) := by rfl) :
    Ev (tXo K f (tOp (rIxL K) (tVar 0) (tC (.int ((k : Nat) : Int))))) σ H y := by
  obtain ⟨xs, hx, hl, hr⟩ := h
  have g : xs[k]? = some (xs[k]'(by omega)) := List.getElem?_eq_getElem _
  have x := hr k _ g
  rw [hs] at x
  obtain ⟨p, hp, rfl⟩ := hm
  exact ev_xo (ev_op (ev_var hσ) ev_c (rv_ixL (sq_of hx) (atI_nat g))) x (T.xf k hk h1 h2) (T.nf k l0 hk hn p hp) hf
end
section
variable {P : Program} {w : World} {K : PySem.W.Frag} {mg : Str → Option Value} {base : Heap} {c f₀ : Nat → Addr}

abbrev s_law_kinds : Stmt := top 37
theorem sc_law_kinds : FnScope ["_law_error", "_law_found"] ["_law_error"] (defScope s_law_kinds) := ⟨rfl, rfl, rfl, by decide +kernel, rfl, by decide +kernel, by decide +kernel⟩
theorem ok_law_kinds {f : Addr} {fd : FuncData} (F : Fun K "_law_kinds" "_law_kinds" s_law_kinds f fd) (T : Tx K mg c f₀) : FnOk P w K mg base CX0 1 f fd ["_law_error"] (spKinds c kindsV) := by
  refine F.ok sc_law_kinds (fun vs H Q E h => ?_) (fun cdv A outer s H vs Q E hr h => ?_)
  · obtain ⟨a, k, d, rfl, _⟩ := h
    rfl
  · obtain ⟨a, k, d, rfl, hk, x0, kk⟩ := h
    have Te := T.ec k hk
    refine ⟨_, (pss_cons (ps_set (i := 1) sc_law_kinds.nd rfl (Or.inl rfl) (pe_lst (pa_cons (pe_callB call_isX (by rfl) T.b_isinstance (by decide +kernel) (pa_cons (pv 0) (pa_cons (pe_cls rfl T.c_BadLine) pa_nil))) (pa_cons (pe_callB call_isX (by rfl) T.b_isinstance (by decide +kernel) (pa_cons (pv 0) (pa_cons (pe_cls rfl T.c_BadName) pa_nil))) (pa_cons (pe_callB call_isX (by rfl) T.b_isinstance (by decide +kernel) (pa_cons (pv 0) (pa_cons (pe_cls rfl T.c_BadOperands) pa_nil))) pa_nil)))))
  (pss_cons (ps_set (i := 1) sc_law_kinds.nd rfl (Or.inl rfl) (pe_op op_cat (pv 1) (pe_lst (pa_cons (pe_callB call_isX (by rfl) T.b_isinstance (by decide +kernel) (pa_cons (pv 0) (pa_cons (pe_cls rfl T.c_BadBlock) pa_nil))) (pa_cons (pe_callB call_isX (by rfl) T.b_isinstance (by decide +kernel) (pa_cons (pv 0) (pa_cons (pe_cls rfl T.c_BadCall) pa_nil))) (pa_cons (pe_callB call_isX (by rfl) T.b_isinstance (by decide +kernel) (pa_cons (pv 0) (pa_cons (pe_cls rfl T.c_BadText) pa_nil))) pa_nil))))))
  (pss_cons (ps_set (i := 1) sc_law_kinds.nd rfl (Or.inl rfl) (pe_op op_cat (pv 1) (pe_lst (pa_cons (pe_callB call_isX (by rfl) T.b_isinstance (by decide +kernel) (pa_cons (pv 0) (pa_cons (pe_cls rfl T.c_BadTable) pa_nil))) (pa_cons (pe_callB call_isX (by rfl) T.b_isinstance (by decide +kernel) (pa_cons (pv 0) (pa_cons (pe_cls rfl T.c_BadNumber) pa_nil))) (pa_cons (pe_callB call_isX (by rfl) T.b_isinstance (by decide +kernel) (pa_cons (pv 0) (pa_cons (pe_cls rfl T.c_BadObject) pa_nil))) pa_nil))))))
  (pss_cons (ps_set (i := 1) sc_law_kinds.nd rfl (Or.inl rfl) (pe_op op_cat (pv 1) (pe_lst (pa_cons (pe_callB call_isX (by rfl) T.b_isinstance (by decide +kernel) (pa_cons (pv 0) (pa_cons (pe_cls rfl T.c_BadTree) pa_nil))) (pa_cons (pe_callB call_isX (by rfl) T.b_isinstance (by decide +kernel) (pa_cons (pv 0) (pa_cons (pe_cls rfl T.c_NotPlain) pa_nil))) (pa_cons (pe_callB call_isX (by rfl) T.b_isinstance (by decide +kernel) (pa_cons (pv 0) (pa_cons (pe_cls rfl T.c_DividedByZero) pa_nil))) pa_nil))))))
  (pss_cons (ps_set (i := 1) sc_law_kinds.nd rfl (Or.inl rfl) (pe_op op_cat (pv 1) (pe_lst (pa_cons (pe_callB call_isX (by rfl) T.b_isinstance (by decide +kernel) (pa_cons (pv 0) (pa_cons (pe_cls rfl T.c_BadShift) pa_nil))) (pa_cons (pe_callB call_isX (by rfl) T.b_isinstance (by decide +kernel) (pa_cons (pv 0) (pa_cons (pe_cls rfl T.c_NoName) pa_nil))) (pa_cons (pe_callB call_isX (by rfl) T.b_isinstance (by decide +kernel) (pa_cons (pv 0) (pa_cons (pe_cls rfl T.c_NoInstruction) pa_nil))) pa_nil))))))
  (pss_cons (ps_set (i := 1) sc_law_kinds.nd rfl (Or.inl rfl) (pe_op op_cat (pv 1) (pe_lst (pa_cons (pe_callB call_isX (by rfl) T.b_isinstance (by decide +kernel) (pa_cons (pv 0) (pa_cons (pe_cls rfl T.c_NoOrigin) pa_nil))) (pa_cons (pe_callB call_isX (by rfl) T.b_isinstance (by decide +kernel) (pa_cons (pv 0) (pa_cons (pe_cls rfl T.c_Ring) pa_nil))) (pa_cons (pe_callB call_isX (by rfl) T.b_isinstance (by decide +kernel) (pa_cons (pv 0) (pa_cons (pe_cls rfl T.c_Cycle) pa_nil))) pa_nil))))))
  (pss_cons (ps_set (i := 1) sc_law_kinds.nd rfl (Or.inl rfl) (pe_op op_cat (pv 1) (pe_lst (pa_cons (pe_callB call_isX (by rfl) T.b_isinstance (by decide +kernel) (pa_cons (pv 0) (pa_cons (pe_cls rfl T.c_Taken) pa_nil))) (pa_cons (pe_callB call_isX (by rfl) T.b_isinstance (by decide +kernel) (pa_cons (pv 0) (pa_cons (pe_cls rfl T.c_Unresolved) pa_nil))) (pa_cons (pe_callB call_isX (by rfl) T.b_isinstance (by decide +kernel) (pa_cons (pv 0) (pa_cons (pe_cls rfl T.c_OutOfRange) pa_nil))) pa_nil))))))
  (pss_one (ps_ret (pe_op op_cat (pv 1) (pe_lst (pa_cons (pe_callB call_isX (by rfl) T.b_isinstance (by decide +kernel) (pa_cons (pv 0) (pa_cons (pe_cls rfl T.c_NothingLeft) pa_nil))) (pa_cons (pe_callB call_isX (by rfl) T.b_isinstance (by decide +kernel) (pa_cons (pv 0) (pa_cons (pe_cls rfl T.c_TooLarge) pa_nil))) (pa_cons (pe_callB call_isX (by rfl) T.b_isinstance (by decide +kernel) (pa_cons (pv 0) (pa_cons (pe_cls rfl T.c_Trouble) pa_nil))) pa_nil)))))))))))))), ?_⟩
    refine q_asgL (el_lst (ea_cons (ev_isX (ev_var rfl) ev_c x0 Te (.own _) (T.tab.own k 0 hk (by decide))) (ea_cons (ev_isX (ev_var rfl) ev_c x0 Te (.own _) (T.tab.own k 1 hk (by decide))) (ea_cons (ev_isX (ev_var rfl) ev_c x0 Te (.own _) (T.tab.own k 2 hk (by decide))) ea_nil))) (by show 3 ≤ 100000; decide)) fun p0 H0 n0 e0 h0 => ?_
    have x1 := Xn.ex x0 e0
    refine q_asgL (el_cat1 (ev_var rfl) h0 (el_lst (ea_cons (ev_isX (ev_var rfl) ev_c x1 Te (.own _) (T.tab.own k 3 hk (by decide))) (ea_cons (ev_isX (ev_var rfl) ev_c x1 Te (.own _) (T.tab.own k 4 hk (by decide))) (ea_cons (ev_isX (ev_var rfl) ev_c x1 Te (.own _) (T.tab.own k 5 hk (by decide))) ea_nil))) (by show 3 ≤ 100000; decide)) (by show 3 + 3 ≤ 100000; decide)) fun p1 H1 n1 e1 h1 => ?_
    have x2 := Xn.ex x1 e1
    refine q_asgL (el_cat1 (ev_var rfl) h1 (el_lst (ea_cons (ev_isX (ev_var rfl) ev_c x2 Te (.own _) (T.tab.own k 6 hk (by decide))) (ea_cons (ev_isX (ev_var rfl) ev_c x2 Te (.own _) (T.tab.own k 7 hk (by decide))) (ea_cons (ev_isX (ev_var rfl) ev_c x2 Te (.own _) (T.tab.own k 8 hk (by decide))) ea_nil))) (by show 3 ≤ 100000; decide)) (by show 6 + 3 ≤ 100000; decide)) fun p2 H2 n2 e2 h2 => ?_
    have x3 := Xn.ex x2 e2
    refine q_asgL (el_cat1 (ev_var rfl) h2 (el_lst (ea_cons (ev_isX (ev_var rfl) ev_c x3 Te (.own _) (T.tab.own k 9 hk (by decide))) (ea_cons (ev_isX (ev_var rfl) ev_c x3 Te (.own _) (T.tab.own k 10 hk (by decide))) (ea_cons (ev_isX (ev_var rfl) ev_c x3 Te (.own _) (T.tab.own k 11 hk (by decide))) ea_nil))) (by show 3 ≤ 100000; decide)) (by show 9 + 3 ≤ 100000; decide)) fun p3 H3 n3 e3 h3 => ?_
    have x4 := Xn.ex x3 e3
    refine q_asgL (el_cat1 (ev_var rfl) h3 (el_lst (ea_cons (ev_isX (ev_var rfl) ev_c x4 Te (.own _) (T.tab.own k 12 hk (by decide))) (ea_cons (ev_isX (ev_var rfl) ev_c x4 Te (.own _) (T.tab.own k 13 hk (by decide))) (ea_cons (ev_isX (ev_var rfl) ev_c x4 Te (.own _) (T.tab.own k 14 hk (by decide))) ea_nil))) (by show 3 ≤ 100000; decide)) (by show 12 + 3 ≤ 100000; decide)) fun p4 H4 n4 e4 h4 => ?_
    have x5 := Xn.ex x4 e4
    refine q_asgL (el_cat1 (ev_var rfl) h4 (el_lst (ea_cons (ev_isX (ev_var rfl) ev_c x5 Te (.own _) (T.tab.own k 15 hk (by decide))) (ea_cons (ev_isX (ev_var rfl) ev_c x5 Te (.own _) (T.tab.own k 16 hk (by decide))) (ea_cons (ev_isX (ev_var rfl) ev_c x5 Te (.own _) (T.tab.own k 17 hk (by decide))) ea_nil))) (by show 3 ≤ 100000; decide)) (by show 15 + 3 ≤ 100000; decide)) fun p5 H5 n5 e5 h5 => ?_
    have x6 := Xn.ex x5 e5
    refine q_asgL (el_cat1 (ev_var rfl) h5 (el_lst (ea_cons (ev_isX (ev_var rfl) ev_c x6 Te (.own _) (T.tab.own k 18 hk (by decide))) (ea_cons (ev_isX (ev_var rfl) ev_c x6 Te (.own _) (T.tab.own k 19 hk (by decide))) (ea_cons (ev_isX (ev_var rfl) ev_c x6 Te (.own _) (T.tab.own k 20 hk (by decide))) ea_nil))) (by show 3 ≤ 100000; decide)) (by show 18 + 3 ≤ 100000; decide)) fun p6 H6 n6 e6 h6 => ?_
    have x7 := Xn.ex x6 e6
    refine s_retL (el_cat1 (ev_var rfl) h6 (el_lst (ea_cons (ev_isX (ev_var rfl) ev_c x7 Te (.own _) (T.tab.own k 21 hk (by decide))) (ea_cons (ev_isX (ev_var rfl) ev_c x7 Te (.own _) (T.tab.own k 22 hk (by decide))) (ea_cons (ev_isX (ev_var rfl) ev_c x7 Te (.own _) (T.tab.own k 23 hk (by decide))) ea_nil))) (by show 3 ≤ 100000; decide)) (by show 21 + 3 ≤ 100000; decide)) fun p7 H7 n7 e7 h7 => ?_
    exact kk p7 H7 (fresh_back ((((((e0.trans e1).trans e2).trans e3).trans e4).trans e5).trans e6) n7) (((((((e0.trans e1).trans e2).trans e3).trans e4).trans e5).trans e6).trans e7) h7
abbrev s_law_families : Stmt := top 38
theorem sc_law_families : FnScope ["_law_error", "_law_found"] ["_law_error"] (defScope s_law_families) := ⟨rfl, rfl, rfl, by decide +kernel, rfl, by decide +kernel, by decide +kernel⟩
theorem ok_law_families {f : Addr} {fd : FuncData} (F : Fun K "_law_families" "_law_families" s_law_families f fd) (T : Tx K mg c f₀) : FnOk P w K mg base CX0 1 f fd ["_law_error"] (spKinds c famsV) := by
  refine F.ok sc_law_families (fun vs H Q E h => ?_) (fun cdv A outer s H vs Q E hr h => ?_)
  · obtain ⟨a, k, d, rfl, _⟩ := h
    rfl
  · obtain ⟨a, k, d, rfl, hk, x0, kk⟩ := h
    have Te := T.ec k hk
    refine ⟨_, (pss_cons (ps_set (i := 1) sc_law_families.nd rfl (Or.inl rfl) (pe_lst (pa_cons (pe_callB call_isX (by rfl) T.b_isinstance (by decide +kernel) (pa_cons (pv 0) (pa_cons (pe_cls rfl T.c_TextError) pa_nil))) (pa_cons (pe_callB call_isX (by rfl) T.b_isinstance (by decide +kernel) (pa_cons (pv 0) (pa_cons (pe_cls rfl T.c_ValueTrouble) pa_nil))) (pa_cons (pe_callB call_isX (by rfl) T.b_isinstance (by decide +kernel) (pa_cons (pv 0) (pa_cons (pe_cls rfl T.c_LookupTrouble) pa_nil))) pa_nil)))))
  (pss_cons (ps_set (i := 1) sc_law_families.nd rfl (Or.inl rfl) (pe_op op_cat (pv 1) (pe_lst (pa_cons (pe_callB call_isX (by rfl) T.b_isinstance (by decide +kernel) (pa_cons (pv 0) (pa_cons (pe_cls rfl T.c_StateTrouble) pa_nil))) (pa_cons (pe_callB call_isX (by rfl) T.b_isinstance (by decide +kernel) (pa_cons (pv 0) (pa_cons (pe_cls rfl T.c_LimitTrouble) pa_nil))) (pa_cons (pe_callB call_isX (by rfl) T.b_isinstance (by decide +kernel) (pa_cons (pv 0) (pa_cons (pe_bT (T := "ValueError") (by rfl) T.b_ValueError (by decide +kernel)) pa_nil))) pa_nil))))))
  (pss_cons (ps_set (i := 1) sc_law_families.nd rfl (Or.inl rfl) (pe_op op_cat (pv 1) (pe_lst (pa_cons (pe_callB call_isX (by rfl) T.b_isinstance (by decide +kernel) (pa_cons (pv 0) (pa_cons (pe_bT (T := "ArithmeticError") (by rfl) T.b_ArithmeticError (by decide +kernel)) pa_nil))) (pa_cons (pe_callB call_isX (by rfl) T.b_isinstance (by decide +kernel) (pa_cons (pv 0) (pa_cons (pe_bT (T := "LookupError") (by rfl) T.b_LookupError (by decide +kernel)) pa_nil))) pa_nil)))))
  (pss_cons (ps_set (i := 1) sc_law_families.nd rfl (Or.inl rfl) (pe_op op_cat (pv 1) (pe_lst (pa_cons (pe_callB call_isX (by rfl) T.b_isinstance (by decide +kernel) (pa_cons (pv 0) (pa_cons (pe_bT (T := "RuntimeError") (by rfl) T.b_RuntimeError (by decide +kernel)) pa_nil))) (pa_cons (pe_callB call_isX (by rfl) T.b_isinstance (by decide +kernel) (pa_cons (pv 0) (pa_cons (pe_bT (T := "OverflowError") (by rfl) T.b_OverflowError (by decide +kernel)) pa_nil))) pa_nil)))))
  (pss_one (ps_ret (pe_op op_cat (pv 1) (pe_lst (pa_cons (pe_callB call_isXT (by rfl) T.b_isinstance (by decide +kernel) (pa_cons (pv 0) (pa_cons (pe_tup (pa_cons (pe_bT (T := "KeyError") (by rfl) T.b_KeyError (by decide +kernel)) (pa_cons (pe_bT (T := "IndexError") (by rfl) T.b_IndexError (by decide +kernel)) (pa_cons (pe_bT (T := "NotImplementedError") (by rfl) T.b_NotImplementedError (by decide +kernel)) (pa_cons (pe_bT (T := "ZeroDivisionError") (by rfl) T.b_ZeroDivisionError (by decide +kernel)) pa_nil))))) pa_nil))) pa_nil))))))))), ?_⟩
    refine q_asgL (el_lst (ea_cons (ev_isX (ev_var rfl) ev_c x0 Te (.own _) (T.tab.fam k 0 hk (by decide))) (ea_cons (ev_isX (ev_var rfl) ev_c x0 Te (.own _) (T.tab.fam k 1 hk (by decide))) (ea_cons (ev_isX (ev_var rfl) ev_c x0 Te (.own _) (T.tab.fam k 2 hk (by decide))) ea_nil))) (by show 3 ≤ 100000; decide)) fun p0 H0 n0 e0 h0 => ?_
    have x1 := Xn.ex x0 e0
    refine q_asgL (el_cat1 (ev_var rfl) h0 (el_lst (ea_cons (ev_isX (ev_var rfl) ev_c x1 Te (.own _) (T.tab.fam k 3 hk (by decide))) (ea_cons (ev_isX (ev_var rfl) ev_c x1 Te (.own _) (T.tab.fam k 4 hk (by decide))) (ea_cons (ev_isX (ev_var rfl) ev_c x1 Te (.ty _) (T.tab.blt k 0 hk (by decide))) ea_nil))) (by show 3 ≤ 100000; decide)) (by show 3 + 3 ≤ 100000; decide)) fun p1 H1 n1 e1 h1 => ?_
    have x2 := Xn.ex x1 e1
    refine q_asgL (el_cat1 (ev_var rfl) h1 (el_lst (ea_cons (ev_isX (ev_var rfl) ev_c x2 Te (.ty _) (T.tab.blt k 1 hk (by decide))) (ea_cons (ev_isX (ev_var rfl) ev_c x2 Te (.ty _) (T.tab.blt k 2 hk (by decide))) ea_nil)) (by show 2 ≤ 100000; decide)) (by show 6 + 2 ≤ 100000; decide)) fun p2 H2 n2 e2 h2 => ?_
    have x3 := Xn.ex x2 e2
    refine q_asgL (el_cat1 (ev_var rfl) h2 (el_lst (ea_cons (ev_isX (ev_var rfl) ev_c x3 Te (.ty _) (T.tab.blt k 3 hk (by decide))) (ea_cons (ev_isX (ev_var rfl) ev_c x3 Te (.ty _) (T.tab.blt k 4 hk (by decide))) ea_nil)) (by show 2 ≤ 100000; decide)) (by show 8 + 2 ≤ 100000; decide)) fun p3 H3 n3 e3 h3 => ?_
    have x4 := Xn.ex x3 e3
    refine s_retL (el_cat1 (ev_var rfl) h3 (el_lst (ea_cons (ev_isXT (ev_var rfl) x4 Te (.cons (.ty _) (.cons (.ty _) (.cons (.ty _) (.cons (.ty _) .nil)))) (T.tab.oth k hk)) ea_nil) (by show 1 ≤ 100000; decide)) (by show 10 + 1 ≤ 100000; decide)) fun p4 H4 n4 e4 h4 => ?_
    exact kk p4 H4 (fresh_back (((e0.trans e1).trans e2).trans e3) n4) ((((e0.trans e1).trans e2).trans e3).trans e4) h4
abbrev s_law_fields : Stmt := top 39
theorem sc_law_fields : FnScope ["_law_some", "_law_found"] ["_law_some"] (defScope s_law_fields) := ⟨rfl, rfl, rfl, by decide +kernel, rfl, by decide +kernel, by decide +kernel⟩
theorem ok_law_fields {f : Addr} {fd : FuncData} (F : Fun K "_law_fields" "_law_fields" s_law_fields f fd) (T : Tx K mg c f₀) : FnOk P w K mg base CX0 1 f fd ["_law_some"] (spFields c) := by
  refine F.ok sc_law_fields (fun vs H Q E h => ?_) (fun cdv A outer s H vs Q E hr h => ?_)
  · obtain ⟨a, xs, one, rfl, _⟩ := h
    rfl
  · obtain ⟨a, xs, one, rfl, ha, sg, kk⟩ := h
    obtain ⟨hl, hx⟩ := sg
    have y0 : Row a c one H := ⟨xs, ha, hl, fun j v hj => by have y := hx j v hj; rw [Nat.zero_add] at y; exact y⟩
    refine ⟨_, (pss_cons (ps_set (i := 1) sc_law_fields.nd rfl (Or.inl rfl) (pe_lst (pa_cons (pe_xo (pe_ix ix_list (pv 0) pe_int (fun _ _ => rfl))) (pa_cons (pe_xo (pe_ix ix_list (pv 0) pe_int (fun _ _ => rfl))) (pa_cons (pe_xo (pe_ix ix_list (pv 0) pe_int (fun _ _ => rfl))) (pa_cons (pe_xo (pe_ix ix_list (pv 0) pe_int (fun _ _ => rfl))) (pa_cons (pe_xo (pe_ix ix_list (pv 0) pe_int (fun _ _ => rfl))) (pa_cons (pe_xo (pe_ix ix_list (pv 0) pe_int (fun _ _ => rfl))) (pa_cons (pe_xo (pe_ix ix_list (pv 0) pe_int (fun _ _ => rfl))) pa_nil)))))))))
  (pss_cons (ps_set (i := 1) sc_law_fields.nd rfl (Or.inl rfl) (pe_op op_cat (pv 1) (pe_lst (pa_cons (pe_xo (pe_ix ix_list (pv 0) pe_int (fun _ _ => rfl))) (pa_cons (pe_xo (pe_ix ix_list (pv 0) pe_int (fun _ _ => rfl))) (pa_cons (pe_xo (pe_ix ix_list (pv 0) pe_int (fun _ _ => rfl))) (pa_cons (pe_xo (pe_ix ix_list (pv 0) pe_int (fun _ _ => rfl))) (pa_cons (pe_xo (pe_ix ix_list (pv 0) pe_int (fun _ _ => rfl))) (pa_cons (pe_xo (pe_ix ix_list (pv 0) pe_int (fun _ _ => rfl))) pa_nil)))))))))
  (pss_cons (ps_set (i := 1) sc_law_fields.nd rfl (Or.inl rfl) (pe_op op_cat (pv 1) (pe_lst (pa_cons (pe_xo (pe_ix ix_list (pv 0) pe_int (fun _ _ => rfl))) (pa_cons (pe_xo (pe_ix ix_list (pv 0) pe_int (fun _ _ => rfl))) (pa_cons (pe_xo (pe_ix ix_list (pv 0) pe_int (fun _ _ => rfl))) (pa_cons (pe_xo (pe_ix ix_list (pv 0) pe_int (fun _ _ => rfl))) (pa_cons (pe_xo (pe_ix ix_list (pv 0) pe_int (fun _ _ => rfl))) (pa_cons (pe_xo (pe_ix ix_list (pv 0) pe_int (fun _ _ => rfl))) pa_nil)))))))))
  (pss_cons (ps_set (i := 1) sc_law_fields.nd rfl (Or.inl rfl) (pe_op op_cat (pv 1) (pe_lst (pa_cons (pe_xo (pe_ix ix_list (pv 0) pe_int (fun _ _ => rfl))) (pa_cons (pe_xo (pe_ix ix_list (pv 0) pe_int (fun _ _ => rfl))) (pa_cons (pe_xo (pe_ix ix_list (pv 0) pe_int (fun _ _ => rfl))) (pa_cons (pe_xo (pe_ix ix_list (pv 0) pe_int (fun _ _ => rfl))) (pa_cons (pe_xo (pe_ix ix_list (pv 0) pe_int (fun _ _ => rfl))) pa_nil))))))))
  (pss_one (ps_ret (pe_op op_catN (pv 1) (pe_lst (pa_cons (pe_xo (pe_ix ix_list (pv 0) pe_int (fun _ _ => rfl))) (pa_cons (pe_xo (pe_ix ix_list (pv 0) pe_int (fun _ _ => rfl))) pa_nil)))))))))), ?_⟩
    refine q_asgL (el_lst (ea_cons (ev_fld T y0 (k := 0) (f := "column") (by decide) rfl rfl rfl (by decide) (by decide)) (ea_cons (ev_fld T y0 (k := 1) (f := "given") (by decide) rfl rfl rfl (by decide) (by decide)) (ea_cons (ev_fld T y0 (k := 2) (f := "index") (by decide) rfl rfl rfl (by decide) (by decide)) (ea_cons (ev_fld T y0 (k := 3) (f := "line") (by decide) rfl rfl rfl (by decide) (by decide)) (ea_cons (ev_fld T y0 (k := 4) (f := "given") (by decide) rfl rfl rfl (by decide) (by decide)) (ea_cons (ev_fld T y0 (k := 5) (f := "row") (by decide) rfl rfl rfl (by decide) (by decide)) (ea_cons (ev_fld T y0 (k := 5) (f := "word") (by decide) rfl rfl rfl (by decide) (by decide)) ea_nil))))))) (by show 7 ≤ 100000; decide)) fun p0 H0 n0 e0 h0 => ?_
    have y1 := Row.ex y0 e0
    refine q_asgL (el_cat1 (ev_var rfl) h0 (el_lst (ea_cons (ev_fld T y1 (k := 6) (f := "row") (by decide) rfl rfl rfl (by decide) (by decide)) (ea_cons (ev_fld T y1 (k := 6) (f := "form") (by decide) rfl rfl rfl (by decide) (by decide)) (ea_cons (ev_fld T y1 (k := 7) (f := "given") (by decide) rfl rfl rfl (by decide) (by decide)) (ea_cons (ev_fld T y1 (k := 8) (f := "given") (by decide) rfl rfl rfl (by decide) (by decide)) (ea_cons (ev_fld T y1 (k := 9) (f := "given") (by decide) rfl rfl rfl (by decide) (by decide)) (ea_cons (ev_fld T y1 (k := 10) (f := "path") (by decide) rfl rfl rfl (by decide) (by decide)) ea_nil)))))) (by show 6 ≤ 100000; decide)) (by show 7 + 6 ≤ 100000; decide)) fun p1 H1 n1 e1 h1 => ?_
    have y2 := Row.ex y1 e1
    refine q_asgL (el_cat1 (ev_var rfl) h1 (el_lst (ea_cons (ev_fld T y2 (k := 12) (f := "given") (by decide) rfl rfl rfl (by decide) (by decide)) (ea_cons (ev_fld T y2 (k := 13) (f := "path") (by decide) rfl rfl rfl (by decide) (by decide)) (ea_cons (ev_fld T y2 (k := 14) (f := "given") (by decide) rfl rfl rfl (by decide) (by decide)) (ea_cons (ev_fld T y2 (k := 15) (f := "address") (by decide) rfl rfl rfl (by decide) (by decide)) (ea_cons (ev_fld T y2 (k := 16) (f := "names") (by decide) rfl rfl rfl (by decide) (by decide)) (ea_cons (ev_fld T y2 (k := 17) (f := "names") (by decide) rfl rfl rfl (by decide) (by decide)) ea_nil)))))) (by show 6 ≤ 100000; decide)) (by show 13 + 6 ≤ 100000; decide)) fun p2 H2 n2 e2 h2 => ?_
    have y3 := Row.ex y2 e2
    refine q_asgL (el_cat1 (ev_var rfl) h2 (el_lst (ea_cons (ev_fld T y3 (k := 18) (f := "path") (by decide) rfl rfl rfl (by decide) (by decide)) (ea_cons (ev_fld T y3 (k := 19) (f := "names") (by decide) rfl rfl rfl (by decide) (by decide)) (ea_cons (ev_fld T y3 (k := 20) (f := "section") (by decide) rfl rfl rfl (by decide) (by decide)) (ea_cons (ev_fld T y3 (k := 20) (f := "index") (by decide) rfl rfl rfl (by decide) (by decide)) (ea_cons (ev_fld T y3 (k := 22) (f := "limit") (by decide) rfl rfl rfl (by decide) (by decide)) ea_nil))))) (by show 5 ≤ 100000; decide)) (by show 19 + 5 ≤ 100000; decide)) fun p3 H3 n3 e3 h3 => ?_
    have y4 := Row.ex y3 e3
    refine s_retLN (eln_cat1 (ev_var rfl) h3 (el_lst (ea_cons (ev_fld T y4 (k := 23) (f := "origin") (by decide) rfl rfl rfl (by decide) (by decide)) (ea_cons (ev_fld T y4 (k := 23) (f := "cause") (by decide) rfl rfl rfl (by decide) (by decide)) ea_nil)) (by show 2 ≤ 100000; decide)) (by show 24 + 2 ≤ 100000; decide)) fun p4 H4 n4 s4 e4 h4 => ?_
    exact kk p4 H4 (fresh_back (((e0.trans e1).trans e2).trans e3) n4) s4 ((((e0.trans e1).trans e2).trans e3).trans e4) h4
end
end M1

set_option maxHeartbeats 4000000
namespace M1
open PySem PySem.Spec PyProof.Rows L2 Evl TL Gd
/-! ### the data of a row of fields -/
def duesD (d : PyData) : List PyData := [d, d, d, d, d, d, .int 1, d, .int 2, d, d, d, d, d, d, d, d, d, d, d, d, d, .int 3, d, d, .int 4]
theorem Dat_of {P : Program} {w : World} {K : PySem.W.Frag} {B B' : Prop} {H : Hp} {v : V} {d : PyData} (x : Dat P w K B H v d) (h : B' → B) : Dat P w K B' H v d := fun H1 e hh ok X u r => by
  obtain ⟨as, a1, a2⟩ := x H1 e hh ok X u r
  exact ⟨as, a1, fun b => a2 (h b)⟩
section
variable {P : Program} {w : World} {K : PySem.W.Frag} {H : Hp} {one : V} {d : PyData}
theorem dues_hd (h : (PyData.list (duesD d)).hasDict = true) : d.hasDict = true := by
  cases e : d.hasDict with
  | true => rfl
  | false => simp [duesD, PyData.hasDict, PyData.hasDictAll, e] at h
theorem dues_show (h : PyData.showable d = true) : PyData.showable (.list (duesD d)) = true := by
  have s1 : PyData.showable (.int 1) = true := by decide +kernel
  have s2 : PyData.showable (.int 2) = true := by decide +kernel
  have s3 : PyData.showable (.int 3) = true := by decide +kernel
  have s4 : PyData.showable (.int 4) = true := by decide +kernel
  simp only [duesD, PyData.showable.eq_5, PyData.showableAll, h, s1, s2, s3, s4, Bool.and_self]
theorem dues_depth (h : d.depth ≤ 50) : (PyData.list (duesD d)).depth ≤ 100 := by
  have e1 : (PyData.int 1).depth = 0 := by decide +kernel
  have e2 : (PyData.int 2).depth = 0 := by decide +kernel
  have e3 : (PyData.int 3).depth = 0 := by decide +kernel
  have e4 : (PyData.int 4).depth = 0 := by decide +kernel
  simp only [duesD, PyData.depth.eq_1, PyData.depthAll, e1, e2, e3, e4]
  omega
theorem dues_len (h : d.shown.length ≤ 100) : (PyData.list (duesD d)).shown.length ≤ sizeLine := by
  have e1 : (PyData.int 1).shown.length = 1 := by decide +kernel
  have e2 : (PyData.int 2).shown.length = 1 := by decide +kernel
  have e3 : (PyData.int 3).shown.length = 1 := by decide +kernel
  have e4 : (PyData.int 4).shown.length = 1 := by decide +kernel
  have q := listText_len_le (PyData.shownAll (duesD d))
  have e : (PyData.list (duesD d)).shown = listText (PyData.shownAll (duesD d)) := by simp only [PyData.shown]
  rw [e, sizeLine_eq]
  refine Nat.le_trans q ?_
  simp only [duesD, PyData.shownAll, List.map_cons, List.map_nil, List.sum_cons, List.sum_nil, List.length_cons, List.length_nil, e1, e2, e3, e4]
  omega
theorem dues_dat {B : Prop} (x : Dat P w K B H one d) : DatAll P w K B H (duesV one) (duesD d) := by
  unfold duesV duesD
  repeat (first | exact dats_nil | refine dats_cons x ?_ | refine dats_cons (dat_int _) ?_)
theorem ev_reprL {σ : L2.St} {a : Addr} {i : Nat} (hi : σ[i]? = some (some (.ref a))) (ha : H a = some (.lst (duesV one))) (na : a ≠ sysModules) (x : Dat P w K (d.hasDict = true) H one d) (h1 : PyData.showable d = true) (h2 : d.depth ≤ 50) (h3 : d.shown.length ≤ 100) :
    Ev (tCB (rReprD P w K) (tCons (tVar i) tNil)) σ H (.str (PyData.list (duesD d)).shown) :=
  ev_cb (ea_cons (ev_var hi) ea_nil) fun H1 e Q q => ⟨a, _, rfl, dat_lst (e a _ ha) (dues_dat (Dat_of (x.ex e) dues_hd)) (fun _ => na), dues_show h1, dues_depth h2, dues_len h3, q H1 (Ex.refl H1)⟩
theorem ev_reprN {σ : L2.St} {te : TE} (h : EvLN te σ H (duesV one)) (x : Dat P w K (d.hasDict = true) H one d) (h1 : PyData.showable d = true) (h2 : d.depth ≤ 50) (h3 : d.shown.length ≤ 100) :
    Ev (tCB (rReprD P w K) (tCons te tNil)) σ H (.str (PyData.list (duesD d)).shown) := fun H1 e Q q => by
  show te σ H1 (fun v G => tNil σ G fun ys G2 => rReprD P w K (v :: ys) G2 Q)
  exact h H1 e _ fun a H2 _ na e2 ha => ⟨a, _, rfl, dat_lst ha (dues_dat (Dat_of (x.ex (e.trans e2)) dues_hd)) (fun _ => na), dues_show h1, dues_depth h2, dues_len h3, q H2 e2⟩
end
/-! ### rows of truths -/
def kindsB (k : Nat) : List Bool := (List.range 24).map fun j => decide (k = j)
def famsB (k : Nat) : List Bool := ((List.range 5).map fun j => decide (famOf k = j)) ++ ((List.range 5).map fun j => ofBt k j) ++ [false]
def bD (bs : List Bool) : PyData := .list (bs.map .bool)
theorem dpB {K : PySem.W.Frag} {H : Hp} : ∀ bs : List Bool, DpAll K H (bs.map V.bl) (bs.map .bool)
  | [] => .nil
  | b :: r => .cons (.bl b) (dpB r)
theorem rv_neB {K : PySem.W.Frag} {H : Hp} {p q : Addr} {bs : List Bool} (hp : H p = some (.lst (bs.map V.bl))) (hq : H q = some (.lst (bs.map V.bl))) (hs : SeqAt.shaped (bD bs) = true) (he : PyData.eqv (bD bs) (bD bs) = true) : RV (rNeD K) (.ref p) (.ref q) H (.bl false) :=
  fun H1 e Q k => ⟨bD bs, bD bs, .lst (sq_of (e _ _ hp)) (dpB bs), .lst (sq_of (e _ _ hq)) (dpB bs), hs, hs, by rw [he]; exact k H1 (Ex.refl H1)⟩
theorem kinds_ok : ∀ k, k < 24 → SeqAt.shaped (bD (kindsB k)) = true ∧ PyData.eqv (bD (kindsB k)) (bD (kindsB k)) = true := by decide +kernel
theorem fams_ok : ∀ k, k < 24 → SeqAt.shaped (bD (famsB k)) = true ∧ PyData.eqv (bD (famsB k)) (bD (famsB k)) = true := by decide +kernel
theorem kinds_eq (k : Nat) : kindsV k = (kindsB k).map V.bl := rfl
theorem fams_eq (k : Nat) : famsV k = (famsB k).map V.bl := rfl
theorem el_lcNT {K : PySem.W.Frag} {σ : L2.St} {H : Hp} {xs : List V} {tl te : TE} {t : TT} {j : Nat} {vs : List Nat} (f : Nat → Bool) (v : Nat → V) (h : EvU tl σ H xs) (hz : xs.length ≤ 40000) (hw : ∀ x, wipe ((wipe σ vs).set j (some x)) vs = wipe σ vs)
    (ht : ∀ (i : Nat) (x : V) H1, Ex H H1 → xs[i]? = some x → EvT t ((wipe σ vs).set j (some x)) H1 (f i)) (he : ∀ (i : Nat) (x : V) H1, Ex H H1 → xs[i]? = some x → f i = true → Ev te ((wipe σ vs).set j (some x)) H1 (v i)) :
    EvL (tLc (iTup K tl) (gName j) t te vs) σ H (given xs.length f v) := fun H0 e Q q => h H0 e _ fun a H1 ha e1 hx => ⟨a, rfl, ⟨xs, st_of hx⟩, fun Dl hD =>
  lc_tup (xs := xs) (Cw H1 f v Dl) ⟨hD, Ex.new hD, upd_same⟩ (fun i H' _ p => st_of (p.2.1 a _ hx)) (fun i x H' hi p => ⟨hw x, cw_turn p (by have := (List.getElem?_eq_some_iff.mp hi).1; omega) (ht i x H1 (e.trans e1) hi) (fun hf => he i x H1 (e.trans e1) hi hf)⟩)
    (fun H' p => q Dl H' (fresh_back e1 p.1) (e1.trans p.2.1) p.2.2)⟩
theorem el_to {σ : L2.St} {H : Hp} {te : TE} {xs ys : List V} (h : EvL te σ H xs) (e : xs = ys) : EvL te σ H ys := e ▸ h
theorem ev_to {σ : L2.St} {H : Hp} {te : TE} {x y : V} (h : Ev te σ H x) (e : x = y) : Ev te σ H y := e ▸ h
theorem et_true {σ : L2.St} {H : Hp} : EvT tYes σ H true := fun H1 _ _ q => q H1 (Ex.refl H1)
theorem scal_of {z x : V} {xs : List V} {j : Nat} (h : xs.all (fun y => scal z y) = true) (hj : xs[j]? = some x) : scal z x = true := List.all_eq_true.mp h x (List.mem_of_getElem? hj)
def knownB (k : Nat) : List Bool := ([0, 1, 2, 3, 4, 0].map fun j => decide (famOf k = j)) ++ [decide (famOf k = 1) || decide (famOf k = 4)]
theorem givens : ∀ k, k < 24 → given (24 : Int).toNat (fun _ => true) (fun j => .bl (decide (V.int (j : Nat) = V.int (k : Nat)))) = (kindsB k).map V.bl := by decide +kernel
theorem knowns : ∀ k, k < 24 → given [V.int 0, .int 1, .int 2, .int 3, .int 4, .int 0].length (fun _ => true) (fun j => .bl (decide (V.int (famOf k : Nat) = ([V.int 0, .int 1, .int 2, .int 3, .int 4, .int 0].getD j .non)))) ++ [.bl (inV (.int (famOf k : Nat)) [.int 1, .int 4])] = (knownB k).map V.bl := by decide +kernel
theorem fams_is : ∀ k, k < 24 → ((knownB k).map V.bl ++ given [V.int 2, .int 3, .int 4].length (fun _ => true) (fun j => .bl (decide (V.int (famOf k : Nat) = ([V.int 2, .int 3, .int 4].getD j .non))))) ++ [.bl false] = (famsB k).map V.bl := by decide +kernel
theorem fam_if {σ : L2.St} {H : Hp} {i : Nat} {m : Nat} (hi : σ[m]? = some (some (.int (i : Nat)))) {lt eq : R2} (hlt : ∀ (z : Int) (H1 : Hp), RV lt (.int (i : Nat)) (.int z) H1 (.bl (decide ((i : Int) < z)))) (heq : ∀ (z : Int) (H1 : Hp), RV eq (.int (i : Nat)) (.int z) H1 (.bl (decide (V.int (i : Nat) = V.int z)))) :
    Ev (tIf (tTest (tOp lt (tVar m) (tC (.int 10)))) (tC (.int 0)) (tIf (tTest (tOp lt (tVar m) (tC (.int 13)))) (tC (.int 1)) (tIf (tTest (tOp lt (tVar m) (tC (.int 16)))) (tC (.int 2)) (tIf (tTest (tOp lt (tVar m) (tC (.int 22)))) (tC (.int 3)) (tIf (tTest (tOp eq (tVar m) (tC (.int 22)))) (tC (.int 4)) (tC (.int 9))))))) σ H (.int (famOf i : Nat)) := by
  have g : ∀ z : Int, EvT (tTest (tOp lt (tVar m) (tC (.int z)))) σ H (decide ((i : Int) < z)) := fun z => et_test (ev_op (ev_var hi) ev_c (hlt z H))
  refine ev_if (g 10) (fun h => ev_to ev_c ?_) fun h1 => ev_if (g 13) (fun h => ev_to ev_c ?_) fun h2 => ev_if (g 16) (fun h => ev_to ev_c ?_) fun h3 => ev_if (g 22) (fun h => ev_to ev_c ?_) fun h4 => ev_if (et_test (ev_op (ev_var hi) ev_c (heq 22 H))) (fun h => ev_to ev_c ?_) fun h5 => ev_to ev_c ?_
  · have h := of_decide_eq_true h
    have e : famOf i = 0 := by unfold famOf; rw [if_pos (by omega)]
    rw [e]; rfl
  · have h1 := of_decide_eq_false h1
    have h := of_decide_eq_true h
    have e : famOf i = 1 := by unfold famOf; rw [if_neg (by omega), if_pos (by omega)]
    rw [e]; rfl
  · have h2 := of_decide_eq_false h2
    have h1 := of_decide_eq_false h1
    have h := of_decide_eq_true h
    have e : famOf i = 2 := by unfold famOf; rw [if_neg (by omega), if_neg (by omega), if_pos (by omega)]
    rw [e]; rfl
  · have h3 := of_decide_eq_false h3
    have h2 := of_decide_eq_false h2
    have h1 := of_decide_eq_false h1
    have h := of_decide_eq_true h
    have e : famOf i = 3 := by unfold famOf; rw [if_neg (by omega), if_neg (by omega), if_neg (by omega), if_pos (by omega)]
    rw [e]; rfl
  · have h := V.int.inj (of_decide_eq_true h)
    have e : famOf i = 4 := by unfold famOf; rw [if_neg (by omega), if_neg (by omega), if_neg (by omega), if_neg (by omega), if_pos (by omega)]
    rw [e]; rfl
  · have h4 := of_decide_eq_false h4
    have h3 := of_decide_eq_false h3
    have h2 := of_decide_eq_false h2
    have h1 := of_decide_eq_false h1
    have h5 := of_decide_eq_false h5
    have n22 : i ≠ 22 := fun z => h5 (by rw [z]; rfl)
    have e : famOf i = 9 := by unfold famOf; rw [if_neg (by omega), if_neg (by omega), if_neg (by omega), if_neg (by omega), if_neg n22]
    rw [e]; rfl
/-- _law_right: a row of exceptions of one -/
def spRight (P : Program) (w : World) (K : PySem.W.Frag) (c : Nat → Addr) : Sp := fun vs H Q _ => ∃ (a : Addr) (one : V) (d : PyData), vs = [.ref a, one] ∧ Row a c one H ∧ Dat P w K (d.hasDict = true) H one d ∧ PyData.showable d = true ∧ d.depth ≤ 50 ∧ d.shown.length ≤ 100 ∧ RetV (.bl true) H Q
section
variable {P : Program} {w : World} {K : PySem.W.Frag} {mg : Str → Option Value} {base : Heap} {c f₀ : Nat → Addr}
theorem el_kinds {σ : L2.St} {H : Hp} {E : XK} {i : Nat} {a : Addr} {k : Nat} {d : Option Addr} {r : Nat → List V} (hi : σ[i]? = some (some (.ref a))) (hk : k < 24) (x : Xn H a (c k) d) : EvL (tCall (spKinds c r) [] E (tCons (tVar i) tNil)) σ H (r k) := fun H1 e Q q =>
  ⟨_, hi, a, k, d, rfl, hk, Xn.ex x e, fun p H2 np e2 h2 => q p H2 np e2 h2⟩
theorem eln_fields {σ : L2.St} {H : Hp} {E : XK} {a : Addr} {one : V} {i : Nat} (hi : σ[i]? = some (some (.ref a))) (x : Row a c one H) : EvLN (tCall (spFields c) [] E (tCons (tVar i) tNil)) σ H (duesV one) := fun H1 e Q q => by
  obtain ⟨xs, h1, h2, h3⟩ := x.ex e
  exact ⟨_, hi, a, xs, one, rfl, h1, ⟨h2, fun j v hj => by rw [Nat.zero_add]; exact h3 j v hj⟩, fun p H2 np ns e2 g => q p H2 np ns e2 g⟩
abbrev s_law_right : Stmt := top 40
theorem sc_law_right : FnScope ["_law_some", "_law_one", "_law_due", "_law_k", "_law_error", "_law_family", "_law_known", "_law_at"] ["_law_some", "_law_one"] (defScope s_law_right) := ⟨rfl, rfl, rfl, by decide +kernel, rfl, by decide +kernel, by decide +kernel⟩
theorem ok_law_right {f : Addr} {fd : FuncData} (F : Fun K "_law_right" "_law_right" s_law_right f fd) (T : Tx K mg c f₀) (D_law_fields : Df P w K mg base CX0 1 "_law_fields" ["_law_some"] (spFields c)) (D_law_kinds : Df P w K mg base CX0 1 "_law_kinds" ["_law_error"] (spKinds c kindsV))
    (D_law_families : Df P w K mg base CX0 1 "_law_families" ["_law_error"] (spKinds c famsV)) : GOk P w K mg base CX0 2 f fd ["_law_some", "_law_one"] (spRight P w K c) := by
  refine ok_of0 F sc_law_right (fun vs H Q E h => ?_) (fun cdv A outer s H vs Q E ca hr h => ?_)
  · obtain ⟨a, one, d, rfl, _⟩ := h
    rfl
  · obtain ⟨a, one, d, rfl, row, dat, d1, d2, d3, kk⟩ := h
    refine ⟨_, (pss_cons (ps_set (i := 2) sc_law_right.nd rfl (Or.inl rfl) (pe_op op_catN (pe_op op_cat (pe_op op_cat (pe_op op_cat (pe_op op_cat (pe_op op_rep (pe_lst (pa_cons (pv 1) pa_nil)) pe_int) (pe_lst (pa_cons pe_int (pa_cons (pv 1) (pa_cons pe_int pa_nil))))) (pe_op op_rep (pe_lst (pa_cons (pv 1) pa_nil)) pe_int)) (pe_lst (pa_cons pe_int pa_nil))) (pe_op op_rep (pe_lst (pa_cons (pv 1) pa_nil)) pe_int)) (pe_lst (pa_cons pe_int pa_nil))))
  (pss_cons (ps_if (pt_cmpR op_ne (pe_callB (call_reprD ca hr) (by rfl) T.b_repr (by decide +kernel) (pa_cons (pe_df D_law_fields (hr.mono (by decide)) rfl (pa_cons (pv 0) pa_nil)) pa_nil)) (pe_callB (call_reprD ca hr) (by rfl) T.b_repr (by decide +kernel) (pa_cons (pv 2) pa_nil)) (nomark _))
    (pss_one (ps_ret pe_bl))
    pss_nil)
  (pss_cons (ps_for PassesOwn.never rfl (pi_enum (by rfl) T.b_enumerate (pa_cons (pv 0) pa_nil)) (pg_tup rfl (pgs_cons (pg_name (i := 3) sc_law_right.nd rfl (Or.inr rfl)) (pgs_cons (pg_name (i := 4) sc_law_right.nd rfl (Or.inl rfl)) pgs_nil)))
    (pss_cons (ps_if (pt_cmpR (op_neD hr.units) (pe_df D_law_kinds (hr.mono (by decide)) rfl (pa_cons (pv 4) pa_nil)) (pe_lc (own := [("_law_at", 7)]) (g := gName 7) (tt := tYes) rfl sc_law_right.nd (pi_range1 rfl T.b_range (pa_cons pe_int pa_nil)) (blkOk_by (N := ["_law_some", "_law_one", "_law_due", "_law_k", "_law_error", "_law_family", "_law_known", "_law_at"]) (sc := defScope s_law_right) (by decide +kernel)) (fun _ _ _ _ _ => pg_name (i := 7) sc_law_right.nd rfl (Or.inl rfl)) (fun _ _ _ _ _ => pts_nil) (fun _ _ _ _ _ => (pe_cmpR op_eq (pv 7) (pv 3) (nomark _)))) (nomark _))
        (pss_one (ps_ret pe_bl))
        pss_nil)
      (pss_cons (ps_set (i := 5) sc_law_right.nd rfl (Or.inr rfl) (pe_ifExp (pt_cmpR op_lt (pv 3) pe_int (nomark _)) pe_int (pe_ifExp (pt_cmpR op_lt (pv 3) pe_int (nomark _)) pe_int (pe_ifExp (pt_cmpR op_lt (pv 3) pe_int (nomark _)) pe_int (pe_ifExp (pt_cmpR op_lt (pv 3) pe_int (nomark _)) pe_int (pe_ifExp (pt_cmpR op_eq (pv 3) pe_int (nomark _)) pe_int pe_int))))))
      (pss_cons (ps_set (i := 6) sc_law_right.nd rfl (Or.inl rfl) (pe_op op_cat (pe_lc (own := [("_law_at", 7)]) (g := gName 7) (tt := tYes) rfl sc_law_right.nd (pi_tup (pe_tup (pa_cons pe_int (pa_cons pe_int (pa_cons pe_int (pa_cons pe_int (pa_cons pe_int (pa_cons pe_int pa_nil)))))))) (blkOk_by (N := ["_law_some", "_law_one", "_law_due", "_law_k", "_law_error", "_law_family", "_law_known", "_law_at"]) (sc := defScope s_law_right) (by decide +kernel)) (fun _ _ _ _ _ => pg_name (i := 7) sc_law_right.nd rfl (Or.inl rfl)) (fun _ _ _ _ _ => pts_nil) (fun _ _ _ _ _ => (pe_cmpR op_eq (pv 5) (pv 7) (nomark _)))) (pe_lst (pa_cons (pe_cmpR op_in_seq (pv 5) (pe_tup (pa_cons pe_int (pa_cons pe_int pa_nil))) rfl) pa_nil))))
      (pss_one (ps_if (pt_cmpR (op_neD hr.units) (pe_df D_law_families (hr.mono (by decide)) rfl (pa_cons (pv 4) pa_nil)) (pe_op op_cat (pe_op op_cat (pv 6) (pe_lc (own := [("_law_at", 7)]) (g := gName 7) (tt := tYes) rfl sc_law_right.nd (pi_tup (pe_tup (pa_cons pe_int (pa_cons pe_int (pa_cons pe_int pa_nil))))) (blkOk_by (N := ["_law_some", "_law_one", "_law_due", "_law_k", "_law_error", "_law_family", "_law_known", "_law_at"]) (sc := defScope s_law_right) (by decide +kernel)) (fun _ _ _ _ _ => pg_name (i := 7) sc_law_right.nd rfl (Or.inl rfl)) (fun _ _ _ _ _ => pts_nil) (fun _ _ _ _ _ => (pe_cmpR op_eq (pv 5) (pv 7) (nomark _))))) (pe_lst (pa_cons pe_bl pa_nil))) (nomark _))
        (pss_one (ps_ret pe_bl))
        pss_nil))))))
  (pss_one (ps_ret pe_bl))))), ?_⟩
    have ones : ∀ {σ' : L2.St}, σ'[1]? = some (some one) → EvL (tLst (tCons (tVar 1) tNil)) σ' H [one] := fun h => el_lst (ea_cons (ev_var h) ea_nil) (by show 1 ≤ 100000; decide)
    refine q_asgLN (xs := duesV one) (eln_cat (el_cat (el_cat (el_cat (el_cat (el_rep (k := 6) (ones rfl) ev_c (by show 1 * 6 ≤ 100000; decide) (by decide)) (el_lst (ea_cons (ev_c (v := .int 1)) (ea_cons (ev_var (i := 1) rfl) (ea_cons (ev_c (v := .int 2)) ea_nil))) (by show 3 ≤ 100000; decide)) (by show 6 + 3 ≤ 100000; decide)) (el_rep (k := 13) (ones rfl) ev_c (by show 1 * 13 ≤ 100000; decide) (by decide)) (by show 9 + 13 ≤ 100000; decide))
      (el_lst (ea_cons (ev_c (v := .int 3)) ea_nil) (by show 1 ≤ 100000; decide)) (by show 22 + 1 ≤ 100000; decide)) (el_rep (k := 2) (ones rfl) ev_c (by show 1 * 2 ≤ 100000; decide) (by decide)) (by show 23 + 2 ≤ 100000; decide)) (el_lst (ea_cons (ev_c (v := .int 4)) ea_nil) (by show 1 ≤ 100000; decide)) (by show 25 + 1 ≤ 100000; decide)) fun p H0 np ns e0 h0 => ?_
    refine q_when (b := false) (et_test (ev_to (ev_op (ev_reprN (eln_fields rfl (row.ex e0)) (dat.ex e0) d1 d2 d3) (ev_reprL (i := 2) rfl h0 ns (dat.ex e0) d1 d2 d3) (rv_ne rfl)) (by simp))) (fun h => by cases h) (fun _ H1 e1 => ?_)
    have rw1 := row.ex (e0.trans e1)
    obtain ⟨xs, hx, hl, hr1⟩ := rw1
    refine ⟨.ref a, rfl, a, xs, rfl, sq_of hx, for_it (walk_enum (K := K) (a := a) (xs := xs)) (fun i σ H' => ∃ v3 v4 v5 v6, σ = [some (V.ref a), some one, some (V.ref p), v3, v4, v5, v6, none] ∧ Ex H1 H')
      ⟨_, _, _, _, rfl, Ex.refl H1⟩ (fun i σ H' _ h => by obtain ⟨_, _, _, _, _, e⟩ := h; exact sq_of (e _ _ hx)) ?_ ?_⟩
    · rintro i x σ Hc H2 hi ⟨v3, v4, v5, v6, rfl, ec⟩ ⟨Tp, y1, y, rfl, nT, rfl, g1, g2⟩
      cases g1
      have hi24 : i < 24 := by have := (List.getElem?_eq_some_iff.mp g2).1; omega
      refine ⟨Tp, [.int (i : Nat), y], rfl, st_of upd_same, rfl, _, _, rfl, _, _, rfl, rfl, ?_⟩
      have e2 : Ex H1 (upd Hc Tp (.tup [.int (i : Nat), y])) := ec.trans (Ex.new nT)
      generalize upd Hc Tp (.tup [.int (i : Nat), y]) = H2 at e2
      obtain ⟨ax, dx, rfl, xn⟩ := ((hr1 i y g2).ex e2).xn
      obtain ⟨k1, k2⟩ := kinds_ok i hi24
      obtain ⟨m1, m2⟩ := fams_ok i hi24
      refine q_when (b := false) (et_test (ev_opLL (xs := (kindsB i).map V.bl) (ys := (kindsB i).map V.bl) (el_kinds (i := 4) rfl hi24 xn) (el_to (el_lcR1 (n := 24) (fun _ => true) (fun j => .bl (decide (V.int (j : Nat) = V.int (i : Nat)))) (ea_cons ev_c ea_nil) (by decide) (fun _ => rfl)
          (fun j H3 e3 hj => et_true) (fun j H3 e3 hj _ => ev_op (ev_var rfl) (ev_var rfl) (rv_eq rfl))) (givens i hi24)) (fun q1 q2 H3 g3 g4 e3 => rv_neB g3 g4 k1 k2))) (fun h => by cases h) (fun _ H3 e3 => ?_)
      refine q_asg (v := .int (famOf i : Nat)) (fam_if rfl (fun z H1 => rv_I0) (fun z H1 => rv_eq rfl)) fun H4 e4 => ?_
      refine q_asgL (xs := (knownB i).map V.bl) (el_to (el_cat (el_lcNT (fun _ => true) (fun j => .bl (decide (V.int (famOf i : Nat) = ([V.int 0, .int 1, .int 2, .int 3, .int 4, .int 0].getD j .non)))) (eu_tup (ea_cons ev_c (ea_cons ev_c (ea_cons ev_c (ea_cons ev_c (ea_cons ev_c (ea_cons ev_c ea_nil)))))) (by show 6 ≤ 100000; decide)) (by show 6 ≤ 40000; decide) (fun _ => rfl)
          (fun j x H5 e5 hj => et_true) (fun j x H5 e5 hj _ => ev_op (ev_var rfl) (ev_var rfl) (by rw [List.getD_eq_getElem?_getD, hj]; exact rv_eq (scal_of rfl hj)))) (el_lst (ea_cons (ev_inU (ev_var rfl) (eu_tup (ea_cons ev_c (ea_cons ev_c ea_nil)) (by show 2 ≤ 100000; decide)) rfl rfl) ea_nil) (by show 1 ≤ 100000; decide)) (by show 6 + 1 ≤ 100000; decide)) (knowns i hi24)) fun p5 H5 n5 e5 h5 => ?_
      refine s_when (b := false) (et_test (ev_opLL (xs := (famsB i).map V.bl) (ys := (famsB i).map V.bl) (el_kinds (i := 4) rfl hi24 (Xn.ex xn ((e3.trans e4).trans e5))) (el_to (el_cat (el_cat1 (ev_var rfl) h5 (el_lcNT (fun _ => true) (fun j => .bl (decide (V.int (famOf i : Nat) = ([V.int 2, .int 3, .int 4].getD j .non)))) (eu_tup (ea_cons ev_c (ea_cons ev_c (ea_cons ev_c ea_nil))) (by show 3 ≤ 100000; decide)) (by show 3 ≤ 40000; decide) (fun _ => rfl)
          (fun j x H6 e6 hj => et_true) (fun j x H6 e6 hj _ => ev_op (ev_var rfl) (ev_var rfl) (by rw [List.getD_eq_getElem?_getD, hj]; exact rv_eq (scal_of rfl hj)))) (by show 7 + 3 ≤ 100000; decide)) (el_lst (ea_cons ev_c ea_nil) (by show 1 ≤ 100000; decide)) (by show 10 + 1 ≤ 100000; decide)) (fams_is i hi24)) (fun q1 q2 H6 g3 g4 e6 => rv_neB g3 g4 m1 m2))) (fun h => by cases h) (fun _ H6 e6 => ?_)
      exact ⟨_, _, _, _, rfl, (((e2.trans e3).trans e4).trans e5).trans e6⟩
    · rintro σ H' ⟨u3, u4, u5, u6, rfl, e⟩
      have q : tRet (tC (V.bl true)) ({ nx := fun _ H' => Q V.non H', rt := Q } : Ends) [some (V.ref a), some one, some (V.ref p), u3, u4, u5, u6, none] H' := s_ret (v := .bl true) ev_c (fun H2 e2 => kk H2 (((e0.trans e1).trans e).trans e2))
      exact q
end
end M1


set_option maxHeartbeats 4000000
namespace M1
open PySem PySem.Spec PyProof.Rows L2 Evl TL Gd
def spLaw (K : PySem.W.Frag) : Sp := fun vs H Q _ => ∃ (a : Addr) (ns : List Int), vs = [.ref a] ∧ Scr K H a ns ∧ ns.length ≤ 63 ∧ ∀ H', Q (.bl true) H'
theorem cutV8 (xs : List V) : (cutV xs none (some 8)).length ≤ 8 ∧ ∀ y ∈ cutV xs none (some 8), y ∈ xs := by
  unfold cutV
  rw [HT.sIx_none]
  have h8 : HT.sIx xs.length xs.length (some 8) = min 8 xs.length := HT.sIx_nat _ _ 8
  rw [h8, List.drop_zero, Nat.sub_zero]
  exact ⟨by rw [List.length_take]; omega, fun y hy => List.mem_of_mem_take hy⟩
/-! ### a value that may be drawn: it holds short data -/
def OneOk (P : Program) (w : World) (K : PySem.W.Frag) (v : V) (H : Hp) : Prop := ∃ d : PyData, Dat P w K (d.hasDict = true) H v d ∧ PyData.showable d = true ∧ d.depth ≤ 50 ∧ d.shown.length ≤ 100
section
variable {P : Program} {w : World} {K : PySem.W.Frag} {H : Hp} {σ : L2.St} {te : TE} {p : Addr} {o : HO}
theorem OneOk.ex {v : V} {H1 : Hp} (h : OneOk P w K v H) (e : Ex H H1) : OneOk P w K v H1 := by
  obtain ⟨d, h1, h2, h3, h4⟩ := h
  exact ⟨d, h1.ex e, h2, h3, h4⟩
theorem one_int {i : Int} (h : i.natAbs < 10 ^ 40) : OneOk P w K (.int i) H := by
  have h2 : i.natAbs.log2 < 1920 := by
    by_cases z : i.natAbs = 0
    · rw [z]; decide +kernel
    · exact (Nat.log2_lt z).mpr (Nat.lt_trans h (by decide +kernel))
  refine ⟨.int i, dat_int i, decide_eq_true h2, Nat.zero_le _, ?_⟩
  have q := int_text_length_le10 (by decide : 0 < 40) h
  have e : (PyData.int i).shown = Str.ofString (toString i) := by simp only [PyData.shown]
  rw [e]
  show (Str.ofString (toString i)).length ≤ 100
  rw [PySem.ofString_length]
  omega
theorem one_non : OneOk P w K .non H := ⟨.none, dat_non, by decide +kernel, by decide +kernel, by decide +kernel⟩
/-- as OneOk, seen without the stream at p -/
def OneP (P : Program) (w : World) (K : PySem.W.Frag) (p : Addr) (v : V) (H : Hp) : Prop := OneOk P w K v (wo p H)
theorem wo_mono {H1 H2 : Hp} (e : Ex H1 H2) : Ex (wo p H1) (wo p H2) := fun a u h => by
  by_cases q : a = p
  · rw [q, wo_at] at h
    cases h
  · rw [wo_ne q] at h ⊢
    exact e a u h
theorem onep_v {v : V} (h : Ev te σ H v) (k : ∀ G, OneOk P w K v G) : EvP te σ H (OneP P w K p) := fun H1 e Q q => h H1 e Q fun H2 e2 => q v H2 e2 (k _)
theorem onep_tup {xs : List V} {ds : List PyData} (h : EvU te σ H xs) (hp : H p = some o) (k : ∀ G, DatAll P w K ((PyData.tuple ds).hasDict = true) G xs ds) (h1 : PyData.showable (.tuple ds) = true) (h2 : (PyData.tuple ds).depth ≤ 50) (h3 : (PyData.tuple ds).shown.length ≤ 100) :
    EvP te σ H (OneP P w K p) := fun H1 e Q q => h H1 e Q fun a H2 na e2 ha => q _ H2 e2 ⟨_, dat_tup (by
      rw [wo_ne (fun z => by rw [z, e _ _ hp] at na; cases na)]
      exact ha) (k _), h1, h2, h3⟩
theorem onep_lst {xs : List V} {ds : List PyData} (h : EvL te σ H xs) (hp : H p = some o) (k : ∀ G, DatAll P w K ((PyData.list ds).hasDict = true) G xs ds) (nd : (PyData.list ds).hasDict = false) (h1 : PyData.showable (.list ds) = true) (h2 : (PyData.list ds).depth ≤ 50) (h3 : (PyData.list ds).shown.length ≤ 100) :
    EvP te σ H (OneP P w K p) := fun H1 e Q q => h H1 e Q fun a H2 na e2 ha => q _ H2 e2 ⟨_, dat_lst (by
      rw [wo_ne (fun z => by rw [z, e _ _ hp] at na; cases na)]
      exact ha) (k _) (fun z => by rw [nd] at z; cases z), h1, h2, h3⟩
theorem onep_dict {kx : Str} {i : Int} {tk tv : TE} (hk : Ev tk σ H (.str kx)) (hv : Ev tv σ H (.int i)) (hp : H p = some o) (h1 : PyData.showable (.dict [(.str kx, .int i)]) = true) (h2 : (PyData.dict [(.str kx, .int i)]).depth ≤ 50) (h3 : (PyData.dict [(.str kx, .int i)]).shown.length ≤ 100) :
    EvP (tDisp [(tk, tv)]) σ H (OneP P w K p) := fun H1 e Q q => fun d hd => by
  have e1 : Ex H (upd H1 d (.dK [])) := e.trans (Ex.new hd)
  refine hk _ e1 _ fun H2 e2 => hv H2 (e1.trans e2) _ fun H3 e3 => ?_
  have hd3 : H3 d = some (.dK []) := e3 _ _ (e2 _ _ upd_same)
  have dp : d ≠ p := fun z => by rw [z, e _ _ hp] at hd; cases hd
  refine ⟨hd3, [(Sum.inr kx, .int i)], rfl, by show 1 ≤ 15; decide, q (.ref d) _ (fun a o z => ?_) ⟨_, dat_dict1 (kx := kx) (i := i) ?_, h1, h2, h3⟩⟩
  · have na : a ≠ d := ne_of_none z hd
    rw [upd_ne na]
    exact e3 a o (e2 a o (by rw [upd_ne na]; exact z))
  · rw [wo_ne dp]
    exact upd_same
def Ones (P : Program) (w : World) (K : PySem.W.Frag) (p : Addr) (n : Nat) (vs : List V) (H : Hp) : Prop := vs.length = n ∧ ∀ v ∈ vs, OneP P w K p v H
theorem ones_nil : EvAP tNil σ H (Ones P w K p 0) := fun H1 e Q q => q [] H1 (Ex.refl H1) ⟨rfl, fun v h => by cases h⟩
theorem ones_cons {tr : TA} {n : Nat} (h : EvP te σ H (OneP P w K p)) (hr : EvAP tr σ H (Ones P w K p n)) : EvAP (tCons te tr) σ H (Ones P w K p (n + 1)) := fun H1 e Q q =>
  h H1 e _ fun v H2 e2 x => hr H2 (e.trans e2) _ fun r H3 e3 s => q _ _ (e2.trans e3) ⟨by rw [List.length_cons, s.1], fun u hu => by
    rcases List.mem_cons.mp hu with rfl | hu
    · exact OneOk.ex x (wo_mono e3)
    · exact s.2 u hu⟩
theorem ev_right {c : Nat → Addr} {E1 E2 : XK} {tv : TE} {one : V} (hv : Ev tv σ H one) (k : OneOk P w K one H) : Ev (tCall (spRight P w K c) [] E1 (tCons (tCall (spMade c) [] E2 (tCons tv tNil)) (tCons tv tNil))) σ H (.bl true) := fun H1 e Q q => by
  show tv σ H1 (fun x G => spMade c [x] G (fun y G2 => tv σ G2 fun x2 G3 => spRight P w K c [y, x2] G3 Q E1) E2)
  refine hv H1 e _ fun H2 e2 => ⟨one, rfl, fun a xs H3 e3 h3 sg => ?_⟩
  refine hv H3 ((e.trans e2).trans e3) _ fun H4 e4 => ?_
  obtain ⟨d, k1, k2, k3, k4⟩ := k.ex (((e.trans e2).trans e3).trans e4)
  refine ⟨a, one, d, rfl, ⟨xs, e4 _ _ h3, sg.1, fun j v hj => ?_⟩, k1, k2, k3, k4, fun H5 e5 => q H5 (((e2.trans e3).trans e4).trans e5)⟩
  have y := sg.2 j v hj
  rw [Nat.zero_add] at y
  exact y.ex e4
end
section
variable {P : Program} {w : World} {K : PySem.W.Frag} {mg : Str → Option Value} {base : Heap} {c f₀ : Nat → Addr}
abbrev s_law : Stmt := top 41
theorem sc_law : FnScope ["_law_script", "_law_k", "_law_item", "_law_stream_here", "_law_small", "_law_some", "_law_one"] ["_law_script"] (defScope s_law) := ⟨rfl, rfl, rfl, by decide +kernel, rfl, by decide +kernel, by decide +kernel⟩
theorem ok_law {f : Addr} {fd : FuncData} (F : Fun K "law" "law" s_law f fd) (T : Tx K mg c f₀) (D_law_stream : Df P w K mg base CX0 2 "_law_stream" ["_law_item", "_law_k"] spStream)
    (D_law_pick : Df P w K mg base CX0 3 "_law_pick" ["_law_stream_here", "_law_some"] (spPick K)) (D_law_made : Df P w K mg base CX0 3 "_law_made" ["_law_one"] (spMade c)) (D_law_named : Df P w K mg base CX0 3 "_law_named" ["_law_one"] (spMade c))
    (D_law_right : DfG P w K mg base CX0 2 "_law_right" ["_law_some", "_law_one"] (spRight P w K c)) : GOk P w K mg base CX0 4 f fd ["_law_script"] (spLaw K) := by
  refine ok_of0 F sc_law (fun vs H Q E h => ?_) (fun cdv A outer s H vs Q E ca hr h => ?_)
  · obtain ⟨v, _, rfl, _⟩ := h
    rfl
  · obtain ⟨a, ns, rfl, hS, hns, kk⟩ := h
    refine ⟨_, (pss_cons (ps_for PassesOwn.never rfl (pi_enum (by rfl) T.b_enumerate (pa_cons (pe_slice sl_list (pe_op op_catS (pv 0) (pe_lst (pa_cons pe_int pa_nil))) po_none (po_some pe_int)) pa_nil)) (pg_tup rfl (pgs_cons (pg_name (i := 1) sc_law.nd rfl (Or.inl rfl)) (pgs_cons (pg_name (i := 2) sc_law.nd rfl (Or.inl rfl)) pgs_nil)))
    (pss_cons (ps_set (i := 3) sc_law.nd rfl (Or.inl rfl) (pe_df D_law_stream (hr.mono (by decide)) rfl (pa_cons (pv 2) (pa_cons (pv 1) pa_nil))))
      (pss_cons (ps_set (i := 4) sc_law.nd rfl (Or.inl rfl) (pe_op op_modN (pe_callTy call_int1 (by rfl) T.b_int (by decide +kernel) (pa_cons (pv 2) pa_nil)) (pe_op op_pow pe_int pe_int)))
      (pss_cons (ps_set (i := 5) sc_law.nd rfl (Or.inl rfl) (pe_lst (pa_cons pe_non (pa_cons pe_bl (pa_cons pe_int (pa_cons pe_str (pa_cons (pe_tup (pa_cons pe_int (pa_cons pe_int pa_nil))) (pa_cons (pe_tup (pa_cons pe_str (pa_cons pe_int pa_nil))) (pa_cons (pe_lst (pa_cons pe_int (pa_cons pe_str pa_nil))) (pa_cons (pe_disp (pps_cons pe_str pe_int pps_nil) (by rfl) (by rfl) (fun z => by cases z) (by decide)) (pa_cons (pe_op op_sub pe_int (pv 4)) (pa_cons (pe_tup pa_nil) pa_nil))))))))))))
      (pss_cons (ps_set (i := 6) sc_law.nd rfl (Or.inl rfl) (pe_df D_law_pick (hr.mono (by decide)) rfl (pa_cons (pv 3) (pa_cons (pv 5) pa_nil))))
      (pss_cons (ps_if (PW.pt (pw_or (pt_not (pt_val (pe_dfG D_law_right ca (hr.mono (by decide)) rfl (pa_cons (pe_df D_law_made (hr.mono (by decide)) rfl (pa_cons (pv 6) pa_nil)) (pa_cons (pv 6) pa_nil))))) (pw_or1 (pt_not (pt_val (pe_dfG D_law_right ca (hr.mono (by decide)) rfl (pa_cons (pe_df D_law_named (hr.mono (by decide)) rfl (pa_cons (pv 6) pa_nil)) (pa_cons (pv 6) pa_nil))))))))
        (pss_one (ps_ret pe_bl))
        pss_nil)
      (pss_one (ps_if (PW.pt (pw_or (pt_not (pt_val (pe_dfG D_law_right ca (hr.mono (by decide)) rfl (pa_cons (pe_df D_law_made (hr.mono (by decide)) rfl (pa_cons (pv 4) pa_nil)) (pa_cons (pv 4) pa_nil))))) (pw_or1 (pt_not (pt_val (pe_dfG D_law_right ca (hr.mono (by decide)) rfl (pa_cons (pe_df D_law_named (hr.mono (by decide)) rfl (pa_cons pe_non pa_nil)) (pa_cons pe_non pa_nil))))))))
        (pss_one (ps_ret pe_bl))
        pss_nil))))))))
  (pss_one (ps_ret pe_bl))), ?_⟩
    have el0 : EvL (tOp (rCatS K) (tVar 0) (tLst (tCons (tC (.int 0)) tNil))) (start ["_law_script", "_law_k", "_law_item", "_law_stream_here", "_law_small", "_law_some", "_law_one"] [V.ref a]) H (ns.map V.int ++ [.int 0]) := el_catS (ev_var rfl) hS (el_lst (ea_cons ev_c ea_nil) (by show 1 ≤ 100000; decide)) (by show ns.length + 1 ≤ 100000; omega)
    refine (el_slN (K := K) el0 eo_none (eo_some (i := 8) ev_c)) H (Ex.refl H) _ fun L H1 hL e1 h1 => ?_
    obtain ⟨c1, c2⟩ := cutV8 (ns.map V.int ++ [.int 0])
    generalize cutV (ns.map V.int ++ [.int 0]) none (some 8) = xs at h1 c1 c2
    refine ⟨L, xs, rfl, sq_of h1, for_it (walk_enum (K := K) (a := L) (xs := xs)) (fun i σ H' => ∃ v1 v2 v3 v4 v5 v6, σ = [some (V.ref a), v1, v2, v3, v4, v5, v6] ∧ Ex H1 H')
      ⟨_, _, _, _, _, _, rfl, Ex.refl H1⟩ (fun i σ H' _ h => by obtain ⟨_, _, _, _, _, _, _, e⟩ := h; exact sq_of (e _ _ h1)) ?_ ?_⟩
    · rintro i x σ Hc H2 hi ⟨v1, v2, v3, v4, v5, v6, rfl, ec⟩ ⟨Tp, y1, y, rfl, nT, rfl, g1, g2⟩
      cases g1
      obtain ⟨m, rfl⟩ : ∃ m : Int, y = .int m := by
        have hy := c2 y (List.mem_of_getElem? g2)
        cases List.mem_append.mp hy with
        | inl h => obtain ⟨m, _, e⟩ := List.mem_map.mp h; exact ⟨m, e.symm⟩
        | inr h => exact ⟨0, List.mem_singleton.mp h⟩
      refine ⟨Tp, [.int (i : Nat), .int m], rfl, st_of upd_same, rfl, _, _, rfl, _, _, rfl, rfl, ?_⟩
      have e2 : Ex H1 (upd Hc Tp (.tup [.int (i : Nat), .int m])) := ec.trans (Ex.new nT)
      generalize upd Hc Tp (.tup [.int (i : Nat), .int m]) = H2 at e2
      refine ⟨.int m, rfl, .int (i : Nat), rfl, m, (i : Nat), rfl, by omega, by omega, fun p H4 hp e4 s4 => ?_⟩
      have n1 : H1 p = none := fresh_back e2 hp
      have eL : Ex H1 H4 := e2.trans e4
      refine q_asg (ev_op (ev_int1 (ev_var rfl)) (ev_op ev_c ev_c (rv_I ⟨by decide, by decide, by decide⟩)) (rv_I (by decide))) fun H5 e5 => ?_
      have z0 : 0 ≤ m.fmod ((10 : Int) ^ (30 : Int).toNat) := Int.fmod_nonneg_of_pos _ (by decide)
      have z1 : m.fmod ((10 : Int) ^ (30 : Int).toNat) < (10 : Int) ^ (30 : Int).toNat := Int.fmod_lt_of_pos _ (by decide)
      generalize m.fmod ((10 : Int) ^ (30 : Int).toNat) = small at z0 z1
      have z2 : small < 10 ^ 40 := Int.lt_trans z1 (by decide)
      obtain ⟨sa, sc, s5⟩ := s4.ex e5
      have okS : ∀ G, OneOk P w K (.int small) G := fun G => one_int (by omega)
      refine q_asgP (evp_lst (R := Ones P w K p 10) (ones_cons (onep_v ev_c fun _ => one_non) (ones_cons (onep_v ev_c fun _ => ⟨.bool true, dat_bl true, by decide +kernel, by decide +kernel, by decide +kernel⟩) (ones_cons (onep_v ev_c fun _ => one_int (by decide)) (ones_cons (onep_v ev_c fun _ => ⟨.str "", dat_str "", by decide +kernel, by decide +kernel, by decide +kernel⟩)
        (ones_cons (onep_tup (ds := [.int 2, .int 5]) (eu_tup (ea_cons ev_c (ea_cons ev_c ea_nil)) (by show 2 ≤ 100000; decide)) s5 (fun _ => dats_cons (dat_int 2) (dats_cons (dat_int 5) dats_nil)) (by decide +kernel) (by decide +kernel) (by decide +kernel))
        (ones_cons (onep_tup (ds := [.str "a", .int 1]) (eu_tup (ea_cons ev_c (ea_cons ev_c ea_nil)) (by show 2 ≤ 100000; decide)) s5 (fun _ => dats_cons (dat_str "a") (dats_cons (dat_int 1) dats_nil)) (by decide +kernel) (by decide +kernel) (by decide +kernel))
        (ones_cons (onep_lst (ds := [.int 1, .str "x"]) (el_lst (ea_cons ev_c (ea_cons ev_c ea_nil)) (by show 2 ≤ 100000; decide)) s5 (fun _ => dats_cons (dat_int 1) (dats_cons (dat_str "x") dats_nil)) (by decide +kernel) (by decide +kernel) (by decide +kernel) (by decide +kernel))
        (ones_cons (onep_dict (kx := "a") (i := 1) ev_c ev_c s5 (by decide +kernel) (by decide +kernel) (by decide +kernel))
        (ones_cons (onep_v (ev_op ev_c (ev_var rfl) rv_I0) fun _ => one_int (i := 0 - small) (by omega))
        (ones_cons (onep_tup (ds := []) (eu_tup ea_nil (by decide)) s5 (fun _ => dats_nil) (by decide +kernel) (by decide +kernel) (by decide +kernel)) ones_nil))))))))))
        (fun vs G1 G2 e s => ⟨s.1, fun v hv => OneOk.ex (s.2 v hv) (wo_mono e)⟩) (fun vs G s => by rw [s.1]; decide)) fun v H6 e6 g => ?_
      obtain ⟨l, ys, rfl, hl, ys1, ys2⟩ := g
      have s6 : Sx p 0 H6 := ⟨sa, sc, e6 _ _ s5⟩
      have lp : l ≠ p := fun z => by
        rw [z, e6 _ _ s5] at hl
        cases hl
        cases ys1
      refine ⟨.ref p, rfl, .ref l, rfl, p, l, 0, ys, rfl, by decide, by decide, s6, lp, sq_of hl, by rw [ys1]; decide, by rw [ys1]; decide, fun one H7 b7 hm b1 b2 s7 e7 => ?_⟩
      have okO : OneOk P w K one H7 := OneOk.ex (ys2 one hm) e7
      refine q_when (b := false) (et_is (et_or (et_not (et_B (ev_right (ev_var rfl) okO))) (fun _ => et_not (et_B (ev_right (ev_var rfl) okO)))) rfl) (fun h => by cases h) (fun _ H8 e8 => ?_)
      refine s_when (b := false) (et_is (et_or (et_not (et_B (ev_right (ev_var rfl) (okS H8)))) (fun _ => et_not (et_B (ev_right ev_c one_non)))) rfl) (fun h => by cases h) (fun _ H9 e9 => ?_)
      exact ⟨_, _, _, _, _, _, rfl, ((wo_go n1 ((eL.trans e5).trans e6) e7).trans e8).trans e9⟩
    · rintro σ H' ⟨u1, u2, u3, u4, u5, u6, rfl, e⟩
      have q : tRet (tC (V.bl true)) ({ nx := fun _ H' => Q V.non H', rt := Q } : Ends) [some (V.ref a), u1, u2, u3, u4, u5, u6] H' := s_ret (v := .bl true) ev_c (fun H2 e2 => kk H2)
      exact q
end
end M1


set_option maxHeartbeats 4000000
namespace M1
open PySem PySem.Spec PyProof.Rows L2 Evl TL Gd

theorem nf_1 {K : PySem.W.Frag} {C fI : Addr} {f : Str} {y : V} (O : OxF K C fI [f]) (l : List (Str × V)) (h : some [(f, y)] = some l) (p : Str × V) (hp : p ∈ l) : PySem.W.findIn K (.ref C) p.1 = some none := by
  cases h
  rcases List.mem_cons.mp hp with rfl | hp
  · exact O.nf _ List.mem_cons_self
  · cases hp
theorem nf_2 {K : PySem.W.Frag} {C fI : Addr} {f g : Str} {y z : V} (O : OxF K C fI [f, g]) (l : List (Str × V)) (h : some [(g, y), (f, z)] = some l) (p : Str × V) (hp : p ∈ l) : PySem.W.findIn K (.ref C) p.1 = some none := by
  cases h
  rcases List.mem_cons.mp hp with rfl | hp
  · exact O.nf _ (List.mem_cons_of_mem _ List.mem_cons_self)
  · rcases List.mem_cons.mp hp with rfl | hp
    · exact O.nf _ List.mem_cons_self
    · cases hp
def ecB (K : PySem.W.Frag) (C : Addr) : Bool := xfB K C && (decide (PySem.W.findIn K (.ref C) "__class__" = some (some (.builtin "object.__class__"))) && decide (PySem.W.mroIn K C (.type "object") = some true))
theorem ecB_ok {K : PySem.W.Frag} {C : Addr} (hn : PySem.W.specialIn K (.builtin "object.__class__") "__get__" = some (some (.builtin "getset_descriptor.__get__"))) (ht : PySem.W.takesIn K (.builtin "object.__class__") = some true) (h : ecB K C = true) : ExcC K C := by
  obtain ⟨h1, h⟩ := Bool.and_eq_true_iff.mp h
  obtain ⟨h2, h3⟩ := Bool.and_eq_true_iff.mp h
  have X := xfB_ok h1
  exact ⟨X.ga, X.gg, X.exC, X.hdC, of_decide_eq_true h2, hn, ht, of_decide_eq_true h3⟩
theorem all_mk {l : PySem.W.OpenLaw} {w : World} {K : PySem.W.Frag} {h : Heap} {mg : Str → Option Value} {fa f0 f1 f2 f3 f4 f5 f6 f7 f8 f9 f10 : Addr} (X : K.In h) (G : h.Ns mainGlobals mg) (hfa : mg "law" = some (.ref fa))
    {od0 od1 od2 od3 od4 od5 od6 od7 od8 od9 od10 an0 an1 an2 an3 an4 an5 an6 an7 an8 an9 an10 : Option Addr} {sl0 sl1 sl2 sl3 sl4 sl5 sl6 sl7 sl8 sl9 sl10 : Array (Option Value)} {oc0 oc1 oc2 oc3 oc4 oc5 oc6 oc7 oc8 oc9 oc10 kV0 kV1 kV2 kV3 kV4 kV5 kV6 kV7 kV8 kV9 kV10 dc0 dc1 dc2 dc3 dc4 dc5 dc6 dc7 dc8 dc9 dc10 pm0 pm1 pm2 pm3 pm4 pm5 pm6 pm7 pm8 pm9 pm10 cd0 cd1 cd2 cd3 cd4 cd5 cd6 cd7 cd8 cd9 cd10 ct0 ct1 ct2 ct3 ct4 ct5 ct6 ct7 ct8 ct9 ct10 : Value}
    {C_0 C_1 C_2 C_3 C_4 C_5 C_6 C_7 C_8 C_9 C_10 C_11 C_12 C_13 C_14 C_15 C_16 C_17 C_18 C_19 C_20 C_21 C_22 C_23 F_0 F_1 F_2 F_3 F_4 fI_0 fI_1 fI_2 fI_3 fI_4 fI_5 fI_6 fI_7 fI_8 fI_9 fI_10 fI_12 fI_13 fI_14 fI_15 fI_16 fI_17 fI_18 fI_19 fI_20 fI_22 fI_23 : Addr} {od_0 od_1 od_2 od_3 od_4 od_5 od_6 od_7 od_8 od_9 od_10 od_12 od_13 od_14 od_15 od_16 od_17 od_18 od_19 od_20 od_22 od_23 an_0 an_1 an_2 an_3 an_4 an_5 an_6 an_7 an_8 an_9 an_10 an_12 an_13 an_14 an_15 an_16 an_17 an_18 an_19 an_20 an_22 an_23 : Option Addr} {sl_0 sl_1 sl_2 sl_3 sl_4 sl_5 sl_6 sl_7 sl_8 sl_9 sl_10 sl_12 sl_13 sl_14 sl_15 sl_16 sl_17 sl_18 sl_19 sl_20 sl_22 sl_23 : Array (Option Value)} {oc_0 oc_1 oc_2 oc_3 oc_4 oc_5 oc_6 oc_7 oc_8 oc_9 oc_10 oc_12 oc_13 oc_14 oc_15 oc_16 oc_17 oc_18 oc_19 oc_20 oc_22 oc_23 kV_0 kV_1 kV_2 kV_3 kV_4 kV_5 kV_6 kV_7 kV_8 kV_9 kV_10 kV_12 kV_13 kV_14 kV_15 kV_16 kV_17 kV_18 kV_19 kV_20 kV_22 kV_23 dc_0 dc_1 dc_2 dc_3 dc_4 dc_5 dc_6 dc_7 dc_8 dc_9 dc_10 dc_12 dc_13 dc_14 dc_15 dc_16 dc_17 dc_18 dc_19 dc_20 dc_22 dc_23 pm_0 pm_1 pm_2 pm_3 pm_4 pm_5 pm_6 pm_7 pm_8 pm_9 pm_10 pm_12 pm_13 pm_14 pm_15 pm_16 pm_17 pm_18 pm_19 pm_20 pm_22 pm_23 cd_0 cd_1 cd_2 cd_3 cd_4 cd_5 cd_6 cd_7 cd_8 cd_9 cd_10 cd_12 cd_13 cd_14 cd_15 cd_16 cd_17 cd_18 cd_19 cd_20 cd_22 cd_23 ct_0 ct_1 ct_2 ct_3 ct_4 ct_5 ct_6 ct_7 ct_8 ct_9 ct_10 ct_12 ct_13 ct_14 ct_15 ct_16 ct_17 ct_18 ct_19 ct_20 ct_22 ct_23 : Value}
    {nm_0 nm_1 nm_2 nm_3 nm_4 nm_5 nm_6 nm_7 nm_8 nm_9 nm_10 nm_12 nm_13 nm_14 nm_15 nm_16 nm_17 nm_18 nm_19 nm_20 nm_22 nm_23 qn_0 qn_1 qn_2 qn_3 qn_4 qn_5 qn_6 qn_7 qn_8 qn_9 qn_10 qn_12 qn_13 qn_14 qn_15 qn_16 qn_17 qn_18 qn_19 qn_20 qn_22 qn_23 : Str} {N_0 N_1 N_2 N_3 N_4 N_5 N_6 N_7 N_8 N_9 N_10 N_12 N_13 N_14 N_15 N_16 N_17 N_18 N_19 N_20 N_22 N_23 : Addr} {bs_0 bs_1 bs_2 bs_3 bs_4 bs_5 bs_6 bs_7 bs_8 bs_9 bs_10 bs_12 bs_13 bs_14 bs_15 bs_16 bs_17 bs_18 bs_19 bs_20 bs_22 bs_23 bm_0 bm_1 bm_2 bm_3 bm_4 bm_5 bm_6 bm_7 bm_8 bm_9 bm_10 bm_12 bm_13 bm_14 bm_15 bm_16 bm_17 bm_18 bm_19 bm_20 bm_22 bm_23 : List Value} {sn_0 sn_1 sn_2 sn_3 sn_4 sn_5 sn_6 sn_7 sn_8 sn_9 sn_10 sn_12 sn_13 sn_14 sn_15 sn_16 sn_17 sn_18 sn_19 sn_20 sn_22 sn_23 : List Str} {sb_0 sb_1 sb_2 sb_3 sb_4 sb_5 sb_6 sb_7 sb_8 sb_9 sb_10 sb_12 sb_13 sb_14 sb_15 sb_16 sb_17 sb_18 sb_19 sb_20 sb_22 sb_23 : List Value} {ab_0 ab_1 ab_2 ab_3 ab_4 ab_5 ab_6 ab_7 ab_8 ab_9 ab_10 ab_12 ab_13 ab_14 ab_15 ab_16 ab_17 ab_18 ab_19 ab_20 ab_22 ab_23 : Bool} {col_0 col_1 col_2 col_3 col_4 col_5 col_6 col_7 col_8 col_9 col_10 col_12 col_13 col_14 col_15 col_16 col_17 col_18 col_19 col_20 col_22 col_23 : Option Bool} {dd_0 dd_1 dd_2 dd_3 dd_4 dd_5 dd_6 dd_7 dd_8 dd_9 dd_10 dd_12 dd_13 dd_14 dd_15 dd_16 dd_17 dd_18 dd_19 dd_20 dd_22 dd_23 : Option Addr} {k0_0 k0_1 k0_2 k0_3 k0_4 k0_5 k0_6 k0_7 k0_8 k0_9 k0_10 k0_12 k0_13 k0_14 k0_15 k0_16 k0_17 k0_18 k0_19 k0_20 k0_22 k0_23 k1_0 k1_1 k1_2 k1_3 k1_4 k1_5 k1_6 k1_7 k1_8 k1_9 k1_10 k1_12 k1_13 k1_14 k1_15 k1_16 k1_17 k1_18 k1_19 k1_20 k1_22 k1_23 k2_0 k2_1 k2_2 k2_3 k2_4 k2_5 k2_6 k2_7 k2_8 k2_9 k2_10 k2_12 k2_13 k2_14 k2_15 k2_16 k2_17 k2_18 k2_19 k2_20 k2_22 k2_23 k3_0 k3_1 k3_2 k3_3 k3_4 k3_5 k3_6 k3_7 k3_8 k3_9 k3_10 k3_12 k3_13 k3_14 k3_15 k3_16 k3_17 k3_18 k3_19 k3_20 k3_22 k3_23 k5_0 k5_1 k5_2 k5_3 k5_4 k5_5 k5_6 k5_7 k5_8 k5_9 k5_10 k5_12 k5_13 k5_14 k5_15 k5_16 k5_17 k5_18 k5_19 k5_20 k5_22 k5_23 : Option Value}
    (a0 : PySem.W.nsIn K mainGlobals "_law_mixed" = some (some (.ref f0))) (l0 : K.lookup f0 = some ⟨oc0, od0, .func (PySem.W.fnOf "_law_mixed" "_law_mixed" (defArgs s_law_mixed) (defBody s_law_mixed) (defScope s_law_mixed) .none kV0 dc0 pm0 an0 cd0 ct0), sl0⟩) (c0 : PySem.W.codeIn K cd0 "_law_mixed" = true) (k0 : PySem.W.keepIn K (.ref f0) = true)
    (a1 : PySem.W.nsIn K mainGlobals "_law_stream" = some (some (.ref f1))) (l1 : K.lookup f1 = some ⟨oc1, od1, .func (PySem.W.fnOf "_law_stream" "_law_stream" (defArgs s_law_stream) (defBody s_law_stream) (defScope s_law_stream) .none kV1 dc1 pm1 an1 cd1 ct1), sl1⟩) (c1 : PySem.W.codeIn K cd1 "_law_stream" = true) (k1 : PySem.W.keepIn K (.ref f1) = true)
    (a2 : PySem.W.nsIn K mainGlobals "_law_draw" = some (some (.ref f2))) (l2 : K.lookup f2 = some ⟨oc2, od2, .func (PySem.W.fnOf "_law_draw" "_law_draw" (defArgs s_law_draw) (defBody s_law_draw) (defScope s_law_draw) .none kV2 dc2 pm2 an2 cd2 ct2), sl2⟩) (c2 : PySem.W.codeIn K cd2 "_law_draw" = true) (k2 : PySem.W.keepIn K (.ref f2) = true)
    (a3 : PySem.W.nsIn K mainGlobals "_law_pick" = some (some (.ref f3))) (l3 : K.lookup f3 = some ⟨oc3, od3, .func (PySem.W.fnOf "_law_pick" "_law_pick" (defArgs s_law_pick) (defBody s_law_pick) (defScope s_law_pick) .none kV3 dc3 pm3 an3 cd3 ct3), sl3⟩) (c3 : PySem.W.codeIn K cd3 "_law_pick" = true) (k3 : PySem.W.keepIn K (.ref f3) = true)
    (a4 : PySem.W.nsIn K mainGlobals "_law_made" = some (some (.ref f4))) (l4 : K.lookup f4 = some ⟨oc4, od4, .func (PySem.W.fnOf "_law_made" "_law_made" (defArgs s_law_made) (defBody s_law_made) (defScope s_law_made) .none kV4 dc4 pm4 an4 cd4 ct4), sl4⟩) (c4 : PySem.W.codeIn K cd4 "_law_made" = true) (k4 : PySem.W.keepIn K (.ref f4) = true)
    (a5 : PySem.W.nsIn K mainGlobals "_law_named" = some (some (.ref f5))) (l5 : K.lookup f5 = some ⟨oc5, od5, .func (PySem.W.fnOf "_law_named" "_law_named" (defArgs s_law_named) (defBody s_law_named) (defScope s_law_named) .none kV5 dc5 pm5 an5 cd5 ct5), sl5⟩) (c5 : PySem.W.codeIn K cd5 "_law_named" = true) (k5 : PySem.W.keepIn K (.ref f5) = true)
    (a6 : PySem.W.nsIn K mainGlobals "_law_kinds" = some (some (.ref f6))) (l6 : K.lookup f6 = some ⟨oc6, od6, .func (PySem.W.fnOf "_law_kinds" "_law_kinds" (defArgs s_law_kinds) (defBody s_law_kinds) (defScope s_law_kinds) .none kV6 dc6 pm6 an6 cd6 ct6), sl6⟩) (c6 : PySem.W.codeIn K cd6 "_law_kinds" = true) (k6 : PySem.W.keepIn K (.ref f6) = true)
    (a7 : PySem.W.nsIn K mainGlobals "_law_families" = some (some (.ref f7))) (l7 : K.lookup f7 = some ⟨oc7, od7, .func (PySem.W.fnOf "_law_families" "_law_families" (defArgs s_law_families) (defBody s_law_families) (defScope s_law_families) .none kV7 dc7 pm7 an7 cd7 ct7), sl7⟩) (c7 : PySem.W.codeIn K cd7 "_law_families" = true) (k7 : PySem.W.keepIn K (.ref f7) = true)
    (a8 : PySem.W.nsIn K mainGlobals "_law_fields" = some (some (.ref f8))) (l8 : K.lookup f8 = some ⟨oc8, od8, .func (PySem.W.fnOf "_law_fields" "_law_fields" (defArgs s_law_fields) (defBody s_law_fields) (defScope s_law_fields) .none kV8 dc8 pm8 an8 cd8 ct8), sl8⟩) (c8 : PySem.W.codeIn K cd8 "_law_fields" = true) (k8 : PySem.W.keepIn K (.ref f8) = true)
    (a9 : PySem.W.nsIn K mainGlobals "_law_right" = some (some (.ref f9))) (l9 : K.lookup f9 = some ⟨oc9, od9, .func (PySem.W.fnOf "_law_right" "_law_right" (defArgs s_law_right) (defBody s_law_right) (defScope s_law_right) .none kV9 dc9 pm9 an9 cd9 ct9), sl9⟩) (c9 : PySem.W.codeIn K cd9 "_law_right" = true) (k9 : PySem.W.keepIn K (.ref f9) = true)
    (a10 : PySem.W.nsIn K mainGlobals "law" = some (some (.ref f10))) (l10 : K.lookup f10 = some ⟨oc10, od10, .func (PySem.W.fnOf "law" "law" (defArgs s_law) (defBody s_law) (defScope s_law) .none kV10 dc10 pm10 an10 cd10 ct10), sl10⟩) (c10 : PySem.W.codeIn K cd10 "law" = true) (k10 : PySem.W.keepIn K (.ref f10) = true)
    (b_int : PySem.W.nsIn K mainGlobals "int" = some none)
    (b_len : PySem.W.nsIn K mainGlobals "len" = some none)
    (b_isinstance : PySem.W.nsIn K mainGlobals "isinstance" = some none)
    (b_repr : PySem.W.nsIn K mainGlobals "repr" = some none)
    (b_enumerate : PySem.W.nsIn K mainGlobals "enumerate" = some none)
    (b_range : PySem.W.nsIn K mainGlobals "range" = some none)
    (b_ValueError : PySem.W.nsIn K mainGlobals "ValueError" = some none)
    (b_ArithmeticError : PySem.W.nsIn K mainGlobals "ArithmeticError" = some none)
    (b_LookupError : PySem.W.nsIn K mainGlobals "LookupError" = some none)
    (b_RuntimeError : PySem.W.nsIn K mainGlobals "RuntimeError" = some none)
    (b_OverflowError : PySem.W.nsIn K mainGlobals "OverflowError" = some none)
    (b_KeyError : PySem.W.nsIn K mainGlobals "KeyError" = some none)
    (b_IndexError : PySem.W.nsIn K mainGlobals "IndexError" = some none)
    (b_NotImplementedError : PySem.W.nsIn K mainGlobals "NotImplementedError" = some none)
    (b_ZeroDivisionError : PySem.W.nsIn K mainGlobals "ZeroDivisionError" = some none)
    (aC_0 : PySem.W.nsIn K mainGlobals "BadLine" = some (some (.ref C_0)))
    (aC_1 : PySem.W.nsIn K mainGlobals "BadName" = some (some (.ref C_1)))
    (aC_2 : PySem.W.nsIn K mainGlobals "BadOperands" = some (some (.ref C_2)))
    (aC_3 : PySem.W.nsIn K mainGlobals "BadBlock" = some (some (.ref C_3)))
    (aC_4 : PySem.W.nsIn K mainGlobals "BadCall" = some (some (.ref C_4)))
    (aC_5 : PySem.W.nsIn K mainGlobals "BadText" = some (some (.ref C_5)))
    (aC_6 : PySem.W.nsIn K mainGlobals "BadTable" = some (some (.ref C_6)))
    (aC_7 : PySem.W.nsIn K mainGlobals "BadNumber" = some (some (.ref C_7)))
    (aC_8 : PySem.W.nsIn K mainGlobals "BadObject" = some (some (.ref C_8)))
    (aC_9 : PySem.W.nsIn K mainGlobals "BadTree" = some (some (.ref C_9)))
    (aC_10 : PySem.W.nsIn K mainGlobals "NotPlain" = some (some (.ref C_10)))
    (aC_11 : PySem.W.nsIn K mainGlobals "DividedByZero" = some (some (.ref C_11)))
    (aC_12 : PySem.W.nsIn K mainGlobals "BadShift" = some (some (.ref C_12)))
    (aC_13 : PySem.W.nsIn K mainGlobals "NoName" = some (some (.ref C_13)))
    (aC_14 : PySem.W.nsIn K mainGlobals "NoInstruction" = some (some (.ref C_14)))
    (aC_15 : PySem.W.nsIn K mainGlobals "NoOrigin" = some (some (.ref C_15)))
    (aC_16 : PySem.W.nsIn K mainGlobals "Ring" = some (some (.ref C_16)))
    (aC_17 : PySem.W.nsIn K mainGlobals "Cycle" = some (some (.ref C_17)))
    (aC_18 : PySem.W.nsIn K mainGlobals "Taken" = some (some (.ref C_18)))
    (aC_19 : PySem.W.nsIn K mainGlobals "Unresolved" = some (some (.ref C_19)))
    (aC_20 : PySem.W.nsIn K mainGlobals "OutOfRange" = some (some (.ref C_20)))
    (aC_21 : PySem.W.nsIn K mainGlobals "NothingLeft" = some (some (.ref C_21)))
    (aC_22 : PySem.W.nsIn K mainGlobals "TooLarge" = some (some (.ref C_22)))
    (aC_23 : PySem.W.nsIn K mainGlobals "Trouble" = some (some (.ref C_23)))
    (aF_0 : PySem.W.nsIn K mainGlobals "TextError" = some (some (.ref F_0)))
    (aF_1 : PySem.W.nsIn K mainGlobals "ValueTrouble" = some (some (.ref F_1)))
    (aF_2 : PySem.W.nsIn K mainGlobals "LookupTrouble" = some (some (.ref F_2)))
    (aF_3 : PySem.W.nsIn K mainGlobals "StateTrouble" = some (some (.ref F_3)))
    (aF_4 : PySem.W.nsIn K mainGlobals "LimitTrouble" = some (some (.ref F_4)))
    (hn : PySem.W.specialIn K (.builtin "object.__class__") "__get__" = some (some (.builtin "getset_descriptor.__get__"))) (ht : PySem.W.takesIn K (.builtin "object.__class__") = some true)
    (xL_0 : K.lookup C_0 = some (excClassObj nm_0 qn_0 C_0 N_0 bs_0 bm_0 true sn_0 sb_0 ab_0 col_0 dd_0 k0_0 k1_0 k2_0 k3_0 k5_0 "ValueError.__new__"))
    (hb_0 : bm_0.dropWhile refV = [.type "ValueError", .type "Exception", .type "BaseException", .type "object"]) (iC_0 : PySem.W.findIn K (.ref C_0) "__init__" = some (some (.ref fI_0)))
    (li_0 : K.lookup fI_0 = some ⟨oc_0, od_0, .func (PySem.W.fnOf "__init__" "BadLine.__init__" (defArgs si_BadLine) (defBody si_BadLine) (defScope si_BadLine) .none kV_0 dc_0 pm_0 an_0 cd_0 ct_0), sl_0⟩) (ci_0 : PySem.W.codeIn K cd_0 "BadLine.__init__" = true) (ki_0 : PySem.W.keepIn K (.ref fI_0) = true)
    (ox_0 : oxB K C_0 fI_0 ["column"] = true)
    (xL_1 : K.lookup C_1 = some (excClassObj nm_1 qn_1 C_1 N_1 bs_1 bm_1 true sn_1 sb_1 ab_1 col_1 dd_1 k0_1 k1_1 k2_1 k3_1 k5_1 "ValueError.__new__"))
    (hb_1 : bm_1.dropWhile refV = [.type "ValueError", .type "Exception", .type "BaseException", .type "object"]) (iC_1 : PySem.W.findIn K (.ref C_1) "__init__" = some (some (.ref fI_1)))
    (li_1 : K.lookup fI_1 = some ⟨oc_1, od_1, .func (PySem.W.fnOf "__init__" "BadName.__init__" (defArgs si_BadName) (defBody si_BadName) (defScope si_BadName) .none kV_1 dc_1 pm_1 an_1 cd_1 ct_1), sl_1⟩) (ci_1 : PySem.W.codeIn K cd_1 "BadName.__init__" = true) (ki_1 : PySem.W.keepIn K (.ref fI_1) = true)
    (ox_1 : oxB K C_1 fI_1 ["given"] = true)
    (xL_2 : K.lookup C_2 = some (excClassObj nm_2 qn_2 C_2 N_2 bs_2 bm_2 true sn_2 sb_2 ab_2 col_2 dd_2 k0_2 k1_2 k2_2 k3_2 k5_2 "ValueError.__new__"))
    (hb_2 : bm_2.dropWhile refV = [.type "ValueError", .type "Exception", .type "BaseException", .type "object"]) (iC_2 : PySem.W.findIn K (.ref C_2) "__init__" = some (some (.ref fI_2)))
    (li_2 : K.lookup fI_2 = some ⟨oc_2, od_2, .func (PySem.W.fnOf "__init__" "BadOperands.__init__" (defArgs si_BadOperands) (defBody si_BadOperands) (defScope si_BadOperands) .none kV_2 dc_2 pm_2 an_2 cd_2 ct_2), sl_2⟩) (ci_2 : PySem.W.codeIn K cd_2 "BadOperands.__init__" = true) (ki_2 : PySem.W.keepIn K (.ref fI_2) = true)
    (ox_2 : oxB K C_2 fI_2 ["index"] = true)
    (xL_3 : K.lookup C_3 = some (excClassObj nm_3 qn_3 C_3 N_3 bs_3 bm_3 true sn_3 sb_3 ab_3 col_3 dd_3 k0_3 k1_3 k2_3 k3_3 k5_3 "ValueError.__new__"))
    (hb_3 : bm_3.dropWhile refV = [.type "ValueError", .type "Exception", .type "BaseException", .type "object"]) (iC_3 : PySem.W.findIn K (.ref C_3) "__init__" = some (some (.ref fI_3)))
    (li_3 : K.lookup fI_3 = some ⟨oc_3, od_3, .func (PySem.W.fnOf "__init__" "BadBlock.__init__" (defArgs si_BadBlock) (defBody si_BadBlock) (defScope si_BadBlock) .none kV_3 dc_3 pm_3 an_3 cd_3 ct_3), sl_3⟩) (ci_3 : PySem.W.codeIn K cd_3 "BadBlock.__init__" = true) (ki_3 : PySem.W.keepIn K (.ref fI_3) = true)
    (ox_3 : oxB K C_3 fI_3 ["line"] = true)
    (xL_4 : K.lookup C_4 = some (excClassObj nm_4 qn_4 C_4 N_4 bs_4 bm_4 true sn_4 sb_4 ab_4 col_4 dd_4 k0_4 k1_4 k2_4 k3_4 k5_4 "ValueError.__new__"))
    (hb_4 : bm_4.dropWhile refV = [.type "ValueError", .type "Exception", .type "BaseException", .type "object"]) (iC_4 : PySem.W.findIn K (.ref C_4) "__init__" = some (some (.ref fI_4)))
    (li_4 : K.lookup fI_4 = some ⟨oc_4, od_4, .func (PySem.W.fnOf "__init__" "BadCall.__init__" (defArgs si_BadCall) (defBody si_BadCall) (defScope si_BadCall) .none kV_4 dc_4 pm_4 an_4 cd_4 ct_4), sl_4⟩) (ci_4 : PySem.W.codeIn K cd_4 "BadCall.__init__" = true) (ki_4 : PySem.W.keepIn K (.ref fI_4) = true)
    (ox_4 : oxB K C_4 fI_4 ["given"] = true)
    (xL_5 : K.lookup C_5 = some (excClassObj nm_5 qn_5 C_5 N_5 bs_5 bm_5 true sn_5 sb_5 ab_5 col_5 dd_5 k0_5 k1_5 k2_5 k3_5 k5_5 "ValueError.__new__"))
    (hb_5 : bm_5.dropWhile refV = [.type "ValueError", .type "Exception", .type "BaseException", .type "object"]) (iC_5 : PySem.W.findIn K (.ref C_5) "__init__" = some (some (.ref fI_5)))
    (li_5 : K.lookup fI_5 = some ⟨oc_5, od_5, .func (PySem.W.fnOf "__init__" "BadText.__init__" (defArgs si_BadText) (defBody si_BadText) (defScope si_BadText) .none kV_5 dc_5 pm_5 an_5 cd_5 ct_5), sl_5⟩) (ci_5 : PySem.W.codeIn K cd_5 "BadText.__init__" = true) (ki_5 : PySem.W.keepIn K (.ref fI_5) = true)
    (ox_5 : oxB K C_5 fI_5 ["row", "word"] = true)
    (xL_6 : K.lookup C_6 = some (excClassObj nm_6 qn_6 C_6 N_6 bs_6 bm_6 true sn_6 sb_6 ab_6 col_6 dd_6 k0_6 k1_6 k2_6 k3_6 k5_6 "ValueError.__new__"))
    (hb_6 : bm_6.dropWhile refV = [.type "ValueError", .type "Exception", .type "BaseException", .type "object"]) (iC_6 : PySem.W.findIn K (.ref C_6) "__init__" = some (some (.ref fI_6)))
    (li_6 : K.lookup fI_6 = some ⟨oc_6, od_6, .func (PySem.W.fnOf "__init__" "BadTable.__init__" (defArgs si_BadTable) (defBody si_BadTable) (defScope si_BadTable) .none kV_6 dc_6 pm_6 an_6 cd_6 ct_6), sl_6⟩) (ci_6 : PySem.W.codeIn K cd_6 "BadTable.__init__" = true) (ki_6 : PySem.W.keepIn K (.ref fI_6) = true)
    (ox_6 : oxB K C_6 fI_6 ["row", "form"] = true)
    (xL_7 : K.lookup C_7 = some (excClassObj nm_7 qn_7 C_7 N_7 bs_7 bm_7 true sn_7 sb_7 ab_7 col_7 dd_7 k0_7 k1_7 k2_7 k3_7 k5_7 "ValueError.__new__"))
    (hb_7 : bm_7.dropWhile refV = [.type "ValueError", .type "Exception", .type "BaseException", .type "object"]) (iC_7 : PySem.W.findIn K (.ref C_7) "__init__" = some (some (.ref fI_7)))
    (li_7 : K.lookup fI_7 = some ⟨oc_7, od_7, .func (PySem.W.fnOf "__init__" "BadNumber.__init__" (defArgs si_BadNumber) (defBody si_BadNumber) (defScope si_BadNumber) .none kV_7 dc_7 pm_7 an_7 cd_7 ct_7), sl_7⟩) (ci_7 : PySem.W.codeIn K cd_7 "BadNumber.__init__" = true) (ki_7 : PySem.W.keepIn K (.ref fI_7) = true)
    (ox_7 : oxB K C_7 fI_7 ["given"] = true)
    (xL_8 : K.lookup C_8 = some (excClassObj nm_8 qn_8 C_8 N_8 bs_8 bm_8 true sn_8 sb_8 ab_8 col_8 dd_8 k0_8 k1_8 k2_8 k3_8 k5_8 "ValueError.__new__"))
    (hb_8 : bm_8.dropWhile refV = [.type "ValueError", .type "Exception", .type "BaseException", .type "object"]) (iC_8 : PySem.W.findIn K (.ref C_8) "__init__" = some (some (.ref fI_8)))
    (li_8 : K.lookup fI_8 = some ⟨oc_8, od_8, .func (PySem.W.fnOf "__init__" "BadObject.__init__" (defArgs si_BadObject) (defBody si_BadObject) (defScope si_BadObject) .none kV_8 dc_8 pm_8 an_8 cd_8 ct_8), sl_8⟩) (ci_8 : PySem.W.codeIn K cd_8 "BadObject.__init__" = true) (ki_8 : PySem.W.keepIn K (.ref fI_8) = true)
    (ox_8 : oxB K C_8 fI_8 ["given"] = true)
    (xL_9 : K.lookup C_9 = some (excClassObj nm_9 qn_9 C_9 N_9 bs_9 bm_9 true sn_9 sb_9 ab_9 col_9 dd_9 k0_9 k1_9 k2_9 k3_9 k5_9 "ValueError.__new__"))
    (hb_9 : bm_9.dropWhile refV = [.type "ValueError", .type "Exception", .type "BaseException", .type "object"]) (iC_9 : PySem.W.findIn K (.ref C_9) "__init__" = some (some (.ref fI_9)))
    (li_9 : K.lookup fI_9 = some ⟨oc_9, od_9, .func (PySem.W.fnOf "__init__" "BadTree.__init__" (defArgs si_BadTree) (defBody si_BadTree) (defScope si_BadTree) .none kV_9 dc_9 pm_9 an_9 cd_9 ct_9), sl_9⟩) (ci_9 : PySem.W.codeIn K cd_9 "BadTree.__init__" = true) (ki_9 : PySem.W.keepIn K (.ref fI_9) = true)
    (ox_9 : oxB K C_9 fI_9 ["given"] = true)
    (xL_10 : K.lookup C_10 = some (excClassObj nm_10 qn_10 C_10 N_10 bs_10 bm_10 true sn_10 sb_10 ab_10 col_10 dd_10 k0_10 k1_10 k2_10 k3_10 k5_10 "ArithmeticError.__new__"))
    (hb_10 : bm_10.dropWhile refV = [.type "ArithmeticError", .type "Exception", .type "BaseException", .type "object"]) (iC_10 : PySem.W.findIn K (.ref C_10) "__init__" = some (some (.ref fI_10)))
    (li_10 : K.lookup fI_10 = some ⟨oc_10, od_10, .func (PySem.W.fnOf "__init__" "NotPlain.__init__" (defArgs si_NotPlain) (defBody si_NotPlain) (defScope si_NotPlain) .none kV_10 dc_10 pm_10 an_10 cd_10 ct_10), sl_10⟩) (ci_10 : PySem.W.codeIn K cd_10 "NotPlain.__init__" = true) (ki_10 : PySem.W.keepIn K (.ref fI_10) = true)
    (ox_10 : oxB K C_10 fI_10 ["path"] = true)
    (xL_12 : K.lookup C_12 = some (excClassObj nm_12 qn_12 C_12 N_12 bs_12 bm_12 true sn_12 sb_12 ab_12 col_12 dd_12 k0_12 k1_12 k2_12 k3_12 k5_12 "ArithmeticError.__new__"))
    (hb_12 : bm_12.dropWhile refV = [.type "ArithmeticError", .type "Exception", .type "BaseException", .type "object"]) (iC_12 : PySem.W.findIn K (.ref C_12) "__init__" = some (some (.ref fI_12)))
    (li_12 : K.lookup fI_12 = some ⟨oc_12, od_12, .func (PySem.W.fnOf "__init__" "BadShift.__init__" (defArgs si_BadShift) (defBody si_BadShift) (defScope si_BadShift) .none kV_12 dc_12 pm_12 an_12 cd_12 ct_12), sl_12⟩) (ci_12 : PySem.W.codeIn K cd_12 "BadShift.__init__" = true) (ki_12 : PySem.W.keepIn K (.ref fI_12) = true)
    (ox_12 : oxB K C_12 fI_12 ["given"] = true)
    (xL_13 : K.lookup C_13 = some (excClassObj nm_13 qn_13 C_13 N_13 bs_13 bm_13 true sn_13 sb_13 ab_13 col_13 dd_13 k0_13 k1_13 k2_13 k3_13 k5_13 "LookupError.__new__"))
    (hb_13 : bm_13.dropWhile refV = [.type "LookupError", .type "Exception", .type "BaseException", .type "object"]) (iC_13 : PySem.W.findIn K (.ref C_13) "__init__" = some (some (.ref fI_13)))
    (li_13 : K.lookup fI_13 = some ⟨oc_13, od_13, .func (PySem.W.fnOf "__init__" "NoName.__init__" (defArgs si_NoName) (defBody si_NoName) (defScope si_NoName) .none kV_13 dc_13 pm_13 an_13 cd_13 ct_13), sl_13⟩) (ci_13 : PySem.W.codeIn K cd_13 "NoName.__init__" = true) (ki_13 : PySem.W.keepIn K (.ref fI_13) = true)
    (ox_13 : oxB K C_13 fI_13 ["path"] = true)
    (xL_14 : K.lookup C_14 = some (excClassObj nm_14 qn_14 C_14 N_14 bs_14 bm_14 true sn_14 sb_14 ab_14 col_14 dd_14 k0_14 k1_14 k2_14 k3_14 k5_14 "LookupError.__new__"))
    (hb_14 : bm_14.dropWhile refV = [.type "LookupError", .type "Exception", .type "BaseException", .type "object"]) (iC_14 : PySem.W.findIn K (.ref C_14) "__init__" = some (some (.ref fI_14)))
    (li_14 : K.lookup fI_14 = some ⟨oc_14, od_14, .func (PySem.W.fnOf "__init__" "NoInstruction.__init__" (defArgs si_NoInstruction) (defBody si_NoInstruction) (defScope si_NoInstruction) .none kV_14 dc_14 pm_14 an_14 cd_14 ct_14), sl_14⟩) (ci_14 : PySem.W.codeIn K cd_14 "NoInstruction.__init__" = true) (ki_14 : PySem.W.keepIn K (.ref fI_14) = true)
    (ox_14 : oxB K C_14 fI_14 ["given"] = true)
    (xL_15 : K.lookup C_15 = some (excClassObj nm_15 qn_15 C_15 N_15 bs_15 bm_15 true sn_15 sb_15 ab_15 col_15 dd_15 k0_15 k1_15 k2_15 k3_15 k5_15 "LookupError.__new__"))
    (hb_15 : bm_15.dropWhile refV = [.type "LookupError", .type "Exception", .type "BaseException", .type "object"]) (iC_15 : PySem.W.findIn K (.ref C_15) "__init__" = some (some (.ref fI_15)))
    (li_15 : K.lookup fI_15 = some ⟨oc_15, od_15, .func (PySem.W.fnOf "__init__" "NoOrigin.__init__" (defArgs si_NoOrigin) (defBody si_NoOrigin) (defScope si_NoOrigin) .none kV_15 dc_15 pm_15 an_15 cd_15 ct_15), sl_15⟩) (ci_15 : PySem.W.codeIn K cd_15 "NoOrigin.__init__" = true) (ki_15 : PySem.W.keepIn K (.ref fI_15) = true)
    (ox_15 : oxB K C_15 fI_15 ["address"] = true)
    (xL_16 : K.lookup C_16 = some (excClassObj nm_16 qn_16 C_16 N_16 bs_16 bm_16 true sn_16 sb_16 ab_16 col_16 dd_16 k0_16 k1_16 k2_16 k3_16 k5_16 "RuntimeError.__new__"))
    (hb_16 : bm_16.dropWhile refV = [.type "RuntimeError", .type "Exception", .type "BaseException", .type "object"]) (iC_16 : PySem.W.findIn K (.ref C_16) "__init__" = some (some (.ref fI_16)))
    (li_16 : K.lookup fI_16 = some ⟨oc_16, od_16, .func (PySem.W.fnOf "__init__" "Ring.__init__" (defArgs si_Ring) (defBody si_Ring) (defScope si_Ring) .none kV_16 dc_16 pm_16 an_16 cd_16 ct_16), sl_16⟩) (ci_16 : PySem.W.codeIn K cd_16 "Ring.__init__" = true) (ki_16 : PySem.W.keepIn K (.ref fI_16) = true)
    (ox_16 : oxB K C_16 fI_16 ["names"] = true)
    (xL_17 : K.lookup C_17 = some (excClassObj nm_17 qn_17 C_17 N_17 bs_17 bm_17 true sn_17 sb_17 ab_17 col_17 dd_17 k0_17 k1_17 k2_17 k3_17 k5_17 "RuntimeError.__new__"))
    (hb_17 : bm_17.dropWhile refV = [.type "RuntimeError", .type "Exception", .type "BaseException", .type "object"]) (iC_17 : PySem.W.findIn K (.ref C_17) "__init__" = some (some (.ref fI_17)))
    (li_17 : K.lookup fI_17 = some ⟨oc_17, od_17, .func (PySem.W.fnOf "__init__" "Cycle.__init__" (defArgs si_Cycle) (defBody si_Cycle) (defScope si_Cycle) .none kV_17 dc_17 pm_17 an_17 cd_17 ct_17), sl_17⟩) (ci_17 : PySem.W.codeIn K cd_17 "Cycle.__init__" = true) (ki_17 : PySem.W.keepIn K (.ref fI_17) = true)
    (ox_17 : oxB K C_17 fI_17 ["names"] = true)
    (xL_18 : K.lookup C_18 = some (excClassObj nm_18 qn_18 C_18 N_18 bs_18 bm_18 true sn_18 sb_18 ab_18 col_18 dd_18 k0_18 k1_18 k2_18 k3_18 k5_18 "RuntimeError.__new__"))
    (hb_18 : bm_18.dropWhile refV = [.type "RuntimeError", .type "Exception", .type "BaseException", .type "object"]) (iC_18 : PySem.W.findIn K (.ref C_18) "__init__" = some (some (.ref fI_18)))
    (li_18 : K.lookup fI_18 = some ⟨oc_18, od_18, .func (PySem.W.fnOf "__init__" "Taken.__init__" (defArgs si_Taken) (defBody si_Taken) (defScope si_Taken) .none kV_18 dc_18 pm_18 an_18 cd_18 ct_18), sl_18⟩) (ci_18 : PySem.W.codeIn K cd_18 "Taken.__init__" = true) (ki_18 : PySem.W.keepIn K (.ref fI_18) = true)
    (ox_18 : oxB K C_18 fI_18 ["path"] = true)
    (xL_19 : K.lookup C_19 = some (excClassObj nm_19 qn_19 C_19 N_19 bs_19 bm_19 true sn_19 sb_19 ab_19 col_19 dd_19 k0_19 k1_19 k2_19 k3_19 k5_19 "RuntimeError.__new__"))
    (hb_19 : bm_19.dropWhile refV = [.type "RuntimeError", .type "Exception", .type "BaseException", .type "object"]) (iC_19 : PySem.W.findIn K (.ref C_19) "__init__" = some (some (.ref fI_19)))
    (li_19 : K.lookup fI_19 = some ⟨oc_19, od_19, .func (PySem.W.fnOf "__init__" "Unresolved.__init__" (defArgs si_Unresolved) (defBody si_Unresolved) (defScope si_Unresolved) .none kV_19 dc_19 pm_19 an_19 cd_19 ct_19), sl_19⟩) (ci_19 : PySem.W.codeIn K cd_19 "Unresolved.__init__" = true) (ki_19 : PySem.W.keepIn K (.ref fI_19) = true)
    (ox_19 : oxB K C_19 fI_19 ["names"] = true)
    (xL_20 : K.lookup C_20 = some (excClassObj nm_20 qn_20 C_20 N_20 bs_20 bm_20 true sn_20 sb_20 ab_20 col_20 dd_20 k0_20 k1_20 k2_20 k3_20 k5_20 "RuntimeError.__new__"))
    (hb_20 : bm_20.dropWhile refV = [.type "RuntimeError", .type "Exception", .type "BaseException", .type "object"]) (iC_20 : PySem.W.findIn K (.ref C_20) "__init__" = some (some (.ref fI_20)))
    (li_20 : K.lookup fI_20 = some ⟨oc_20, od_20, .func (PySem.W.fnOf "__init__" "OutOfRange.__init__" (defArgs si_OutOfRange) (defBody si_OutOfRange) (defScope si_OutOfRange) .none kV_20 dc_20 pm_20 an_20 cd_20 ct_20), sl_20⟩) (ci_20 : PySem.W.codeIn K cd_20 "OutOfRange.__init__" = true) (ki_20 : PySem.W.keepIn K (.ref fI_20) = true)
    (ox_20 : oxB K C_20 fI_20 ["section", "index"] = true)
    (xL_22 : K.lookup C_22 = some (excClassObj nm_22 qn_22 C_22 N_22 bs_22 bm_22 true sn_22 sb_22 ab_22 col_22 dd_22 k0_22 k1_22 k2_22 k3_22 k5_22 "OverflowError.__new__"))
    (hb_22 : bm_22.dropWhile refV = [.type "OverflowError", .type "ArithmeticError", .type "Exception", .type "BaseException", .type "object"]) (iC_22 : PySem.W.findIn K (.ref C_22) "__init__" = some (some (.ref fI_22)))
    (li_22 : K.lookup fI_22 = some ⟨oc_22, od_22, .func (PySem.W.fnOf "__init__" "TooLarge.__init__" (defArgs si_TooLarge) (defBody si_TooLarge) (defScope si_TooLarge) .none kV_22 dc_22 pm_22 an_22 cd_22 ct_22), sl_22⟩) (ci_22 : PySem.W.codeIn K cd_22 "TooLarge.__init__" = true) (ki_22 : PySem.W.keepIn K (.ref fI_22) = true)
    (ox_22 : oxB K C_22 fI_22 ["limit"] = true)
    (xL_23 : K.lookup C_23 = some (excClassObj nm_23 qn_23 C_23 N_23 bs_23 bm_23 true sn_23 sb_23 ab_23 col_23 dd_23 k0_23 k1_23 k2_23 k3_23 k5_23 "Exception.__new__"))
    (hb_23 : bm_23.dropWhile refV = [.type "Exception", .type "BaseException", .type "object"]) (iC_23 : PySem.W.findIn K (.ref C_23) "__init__" = some (some (.ref fI_23)))
    (li_23 : K.lookup fI_23 = some ⟨oc_23, od_23, .func (PySem.W.fnOf "__init__" "Trouble.__init__" (defArgs si_Trouble) (defBody si_Trouble) (defScope si_Trouble) .none kV_23 dc_23 pm_23 an_23 cd_23 ct_23), sl_23⟩) (ci_23 : PySem.W.codeIn K cd_23 "Trouble.__init__" = true) (ki_23 : PySem.W.keepIn K (.ref fI_23) = true)
    (ox_23 : oxB K C_23 fI_23 ["origin", "cause"] = true)
    (x0_11 : PySem.W.excIn K C_11 [.type "ArithmeticError", .type "Exception", .type "BaseException", .type "object"] "ArithmeticError.__new__" = true) (k0C_11 : PySem.W.keepIn K (.ref C_11) = true) (e0_11 : ecB K C_11 = true)
    (x0_21 : PySem.W.excIn K C_21 [.type "RuntimeError", .type "Exception", .type "BaseException", .type "object"] "RuntimeError.__new__" = true) (k0C_21 : PySem.W.keepIn K (.ref C_21) = true) (e0_21 : ecB K C_21 = true)
    (tab : tabB K (fun k => [C_0, C_1, C_2, C_3, C_4, C_5, C_6, C_7, C_8, C_9, C_10, C_11, C_12, C_13, C_14, C_15, C_16, C_17, C_18, C_19, C_20, C_21, C_22, C_23].getD k 0) (fun j => [F_0, F_1, F_2, F_3, F_4].getD j 0) = true)
    : ∃ fd : FuncData, (∀ (s : Shared) (v : Value), BindsTo s fd ⟨[v], []⟩ [("_law_script", v)]) ∧ ∀ base : Heap, K.In base → base.Ns mainGlobals mg → GOk l.prog w K mg base CX0 4 fa fd ["_law_script"] (spLaw K) := by
  have e := hfa.symm.trans (PySem.W.mg_of X G a10)
  cases e
  have O_0 : OxF K C_0 fI_0 ["column"] := oxF_of fam_Value xL_0 hb_0 iC_0 hn ht ox_0
  have O_1 : OxF K C_1 fI_1 ["given"] := oxF_of fam_Value xL_1 hb_1 iC_1 hn ht ox_1
  have O_2 : OxF K C_2 fI_2 ["index"] := oxF_of fam_Value xL_2 hb_2 iC_2 hn ht ox_2
  have O_3 : OxF K C_3 fI_3 ["line"] := oxF_of fam_Value xL_3 hb_3 iC_3 hn ht ox_3
  have O_4 : OxF K C_4 fI_4 ["given"] := oxF_of fam_Value xL_4 hb_4 iC_4 hn ht ox_4
  have O_5 : OxF K C_5 fI_5 ["row", "word"] := oxF_of fam_Value xL_5 hb_5 iC_5 hn ht ox_5
  have O_6 : OxF K C_6 fI_6 ["row", "form"] := oxF_of fam_Value xL_6 hb_6 iC_6 hn ht ox_6
  have O_7 : OxF K C_7 fI_7 ["given"] := oxF_of fam_Value xL_7 hb_7 iC_7 hn ht ox_7
  have O_8 : OxF K C_8 fI_8 ["given"] := oxF_of fam_Value xL_8 hb_8 iC_8 hn ht ox_8
  have O_9 : OxF K C_9 fI_9 ["given"] := oxF_of fam_Value xL_9 hb_9 iC_9 hn ht ox_9
  have O_10 : OxF K C_10 fI_10 ["path"] := oxF_of fam_Arith xL_10 hb_10 iC_10 hn ht ox_10
  have O_12 : OxF K C_12 fI_12 ["given"] := oxF_of fam_Arith xL_12 hb_12 iC_12 hn ht ox_12
  have O_13 : OxF K C_13 fI_13 ["path"] := oxF_of fam_Lookup xL_13 hb_13 iC_13 hn ht ox_13
  have O_14 : OxF K C_14 fI_14 ["given"] := oxF_of fam_Lookup xL_14 hb_14 iC_14 hn ht ox_14
  have O_15 : OxF K C_15 fI_15 ["address"] := oxF_of fam_Lookup xL_15 hb_15 iC_15 hn ht ox_15
  have O_16 : OxF K C_16 fI_16 ["names"] := oxF_of fam_Runtime xL_16 hb_16 iC_16 hn ht ox_16
  have O_17 : OxF K C_17 fI_17 ["names"] := oxF_of fam_Runtime xL_17 hb_17 iC_17 hn ht ox_17
  have O_18 : OxF K C_18 fI_18 ["path"] := oxF_of fam_Runtime xL_18 hb_18 iC_18 hn ht ox_18
  have O_19 : OxF K C_19 fI_19 ["names"] := oxF_of fam_Runtime xL_19 hb_19 iC_19 hn ht ox_19
  have O_20 : OxF K C_20 fI_20 ["section", "index"] := oxF_of fam_Runtime xL_20 hb_20 iC_20 hn ht ox_20
  have O_22 : OxF K C_22 fI_22 ["limit"] := oxF_of fam_Overflow xL_22 hb_22 iC_22 hn ht ox_22
  have O_23 : OxF K C_23 fI_23 ["origin", "cause"] := oxF_of fam_Exc xL_23 hb_23 iC_23 hn ht ox_23
  have T : Tx K mg (fun k => [C_0, C_1, C_2, C_3, C_4, C_5, C_6, C_7, C_8, C_9, C_10, C_11, C_12, C_13, C_14, C_15, C_16, C_17, C_18, C_19, C_20, C_21, C_22, C_23].getD k 0) (fun j => [F_0, F_1, F_2, F_3, F_4].getD j 0) := {
    b_int := PySem.W.mg_none_of X G b_int,
    b_len := PySem.W.mg_none_of X G b_len,
    b_isinstance := PySem.W.mg_none_of X G b_isinstance,
    b_repr := PySem.W.mg_none_of X G b_repr,
    b_enumerate := PySem.W.mg_none_of X G b_enumerate,
    b_range := PySem.W.mg_none_of X G b_range,
    b_ValueError := PySem.W.mg_none_of X G b_ValueError,
    b_ArithmeticError := PySem.W.mg_none_of X G b_ArithmeticError,
    b_LookupError := PySem.W.mg_none_of X G b_LookupError,
    b_RuntimeError := PySem.W.mg_none_of X G b_RuntimeError,
    b_OverflowError := PySem.W.mg_none_of X G b_OverflowError,
    b_KeyError := PySem.W.mg_none_of X G b_KeyError,
    b_IndexError := PySem.W.mg_none_of X G b_IndexError,
    b_NotImplementedError := PySem.W.mg_none_of X G b_NotImplementedError,
    b_ZeroDivisionError := PySem.W.mg_none_of X G b_ZeroDivisionError,
    c_BadLine := PySem.W.mg_of X G aC_0,
    c_BadName := PySem.W.mg_of X G aC_1,
    c_BadOperands := PySem.W.mg_of X G aC_2,
    c_BadBlock := PySem.W.mg_of X G aC_3,
    c_BadCall := PySem.W.mg_of X G aC_4,
    c_BadText := PySem.W.mg_of X G aC_5,
    c_BadTable := PySem.W.mg_of X G aC_6,
    c_BadNumber := PySem.W.mg_of X G aC_7,
    c_BadObject := PySem.W.mg_of X G aC_8,
    c_BadTree := PySem.W.mg_of X G aC_9,
    c_NotPlain := PySem.W.mg_of X G aC_10,
    c_DividedByZero := PySem.W.mg_of X G aC_11,
    c_BadShift := PySem.W.mg_of X G aC_12,
    c_NoName := PySem.W.mg_of X G aC_13,
    c_NoInstruction := PySem.W.mg_of X G aC_14,
    c_NoOrigin := PySem.W.mg_of X G aC_15,
    c_Ring := PySem.W.mg_of X G aC_16,
    c_Cycle := PySem.W.mg_of X G aC_17,
    c_Taken := PySem.W.mg_of X G aC_18,
    c_Unresolved := PySem.W.mg_of X G aC_19,
    c_OutOfRange := PySem.W.mg_of X G aC_20,
    c_NothingLeft := PySem.W.mg_of X G aC_21,
    c_TooLarge := PySem.W.mg_of X G aC_22,
    c_Trouble := PySem.W.mg_of X G aC_23,
    c_TextError := PySem.W.mg_of X G aF_0,
    c_ValueTrouble := PySem.W.mg_of X G aF_1,
    c_LookupTrouble := PySem.W.mg_of X G aF_2,
    c_StateTrouble := PySem.W.mg_of X G aF_3,
    c_LimitTrouble := PySem.W.mg_of X G aF_4,
    tab := tab_of tab,
    ec := fun k hk => match k, hk with | 0, _ => O_0.ec | 1, _ => O_1.ec | 2, _ => O_2.ec | 3, _ => O_3.ec | 4, _ => O_4.ec | 5, _ => O_5.ec | 6, _ => O_6.ec | 7, _ => O_7.ec | 8, _ => O_8.ec | 9, _ => O_9.ec | 10, _ => O_10.ec | 11, _ => ecB_ok hn ht e0_11 | 12, _ => O_12.ec | 13, _ => O_13.ec | 14, _ => O_14.ec | 15, _ => O_15.ec | 16, _ => O_16.ec | 17, _ => O_17.ec | 18, _ => O_18.ec | 19, _ => O_19.ec | 20, _ => O_20.ec | 21, _ => ecB_ok hn ht e0_21 | 22, _ => O_22.ec | 23, _ => O_23.ec | (m + 24), h => absurd h (by omega),
    xf := fun k hk h1 h2 => match k, hk, h1, h2 with | 0, _, _, _ => O_0.xf | 1, _, _, _ => O_1.xf | 2, _, _, _ => O_2.xf | 3, _, _, _ => O_3.xf | 4, _, _, _ => O_4.xf | 5, _, _, _ => O_5.xf | 6, _, _, _ => O_6.xf | 7, _, _, _ => O_7.xf | 8, _, _, _ => O_8.xf | 9, _, _, _ => O_9.xf | 10, _, _, _ => O_10.xf | 11, _, q1, q2 => absurd rfl q1 | 12, _, _, _ => O_12.xf | 13, _, _, _ => O_13.xf | 14, _, _, _ => O_14.xf | 15, _, _, _ => O_15.xf | 16, _, _, _ => O_16.xf | 17, _, _, _ => O_17.xf | 18, _, _, _ => O_18.xf | 19, _, _, _ => O_19.xf | 20, _, _, _ => O_20.xf | 21, _, q1, q2 => absurd rfl q2 | 22, _, _, _ => O_22.xf | 23, _, _, _ => O_23.xf | (m + 24), h, _, _ => absurd h (by omega),
    nf := fun k l hk => match k, hk with | 0, _ => nf_1 O_0 l | 1, _ => nf_1 O_1 l | 2, _ => nf_1 O_2 l | 3, _ => nf_1 O_3 l | 4, _ => nf_1 O_4 l | 5, _ => nf_2 O_5 l | 6, _ => nf_2 O_6 l | 7, _ => nf_1 O_7 l | 8, _ => nf_1 O_8 l | 9, _ => nf_1 O_9 l | 10, _ => nf_1 O_10 l | 11, _ => fun h => (by cases h) | 12, _ => nf_1 O_12 l | 13, _ => nf_1 O_13 l | 14, _ => nf_1 O_14 l | 15, _ => nf_1 O_15 l | 16, _ => nf_1 O_16 l | 17, _ => nf_1 O_17 l | 18, _ => nf_1 O_18 l | 19, _ => nf_1 O_19 l | 20, _ => nf_2 O_20 l | 21, _ => fun h => (by cases h) | 22, _ => nf_1 O_22 l | 23, _ => nf_2 O_23 l | (m + 24), h => absurd h (by omega),
    x_DividedByZero := x0_11,
    k_DividedByZero := k0C_11,
    x_NothingLeft := x0_21,
    k_NothingLeft := k0C_21 }
  have F0 := fun_mk (st := s_law_mixed) l0 c0 k0
  have B0 := F0.binds (ps := ["_law_number", "_law_k"]) fun _ _ _ _ _ _ us hl => match us, hl with | [_, _], _ => rfl
  have F1 := fun_mk (st := s_law_stream) l1 c1 k1
  have B1 := F1.binds (ps := ["_law_item", "_law_k"]) fun _ _ _ _ _ _ us hl => match us, hl with | [_, _], _ => rfl
  have F2 := fun_mk (st := s_law_draw) l2 c2 k2
  have B2 := F2.binds (ps := ["_law_stream_here", "_law_top"]) fun _ _ _ _ _ _ us hl => match us, hl with | [_, _], _ => rfl
  have F3 := fun_mk (st := s_law_pick) l3 c3 k3
  have B3 := F3.binds (ps := ["_law_stream_here", "_law_some"]) fun _ _ _ _ _ _ us hl => match us, hl with | [_, _], _ => rfl
  have F4 := fun_mk (st := s_law_made) l4 c4 k4
  have B4 := F4.binds (ps := ["_law_one"]) fun _ _ _ _ _ _ us hl => match us, hl with | [_], _ => rfl
  have F5 := fun_mk (st := s_law_named) l5 c5 k5
  have B5 := F5.binds (ps := ["_law_one"]) fun _ _ _ _ _ _ us hl => match us, hl with | [_], _ => rfl
  have F6 := fun_mk (st := s_law_kinds) l6 c6 k6
  have B6 := F6.binds (ps := ["_law_error"]) fun _ _ _ _ _ _ us hl => match us, hl with | [_], _ => rfl
  have F7 := fun_mk (st := s_law_families) l7 c7 k7
  have B7 := F7.binds (ps := ["_law_error"]) fun _ _ _ _ _ _ us hl => match us, hl with | [_], _ => rfl
  have F8 := fun_mk (st := s_law_fields) l8 c8 k8
  have B8 := F8.binds (ps := ["_law_some"]) fun _ _ _ _ _ _ us hl => match us, hl with | [_], _ => rfl
  have F9 := fun_mk (st := s_law_right) l9 c9 k9
  have B9 := F9.binds (ps := ["_law_some", "_law_one"]) fun _ _ _ _ _ _ us hl => match us, hl with | [_, _], _ => rfl
  have F10 := fun_mk (st := s_law) l10 c10 k10
  have FI_0 := fun_mk (st := si_BadLine) li_0 ci_0 ki_0
  have FI_1 := fun_mk (st := si_BadName) li_1 ci_1 ki_1
  have FI_2 := fun_mk (st := si_BadOperands) li_2 ci_2 ki_2
  have FI_3 := fun_mk (st := si_BadBlock) li_3 ci_3 ki_3
  have FI_4 := fun_mk (st := si_BadCall) li_4 ci_4 ki_4
  have FI_5 := fun_mk (st := si_BadText) li_5 ci_5 ki_5
  have FI_6 := fun_mk (st := si_BadTable) li_6 ci_6 ki_6
  have FI_7 := fun_mk (st := si_BadNumber) li_7 ci_7 ki_7
  have FI_8 := fun_mk (st := si_BadObject) li_8 ci_8 ki_8
  have FI_9 := fun_mk (st := si_BadTree) li_9 ci_9 ki_9
  have FI_10 := fun_mk (st := si_NotPlain) li_10 ci_10 ki_10
  have FI_12 := fun_mk (st := si_BadShift) li_12 ci_12 ki_12
  have FI_13 := fun_mk (st := si_NoName) li_13 ci_13 ki_13
  have FI_14 := fun_mk (st := si_NoInstruction) li_14 ci_14 ki_14
  have FI_15 := fun_mk (st := si_NoOrigin) li_15 ci_15 ki_15
  have FI_16 := fun_mk (st := si_Ring) li_16 ci_16 ki_16
  have FI_17 := fun_mk (st := si_Cycle) li_17 ci_17 ki_17
  have FI_18 := fun_mk (st := si_Taken) li_18 ci_18 ki_18
  have FI_19 := fun_mk (st := si_Unresolved) li_19 ci_19 ki_19
  have FI_20 := fun_mk (st := si_OutOfRange) li_20 ci_20 ki_20
  have FI_22 := fun_mk (st := si_TooLarge) li_22 ci_22 ki_22
  have FI_23 := fun_mk (st := si_Trouble) li_23 ci_23 ki_23
  refine ⟨PySem.W.fnOf "law" "law" (defArgs s_law) (defBody s_law) (defScope s_law) .none kV10 dc10 pm10 an10 cd10 ct10, fun s v => .of_eq rfl, fun base _ _ => ?_⟩
  have D_BadLine : Xc l.prog w K mg base CX0 "BadLine" C_0 ["column"] := ⟨PySem.W.mg_of X G aC_0, fI_0, _, O_0, oki_BadLine FI_0 O_0, FI_0.binds (ps := ["self", "column"]) (fun _ _ _ _ _ _ us hl => match us, hl with | [_, _], _ => rfl), FI_0.kbindsR (ps := ["column"]) (fun _ _ _ _ _ _ u ws hl => match ws, hl with | [_], _ => rfl)⟩
  have D_BadName : Xc l.prog w K mg base CX0 "BadName" C_1 ["given"] := ⟨PySem.W.mg_of X G aC_1, fI_1, _, O_1, oki_BadName FI_1 O_1, FI_1.binds (ps := ["self", "given"]) (fun _ _ _ _ _ _ us hl => match us, hl with | [_, _], _ => rfl), FI_1.kbindsR (ps := ["given"]) (fun _ _ _ _ _ _ u ws hl => match ws, hl with | [_], _ => rfl)⟩
  have D_BadOperands : Xc l.prog w K mg base CX0 "BadOperands" C_2 ["index"] := ⟨PySem.W.mg_of X G aC_2, fI_2, _, O_2, oki_BadOperands FI_2 O_2, FI_2.binds (ps := ["self", "index"]) (fun _ _ _ _ _ _ us hl => match us, hl with | [_, _], _ => rfl), FI_2.kbindsR (ps := ["index"]) (fun _ _ _ _ _ _ u ws hl => match ws, hl with | [_], _ => rfl)⟩
  have D_BadBlock : Xc l.prog w K mg base CX0 "BadBlock" C_3 ["line"] := ⟨PySem.W.mg_of X G aC_3, fI_3, _, O_3, oki_BadBlock FI_3 O_3, FI_3.binds (ps := ["self", "line"]) (fun _ _ _ _ _ _ us hl => match us, hl with | [_, _], _ => rfl), FI_3.kbindsR (ps := ["line"]) (fun _ _ _ _ _ _ u ws hl => match ws, hl with | [_], _ => rfl)⟩
  have D_BadCall : Xc l.prog w K mg base CX0 "BadCall" C_4 ["given"] := ⟨PySem.W.mg_of X G aC_4, fI_4, _, O_4, oki_BadCall FI_4 O_4, FI_4.binds (ps := ["self", "given"]) (fun _ _ _ _ _ _ us hl => match us, hl with | [_, _], _ => rfl), FI_4.kbindsR (ps := ["given"]) (fun _ _ _ _ _ _ u ws hl => match ws, hl with | [_], _ => rfl)⟩
  have D_BadText : Xc l.prog w K mg base CX0 "BadText" C_5 ["row", "word"] := ⟨PySem.W.mg_of X G aC_5, fI_5, _, O_5, oki_BadText FI_5 O_5, FI_5.binds (ps := ["self", "row", "word"]) (fun _ _ _ _ _ _ us hl => match us, hl with | [_, _, _], _ => rfl), FI_5.kbindsR (ps := ["row", "word"]) (fun _ _ _ _ _ _ u ws hl => match ws, hl with | [_, _], _ => rfl)⟩
  have D_BadTable : Xc l.prog w K mg base CX0 "BadTable" C_6 ["row", "form"] := ⟨PySem.W.mg_of X G aC_6, fI_6, _, O_6, oki_BadTable FI_6 O_6, FI_6.binds (ps := ["self", "row", "form"]) (fun _ _ _ _ _ _ us hl => match us, hl with | [_, _, _], _ => rfl), FI_6.kbindsR (ps := ["row", "form"]) (fun _ _ _ _ _ _ u ws hl => match ws, hl with | [_, _], _ => rfl)⟩
  have D_BadNumber : Xc l.prog w K mg base CX0 "BadNumber" C_7 ["given"] := ⟨PySem.W.mg_of X G aC_7, fI_7, _, O_7, oki_BadNumber FI_7 O_7, FI_7.binds (ps := ["self", "given"]) (fun _ _ _ _ _ _ us hl => match us, hl with | [_, _], _ => rfl), FI_7.kbindsR (ps := ["given"]) (fun _ _ _ _ _ _ u ws hl => match ws, hl with | [_], _ => rfl)⟩
  have D_BadObject : Xc l.prog w K mg base CX0 "BadObject" C_8 ["given"] := ⟨PySem.W.mg_of X G aC_8, fI_8, _, O_8, oki_BadObject FI_8 O_8, FI_8.binds (ps := ["self", "given"]) (fun _ _ _ _ _ _ us hl => match us, hl with | [_, _], _ => rfl), FI_8.kbindsR (ps := ["given"]) (fun _ _ _ _ _ _ u ws hl => match ws, hl with | [_], _ => rfl)⟩
  have D_BadTree : Xc l.prog w K mg base CX0 "BadTree" C_9 ["given"] := ⟨PySem.W.mg_of X G aC_9, fI_9, _, O_9, oki_BadTree FI_9 O_9, FI_9.binds (ps := ["self", "given"]) (fun _ _ _ _ _ _ us hl => match us, hl with | [_, _], _ => rfl), FI_9.kbindsR (ps := ["given"]) (fun _ _ _ _ _ _ u ws hl => match ws, hl with | [_], _ => rfl)⟩
  have D_NotPlain : Xc l.prog w K mg base CX0 "NotPlain" C_10 ["path"] := ⟨PySem.W.mg_of X G aC_10, fI_10, _, O_10, oki_NotPlain FI_10 O_10, FI_10.binds (ps := ["self", "path"]) (fun _ _ _ _ _ _ us hl => match us, hl with | [_, _], _ => rfl), FI_10.kbindsR (ps := ["path"]) (fun _ _ _ _ _ _ u ws hl => match ws, hl with | [_], _ => rfl)⟩
  have D_BadShift : Xc l.prog w K mg base CX0 "BadShift" C_12 ["given"] := ⟨PySem.W.mg_of X G aC_12, fI_12, _, O_12, oki_BadShift FI_12 O_12, FI_12.binds (ps := ["self", "given"]) (fun _ _ _ _ _ _ us hl => match us, hl with | [_, _], _ => rfl), FI_12.kbindsR (ps := ["given"]) (fun _ _ _ _ _ _ u ws hl => match ws, hl with | [_], _ => rfl)⟩
  have D_NoName : Xc l.prog w K mg base CX0 "NoName" C_13 ["path"] := ⟨PySem.W.mg_of X G aC_13, fI_13, _, O_13, oki_NoName FI_13 O_13, FI_13.binds (ps := ["self", "path"]) (fun _ _ _ _ _ _ us hl => match us, hl with | [_, _], _ => rfl), FI_13.kbindsR (ps := ["path"]) (fun _ _ _ _ _ _ u ws hl => match ws, hl with | [_], _ => rfl)⟩
  have D_NoInstruction : Xc l.prog w K mg base CX0 "NoInstruction" C_14 ["given"] := ⟨PySem.W.mg_of X G aC_14, fI_14, _, O_14, oki_NoInstruction FI_14 O_14, FI_14.binds (ps := ["self", "given"]) (fun _ _ _ _ _ _ us hl => match us, hl with | [_, _], _ => rfl), FI_14.kbindsR (ps := ["given"]) (fun _ _ _ _ _ _ u ws hl => match ws, hl with | [_], _ => rfl)⟩
  have D_NoOrigin : Xc l.prog w K mg base CX0 "NoOrigin" C_15 ["address"] := ⟨PySem.W.mg_of X G aC_15, fI_15, _, O_15, oki_NoOrigin FI_15 O_15, FI_15.binds (ps := ["self", "address"]) (fun _ _ _ _ _ _ us hl => match us, hl with | [_, _], _ => rfl), FI_15.kbindsR (ps := ["address"]) (fun _ _ _ _ _ _ u ws hl => match ws, hl with | [_], _ => rfl)⟩
  have D_Ring : Xc l.prog w K mg base CX0 "Ring" C_16 ["names"] := ⟨PySem.W.mg_of X G aC_16, fI_16, _, O_16, oki_Ring FI_16 O_16, FI_16.binds (ps := ["self", "names"]) (fun _ _ _ _ _ _ us hl => match us, hl with | [_, _], _ => rfl), FI_16.kbindsR (ps := ["names"]) (fun _ _ _ _ _ _ u ws hl => match ws, hl with | [_], _ => rfl)⟩
  have D_Cycle : Xc l.prog w K mg base CX0 "Cycle" C_17 ["names"] := ⟨PySem.W.mg_of X G aC_17, fI_17, _, O_17, oki_Cycle FI_17 O_17, FI_17.binds (ps := ["self", "names"]) (fun _ _ _ _ _ _ us hl => match us, hl with | [_, _], _ => rfl), FI_17.kbindsR (ps := ["names"]) (fun _ _ _ _ _ _ u ws hl => match ws, hl with | [_], _ => rfl)⟩
  have D_Taken : Xc l.prog w K mg base CX0 "Taken" C_18 ["path"] := ⟨PySem.W.mg_of X G aC_18, fI_18, _, O_18, oki_Taken FI_18 O_18, FI_18.binds (ps := ["self", "path"]) (fun _ _ _ _ _ _ us hl => match us, hl with | [_, _], _ => rfl), FI_18.kbindsR (ps := ["path"]) (fun _ _ _ _ _ _ u ws hl => match ws, hl with | [_], _ => rfl)⟩
  have D_Unresolved : Xc l.prog w K mg base CX0 "Unresolved" C_19 ["names"] := ⟨PySem.W.mg_of X G aC_19, fI_19, _, O_19, oki_Unresolved FI_19 O_19, FI_19.binds (ps := ["self", "names"]) (fun _ _ _ _ _ _ us hl => match us, hl with | [_, _], _ => rfl), FI_19.kbindsR (ps := ["names"]) (fun _ _ _ _ _ _ u ws hl => match ws, hl with | [_], _ => rfl)⟩
  have D_OutOfRange : Xc l.prog w K mg base CX0 "OutOfRange" C_20 ["section", "index"] := ⟨PySem.W.mg_of X G aC_20, fI_20, _, O_20, oki_OutOfRange FI_20 O_20, FI_20.binds (ps := ["self", "section", "index"]) (fun _ _ _ _ _ _ us hl => match us, hl with | [_, _, _], _ => rfl), FI_20.kbindsR (ps := ["section", "index"]) (fun _ _ _ _ _ _ u ws hl => match ws, hl with | [_, _], _ => rfl)⟩
  have D_TooLarge : Xc l.prog w K mg base CX0 "TooLarge" C_22 ["limit"] := ⟨PySem.W.mg_of X G aC_22, fI_22, _, O_22, oki_TooLarge FI_22 O_22, FI_22.binds (ps := ["self", "limit"]) (fun _ _ _ _ _ _ us hl => match us, hl with | [_, _], _ => rfl), FI_22.kbindsR (ps := ["limit"]) (fun _ _ _ _ _ _ u ws hl => match ws, hl with | [_], _ => rfl)⟩
  have D_Trouble : Xc l.prog w K mg base CX0 "Trouble" C_23 ["origin", "cause"] := ⟨PySem.W.mg_of X G aC_23, fI_23, _, O_23, oki_Trouble FI_23 O_23, FI_23.binds (ps := ["self", "origin", "cause"]) (fun _ _ _ _ _ _ us hl => match us, hl with | [_, _, _], _ => rfl), FI_23.kbindsR (ps := ["origin", "cause"]) (fun _ _ _ _ _ _ u ws hl => match ws, hl with | [_, _], _ => rfl)⟩
  have D_law_mixed : Df l.prog w K mg base CX0 _ _ _ _ := ⟨_, _, ok_law_mixed F0 T, B0, k0, PySem.W.mg_of X G a0⟩
  have D_law_stream : Df l.prog w K mg base CX0 _ _ _ _ := ⟨_, _, ok_law_stream F1 T D_law_mixed, B1, k1, PySem.W.mg_of X G a1⟩
  have D_law_draw : Df l.prog w K mg base CX0 _ _ _ _ := ⟨_, _, ok_law_draw F2 T D_law_mixed, B2, k2, PySem.W.mg_of X G a2⟩
  have D_law_pick : Df l.prog w K mg base CX0 _ _ _ _ := ⟨_, _, ok_law_pick F3 T D_law_draw, B3, k3, PySem.W.mg_of X G a3⟩
  have D_law_made : Df l.prog w K mg base CX0 _ _ _ _ := ⟨_, _, ok_law_made F4 T D_BadLine D_BadName D_BadOperands D_BadBlock D_BadCall D_BadText D_BadTable D_BadNumber D_BadObject D_BadTree D_NotPlain D_BadShift D_NoName D_NoInstruction D_NoOrigin D_Ring D_Cycle D_Taken D_Unresolved D_OutOfRange D_TooLarge D_Trouble, B4, k4, PySem.W.mg_of X G a4⟩
  have D_law_named : Df l.prog w K mg base CX0 _ _ _ _ := ⟨_, _, ok_law_named F5 T D_BadLine D_BadName D_BadOperands D_BadBlock D_BadCall D_BadText D_BadTable D_BadNumber D_BadObject D_BadTree D_NotPlain D_BadShift D_NoName D_NoInstruction D_NoOrigin D_Ring D_Cycle D_Taken D_Unresolved D_OutOfRange D_TooLarge D_Trouble, B5, k5, PySem.W.mg_of X G a5⟩
  have D_law_kinds : Df l.prog w K mg base CX0 _ _ _ _ := ⟨_, _, ok_law_kinds F6 T, B6, k6, PySem.W.mg_of X G a6⟩
  have D_law_families : Df l.prog w K mg base CX0 _ _ _ _ := ⟨_, _, ok_law_families F7 T, B7, k7, PySem.W.mg_of X G a7⟩
  have D_law_fields : Df l.prog w K mg base CX0 _ _ _ _ := ⟨_, _, ok_law_fields F8 T, B8, k8, PySem.W.mg_of X G a8⟩
  have D_law_right : DfG l.prog w K mg base CX0 _ _ _ _ := ⟨_, _, ok_law_right F9 T D_law_fields D_law_kinds D_law_families, B9, k9, PySem.W.mg_of X G a9⟩
  exact ok_law F10 T D_law_stream D_law_pick D_law_made D_law_named D_law_right
end M1
open PySem PySem.W PyProof.Rows
set_option maxRecDepth 100000 in
set_option maxHeartbeats 0 in
theorem PySem.Challenge.cw_macroasm_k01_error_classes_holds : PySem.Challenge.rw_macroasm_k01_error_classes.Holds := by
  w_on; o_law; k_head; (case hw => w_witness2)
  k_fill
  refine Gd.walk_calm (l := PySem.Challenge.rw_macroasm_k01_error_classes) (n := 63) (k := 4) (x := "_law_script") (CX := fun _ => L2.CX0) (sp := fun w => M1.spLaw _) rfl (by decide) rfl ⟨rfl, by decide, by decide⟩ (fun w h Y => PySem.W.kIn_of Y) ?F (fun _ _ a ns hl _ hS => ⟨a, ns, rfl, hS, hl, fun _ => rfl⟩) (fun _ _ _ _ _ h => h)
  case F =>
    intro w mg fa h KX G hmg
    refine' M1.all_mk KX G hmg ?a0 ?l0 ?c0 ?k0 ?a1 ?l1 ?c1 ?k1 ?a2 ?l2 ?c2 ?k2 ?a3 ?l3 ?c3 ?k3 ?a4 ?l4 ?c4 ?k4 ?a5 ?l5 ?c5 ?k5 ?a6 ?l6 ?c6 ?k6 ?a7 ?l7 ?c7 ?k7 ?a8 ?l8 ?c8 ?k8 ?a9 ?l9 ?c9 ?k9 ?a10 ?l10 ?c10 ?k10 ?b_int ?b_len ?b_isinstance ?b_repr ?b_enumerate ?b_range ?b_ValueError ?b_ArithmeticError ?b_LookupError ?b_RuntimeError ?b_OverflowError ?b_KeyError ?b_IndexError ?b_NotImplementedError ?b_ZeroDivisionError ?aC_0 ?aC_1 ?aC_2 ?aC_3 ?aC_4 ?aC_5 ?aC_6 ?aC_7 ?aC_8 ?aC_9 ?aC_10 ?aC_11 ?aC_12 ?aC_13 ?aC_14 ?aC_15 ?aC_16 ?aC_17 ?aC_18 ?aC_19 ?aC_20 ?aC_21 ?aC_22 ?aC_23 ?aF_0 ?aF_1 ?aF_2 ?aF_3 ?aF_4 ?hn ?ht ?xL_0 ?hb_0 ?iC_0 ?li_0 ?ci_0 ?ki_0 ?ox_0 ?xL_1 ?hb_1 ?iC_1 ?li_1 ?ci_1 ?ki_1 ?ox_1 ?xL_2 ?hb_2 ?iC_2 ?li_2 ?ci_2 ?ki_2 ?ox_2 ?xL_3 ?hb_3 ?iC_3 ?li_3 ?ci_3 ?ki_3 ?ox_3 ?xL_4 ?hb_4 ?iC_4 ?li_4 ?ci_4 ?ki_4 ?ox_4 ?xL_5 ?hb_5 ?iC_5 ?li_5 ?ci_5 ?ki_5 ?ox_5 ?xL_6 ?hb_6 ?iC_6 ?li_6 ?ci_6 ?ki_6 ?ox_6 ?xL_7 ?hb_7 ?iC_7 ?li_7 ?ci_7 ?ki_7 ?ox_7 ?xL_8 ?hb_8 ?iC_8 ?li_8 ?ci_8 ?ki_8 ?ox_8 ?xL_9 ?hb_9 ?iC_9 ?li_9 ?ci_9 ?ki_9 ?ox_9 ?xL_10 ?hb_10 ?iC_10 ?li_10 ?ci_10 ?ki_10 ?ox_10 ?xL_12 ?hb_12 ?iC_12 ?li_12 ?ci_12 ?ki_12 ?ox_12 ?xL_13 ?hb_13 ?iC_13 ?li_13 ?ci_13 ?ki_13 ?ox_13 ?xL_14 ?hb_14 ?iC_14 ?li_14 ?ci_14 ?ki_14 ?ox_14 ?xL_15 ?hb_15 ?iC_15 ?li_15 ?ci_15 ?ki_15 ?ox_15 ?xL_16 ?hb_16 ?iC_16 ?li_16 ?ci_16 ?ki_16 ?ox_16 ?xL_17 ?hb_17 ?iC_17 ?li_17 ?ci_17 ?ki_17 ?ox_17 ?xL_18 ?hb_18 ?iC_18 ?li_18 ?ci_18 ?ki_18 ?ox_18 ?xL_19 ?hb_19 ?iC_19 ?li_19 ?ci_19 ?ki_19 ?ox_19 ?xL_20 ?hb_20 ?iC_20 ?li_20 ?ci_20 ?ki_20 ?ox_20 ?xL_22 ?hb_22 ?iC_22 ?li_22 ?ci_22 ?ki_22 ?ox_22 ?xL_23 ?hb_23 ?iC_23 ?li_23 ?ci_23 ?ki_23 ?ox_23 ?x0_11 ?k0C_11 ?e0_11 ?x0_21 ?k0C_21 ?e0_21 ?tab
    (case a0 => k_is)
    (case l0 => k_is)
    (case c0 => k_is)
    (case k0 => k_is)
    (case a1 => k_is)
    (case l1 => k_is)
    (case c1 => k_is)
    (case k1 => k_is)
    (case a2 => k_is)
    (case l2 => k_is)
    (case c2 => k_is)
    (case k2 => k_is)
    (case a3 => k_is)
    (case l3 => k_is)
    (case c3 => k_is)
    (case k3 => k_is)
    (case a4 => k_is)
    (case l4 => k_is)
    (case c4 => k_is)
    (case k4 => k_is)
    (case a5 => k_is)
    (case l5 => k_is)
    (case c5 => k_is)
    (case k5 => k_is)
    (case a6 => k_is)
    (case l6 => k_is)
    (case c6 => k_is)
    (case k6 => k_is)
    (case a7 => k_is)
    (case l7 => k_is)
    (case c7 => k_is)
    (case k7 => k_is)
    (case a8 => k_is)
    (case l8 => k_is)
    (case c8 => k_is)
    (case k8 => k_is)
    (case a9 => k_is)
    (case l9 => k_is)
    (case c9 => k_is)
    (case k9 => k_is)
    (case a10 => k_is)
    (case l10 => k_is)
    (case c10 => k_is)
    (case k10 => k_is)
    (case b_int => k_is)
    (case b_len => k_is)
    (case b_isinstance => k_is)
    (case b_repr => k_is)
    (case b_enumerate => k_is)
    (case b_range => k_is)
    (case b_ValueError => k_is)
    (case b_ArithmeticError => k_is)
    (case b_LookupError => k_is)
    (case b_RuntimeError => k_is)
    (case b_OverflowError => k_is)
    (case b_KeyError => k_is)
    (case b_IndexError => k_is)
    (case b_NotImplementedError => k_is)
    (case b_ZeroDivisionError => k_is)
    (case aC_0 => k_is)
    (case aC_1 => k_is)
    (case aC_2 => k_is)
    (case aC_3 => k_is)
    (case aC_4 => k_is)
    (case aC_5 => k_is)
    (case aC_6 => k_is)
    (case aC_7 => k_is)
    (case aC_8 => k_is)
    (case aC_9 => k_is)
    (case aC_10 => k_is)
    (case aC_11 => k_is)
    (case aC_12 => k_is)
    (case aC_13 => k_is)
    (case aC_14 => k_is)
    (case aC_15 => k_is)
    (case aC_16 => k_is)
    (case aC_17 => k_is)
    (case aC_18 => k_is)
    (case aC_19 => k_is)
    (case aC_20 => k_is)
    (case aC_21 => k_is)
    (case aC_22 => k_is)
    (case aC_23 => k_is)
    (case aF_0 => k_is)
    (case aF_1 => k_is)
    (case aF_2 => k_is)
    (case aF_3 => k_is)
    (case aF_4 => k_is)
    (case hn => k_is)
    (case ht => k_is)
    (case xL_0 => k_is)
    (case hb_0 => rfl)
    (case iC_0 => k_is)
    (case li_0 => k_is)
    (case ci_0 => k_is)
    (case ki_0 => k_is)
    (case ox_0 => kernel_rfl)
    (case xL_1 => k_is)
    (case hb_1 => rfl)
    (case iC_1 => k_is)
    (case li_1 => k_is)
    (case ci_1 => k_is)
    (case ki_1 => k_is)
    (case ox_1 => kernel_rfl)
    (case xL_2 => k_is)
    (case hb_2 => rfl)
    (case iC_2 => k_is)
    (case li_2 => k_is)
    (case ci_2 => k_is)
    (case ki_2 => k_is)
    (case ox_2 => kernel_rfl)
    (case xL_3 => k_is)
    (case hb_3 => rfl)
    (case iC_3 => k_is)
    (case li_3 => k_is)
    (case ci_3 => k_is)
    (case ki_3 => k_is)
    (case ox_3 => kernel_rfl)
    (case xL_4 => k_is)
    (case hb_4 => rfl)
    (case iC_4 => k_is)
    (case li_4 => k_is)
    (case ci_4 => k_is)
    (case ki_4 => k_is)
    (case ox_4 => kernel_rfl)
    (case xL_5 => k_is)
    (case hb_5 => rfl)
    (case iC_5 => k_is)
    (case li_5 => k_is)
    (case ci_5 => k_is)
    (case ki_5 => k_is)
    (case ox_5 => kernel_rfl)
    (case xL_6 => k_is)
    (case hb_6 => rfl)
    (case iC_6 => k_is)
    (case li_6 => k_is)
    (case ci_6 => k_is)
    (case ki_6 => k_is)
    (case ox_6 => kernel_rfl)
    (case xL_7 => k_is)
    (case hb_7 => rfl)
    (case iC_7 => k_is)
    (case li_7 => k_is)
    (case ci_7 => k_is)
    (case ki_7 => k_is)
    (case ox_7 => kernel_rfl)
    (case xL_8 => k_is)
    (case hb_8 => rfl)
    (case iC_8 => k_is)
    (case li_8 => k_is)
    (case ci_8 => k_is)
    (case ki_8 => k_is)
    (case ox_8 => kernel_rfl)
    (case xL_9 => k_is)
    (case hb_9 => rfl)
    (case iC_9 => k_is)
    (case li_9 => k_is)
    (case ci_9 => k_is)
    (case ki_9 => k_is)
    (case ox_9 => kernel_rfl)
    (case xL_10 => k_is)
    (case hb_10 => rfl)
    (case iC_10 => k_is)
    (case li_10 => k_is)
    (case ci_10 => k_is)
    (case ki_10 => k_is)
    (case ox_10 => kernel_rfl)
    (case xL_12 => k_is)
    (case hb_12 => rfl)
    (case iC_12 => k_is)
    (case li_12 => k_is)
    (case ci_12 => k_is)
    (case ki_12 => k_is)
    (case ox_12 => kernel_rfl)
    (case xL_13 => k_is)
    (case hb_13 => rfl)
    (case iC_13 => k_is)
    (case li_13 => k_is)
    (case ci_13 => k_is)
    (case ki_13 => k_is)
    (case ox_13 => kernel_rfl)
    (case xL_14 => k_is)
    (case hb_14 => rfl)
    (case iC_14 => k_is)
    (case li_14 => k_is)
    (case ci_14 => k_is)
    (case ki_14 => k_is)
    (case ox_14 => kernel_rfl)
    (case xL_15 => k_is)
    (case hb_15 => rfl)
    (case iC_15 => k_is)
    (case li_15 => k_is)
    (case ci_15 => k_is)
    (case ki_15 => k_is)
    (case ox_15 => kernel_rfl)
    (case xL_16 => k_is)
    (case hb_16 => rfl)
    (case iC_16 => k_is)
    (case li_16 => k_is)
    (case ci_16 => k_is)
    (case ki_16 => k_is)
    (case ox_16 => kernel_rfl)
    (case xL_17 => k_is)
    (case hb_17 => rfl)
    (case iC_17 => k_is)
    (case li_17 => k_is)
    (case ci_17 => k_is)
    (case ki_17 => k_is)
    (case ox_17 => kernel_rfl)
    (case xL_18 => k_is)
    (case hb_18 => rfl)
    (case iC_18 => k_is)
    (case li_18 => k_is)
    (case ci_18 => k_is)
    (case ki_18 => k_is)
    (case ox_18 => kernel_rfl)
    (case xL_19 => k_is)
    (case hb_19 => rfl)
    (case iC_19 => k_is)
    (case li_19 => k_is)
    (case ci_19 => k_is)
    (case ki_19 => k_is)
    (case ox_19 => kernel_rfl)
    (case xL_20 => k_is)
    (case hb_20 => rfl)
    (case iC_20 => k_is)
    (case li_20 => k_is)
    (case ci_20 => k_is)
    (case ki_20 => k_is)
    (case ox_20 => kernel_rfl)
    (case xL_22 => k_is)
    (case hb_22 => rfl)
    (case iC_22 => k_is)
    (case li_22 => k_is)
    (case ci_22 => k_is)
    (case ki_22 => k_is)
    (case ox_22 => kernel_rfl)
    (case xL_23 => k_is)
    (case hb_23 => rfl)
    (case iC_23 => k_is)
    (case li_23 => k_is)
    (case ci_23 => k_is)
    (case ki_23 => k_is)
    (case ox_23 => kernel_rfl)
    (case x0_11 => k_exc)
    (case k0C_11 => k_is)
    (case e0_11 => kernel_rfl)
    (case x0_21 => k_exc)
    (case k0C_21 => k_is)
    (case e0_21 => kernel_rfl)
    (case tab => kernel_rfl)
#print axioms PySem.Challenge.cw_macroasm_k01_error_classes_holds

