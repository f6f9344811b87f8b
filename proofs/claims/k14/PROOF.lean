import PyProof.Rows.All
import Wide.All
import OpenK.AllK
import Wide.FinOn
import HandS.ForMost
import HandS.Evl
import HandS.IsInst
import HandS.MakeKwOnly
import HandS.Base
import HandS.Call
import HandS.List
import PyProof.FactsLen
import KE.KSuper
import HandS.Exc
import HandS.Property
import HandS.FStr
import HandS.Star
import HandS.WrittenGet
import HandS.StrMore
import PyProof.Rows.StrCut
import HandS.Conv
import HandS.TupAny
import HandS.Dict
import KE.KDictPairs
import HandS.Walk
import HandS.HeadHook3
import PySem.Challenge.RW_macroasm_k14_texts_of_trees
set_option Elab.async false
set_option linter.all false
set_option autoImplicit false
set_option maxRecDepth 100000
set_option maxHeartbeats 4000000
/-! The hand layer where it is known that no repr is under way: promises GOk beside FnOk, calls of them, the end of a law. -/
namespace Gd
open PySem PySem.Spec PyProof.Rows L2

/-- no loop of a repr is under way -/
def Calm (A : Around) : Prop := A.guards = some []
theorem calm_deeper {A : Around} {env : Env} (h : Calm A) : Calm (A.deeper env) := by
  first
  | exact h
  | (unfold Calm at *; simp [Around.deeper, h])

structure GOk (pr : Program) (wo : World) (K : PySem.W.Frag) (mg : Str → Option Value) (base : Heap) (CX : CXT) (k : Nat) (f : Addr) (fd : FuncData) (ps : List Str) (sp : Sp) : Prop where
  many : ∀ vs H Q E, sp vs H Q E → vs.length = ps.length
  goes : ∀ (A : Around) (out : List Env) (s : Shared) (H : Hp) (args : Args) (us : List Value) (vs : List V) (Q : VK) (E : XK),
    Calm A → Room k A → Env0 pr wo K mg base A out s H → BindsTo s fd args (ps.zip us) → Vals vs us → sp vs H Q E →
      codeAny (model pr wo) A (.call (.ref f) args) (CR CX out pr wo H s Q E) s

section
variable {pr : Program} {wo : World} {K : PySem.W.Frag} {mg : Str → Option Value} {base : Heap} {CX : CXT}
theorem GOk.of {k : Nat} {f : Addr} {fd : FuncData} {ps : List Str} {sp : Sp} (F : FnOk pr wo K mg base CX k f fd ps sp) : GOk pr wo K mg base CX k f fd ps sp :=
  ⟨F.len, fun A out s H args us vs Q E _ => F.run A out s H args us vs Q E⟩

/-- a def's body keeps its promise, no repr being under way -/
theorem ok_of {x qual : Str} {st : Stmt} {f : Addr} {fd : FuncData} {N ps : List Str} {k : Nat} {sp : Sp} (F : Fun K x qual st f fd) (S : FnScope N ps (defScope st)) (len : ∀ vs H Q E, sp vs H Q E → vs.length = ps.length)
    (body : ∀ (cdv : Value) (A : Around) (out : List Env) (s : Shared) (H : Hp) (vs : List V) (Q : VK) (E : XK),
      Calm (A.deeper (envOfC qual (defScope st) s.heap.objs.size f cdv)) → Room k (A.deeper (envOfC qual (defScope st) s.heap.objs.size f cdv)) → sp vs H Q E →
        ∃ t, PSs (cxOf CX pr wo K mg base N qual (defScope st) f cdv A out s H E) (defBody st) t ∧
          t { nx := fun _ H' => Q .non H', rt := Q } (start N vs) H) : GOk pr wo K mg base CX (k + 1) f fd ps sp := by
  obtain ⟨oc, od, kV, doc, pm, an, cdv, ct, osl, rfl, lk, hcd⟩ := F.ex
  constructor
  · exact len
  intro A out s H args us vs Q E ca hr e0 hb r hs
  have KX : K.In s.heap := e0.mod.kin.keeps (fun b o e => (e0.bs b o e).left)
  have lim : s.heap.NoLimit := e0.mod.nolimit.keeps (fun b o e => (e0.bs b o e).left)
  refine codeAny_call_function hr.depth (KX _ _ lk) rfl S.co S.gen rfl (PySem.W.codeRec_of KX hcd) (hb _ _ _ _ ?_)
  have kinds : ∀ y ∈ ps.zip us, (defScope st).names.lookup y.1 = some .local ∨
      ((defScope st).names.lookup y.1 = some .cell ∧ ((cellsFrom (s.heap.objs.size + 1) (defScope st).names []).lookup y.1).isSome = true) := by
    rintro ⟨n, v⟩ hy
    cases S.par n (List.of_mem_zip hy).1 with
    | inl q => exact Or.inl q
    | inr q => exact Or.inr ⟨q, PySem.W.cellsFrom_some _ _ _ (Or.inl q)⟩
  refine wpAny_newFunctionEnv_cells S.kind kinds (fun env he s1 xx => ?_)
  cases he
  refine ⟨lim.keeps xx.toInCall.keep, codeAny_func ?_⟩
  obtain ⟨t, ht, hq⟩ := body cdv A out s H vs Q E (calm_deeper ca) (hr.deeper _) hs
  have I := inv_start (CX := CX) (E := E) S hr.hd e0 (len _ _ _ _ hs) r xx
  refine wpAny_mono (ht.run [] s1 (start N vs) H _ I hq) ?_ (fun e s' he => he)
  intro fl s' hfl
  have fin : ∀ {σ2 : L2.St} {H2 : Hp} {v : V} {u : Value}, Inv (cxOf CX pr wo K mg base N qual (defScope st) f cdv A out s H E) [] σ2 H2 s' → RelV v u → Q v H2 → CE out pr wo H s Q u s' := by
    intro σ2 H2 v u J rv q
    exact ⟨v, H2, J.os, J.bare, J.base, J.hok, rv, q⟩
  match fl, hfl with
  | .ret u, ⟨v, σ2, H2, J, rv, q⟩ => exact fin J rv q
  | .next, ⟨σ2, H2, J, q⟩ => exact fin (v := .non) (u := .none) J rfl q
  | .brk, ⟨_, _, _, q⟩ => exact q.elim
  | .cont, ⟨_, _, _, q⟩ => exact q.elim
/-- the same where nothing that is raised leaves the def -/
theorem ok_of0 {x qual : Str} {st : Stmt} {f : Addr} {fd : FuncData} {N ps : List Str} {k : Nat} {sp : Sp} (F : Fun K x qual st f fd) (S : FnScope N ps (defScope st)) (len : ∀ vs H Q E, sp vs H Q E → vs.length = ps.length)
    (body : ∀ (cdv : Value) (A : Around) (out : List Env) (s : Shared) (H : Hp) (vs : List V) (Q : VK) (E : XK),
      Calm (A.deeper (envOfC qual (defScope st) s.heap.objs.size f cdv)) → Room k (A.deeper (envOfC qual (defScope st) s.heap.objs.size f cdv)) → sp vs H Q E →
        ∃ t, PSs (cxOf CX0 pr wo K mg base N qual (defScope st) f cdv A out s H E).nox (defBody st) t ∧
          t { nx := fun _ H' => Q .non H', rt := Q } (start N vs) H) : GOk pr wo K mg base CX0 (k + 1) f fd ps sp :=
  ok_of F S len fun cdv A out s H vs Q E ca hr hs => by
    obtain ⟨t, ht, q⟩ := body cdv A out s H vs Q E ca hr hs
    exact ⟨t, ht.nox, q⟩
end

section
variable {X : Cx} {CX : CXT} {k : Nat} {f : Addr} {fd : FuncData} {ps ks : List Str} {sp : Sp} {E : XK} {x : Str} {p pos : Pos} {e : Expr} {es : List Expr} {ds : List Value} {dvs : List V} {t : TA}
theorem goes_fn {pins : List (Addr × Obj)} {σ : L2.St} {H : Hp} {s : Shared} {Q : VK} {us : List Value} {vs : List V} (F : GOk X.prog X.w X.K X.mg X.base CX k f fd ps sp) (ca : Calm X.A) (hr : Room k X.A)
    (hb : Binds X.K fd ps ds) (hd : Vals dvs ds) (hx : Passes CX X E) (I : Inv X pins σ H s) (r : Vals vs us) (h : sp (vs ++ dvs) H Q E) :
    wpAny (model X.prog X.w) X.A (call (.ref f) us) (EP X pins σ Q) X.xe s := by
  have rr : Vals (vs ++ dvs) (us ++ ds) := r.append hd
  have hl : (us ++ ds).length = ps.length := rr.length ▸ F.many _ _ _ _ h
  have go := F.goes X.A X.stack s H ⟨us, []⟩ (us ++ ds) (vs ++ dvs) Q E ca hr I.env0 (hb s us I.kIn hl) rr h
  refine wpAny_call (codeAny_mono go ?_)
  intro z s' hz
  match z, hz with
  | .error e, hz => exact hx pins σ H s e s' I hz
  | .ok (.ret u), hz => exact I.after hz
  | .ok .next, hz => exact False.elim hz
  | .ok .brk, hz => exact False.elim hz
  | .ok .cont, hz => exact False.elim hz
theorem pe_callG (F : GOk X.prog X.w X.K X.mg X.base CX k f fd ps sp) (ca : Calm X.A) (hr : Room k X.A) (hg : Gl X x) (hm : X.mg x = some (.ref f)) (hk : PySem.W.keepIn X.K (.ref f) = true) (hb : Binds X.K fd ps ds) (hd : Vals dvs ds)
    (hx : Passes CX X E) (ha : PA X (e :: es) t) (hdb : (x == ("__debug__" : Str)) = false := by decide)
    (he : starEach (e :: es) X.env = (false, eval e X.env) :: starEach es X.env := by rfl) (hpl : (backTo pos (starEach es X.env)).any (·.1) = false := by rfl) :
    PE X (.Call (.Name x p) (e :: es) [] pos) (tCall sp dvs E t) := by
  constructor
  intro pins s σ H Q I h
  refine wpAny_Call_Name_kw (ld_glob I hg hm ?_ hdb)
  have go := thn (ha.run pos pins s σ H _ I h) (fun us s1 (hq : AP X pins σ (fun vs H1 => sp (vs ++ dvs) H1 Q E) us s1) => by
    obtain ⟨vs, H1, I1, r, q⟩ := hq
    exact (⟨I1.kIn, goes_fn F ca hr hb hd hx I1 r q⟩ : X.K.In s1.heap ∧ wpAny (model X.prog X.w) X.A (call (.ref f) us) (EP X pins σ Q) X.xe s1))
  exact PySem.W.callWith_K (h₀ := X.base) I.ok.mod.kin hk go he hpl
end
end Gd

set_option maxHeartbeats 4000000
namespace Gd
open PySem PySem.Spec PyProof.Rows L2

/-- the script: it may be read, and it is a bare list -/
def Scr (K : PySem.W.Frag) (H : Hp) (a : Addr) (ns : List Int) : Prop :=
  Rd H a (.lst (ns.map V.int)) ∨ ∃ vs : List Value, K.lookup a = some { cls := .type "list", data := .seq vs.toArray } ∧ vs.length ≤ sizeLine ∧ Vals (ns.map V.int) vs
theorem Scr.sq {K : PySem.W.Frag} {H : Hp} {a : Addr} {ns : List Int} (h : Scr K H a ns) : SqL K H a (ns.map V.int) := by
  cases h with
  | inl h => exact Or.inl h
  | inr h =>
    obtain ⟨vs, h1, h2, h3⟩ := h
    exact Or.inr ⟨_, vs.toArray, _, h1, rfl, rfl, rfl, (by rw [List.size_toArray]; exact h2), (by simpa using h3)⟩

/-- the law's call from the outermost caller, under whom no repr runs -/
theorem outermost {pr : Program} {wo : World} {K : PySem.W.Frag} {mg mb : Str → Option Value} {CX : CXT} {k : Nat} {fa a : Addr} {fd : FuncData} {x : Str} {sp : Sp} {s : Shared} {vs : List Value} {ns : List Int}
    (KX : K.In s.heap) (n1 : s.heap.Ns mainGlobals mg) (n2 : s.heap.Ns builtinsNs mb) (bb : ∀ z : Str, z ≠ "__name__" → mb z = bootBuiltins z) (lim : s.heap.NoLimit) (gn : s.gens = #[])
    (ha : s.heap.get? a = some { cls := .type "list", data := .seq vs.toArray }) (hi : IntsAre vs ns) (hl : ns.length ≤ sizeLine) (room : Room k callerA)
    (F : ∀ base : Heap, K.In base → base.Ns mainGlobals mg → GOk pr wo K mg base CX k fa fd [x] sp) (bind : ∀ (z : Shared) (u : Value), BindsTo z fd ⟨[u], []⟩ [(x, u)])
    (good : ∀ H : Hp, Only H → Scr K H a ns → sp [.ref a] H (fun v _ => v = .bl true) (fun _ _ _ => False))
    (noX : ∀ H e z, CX [] H s (fun _ _ _ => False) e z → False) :
    codeAny (model pr wo) callerA (.call (.ref fa) ⟨[.ref a], []⟩) (fun r z => r = .ok (.ret (.bool true)) ∧ OldK s.heap z.heap ∧ z.os = s.os ∧ AllBare z.gens) s := by
  have rv : Vals (ns.map V.int) vs := vals_ints hi
  have lv := hi.length
  have main : ∀ H : Hp, Only H → Scr K H a ns → HOk pr wo H s.heap → (∀ b, H b ≠ none → b = a) → (H a ≠ none → K.lookup a = none) →
      codeAny (model pr wo) callerA (.call (.ref fa) ⟨[.ref a], []⟩) (fun r z => r = .ok (.ret (.bool true)) ∧ OldK s.heap z.heap ∧ z.os = s.os ∧ AllBare z.gens) s := by
    intro H only sq ok just away
    -- what is tracked is the script alone, which is no dict and nothing of K's
    have nodict : ∀ {b : Addr} {o : Obj} {es : Array DictEntry} {ep : Nat}, s.heap.get? b = some o → o.data = .dict es ep → H b = none := by
      intro b o es ep e d
      match q : H b with
      | none => rfl
      | some u =>
        cases just b (by rw [q]; exact Option.some_ne_none u)
        rw [ha] at e
        cases e
        exact absurd (show Data.seq vs.toArray _ = Data.dict es ep from d) (by intro z; cases z)
    have stays : ∀ {b : Addr} {m : Str → Option Value}, s.heap.Ns b m → (hidT s.heap H).Ns b m := by
      rintro b m ⟨o, es, ep, e, d, r⟩
      exact ⟨o, es, ep, hidT_get e (nodict e d), d, r⟩
    have kin : K.In (hidT s.heap H) := by
      intro b o e
      refine hidT_get (KX b o e) ?_
      match q : H b with
      | none => rfl
      | some u =>
        have some_ne : H b ≠ none := by rw [q]; exact Option.some_ne_none u
        cases just b some_ne
        exact absurd (away some_ne) (by rw [e]; exact Option.some_ne_none o)
    have lim2 : (hidT s.heap H).NoLimit := by
      obtain ⟨mc, h1, h2⟩ := lim
      exact ⟨mc, stays h1, h2⟩
    have at0 : Env0 pr wo K mg (hidT s.heap H) callerA [] s H := {
      frames := rfl, mod := ⟨kin, stays n1, ⟨mb, stays n2, bb⟩, lim2⟩, bs := fun b o e => of_hidT e, bsz := Nat.le_of_eq (hidT_size _ _),
      funs := trivial, frf := (fun b hb => by cases (show b ∈ ([] : List Addr) from hb)), hok := ok, bare := .of_eq gn }
    have go := (F _ kin (stays n1)).goes callerA [] s H ⟨[.ref a], []⟩ [.ref a] [.ref a] _ _ rfl room at0 (bind s (.ref a)) (.cons rfl .nil) (good H only sq)
    refine codeAny_mono go ?_
    intro r z h
    match r, h with
    | .error e, h => exact (noX H e z h).elim
    | .ok .next, h => exact False.elim h
    | .ok .brk, h => exact False.elim h
    | .ok .cont, h => exact False.elim h
    | .ok (.ret u), ⟨v, H2, os, bare, un, ok2, ru, q⟩ =>
      cases (show v = V.bl true from q)
      cases (show u = Value.bool true from ru)
      refine ⟨rfl, OldK.of_keep ?_, os, bare⟩
      intro b o e
      match q : H b with
      | none => exact un.keep b o e q (fun z => by cases (show b ∈ ([] : List Addr) from z)) (fun z => by cases z)
      | some u =>
        cases only b with
        | inl z => rw [q] at z; cases z
        | inr z =>
          obtain ⟨ob, xs, z⟩ := z
          have e1 := (ok b _ z).left
          have e2 := (ok2 b _ (un.frzs b ob _ z)).left
          rw [e] at e1
          cases e1
          exact e2
  match hk : K.lookup a with
  | some o =>
    have e := KX a o hk
    rw [ha] at e
    cases e
    refine main (fun _ => none) (fun _ => Or.inl rfl) (Or.inr ⟨vs, hk, (by rw [lv]; exact hl), rv⟩) ?_ (fun b z => absurd rfl z) (fun z => absurd rfl z)
    intro b u z
    cases (show (none : Option HO) = some u from z)
  | none =>
    have at_a : ∀ b, b = a → (fun b => if b = a then some (HO.frz { cls := .type "list", data := .seq vs.toArray } (.lst (ns.map V.int))) else none) b = some (HO.frz { cls := .type "list", data := .seq vs.toArray } (.lst (ns.map V.int))) := fun b h => if_pos h
    have off_a : ∀ b, ¬ b = a → (fun b => if b = a then some (HO.frz { cls := .type "list", data := .seq vs.toArray } (.lst (ns.map V.int))) else none) b = none := fun b h => if_neg h
    refine main (fun b => if b = a then some (HO.frz { cls := .type "list", data := .seq vs.toArray } (.lst (ns.map V.int))) else none) ?_ (Or.inl (Or.inr ⟨_, at_a a rfl⟩)) ?_ ?_ (fun _ => hk)
    · intro b
      by_cases h : b = a
      · exact Or.inr ⟨_, _, at_a b h⟩
      · exact Or.inl (off_a b h)
    · intro b u z
      by_cases h : b = a
      · have zz := (at_a b h).symm.trans z
        cases zz
        cases h
        exact ⟨ha, (by rw [List.length_map]; exact hl), vs, _, rv, ha⟩
      · have zz := (off_a b h).symm.trans z
        cases zz
    · intro b z
      by_cases h : b = a
      · exact h
      · exact absurd (off_a b h) z

theorem walk_calm {l : PySem.W.OpenLaw} {n k : Nat} {q : Program} {loose : List Str} {XP : (Str → Option Value) → Heap → Prop} {YP : World → Heap → Prop} {d : DefRec} {K : Params → PySem.W.Frag} {CX : World → CXT} {sp : World → Sp} {x : Str}
    (hn : l.most = some n) (hn2 : n ≤ sizeLine) (hdf : d.params.defaults = []) (room : Room k callerA) (hY : ∀ (w : World) (h : Heap), YP w h → (K w.params).In h)
    (F : ∀ (w : World) (mg : Str → Option Value) (fa : Addr) (h : Heap), (K w.params).In h → h.Ns mainGlobals mg → mg d.name = some (.ref fa) → ∃ fd : FuncData,
      (∀ (z : Shared) (u : Value), BindsTo z fd ⟨[u], []⟩ [(x, u)]) ∧ ∀ base : Heap, (K w.params).In base → base.Ns mainGlobals mg → GOk l.prog w (K w.params) mg base (CX w) k fa fd [x] (sp w))
    (good : ∀ (w : World) (H : Hp) (a : Addr) (ns : List Int), ns.length ≤ n → Only H → Scr (K w.params) H a ns → sp w [.ref a] H (fun v _ => v = .bl true) (fun _ _ _ => False))
    (noX : ∀ (w : World) (H : Hp) (s : Shared) (e : Value) (z : Shared), CX w [] H s (fun _ _ _ => False) e z → False) :
    PySem.W.WalkO q loose XP YP l.row.toRowW d [] (fun f vs => PySem.call f vs) := by
  refine Att.attach_call hn hdf ?_
  intro w s0 s1 mg mb fa o pm cd doc a vs ns G Y ho hd hcd hmg hobj hints hlen hg
  obtain ⟨fd, hb, hF⟩ := F w mg fa _ (hY w _ Y) G.T.g hmg
  refine outermost (hY w _ Y) G.T.g G.T.b G.T.builtins G.T.nolimit hg hobj hints (Nat.le_trans hlen hn2) room hF hb ?_ ?_
  · intro H only sq
    exact good w H a ns hlen only sq
  · intro H e z
    exact noX w H s1 e z

/-! ### repr of data -/
section
variable {X : Cx}
/-- repr of lists and tuples that hold data: the text is that of the data alone -/
def rRepr (K : PySem.W.Frag) : List V → Hp → VK → Prop := fun xs H Q => ∃ a d, xs = [.ref a] ∧ Dp K H (.ref a) d ∧ PyData.showable d = true ∧ PyData.hasDict d = false ∧ d.depth ≤ 100 ∧ d.shown.length ≤ sizeLine ∧ Q (.str d.shown) H
theorem call_repr {k : Nat} (ca : Calm X.A) (hr : Room k X.A) : CallR X (.builtin "repr") (rRepr X.K) := by
  intro pins s σ H xs us Q I r h
  obtain ⟨a, d, rfl, hd, h1, h2, h3, h4, q⟩ := h
  obtain ⟨u, rfl, ru⟩ := vals1 r
  cases (show u = Value.ref a from ru)
  obtain ⟨as, hR⟩ := Dp.reads I d _ _ hd rfl
  have hun := hr.un
  refine repr_of_reads' hR h1 (fun z => by rw [h2] at z; cases z) ca (by omega) (fun _ _ e => e) (fun h' u tk keep => ?_) h4
  exact ⟨.str d.shown, H, I.kept keep, ⟨_, rfl⟩, q⟩
end
end Gd

set_option maxHeartbeats 4000000
namespace Gd
open PySem PySem.Spec PyProof.Rows L2 Evl

/-- a def of the module by its name, with its promise -/
structure Df (pr : Program) (wo : World) (K : PySem.W.Frag) (mg : Str → Option Value) (base : Heap) (CX : CXT) (k : Nat) (x : Str) (ps : List Str) (sp : Sp) : Prop where
  ex : ∃ (f : Addr) (fd : FuncData), FnOk pr wo K mg base CX k f fd ps sp ∧ Binds K fd ps [] ∧ PySem.W.keepIn K (.ref f) = true ∧ mg x = some (.ref f)
structure DfG (pr : Program) (wo : World) (K : PySem.W.Frag) (mg : Str → Option Value) (base : Heap) (CX : CXT) (k : Nat) (x : Str) (ps : List Str) (sp : Sp) : Prop where
  ex : ∃ (f : Addr) (fd : FuncData), GOk pr wo K mg base CX k f fd ps sp ∧ Binds K fd ps [] ∧ PySem.W.keepIn K (.ref f) = true ∧ mg x = some (.ref f)
/-- the same, to be called with all its parameters by keywords in their order -/
structure DfK (pr : Program) (wo : World) (K : PySem.W.Frag) (mg : Str → Option Value) (base : Heap) (CX : CXT) (k : Nat) (x : Str) (ps : List Str) (sp : Sp) : Prop where
  ex : ∃ (f : Addr) (fd : FuncData), FnOk pr wo K mg base CX k f fd ps sp ∧ (∀ (s : Shared) (ws : List Value), K.In s.heap → ws.length = ps.length → BindsTo s fd ⟨[], ps.zip ws⟩ (ps.zip ws)) ∧ PySem.W.keepIn K (.ref f) = true ∧ mg x = some (.ref f)
theorem _root_.L2.Fun.kbinds {K : PySem.W.Frag} {x qual : Str} {st : Stmt} {f : Addr} {fd : FuncData} {ps : List Str} (F : Fun K x qual st f fd)
    (h : ∀ (kV doc pm : Value) (an : Option Addr) (cdv ct : Value) (ws : List Value), ws.length = ps.length → bindArgs (PySem.W.fnOf x qual (defArgs st) (defBody st) (defScope st) .none kV doc pm an cdv ct) ⟨[], ps.zip ws⟩ = pure (ps.zip ws))
    (s : Shared) (ws : List Value) (hK : K.In s.heap) (hl : ws.length = ps.length) : BindsTo s fd ⟨[], ps.zip ws⟩ (ps.zip ws) := by
  obtain ⟨oc, od, kV, doc, pm, an, cdv, ct, osl, rfl, lk, hcd⟩ := F.ex
  exact .of_eq (h kV doc pm an cdv ct ws hl)
section
variable {X : Cx} {CX : CXT} {k : Nat} {ps : List Str} {sp : Sp} {E : XK} {x : Str} {p pos : Pos} {e : Expr} {es : List Expr} {t tk : TA} {kws : List Keyword}
theorem pe_df (D : Df X.prog X.w X.K X.mg X.base CX k x ps sp) (hr : Room k X.A) (hg : Gl X x) (ha : PA X (e :: es) t) (hx : Passes CX X E := by exact pass0) (hdb : (x == ("__debug__" : Str)) = false := by decide)
    (he : starEach (e :: es) X.env = (false, eval e X.env) :: starEach es X.env := by rfl) (hpl : (backTo pos (starEach es X.env)).any (·.1) = false := by rfl) :
    PE X (.Call (.Name x p) (e :: es) [] pos) (tCall sp [] E t) := by
  obtain ⟨f, fd, F, b, kp, m⟩ := D.ex
  exact pe_call F hr hg m kp b .nil hx ha hdb he hpl
theorem pe_df0 (D : Df X.prog X.w X.K X.mg X.base CX k x ps sp) (hr : Room k X.A) (hg : Gl X x) (hx : Passes CX X E := by exact pass0) (hdb : (x == ("__debug__" : Str)) = false := by decide) :
    PE X (.Call (.Name x p) [] [] pos) (tCall sp [] E tNil) := by
  obtain ⟨f, fd, F, b, kp, m⟩ := D.ex
  exact pe_call0 F hr hg m kp b .nil hx hdb
theorem pe_dfG (D : DfG X.prog X.w X.K X.mg X.base CX k x ps sp) (ca : Calm X.A) (hr : Room k X.A) (hg : Gl X x) (ha : PA X (e :: es) t) (hx : Passes CX X E := by exact pass0) (hdb : (x == ("__debug__" : Str)) = false := by decide)
    (he : starEach (e :: es) X.env = (false, eval e X.env) :: starEach es X.env := by rfl) (hpl : (backTo pos (starEach es X.env)).any (·.1) = false := by rfl) :
    PE X (.Call (.Name x p) (e :: es) [] pos) (tCall sp [] E t) := by
  obtain ⟨f, fd, F, b, kp, m⟩ := D.ex
  exact pe_callG F ca hr hg m kp b .nil hx ha hdb he hpl
def tCallKw (sp : Sp) (n : Nat) (E : XK) (tk : TA) : TE := fun σ H Q => tk σ H fun zs H2 => zs.length = n ∧ sp zs H2 Q E
theorem pe_dfK (D : DfK X.prog X.w X.K X.mg X.base CX k x ps sp) (hr : Room k X.A) (hg : Gl X x) (hkw : PK X kws tk) (hx : Passes CX X E := by exact pass0)
    (hall : (backToKw pos (keywordEach kws X.env)).all (·.1.isSome) = true := by rfl) (hks : (backToKw pos (keywordEach kws X.env)).filterMap (·.1) = ps := by rfl) (hdb : (x == ("__debug__" : Str)) = false := by decide)
    (hpl : ((backTo pos (starEach [] X.env)).any (·.1) || (backToKw pos (keywordEach kws X.env)).any (·.1.isNone)) = false := by rfl) :
    PE X (.Call (.Name x p) [] kws pos) (tCallKw sp ps.length E tk) := by
  obtain ⟨f, fd, F, b, kp, m⟩ := D.ex
  constructor
  intro pins s σ H Q I h
  refine wpAny_Call_Name_kw (ld_glob I hg m ?_ hdb)
  refine PySem.W.callWith_KW0 (h₀ := X.base) I.ok.mod.kin kp hall ?_ hpl
  refine thn (hkw.run pos pins s σ H _ I h) (fun ws s2 hq => ?_)
  obtain ⟨zs, H2, I2, rz, l2, q2⟩ := hq
  refine ⟨I2.kIn, ?_⟩
  rw [hks]
  have lw : ws.length = ps.length := rz.length.symm.trans l2
  refine wpAny_call (codeAny_mono (F.run X.A X.stack s2 H2 ⟨[], ps.zip ws⟩ ws zs Q E hr I2.env0 (b s2 ws I2.kIn lw) rz q2) ?_)
  intro z s' hz
  match z, hz with
  | .error e, hz => exact hx pins σ H2 s2 e s' I2 hz
  | .ok (.ret u), hz => exact I2.after hz
  | .ok .next, hz => exact False.elim hz
  | .ok .brk, hz => exact False.elim hz
  | .ok .cont, hz => exact False.elim hz
end

/-! ### the module's constants and the built-in classes as values -/
section
variable {X : Cx} {x : Str} {pos : Pos}
theorem pe_gS {z : Str} {t : Tok} (hg : Gl X x) (hm : X.mg x = some (.str z t)) (hd : (x == ("__debug__" : Str)) = false := by decide) : PE X (.Name x pos) (tC (.str z)) := pe_glob hg hm ⟨t, rfl⟩ hd
theorem pe_gI {i : Int} {t : Tok} (hg : Gl X x) (hm : X.mg x = some (.int i t)) (hd : (x == ("__debug__" : Str)) = false := by decide) : PE X (.Name x pos) (tC (.int i)) := pe_glob hg hm ⟨t, rfl⟩ hd
theorem pe_gR {a : Addr} (hg : Gl X x) (hm : X.mg x = some (.ref a)) (hd : (x == ("__debug__" : Str)) = false := by decide) : PE X (.Name x pos) (tC (.ref a)) := pe_glob (v := .ref a) hg hm rfl hd
theorem pe_bT {T : String} (hg : Gl X x) (hm : X.mg x = none) (hv : bootBuiltins x = some (.type T)) (hn : x ≠ "__name__" := by decide) (hd : (x == ("__debug__" : Str)) = false := by decide) : PE X (.Name x pos) (tC (.ty T)) :=
  pe_bltn (v := .ty T) hg hm hv rfl hn hd
end

/-! ### what evaluates to what: texts, tuples, calls -/
section
variable {K : PySem.W.Frag} {σ : L2.St} {H H' : Hp} {ta tb te : TE} {t u : TT} {x y z v : V}
/-- a def's call that hands back a value and lays at most new things -/
def SpIs (sp : Sp) (vs : List V) (H : Hp) (z : V) : Prop := ∀ H1, Ex H H1 → ∀ Q : VK, (∀ H2, Ex H1 H2 → Q z H2) → ∀ E : XK, sp vs H1 Q E
theorem ev_df {sp : Sp} {vs : List V} {E : XK} {tx : TA} (h : EvA tx σ H vs) (hs : SpIs sp vs H z) : Ev (tCall sp [] E tx) σ H z :=
  ev_call h (by rw [List.append_nil]; exact hs)
theorem ev_dfK {sp : Sp} {vs : List V} {E : XK} {tx : TA} {n : Nat} (h : EvA tx σ H vs) (hn : vs.length = n) (hs : SpIs sp vs H z) : Ev (tCallKw sp n E tx) σ H z := fun H1 e Q q =>
  h H1 e _ fun H2 e2 => ⟨hn, hs H2 (e.trans e2) Q (fun H3 e3 => q H3 (e2.trans e3)) E⟩
theorem ev_slS {tl th : TO} {z : Str} {lo hi : Option Int} (h : Ev te σ H (.str z)) (h1 : EvO tl σ H lo) (h2 : EvO th σ H hi) (hz : z.length ≤ 100000) : Ev (tSl rSlS te tl th) σ H (.str (cutS z lo hi)) := fun H1 e Q q =>
  h H1 e _ fun H2 e2 => h1 H2 (e.trans e2) _ fun H3 e3 => h2 H3 ((e.trans e2).trans e3) _ fun H4 e4 => ⟨z, rfl, sz_of hz, q H4 ((e2.trans e3).trans e4)⟩
def rLenStr : List V → Hp → VK → Prop := fun xs H Q => ∃ z, xs = [.str z] ∧ z.length ≤ sizeLine ∧ Q (.int z.length) H
theorem ev_lenS {z : Str} (h : Ev te σ H (.str z)) (hz : z.length ≤ 100000) : Ev (tCB rLenStr (tCons te tNil)) σ H (.int (z.length : Int)) :=
  ev_cb (ea_cons h ea_nil) fun H1 e Q q => ⟨z, rfl, sz_of hz, q H1 (Ex.refl H1)⟩
def rAddS : R2 := fun x y H Q => ∃ i j, x = .str i ∧ y = .str j ∧ i.length + j.length ≤ sizeLine ∧ Q (.str (i ++ j)) H
theorem rv_addS {a b : Str} (h : a.length + b.length ≤ 100000) : RV rAddS (.str a) (.str b) H (.str (a ++ b)) := fun H1 _ Q q => ⟨a, b, rfl, rfl, sz_of h, q H1 (Ex.refl H1)⟩
def rInSg : R2 := fun x y H Q => ∃ (c : Nat) (z : Str), x = .str ⟨#[c]⟩ ∧ y = .str z ∧ Q (.bl (decide (c ∈ z.cps.toList))) H
theorem rv_inSg {c : Nat} {z : Str} : RV rInSg (.str ⟨#[c]⟩) (.str z) H (.bl (decide (c ∈ z.cps.toList))) := fun H1 _ Q q => ⟨c, z, rfl, rfl, q H1 (Ex.refl H1)⟩
end
end Gd

set_option maxHeartbeats 4000000
namespace Gd
open PySem PySem.Spec PyProof.Rows L2 Evl TL

/-! ### the kinds of values that isinstance(x, str) tells apart -/
inductive NotS (K : PySem.W.Frag) (H : Hp) : V → Prop where
  | non : NotS K H .non
  | bl (b : Bool) : NotS K H (.bl b)
  | int (i : Int) : NotS K H (.int i)
  | lst {a : Addr} {xs : List V} (h : H a = some (.lst xs)) : NotS K H (.ref a)
  | tup {a : Addr} {xs : List V} (h : H a = some (.tup xs)) : NotS K H (.ref a)
  | dic {a : Addr} {kvs : List (Key × V)} (h : H a = some (.dK kvs)) : NotS K H (.ref a)
theorem NotS.ex {K : PySem.W.Frag} {H H' : Hp} {v : V} (n : NotS K H v) (e : Ex H H') : NotS K H' v := by
  cases n with
  | non => exact .non
  | bl b => exact .bl b
  | int i => exact .int i
  | lst h => exact .lst (e _ _ h)
  | tup h => exact .tup (e _ _ h)
  | dic h => exact .dic (e _ _ h)
theorem NotS.no {K : PySem.W.Frag} {H : Hp} {v : V} (n : NotS K H v) : ∃ t, TyX K H v (.type t) ∧ kitB t "str" = some false := by
  cases n with
  | non => exact ⟨_, .base .non, by decide +kernel⟩
  | bl b => exact ⟨_, .base (.bl b), by decide +kernel⟩
  | int i => exact ⟨_, .base (.int i), by decide +kernel⟩
  | lst h => exact ⟨_, .base (.lst h), by decide +kernel⟩
  | tup h => exact ⟨_, .base (.tup h), by decide +kernel⟩
  | dic h => exact ⟨_, .base (.dK h), by decide +kernel⟩
section
variable {K : PySem.W.Frag} {σ : L2.St} {H H' : Hp} {ta tb te : TE} {t u : TT} {x y z v : V}
theorem ev_isiS {w : Str} (h : Ev te σ H (.str w)) : Ev (tCB (rIsi K) (tCons te (tCons (tC (.ty "str")) tNil))) σ H (.bl true) :=
  ev_cb (ea_cons h (ea_cons ev_c ea_nil)) fun H1 e Q q => ⟨.str w, .ty "str", _, _, true, rfl, .ty _, .base (.str w), kit_ty (by decide +kernel), q H1 (Ex.refl H1)⟩
theorem ev_isiN (h : Ev te σ H v) (n : NotS K H v) : Ev (tCB (rIsi K) (tCons te (tCons (tC (.ty "str")) tNil))) σ H (.bl false) :=
  ev_cb (ea_cons h (ea_cons ev_c ea_nil)) fun H1 e Q q => by
    obtain ⟨t, h1, h2⟩ := (n.ex e).no
    exact ⟨v, .ty "str", _, _, false, rfl, .ty _, h1, kit_ty h2, q H1 (Ex.refl H1)⟩
/-! ### comprehensions over a text's signs -/
theorem lc_signs {x : Str} {g : TG} {tt : TT} {te : TE} {vs : List Nat} {σ : L2.St} {H1 : Hp} {D : Addr} {Qd : Hp → Prop} (Pv : Nat → Hp → Prop) (h0 : Pv 0 (upd H1 D (.lst [])))
    (hs : ∀ i c H, (tl x)[i]? = some c → Pv i H → g (.str ⟨#[c]⟩) (wipe σ vs) H fun σ2 H2 => wipe σ2 vs = wipe σ vs ∧ tt σ2 H2 fun b H3 =>
      if b = true then te σ2 H3 fun y H4 => ∃ acc, H4 D = some (.lst acc) ∧ acc.length < sizeLine ∧ Pv (i + 1) (upd H4 D (.lst (acc ++ [y]))) else Pv (i + 1) H3) (hd : ∀ H, Pv (tl x).length H → Qd H) :
    ∃ W : Nat → Nat → Hp → Prop, (∃ m, W 0 m (upd H1 D (.lst []))) ∧ ∀ i m H, W i m H →
      ((Its x).stop i H ∧ Qd H) ∨ ((Its x).go i H ∧ ∃ Nx : Hp → Prop, (∀ H', Nx H' → ∃ m', m' < m ∧ W (i + 1) m' H') ∧ ∀ v H', (Its x).yld i H v H' → g v (wipe σ vs) H' fun σ2 H2 => wipe σ2 vs = wipe σ vs ∧ tt σ2 H2 fun b H3 =>
        if b = true then te σ2 H3 fun y H4 => ∃ acc, H4 D = some (.lst acc) ∧ acc.length < sizeLine ∧ Nx (upd H4 D (.lst (acc ++ [y]))) else Nx H3) := by
  have en : x.cps.size = (tl x).length := by simp [tl]
  refine ⟨fun i m H => m + i = (tl x).length ∧ Pv i H, ⟨(tl x).length, rfl, h0⟩, ?_⟩
  intro i m H hw
  obtain ⟨hm, p⟩ := hw
  cases m with
  | zero =>
    have ei : i = (tl x).length := by omega
    refine Or.inl ⟨?_, ?_⟩
    · show x.cps.size ≤ i
      omega
    · rw [ei] at p
      exact hd H p
  | succ m =>
    refine Or.inr ⟨?_, Pv (i + 1), fun H' p' => ⟨m, Nat.lt_succ_self m, by omega, p'⟩, fun v H' yv => ?_⟩
    · show i < x.cps.size
      omega
    · obtain ⟨rfl, c, hc, rfl⟩ := yv
      exact hs i c _ (by rw [← hc]; exact Array.getElem?_toList) p
theorem el_lcS {te0 : TE} {z : Str} {j : Nat} {vs : List Nat} (f : Nat → Bool) (v : Nat → V) (h : Ev te0 σ H (.str z)) (hz : z.length ≤ 40000) (hw : ∀ x, wipe ((wipe σ vs).set j (some x)) vs = wipe σ vs)
    (ht : ∀ (i c : Nat) H1, Ex H H1 → (tl z)[i]? = some c → EvT t ((wipe σ vs).set j (some (.str ⟨#[c]⟩))) H1 (f i)) (he : ∀ (i c : Nat) H1, Ex H H1 → (tl z)[i]? = some c → f i = true → Ev te ((wipe σ vs).set j (some (.str ⟨#[c]⟩))) H1 (v i)) :
    EvL (tLc (iStr te0) (gName j) t te vs) σ H (given (tl z).length f v) := fun H0 e Q q => h H0 e _ fun H1 e1 => ⟨z, rfl, fun Dl hD =>
  lc_signs (x := z) (Cw H1 f v Dl) ⟨hD, Ex.new hD, upd_same⟩ (fun i c H' hi p => ⟨hw _, cw_turn p (by have := (List.getElem?_eq_some_iff.mp hi).1; have e2 := len_tl z; omega) (ht i c H1 (e.trans e1) hi) (fun hf => he i c H1 (e.trans e1) hi hf)⟩)
    (fun H' p => q Dl H' (fresh_back e1 p.1) (e1.trans p.2.1) p.2.2)⟩
/-- how many signs a comprehension keeps -/
theorem given_count (l : List Nat) (p : Nat → Bool) (f : Nat → Bool) (v : Nat → V) (hf : ∀ i c, l[i]? = some c → f i = p c) : (given l.length f v).length = (l.filter p).length := by
  unfold given
  rw [List.length_map]
  have key : ∀ n, n ≤ l.length → ((List.range n).filter f).length = ((l.take n).filter p).length := by
    intro n
    induction n with
    | zero => intro _; rfl
    | succ n ih =>
      intro hn
      have hn' : n < l.length := by omega
      rw [List.range_succ, List.filter_append, List.length_append, ih (by omega), List.take_add_one, List.filter_append, List.length_append]
      rw [List.getElem?_eq_getElem hn']
      have e := hf n l[n] (List.getElem?_eq_getElem hn')
      rw [Option.toList_some, List.filter_cons, List.filter_cons, e]
      cases p l[n] <;> rfl
  have h := key l.length (Nat.le_refl _)
  rw [List.take_length] at h
  exact h
theorem filter_all (l : List Nat) (p : Nat → Bool) : (l.filter p).length = l.length ↔ ∀ c ∈ l, p c = true := List.length_filter_eq_length_iff

/-! ### parts -/
def rParts : V → List V → Hp → VK → Prop := fun x xs H Q => ∃ a b, x = .str a ∧ xs = [.str b] ∧ (b.length == 0) = false ∧ a.length ≤ sizeLine ∧
    ∀ p, H p = none → Q (.ref p) (upd H p (.tup [.str (Txt.partition a b).1, .str (Txt.partition a b).2.1, .str (Txt.partition a b).2.2]))
theorem eu_partition {a b : Str} (h : Ev ta σ H (.str a)) (h2 : Ev tb σ H (.str b)) (hb : (b.length == 0) = false) (ha : a.length ≤ 100000) :
    EvU (tM1 rParts ta tb) σ H [.str (Txt.partition a b).1, .str (Txt.partition a b).2.1, .str (Txt.partition a b).2.2] := fun H1 e Q q =>
  h H1 e _ fun H2 e2 => ⟨⟨a, rfl⟩, h2 H2 (e.trans e2) _ fun H3 e3 => ⟨a, b, rfl, rfl, hb, sz_of ha, fun p hp => q p _ (fresh_back (e2.trans e3) hp) ((e2.trans e3).trans (Ex.new hp)) upd_same⟩⟩
def rSplit : V → List V → Hp → VK → Prop := fun x xs H Q => ∃ a b, x = .str a ∧ xs = [.str b] ∧ (b.length == 0) = false ∧ a.length + 2 ≤ sizeLine ∧ rNewStrs (Txt.split a b) H Q
theorem el_split {a b : Str} (h : Ev ta σ H (.str a)) (h2 : Ev tb σ H (.str b)) (hb : (b.length == 0) = false) (ha : a.length ≤ 90000) :
    EvL (tM1 rSplit ta tb) σ H ((Txt.split a b).map V.str) := fun H1 e Q q =>
  h H1 e _ fun H2 e2 => ⟨⟨a, rfl⟩, h2 H2 (e.trans e2) _ fun H3 e3 => ⟨a, b, rfl, rfl, hb, sz_of (by omega), fun p hp => q p _ (fresh_back (e2.trans e3) hp) ((e2.trans e3).trans (Ex.new hp)) upd_same⟩⟩
def rStarts : V → List V → Hp → VK → Prop := fun x xs H Q => ∃ a b, x = .str a ∧ xs = [.str b] ∧ Q (.bl (Txt.startswith a b)) H
theorem ev_starts {a b : Str} (h : Ev ta σ H (.str a)) (h2 : Ev tb σ H (.str b)) : Ev (tM1 rStarts ta tb) σ H (.bl (Txt.startswith a b)) := fun H1 e Q q =>
  h H1 e _ fun H2 e2 => ⟨⟨a, rfl⟩, h2 H2 (e.trans e2) _ fun H3 e3 => ⟨a, b, rfl, rfl, q H3 (e2.trans e3)⟩⟩
theorem ev_allL {bs : List Bool} (h : EvL te σ H (bs.map V.bl)) : Ev (tCB (rAll K) (tCons te tNil)) σ H (.bl (bs.all id)) := fun H1 e Q q =>
  h H1 e _ fun p H2 hp e2 h2 => ⟨p, bs, rfl, sq_of h2, q H2 e2⟩
/-- a, b, c = a new tuple -/
theorem q_unpack3 {D : Ends} {tz : TS} {i j k : Nat} {a b c : V} (h : EvU te σ H [a, b, c]) (kk : ∀ H1, Ex H H1 → tz D (((σ.set i (some a)).set j (some b)).set k (some c)) H1) :
    tSeq (tAsg te (gTup K 3 (gCons (gName i) (gCons (gName j) (gCons (gName k) gNil))))) tz D σ H := h H (Ex.refl H) _ fun p H1 hp e h1 =>
  ⟨p, [a, b, c], rfl, st_of h1, rfl, a, [b, c], rfl, b, [c], rfl, c, [], rfl, rfl, kk H1 e⟩
theorem spl_len (S : List Nat) : ∀ (l : List Nat) (k : Nat) (acc : List Nat), ∀ y ∈ spl S k acc l, y.length ≤ acc.length + l.length
  | [], k, acc, y, hy => by
    rw [spl_nil] at hy
    cases List.mem_singleton.mp hy
    exact Nat.le_add_right _ _
  | c :: r, 0, acc, y, hy => by
    rw [List.length_cons]
    cases q : pre S (c :: r) with
    | true =>
      rw [spl_hit q] at hy
      cases List.mem_cons.mp hy with
      | inl e => rw [e]; omega
      | inr hy =>
        have := spl_len S r _ [] y hy
        rw [List.length_nil] at this
        omega
    | false =>
      rw [spl_miss q] at hy
      have := spl_len S r 0 _ y hy
      rw [List.length_append, List.length_singleton] at this
      omega
  | c :: r, k + 1, acc, y, hy => by
    have := spl_len S r k acc y hy
    rw [List.length_cons]
    omega
theorem split_len {x y p : Str} (hy : tl y ≠ []) (hk : y.cps.all (· < 256) = true) (h : p ∈ Txt.split x y) : p.length ≤ x.length := by
  have h1 := split_spl x y hy (kind_ok hk)
  have h2 : tl p ∈ (Txt.split x y).map tl := List.mem_map_of_mem h
  rw [h1] at h2
  have h3 := spl_len _ _ _ _ _ h2
  rw [List.length_nil, Nat.zero_add] at h3
  rw [len_tl, len_tl]
  exact h3
theorem par_len (S : List Nat) : ∀ (l acc a b : List Nat), par S acc l = some (a, b) → a.length + b.length ≤ acc.length + l.length
  | [], acc, a, b, h => by cases h
  | c :: r, acc, a, b, h => by
    cases q : pre S (c :: r) with
    | true =>
      rw [par_hit q] at h
      cases h
      rw [List.length_drop]
      omega
    | false =>
      rw [par_miss q] at h
      have := par_len S r _ a b h
      rw [List.length_append, List.length_singleton] at this
      rw [List.length_cons]
      omega
theorem part_facts (x y : Str) (hy : tl y ≠ []) : (Txt.partition x y).1.length + (Txt.partition x y).2.2.length ≤ x.length ∧ ((Txt.partition x y).2.1 = Str.empty → (Txt.partition x y).1 = x) := by
  rw [partition_par x y hy]
  cases q : par (tl y) [] (tl x) with
  | none => exact ⟨by show x.length + Str.empty.length ≤ x.length; exact Nat.le_refl _, fun _ => rfl⟩
  | some ab =>
    obtain ⟨a, b⟩ := ab
    have h := par_len _ _ _ _ _ q
    rw [List.length_nil, Nat.zero_add, ← len_tl] at h
    refine ⟨?_, fun e => ?_⟩
    · show (⟨a.toArray⟩ : Str).length + (⟨b.toArray⟩ : Str).length ≤ x.length
      rw [len_tl, len_tl]
      exact h
    · have e2 : y = Str.empty := e
      exact absurd (by rw [e2]; rfl) hy
/-! ### chains, sums of lists, texts many times -/
theorem ev_chain {r r' : R2} {tc : TE} {z' : V} {a b : Bool} (ha : Ev ta σ H x) (hb : Ev tb σ H y) (hr : RV r x y H (.bl a)) (hc : a = true → Ev tc σ H z') (hr' : a = true → RV r' y z' H (.bl b)) : Ev (tChain r r' ta tb tc) σ H (.bl (a && b)) := fun H1 e Q q =>
  ha H1 e _ fun H2 e2 => hb H2 (e.trans e2) _ fun H3 e3 => hr H3 ((e.trans e2).trans e3) _ fun H4 e4 => ⟨a, rfl, by
    cases a with
    | true =>
      show tc σ H4 fun w' H5 => r' y w' H5 Q
      exact hc rfl H4 (((e.trans e2).trans e3).trans e4) _ fun H5 e5 => hr' rfl H5 ((((e.trans e2).trans e3).trans e4).trans e5) Q fun H6 e6 => q H6 ((((e2.trans e3).trans e4).trans e5).trans e6)
    | false =>
      show Q (.bl false) H4
      exact q H4 ((e2.trans e3).trans e4)⟩
theorem el_cat {xs ys : List V} (ha : EvL ta σ H xs) (hb : EvL tb σ H ys) (hz : xs.length + ys.length ≤ 100000) : EvL (tOp rCat ta tb) σ H (xs ++ ys) := fun H1 e Q q =>
  ha H1 e _ fun p H2 hp e2 h2 => hb H2 (e.trans e2) _ fun p' H3 hp' e3 h3 => ⟨p, p', xs, ys, rfl, rfl, e3 p _ h2, h3, sz_of hz, fun r hr => q r _ (fresh_back (e2.trans e3) hr) ((e2.trans e3).trans (Ex.new hr)) upd_same⟩
theorem el_cat1 {l : Addr} {xs ys : List V} (ha : Ev ta σ H (.ref l)) (hl : H l = some (.lst xs)) (hb : EvL tb σ H ys) (hz : xs.length + ys.length ≤ 100000) : EvL (tOp rCat ta tb) σ H (xs ++ ys) := fun H1 e Q q =>
  ha H1 e _ fun H2 e2 => hb H2 (e.trans e2) _ fun p' H3 hp' e3 h3 => ⟨l, p', xs, ys, rfl, rfl, ((e.trans e2).trans e3) l _ hl, h3, sz_of hz, fun r hr => q r _ (fresh_back (e2.trans e3) hr) ((e2.trans e3).trans (Ex.new hr)) upd_same⟩
theorem el_rep {xs : List V} {k : Nat} (ha : EvL ta σ H xs) (hb : Ev tb σ H (.int (k : Int))) (hz : xs.length * k ≤ 100000) (hk : k ≤ 100000) : EvL (tOp rRep ta tb) σ H (List.replicate k xs).flatten := fun H1 e Q q =>
  ha H1 e _ fun p H2 hp e2 h2 => hb H2 (e.trans e2) _ fun H3 e3 => ⟨p, (k : Int), xs, rfl, rfl, e3 p _ h2, by omega, by omega, by rw [Int.toNat_natCast]; exact sz_of hz, fun r hr => by
    rw [Int.toNat_natCast]
    exact q r _ (fresh_back (e2.trans e3) hr) ((e2.trans e3).trans (Ex.new hr)) upd_same⟩
end
section
variable {X : Cx}
/-- the script and a new list, joined -/
def rCatS (K : PySem.W.Frag) : R2 := fun x y H Q => ∃ l b ns zs, x = .ref l ∧ y = .ref b ∧ Scr K H l ns ∧ H b = some (.lst zs) ∧ ns.length + zs.length ≤ sizeLine ∧ ∀ p, H p = none → Q (.ref p) (upd H p (.lst (ns.map V.int ++ zs)))
theorem op_catS : OpR X (binaryOp .Add) (rCatS X.K) := by
  intro pins s σ H x y v u Q I rx ry h
  obtain ⟨l, b, ns, zs, rfl, rfl, hS, hB, hz, q⟩ := h
  cases rx
  cases ry
  obtain ⟨z2, its2, n2, r2, hl2, e2⟩ := I.lstM hB
  have key : ∃ (its : List Value) (n : Nat), Vals (ns.map V.int) its ∧ s.heap.get? l = some { cls := .type "list", data := .seq its.toArray n } := by
    cases hS with
    | inl h =>
      obtain ⟨_, its, n, r, e⟩ := h.ok I.hok
      exact ⟨its, n, r, e⟩
    | inr h =>
      obtain ⟨vs, h1, h2, h3⟩ := h
      exact ⟨vs, _, h3, I.kIn l _ h1⟩
  obtain ⟨its, n, r, e⟩ := key
  have hn : its.length = ns.length := by rw [← r.length, List.length_map]
  refine PySem.P.add_list e e2 ?_ (by rw [List.size_toArray, List.size_toArray]; omega)
  have ea : its.toArray ++ its2.toArray = (its ++ its2).toArray := by simp
  rw [ea]
  exact ⟨.ref _, _, I.lnew (t' := s.toks) (r.append r2) (by rw [List.length_append, List.length_map]; omega), rfl, q _ I.fresh⟩
/-- a text so many times -/
def rMulS : R2 := fun x y H Q => ∃ z k, x = .str z ∧ y = .int k ∧ MulOk z k ∧ Q (.str (Txt.mul z k)) H
theorem op_mulS : OpR X (binaryOp .Mult) rMulS := by
  intro pins s σ H x y v u Q I rx ry h
  obtain ⟨z, k, rfl, rfl, hz, q⟩ := h
  obtain ⟨t, rfl⟩ := rx
  obtain ⟨t', rfl⟩ := ry
  exact PySem.SB.mul hz fun t2 k2 => ⟨.str (Txt.mul z k), H, I.tok _, ⟨_, rfl⟩, q⟩
end
section
variable {K : PySem.W.Frag} {σ : L2.St} {H : Hp} {ta tb : TE}
theorem rv_mulS {z : Str} {k : Int} (h : MulOk z k) : RV rMulS (.str z) (.int k) H (.str (Txt.mul z k)) := fun H1 _ Q q => ⟨z, k, rfl, rfl, h, q H1 (Ex.refl H1)⟩
theorem Scr.ex {H1 : Hp} {a : Addr} {ns : List Int} (h : Scr K H a ns) (e : Ex H H1) : Scr K H1 a ns := by
  cases h with
  | inl h => exact Or.inl (ex_rd e h)
  | inr h => exact Or.inr h
theorem el_catS {l : Addr} {ns : List Int} {ys : List V} (ha : Ev ta σ H (.ref l)) (hS : Scr K H l ns) (hb : EvL tb σ H ys) (hz : ns.length + ys.length ≤ 100000) : EvL (tOp (rCatS K) ta tb) σ H (ns.map V.int ++ ys) := fun H1 e Q q =>
  ha H1 e _ fun H2 e2 => hb H2 (e.trans e2) _ fun p' H3 hp' e3 h3 => ⟨l, p', ns, ys, rfl, rfl, hS.ex ((e.trans e2).trans e3), h3, sz_of hz, fun r hr => q r _ (fresh_back (e2.trans e3) hr) ((e2.trans e3).trans (Ex.new hr)) upd_same⟩
end
end Gd

set_option maxHeartbeats 4000000
/-! What evaluates to a value with a property that stays. -/
namespace Gd
open PySem PySem.Spec PyProof.Rows L2 Evl
/-- a value with a property that stays -/
def EvP (te : TE) (σ : L2.St) (H : Hp) (P : V → Hp → Prop) : Prop := ∀ H1, Ex H H1 → ∀ Q : VK, (∀ v H2, Ex H1 H2 → P v H2 → Q v H2) → te σ H1 Q
def EvAP (ta : TA) (σ : L2.St) (H : Hp) (P : List V → Hp → Prop) : Prop := ∀ H1, Ex H H1 → ∀ Q : List V → Hp → Prop, (∀ vs H2, Ex H1 H2 → P vs H2 → Q vs H2) → ta σ H1 Q
section
variable {σ : L2.St} {H : Hp} {te tb : TE} {ta tr tk : TA} {C : Addr} {ps : List Str} {vs : List V}
theorem ex_made {H1 : Hp} {a dx : Addr} {o1 o2 : HO} (na : H1 a = none) (nd : H1 dx = none) : Ex H1 (upd (upd H1 a o1) dx o2) := fun b o e => by
  have n1 : b ≠ dx := fun z => by rw [z, nd] at e; cases e
  have n2 : b ≠ a := fun z => by rw [z, na] at e; cases e
  rw [upd_ne n1, upd_ne n2]
  exact e
theorem eap_nil : EvAP tNil σ H (fun vs _ => vs = []) := fun H1 e Q q => q [] H1 (Ex.refl H1) rfl
theorem eap_cons {P : V → Hp → Prop} {R : List V → Hp → Prop} (h : EvP te σ H P) (up : ∀ v H1 H2, Ex H1 H2 → P v H1 → P v H2) (hr : EvAP tr σ H R) : EvAP (tCons te tr) σ H (fun vs H1 => ∃ v r, vs = v :: r ∧ P v H1 ∧ R r H1) := fun H1 e Q q =>
  h H1 e _ fun v H2 e2 p => hr H2 (e.trans e2) _ fun r H3 e3 w => q _ _ (e2.trans e3) ⟨v, r, rfl, up _ _ _ e3 p, w⟩
/-- a new list of such -/
theorem evp_lst {R : List V → Hp → Prop} (h : EvAP ta σ H R) (up : ∀ vs H1 H2, Ex H1 H2 → R vs H1 → R vs H2) (hl : ∀ vs H1, R vs H1 → vs.length ≤ 100000) : EvP (tLst ta) σ H (fun v H1 => ∃ p vs, v = .ref p ∧ H1 p = some (.lst vs) ∧ R vs H1) := fun H1 e Q q =>
  h H1 e _ fun vs H2 e2 w => ⟨Nat.le_trans (hl vs H2 w) (by decide), fun p np => q _ _ (e2.trans (Ex.new np)) ⟨p, vs, rfl, upd_same, up _ _ _ (Ex.new np) w⟩⟩
/-- a list known and a list with a property -/
theorem evp_cat {l : Addr} {xs : List V} {R : List V → Hp → Prop} (ha : Ev te σ H (.ref l)) (hl : H l = some (.lst xs)) (hb : EvP tb σ H (fun v H1 => ∃ p vs, v = .ref p ∧ H1 p = some (.lst vs) ∧ R vs H1))
    (up : ∀ vs H1 H2, Ex H1 H2 → R vs H1 → R vs H2) (hz : ∀ vs H1, R vs H1 → xs.length + vs.length ≤ 100000) :
    EvP (tOp rCat te tb) σ H (fun v H1 => ∃ p vs, v = .ref p ∧ H1 p = some (.lst (xs ++ vs)) ∧ R vs H1) := fun H1 e Q q =>
  ha H1 e _ fun H2 e2 => hb H2 (e.trans e2) _ fun v H3 e3 w => by
    obtain ⟨p, vs, rfl, h3, r⟩ := w
    exact ⟨l, p, xs, vs, rfl, rfl, ((e.trans e2).trans e3) l _ hl, h3, Nat.le_trans (hz vs H3 r) (by decide), fun r0 hr => q _ _ ((e2.trans e3).trans (Ex.new hr)) ⟨r0, vs, rfl, upd_same, up _ _ _ (Ex.new hr) r⟩⟩
theorem q_asgP {D : Ends} {tz : TS} {i : Nat} {P : V → Hp → Prop} (h : EvP te σ H P) (k : ∀ v H1, Ex H H1 → P v H1 → tz D (σ.set i (some v)) H1) : tSeq (tAsg te (gName i)) tz D σ H := h H (Ex.refl H) _ k
theorem s_retP {D : Ends} {P : V → Hp → Prop} (h : EvP te σ H P) (k : ∀ v H1, Ex H H1 → P v H1 → D.rt v H1) : tRet te D σ H := h H (Ex.refl H) _ k
end
end Gd

set_option maxHeartbeats 4000000
/-! len(x) by an own __len__; readings of several classes. -/
namespace Gd
open PySem PySem.Spec PyProof.Rows L2

theorem PE_any {X : Cx} {e : Expr} {ι : Type} {t : ι → TE} (h : ∀ i, PE X e (t i)) : PE X e (fun σ H Q => ∃ i, t i σ H Q) :=
  ⟨fun pins s σ H Q I ⟨i, q⟩ => (h i).run pins s σ H Q I q⟩
theorem PE_in {X : Cx} {e : Expr} {ι : Type} {p : ι → Prop} {t : ι → TE} (h : ∀ i, p i → PE X e (t i)) : PE X e (fun σ H Q => ∃ i, p i ∧ t i σ H Q) :=
  ⟨fun pins s σ H Q I ⟨i, w, q⟩ => (h i w).run pins s σ H Q I q⟩
theorem PE_or {X : Cx} {e : Expr} {t u : TE} (h : PE X e t) (h2 : PE X e u) : PE X e (fun σ H Q => t σ H Q ∨ u σ H Q) :=
  ⟨fun pins s σ H Q I q => q.elim (h.run pins s σ H Q I) (h2.run pins s σ H Q I)⟩
theorem CallR_in {X : Cx} {f : Value} {ι : Type} {p : ι → Prop} {r : ι → List V → Hp → VK → Prop} (h : ∀ i, p i → CallR X f (r i)) : CallR X f (fun xs H Q => ∃ i, p i ∧ r i xs H Q) :=
  fun pins s σ H xs us Q I rv ⟨i, w, q⟩ => h i w pins s σ H xs us Q I rv q

/-- len(x), x an instance of the class at C, whose own __len__ is at f -/
def rLenO (C : Addr) (sp : Sp) (E : XK) : List V → Hp → VK → Prop := fun xs H Q => ∃ a dx fs, xs = [.ref a] ∧ H a = some (.ins C dx fs) ∧ sp [.ref a] H (fun v H1 => ∃ n : Nat, v = .int n ∧ n ≤ 16777216 ∧ Q (.int n) H1) E
theorem call_lenO {X : Cx} {CX : CXT} {k : Nat} {C f : Addr} {fd : FuncData} {ps : List Str} {sp : Sp} {E : XK} (hs : PySem.W.findIn X.K (.ref C) "__len__" = some (some (.ref f))) (hf : PySem.W.typeIn X.K (.ref f) = some (.type "function"))
    (F : FnOk X.prog X.w X.K X.mg X.base CX k f fd ps sp) (hr : Room (k + 1) X.A) (hb : Binds X.K fd ps []) (hx : Passes CX X E) : CallR X (.builtin "len") (rLenO C sp E) := by
  intro pins s σ H xs us Q I r h
  obtain ⟨a, dx, fs, rfl, hH, hq⟩ := h
  obtain ⟨u, rfl, ru⟩ := vals1 r
  obtain rfl : u = Value.ref a := ru
  obtain ⟨mA, O, _, _, _, _⟩ := ins_get I.hok hH
  obtain ⟨od, J, _⟩ := O.look
  refine Calls.call_function_entry kind_len plain_len entry_len (args_len1 _) ?_
  unfold Builtin.«len»
  refine wpAny_bind (m := oneArg "len" _) (wpAny_pure ?_)
  have hl : ([Value.ref a] ++ []).length = ps.length := F.len _ _ _ _ hq
  refine wpAny_bind (m := callSpecial? (.ref a) (PySem.Str.ofString "__len__")) (PySem.W.special_fn I.kIn J hs hf (wpAny_call (codeAny_mono (F.run X.A.in1 X.stack s H ⟨[.ref a], []⟩ [.ref a] [.ref a] _ E hr.in1 I.env0.in1 (hb s [.ref a] I.kIn hl) (.cons rfl .nil) hq) fun r s' hq => ?_)))
  cases r with
  | error er => exact hx pins σ H s er s' I hq
  | ok fl =>
    cases fl with
    | ret u =>
      obtain ⟨v, H', I3, rv, n, rfl, hn, q3⟩ := I.after hq
      obtain ⟨t, rfl⟩ := rv
      refine wpAny_bind (wpAny_holding (wpAny_pure ?_))
      refine wpAny_bind (wpAny_letGo ?_)
      show wpAny _ _ (if ((n : Nat) : Int) < 0 then _ else _) _ _ _
      rw [if_neg (by omega)]
      show wpAny _ _ (if ((n : Nat) : Int) ≥ 2 ^ 63 then _ else _) _ _ _
      rw [if_neg (by omega)]
      exact wpAny_bind (wpAny_mkInt (wpAny_pure ⟨_, rfl, .int n, H', I3.tok _, ⟨_, rfl⟩, q3⟩))
    | next => exact False.elim hq
    | brk => exact False.elim hq
    | cont => exact False.elim hq
end Gd

set_option maxHeartbeats 4000000
/-! super().m(..) of a plain class as a statement of a method's body. -/
namespace Gd
open PySem PySem.Spec PyProof.Rows L2

structure SupScope (N P : List Str) (sc : Scope) : Prop where
  kind : sc.kind = .function
  co : sc.isCoroutine = false
  gen : sc.isGenerator = false
  nd : N.Nodup
  pre : N.take P.length = P
  par : ∀ x ∈ P, sc.names.lookup x = some .local
  nocell : ∀ y ∈ sc.names, y.2 ≠ .cell
  free : ∀ y ∈ sc.names, y.2 = .free → y.1 = ("__class__" : Str)

/-- the context of the body of a method that closes over its class (the cell at cc) -/
def supCx (CX : CXT) (P : Program) (w : World) (K : PySem.W.Frag) (mg : Str → Option Value) (base : Heap) (N : List Str) (qual : Str) (scope : Scope) (f : Addr) (cd : Value) (cc : Addr) (A : Around) (outer : List Env) (s : Shared) (H : Hp) (E : XK) : Cx where
  prog := P
  w := w
  K := K
  mg := mg
  base := base
  A := A.deeper (PySem.W.ksEnv qual scope s.heap.objs.size f cd cc)
  N := N
  s_0 := s
  H_0 := H
  env := PySem.W.ksEnv qual scope s.heap.objs.size f cd cc
  outer := outer
  stack := PySem.W.ksEnv qual scope s.heap.objs.size f cd cc :: outer
  ex := []
  calm := true
  fn := fun _ => false
  pn := []
  xe := fun e s' => wpAny (model P w) (A.deeper (PySem.W.ksEnv qual scope s.heap.objs.size f cd cc)) (leaving (PySem.W.ksEnv qual scope s.heap.objs.size f cd cc) e) (fun _ s'' => CX outer H s E e s'') (fun e' s'' => CX outer H s E e' s'') s'

theorem look1 {x a : Str} {c d : Addr} (h : ([(a, d)] : List (Str × Addr)).lookup x = some c) : x = a ∧ c = d := by
  simp only [List.lookup_cons, List.lookup_nil] at h
  split at h
  · rename_i e
    exact ⟨beq_iff_eq.mp e, (Option.some.inj h).symm⟩
  · cases h
theorem look_nodup {β : Type} {y : Str} {u : β} : ∀ {l : List (Str × β)}, (l.map Prod.fst).Nodup → (y, u) ∈ l → l.lookup y = some u
  | [], _, h => by cases h
  | (a, b) :: l, nd, h => by
    rw [List.map_cons, List.nodup_cons] at nd
    rcases List.mem_cons.mp h with e | h
    · cases e
      simp [List.lookup_cons]
    · have ne : y ≠ a := fun e => nd.1 (List.mem_map.mpr ⟨(y, u), h, by rw [e]⟩)
      rw [List.lookup_cons, show (y == a) = false from by simp [ne]]
      exact look_nodup nd.2 h
theorem rev_zip {ps : List Str} {us : List Value} {i : Nat} {y : Str} {u : Value} (nd : ps.Nodup) (hl : us.length = ps.length) (hp : ps[i]? = some y) (hu : us[i]? = some u) : (ps.zip us).reverse.lookup y = some u := by
  refine look_nodup ?_ (List.mem_reverse.mpr ?_)
  · rw [List.map_reverse, List.map_fst_zip (Nat.le_of_eq hl.symm)]
    exact (List.reverse_perm ps).nodup_iff.mpr nd
  · have h1 : (ps.zip us)[i]? = some (y, u) := by
      rw [List.getElem?_zip_eq_some]
      exact ⟨hp, hu⟩
    exact List.mem_of_getElem? h1

theorem sup_start {CX : CXT} {P : Program} {w : World} {K : PySem.W.Frag} {mg : Str → Option Value} {base : Heap} {N ps : List Str} {qual : Str} {scope : Scope} {f cc : Addr} {cd : Value} {A : Around} {outer : List Env} {s : Shared} {H : Hp} {E : XK} {us : List Value} {vs : List V}
    {h1 : Heap} {tk : Nat} {cl : Value} {cld : Option Addr} {v0 : Option Value} {csl : Array (Option Value)}
    (S : SupScope N ps scope) (hcc : K.lookup cc = some ⟨cl, cld, .cell v0, csl⟩) (hd : A.handled = none) (e0 : Env0 P w K mg base A outer s H) (hl : vs.length = ps.length) (r : Vals vs us)
    (hns : h1.Ns s.heap.objs.size fun x => (ps.zip us).reverse.lookup x) (kp : ∀ b o, s.heap.get? b = some o → h1.get? b = some o) :
    Inv (supCx CX P w K mg base N qual scope f cd cc A outer s H E) [] (L2.start N vs) H { s with heap := h1, toks := tk } := by
  have hpl : ps.length ≤ N.length := by
    have q := congrArg List.length S.pre
    rw [List.length_take] at q
    omega
  have ndP : ps.Nodup := by
    rw [← S.pre]
    exact S.nd.sublist (List.take_sublist _ _)
  have noA : ∀ b : Addr, b ∉ (supCx CX P w K mg base N qual scope f cd cc A outer s H E).ex := fun b z => absurd (show b ∈ ([] : List Addr) from z) (by simp)
  have bC : base.get? cc = some ⟨cl, cld, .cell v0, csl⟩ := e0.mod.kin _ _ hcc
  have cellOnly : ∀ {y : Str} {c : Addr}, ([("__class__", cc)] : List (Str × Addr)).lookup y = some c → y = "__class__" ∧ c = cc := fun h => look1 h
  refine ⟨⟨e0.mod, S.kind, rfl, rfl, Nat.le_refl _, fun y z c e1 e2 => ?_, fun y hy => ?_, fun y c z _ => ?_, fun _ => hd, Around.frames_deeper e0.frames, .inr ⟨rfl, rfl⟩, fun b z => absurd z (noA b), e0.bs, e0.bsz, fun b _ _ => noA b, fun b z => absurd z (noA b), e0.funs, e0.frf⟩,
    rfl, e0.bare, Un.kept kp, ⟨_, hns, fun i y v e1 e2 e3 => ?_⟩, fun y c e => ?_, e0.hok.fresh (Nat.le_refl _), fun y c e => ?_, fun p hp => absurd (show p ∈ ([] : List (Addr × Obj)) from hp) (by simp), e0.hok.kept kp, ?_⟩
  · rw [(cellOnly e1).1, (cellOnly e2).1]
  · have hy : scope.names.lookup y = some .cell ∨ scope.names.lookup y = some .free := hy
    rcases hy with hy | hy
    · exact absurd rfl (S.nocell _ (PySem.mem_of_lookup hy))
    · have := S.free _ (PySem.mem_of_lookup hy) rfl
      have e : y = "__class__" := this
      subst e
      exact ⟨cc, rfl⟩
  · have z : false = true := z
    cases z
  · have hi : i < vs.length := by
      unfold L2.start at e2
      by_cases hi : i < vs.length
      · exact hi
      · rw [List.getElem?_append_right (by simpa using hi)] at e2
        rw [List.getElem?_replicate] at e2
        split at e2 <;> cases e2
    have ha : vs[i]? = some v := by
      unfold L2.start at e2
      rw [List.getElem?_append_left (by simpa using hi), List.getElem?_map] at e2
      cases e : vs[i]? with
      | none => rw [e] at e2; cases e2
      | some a => rw [e] at e2; cases e2; rfl
    obtain ⟨u, hu, rv⟩ := r.get ha
    have hp : ps[i]? = some y := by
      rw [← S.pre, List.getElem?_take_of_lt (by omega)]
      exact e1
    have k := S.par y (List.mem_of_getElem? hp)
    exact ⟨u, rv, .inl ⟨k, rev_zip ndP (r.length.symm.trans hl) hp hu⟩⟩
  · rw [(cellOnly e).2]
    exact ⟨v0, _, kp _ _ (e0.bs _ _ bC).1, rfl⟩
  · rw [(cellOnly e).2]
    exact (e0.bs _ _ bC).2
  · unfold L2.start
    show _ = N.length
    rw [List.length_append, List.length_map, List.length_replicate]
    omega

/-- a block within the activation c -/
structure PSA (X : Cx) (c : Code) (st : List Stmt) (t : TS) : Prop where
  run : ∀ (pins : List (Addr × Obj)) (s : Shared) (σ : L2.St) (H : Hp) (D : Ends), Inv X pins σ H s → t D σ H → _root_.PySem.wpAt (model X.prog X.w) X.A c (execs st X.env) (SP X pins D) X.xe s
section
variable {X : Cx} {c : Code} {st : Stmt} {rest : List Stmt} {t u : TS}
theorem psa_of {l : List Stmt} (h : PSs X l t) : PSA X c l t := ⟨fun pins s σ H D I q => _root_.PySem.wpAt_of_wpAny (h.run pins s σ H D I q)⟩
theorem psa_cons (h1 : PS X st t) (h2 : PSA X c rest u) : PSA X c (st :: rest) (tSeq t u) := by
  refine ⟨fun pins s σ H D I h => ?_⟩
  refine ks_wpAt_execs_cons (_root_.PySem.wpAt_of_wpAny (thn (h1.run pins s σ H { D with nx := u D } I h) fun f s1 q => ?_))
  cases f with
  | next =>
    obtain ⟨σ', H', I', q⟩ := q
    exact h2.run pins s1 σ' H' D I' q
  | ret v => exact q
  | brk => exact q
  | cont => exact q
end

/-- what super() of the class at D, held by the cell cc, asks of the written part: name is found at f2 behind D -/
structure SupAt (P : Program) (K : PySem.W.Frag) (mg : Str → Option Value) (f cda cc D C f2 : Addr) (sf name : Str) : Prop where
  fn : ∃ (oc : Value) (od : Option Addr) (fd : FuncData) (osl : Array (Option Value)) (ar : Arg), K.lookup f = some ⟨oc, od, .func fd, osl⟩ ∧ (fd.params.posonlyargs ++ fd.params.args).head? = some ar ∧ ar.arg = sf
  code : ∃ (ccl : Value) (cdd : Option Addr) (vs : Array Value) (ccs : Array (Option Value)) (file : Str) (tf : Tok), K.lookup cda = some ⟨ccl, cdd, .fields vs, ccs⟩ ∧ vs[2]? = some (.str file tf) ∧ ((P.main.file : Str) == file) = true
  cell : ∃ (cl : Value) (cld : Option Addr) (csl : Array (Option Value)), K.lookup cc = some ⟨cl, cld, .cell (some (.ref D)), csl⟩
  cls : ∃ cdD, PySem.W.clsIn K D = some cdD
  sub : PySem.W.mroIn K C (.ref D) = some true
  sup : mg "super" = none
  top : (P.main.scope.names.lookup ("super" : Str)).isSome = false
  opq : PySem.W.nsIn K cStatics "thirdparty.any" = some none
  to : PySem.W.ks_superIn K C D name = some (some (.ref f2))
  isf : PySem.W.typeIn K (.ref f2) = some (.type "function")
  mf : PySem.W.fnIn K f2 = true

/-- super().name(..): the method at f2 with self, whose class is at C -/
def tSup (C : Addr) (sp : Sp) (dvs : List V) (E : XK) (ta : TA) (u : TS) : TS := fun D σ H => ∃ a dx fs, σ[0]? = some (some (.ref a)) ∧ H a = some (.ins C dx fs) ∧ ta σ H fun vs H1 => sp (.ref a :: (vs ++ dvs)) H1 (fun _ H2 => u D σ H2) E
theorem psa_super {pl : Sem Bool} {X : Cx} {CX : CXT} {k : Nat} {body : List Stmt} {rest : List Stmt} {u : TS} {q : Str} {scope : Scope} {L f cda cc D C f2 : Addr} {self name : Str} {fd2 : FuncData} {ps : List Str} {sp : Sp} {ds : List Value} {dvs : List V} {E : XK} {e : Expr} {es : List Expr} {ta : TA} {p0 p1 p2 p3 p4 : Pos}
    (hX : X.env = PySem.W.ksEnv q scope L f (.ref cda) cc) (hks : scope.names.lookup ("super" : Str) = some .globalImplicit) (hkc : scope.names.lookup ("__class__" : Str) = some .free) (hka : scope.names.lookup self = some .local) (hk : scope.kind = .function)
    (hN : X.N[0]? = some self) (Sa : SupAt X.prog X.K X.mg f cda cc D C f2 self name) (F : FnOk X.prog X.w X.K X.mg X.base CX k f2 fd2 ps sp) (hr : Room k X.A) (hb : Binds X.K fd2 ps ds) (hdv : Vals dvs ds) (hx : Passes CX X E) (ha : PA X (e :: es) ta) (hu : PSA X (.func body X.env) rest u)
    (hpl : (backTo p3 (starEach es X.env)).any (·.1) = false) (he0 : starEach (e :: es) X.env = (false, eval e X.env) :: starEach es X.env)
    (hev : eval (.Call (.Attribute (.Call (.Name "super" p0) [] [] p1) name p2) (e :: es) [] p3) X.env = (do
      let ov ← attributeBase (.Call (.Name "super" p0) [] [] p1) name X.env (eval (.Call (.Name "super" p0) [] [] p1) X.env)
      standAt p2.atName
      let (f, first) ← holding [ov] (getMethod ov name pl)
      callWith p3 f first (backTo p3 (starEach (e :: es) X.env)) []))
    (hat : (name == ("__class__" : Str)) = false) (hsw : ∀ env : Env, swapsWith (.Call (.Attribute (.Call (.Name "super" p0) [] [] p1) name p2) (e :: es) [] p3) none p4.line env = pure false := by intro env; rfl) (hboot : bootBuiltins "super" = some (.type "super") := by decide +kernel) :
    PSA X (.func body X.env) (.Expr (.Call (.Attribute (.Call (.Name "super" p0) [] [] p1) name p2) (e :: es) [] p3) p4 :: rest) (tSup C sp dvs E ta u) := by
  refine ⟨fun pins s σ H Dn I hq => ?_⟩
  obtain ⟨a, dx, fs, hσ, hH, hq⟩ := hq
  obtain ⟨oc, od, fd, osl, ar, hf, hp, har⟩ := Sa.fn
  obtain ⟨ccl, cdd, vs, ccs, file, tf, hcode, hvs, hfile⟩ := Sa.code
  obtain ⟨cl, cld, csl, hcell⟩ := Sa.cell
  obtain ⟨cdD, hD⟩ := Sa.cls
  subst har
  have X0 : X.K.In s.heap := I.kIn
  obtain ⟨oD, hD1, hD2⟩ : ∃ oD, s.heap.get? D = some oD ∧ oD.data = .cls cdD := by
    unfold PySem.W.clsIn at hD
    split at hD
    · rename_i c d cd' sl ho
      cases hD
      exact ⟨_, X0 _ _ ho, rfl⟩
    · cases hD
  refine ks_wpAt_execs_cons (ks_wpAt_Expr_any ?_ I.quiet (hsw _))
  refine ks_wpAt_MethodCall ?_ hev
  rw [hX]
  refine ks_wpAt_super_base (env := PySem.W.ksEnv q scope L f (.ref cda) cc) hks hkc hat rfl (X0 _ _ hf) rfl hp rfl (X0 _ _ hcode) rfl hvs hfile Sa.top ?_
  obtain ⟨mb, hm1, hm2⟩ := I.mod.blt
  refine PySem.W.ks_loadName_global hk hks (Calls.loadGlobal_builtin (by first | exact I.mod.glob.keeps I.bk | (rw [← hX, I.ok.glob]; exact I.mod.glob.keeps I.bk)) Sa.sup (by first | exact hm1.keeps I.bk | (rw [← hX, I.ok.blt]; exact hm1.keeps I.bk)) ((hm2 _ (by decide)).trans hboot) ⟨rfl, ?_⟩)
  refine wpAny_loadName_free hk hkc rfl ⟨_, X0 _ _ hcell, rfl⟩ ?_
  obtain ⟨m, hns, hl⟩ := id I.loc
  obtain ⟨ua, ra, la⟩ := hl 0 ar.arg (.ref a) hN hσ (by rw [hX]; exact .inl hka)
  obtain rfl : ua = Value.ref a := ra
  have hma : m ar.arg = some (.ref a) := by
    rcases la with ⟨_, h⟩ | ⟨h, _⟩
    · exact h
    · rw [hX] at h
      have h : scope.names.lookup ar.arg = some .cell ∨ scope.names.lookup ar.arg = some .free := h
      rw [hka] at h
      rcases h with h | h <;> cases h
  refine wpAny_loadName_local hk hka (by rw [hX] at hns; exact hns) hma ?_
  obtain ⟨hh, g, d, t, os⟩ := s
  refine ks_wpAny_isType_cls hD1 hD2 ⟨rfl, ?_⟩
  obtain ⟨hdx, hfl, hne, hox, _⟩ := I.hok a _ hH
  have hsub := Sa.sub
  refine ks_wpAny_call_super hD1 hD2 hox rfl (fun c e => by cases e) (PySem.W.looks_mroIn X0 hsub) (fun h' eh k => ?_)
  have I1 : Inv X pins σ H ⟨h', g, d, t, os⟩ := I.kept (t' := t) k
  have X1 : X.K.In h' := I1.kIn
  obtain ⟨of, hof, hofc⟩ : ∃ of, h'.get? f2 = some of ∧ of.cls = .type "function" := by
    have ht' : (X.K.lookup f2).map (·.cls) = some (.type "function") := Sa.isf
    cases z : X.K.lookup f2 with
    | none => rw [z] at ht'; cases ht'
    | some of => rw [z] at ht'; exact ⟨of, X1 _ _ z, Option.some.inj ht'⟩
  obtain ⟨cdC, hcC, hm⟩ : ∃ cdC, PySem.W.clsIn X.K C = some cdC ∧ PySem.W.alongIn X.K name ((cdC.mro.dropWhile (· != .ref D)).drop 1) = some (some (.ref f2)) := by
    have hm := Sa.to
    unfold PySem.W.ks_superIn at hm
    cases hc : PySem.W.clsIn X.K C with
    | none => rw [hc] at hm; cases hm
    | some cd => rw [hc] at hm; exact ⟨cd, rfl, hm⟩
  have neC : a ≠ C := by
    intro e2
    unfold PySem.W.clsIn at hcC
    split at hcC
    · rename_i c d cd' sl ho
      have e3 := X0 _ _ ho
      rw [← e2] at e3
      have e4 : hh.get? a = some (PySem.W.instObj C dx) := hox
      have e5 : hh.get? a = some ⟨c, d, .cls cd', sl⟩ := e3
      rw [e5] at e4
      cases e4
    · cases hcC
  refine ks_wpAny_getMethod_super eh (PySem.W.looks_opaque X1 Sa.opq) (l₀ := cdC.mro) ?_ rfl X1 hm hof hofc neC hat ?_
  · exact fun A Q E s k q => wpAny_bind ((PySem.W.looks_clsIn X1 hcC) A _ E s k (wpAny_pure q))
  have I2 : Inv X pins σ H ⟨h'.push (PySem.W.methodObj (.ref f2) (.ref a)), g, d, t + 1, os⟩ := I1.kept (t' := t + 1) fun b o e => Heap.get?_push_of_some _ e
  have hq0 : (h'.push (PySem.W.methodObj (.ref f2) (.ref a))).get? h'.objs.size = some (PySem.W.methodObj (.ref f2) (.ref a)) := Heap.get?_push_size _ rfl
  have I3 : Inv X ((h'.objs.size, PySem.W.methodObj (.ref f2) (.ref a)) :: pins) σ H ⟨h'.push (PySem.W.methodObj (.ref f2) (.ref a)), g, d, t + 1, os⟩ := I2.pins_of fun p hp => by
    rcases List.mem_cons.mp hp with rfl | hp
    · refine ⟨hq0, I1.hok.fresh (Nat.le_refl _), fun z => ?_, I1.nofs (Nat.le_refl _), fun v z => by cases z⟩
      have := I1.lt
      rw [← z] at this
      exact Nat.lt_irrefl _ this
    · exact I2.pin p (List.mem_append_right _ hp)
  show wpAny _ _ (PySem.callWith p3 (.ref h'.objs.size) [] (backTo p3 (starEach (e :: es) _)) []) _ _ _
  rw [← hX]
  rw [he0]
  have go := ha.run p3 _ _ σ H _ I3 hq
  rw [he0] at go
  refine PySem.W.callWith_of (P := PySem.W.MethP X.K h'.objs.size f2 (.ref a)) (by show ((false || (backTo p3 (starEach es X.env)).any (·.1)) || false) = false; rw [hpl]; rfl) (PySem.W.keeps_M Sa.mf) (Calls.evalArgs_plain ?_)
  refine thn go fun us s1 ⟨zs, H1, I4, rz, q4⟩ => ?_
  have hq1 : s1.heap.get? h'.objs.size = some (PySem.W.methodObj (.ref f2) (.ref a)) := (I4.pin (h'.objs.size, PySem.W.methodObj (.ref f2) (.ref a)) (List.mem_append_right _ List.mem_cons_self)).1
  have I5 : Inv X pins σ H1 s1 := I4.pins_of fun p hp => I4.pin p (List.mem_append_right _ (List.mem_cons_of_mem _ hp))
  refine ⟨⟨hq1, I5.kIn⟩, ?_⟩
  have r2 : Vals (V.ref a :: (zs ++ dvs)) (Value.ref a :: us ++ ds) := .cons rfl (rz.append hdv)
  have hl2 : (Value.ref a :: us ++ ds).length = ps.length := by
    have e3 := r2.length
    rw [F.len _ _ _ _ q4] at e3
    exact e3.symm
  refine wpAny_call (ks_codeAny_call_bound hq1 (codeAny_mono (F.run X.A X.stack s1 H1 ⟨Value.ref a :: us, []⟩ (Value.ref a :: us ++ ds) _ _ E hr I5.env0 (hb s1 (Value.ref a :: us) I5.kIn hl2) r2 q4) fun r s' hq' => ?_))
  cases r with
  | error e => exact hx pins σ H1 s1 e s' I5 hq'
  | ok fl =>
    cases fl with
    | ret u2 =>
      obtain ⟨v, H2, I6, rv, q6⟩ := I5.after hq'
      exact hu.run pins s' σ H2 Dn I6 q6
    | next => exact False.elim hq'
    | brk => exact False.elim hq'
    | cont => exact False.elim hq'

/-- THE RULE: a def whose closure is its class alone -/
theorem ok_super {CX : CXT} {P : Program} {w : World} {K : PySem.W.Frag} {mg : Str → Option Value} {base : Heap} {k : Nat} {f cc : Addr} {name qual : Str} {params : Arguments} {body : List Stmt} {scope : Scope} {dV kV doc pm cdv ct oc cl : Value} {an od cld : Option Addr}
    {osl csl : Array (Option Value)} {v0 : Option Value} {N ps : List Str} {sp : Sp} (lk : K.lookup f = some ⟨oc, od, .func (PySem.W.ksFn name qual params body scope dV kV doc pm an cdv ct cc), osl⟩) (hcd : PySem.W.codeIn K cdv qual = true) (hcc : K.lookup cc = some ⟨cl, cld, .cell v0, csl⟩)
    (S : SupScope N ps scope) (len : ∀ vs H Q E, sp vs H Q E → vs.length = ps.length)
    (hbody : ∀ (A : Around) (outer : List Env) (s : Shared) (H : Hp) (vs : List V) (Q : VK) (E : XK), Room k (A.deeper (PySem.W.ksEnv qual scope s.heap.objs.size f cdv cc)) → sp vs H Q E →
      ∃ t, PSA (supCx CX P w K mg base N qual scope f cdv cc A outer s H E) (.func body (PySem.W.ksEnv qual scope s.heap.objs.size f cdv cc)) body t ∧ t { nx := fun _ H' => Q .non H', rt := Q } (L2.start N vs) H) :
    FnOk P w K mg base CX (k + 1) f (PySem.W.ksFn name qual params body scope dV kV doc pm an cdv ct cc) ps sp := by
  refine ⟨len, fun A outer s H args us vs Q E hr e0 hb r hs => ?_⟩
  have KX : K.In s.heap := e0.mod.kin.keeps fun b o e => (e0.bs b o e).1
  have lim : s.heap.NoLimit := e0.mod.nolimit.keeps fun b o e => (e0.bs b o e).1
  have hl : us.length = ps.length := r.length.symm.trans (len _ _ _ _ hs)
  refine ks_codeAny_call_defAt (fd := PySem.W.ksFn name qual params body scope dV kV doc pm an cdv ct cc) (body := body) (binds := ps.zip us) hr.depth (KX _ _ lk) rfl lim (PySem.W.codeRec_of KX hcd) rfl hb S.nocell (fun y hy => S.par _ (List.of_mem_zip hy).1) (fun h₀ hns kp => ?_) S.co S.gen S.kind
  obtain ⟨t, ht, hq⟩ := hbody A outer s H vs Q E (hr.deeper _) hs
  have I := sup_start (CX := CX) (P := P) (w := w) (N := N) (qual := qual) (f := f) (cd := cdv) (E := E) (tk := s.toks + (ps.zip us).length) S hcc hr.hd e0 (len _ _ _ _ hs) r hns kp
  refine ks_wpAt_mono (ht.run [] _ (L2.start N vs) H _ I hq) (fun fl s' hfl => ?_) fun e s' he => he
  have fin : ∀ {σ' : L2.St} {H' : Hp} {v : V} {u : Value}, Inv (supCx CX P w K mg base N qual scope f cdv cc A outer s H E) [] σ' H' s' → RelV v u → Q v H' → CE outer P w H s Q u s' :=
    fun {σ' H' v u} J rv q => ⟨v, H', J.os, J.bare, J.base, J.hok, rv, q⟩
  cases fl with
  | ret u =>
    obtain ⟨v, σ', H', J, rv, q⟩ := hfl
    exact fin J rv q
  | next =>
    obtain ⟨σ', H', J, q⟩ := hfl
    exact fin (v := V.non) (u := Value.none) J rfl q
  | brk =>
    obtain ⟨_, _, _, q⟩ := hfl
    exact False.elim q
  | cont =>
    obtain ⟨_, _, _, q⟩ := hfl
    exact False.elim q
end Gd

set_option maxHeartbeats 4000000
namespace M14
open PySem PySem.Spec PyProof.Rows L2

/-! ### the law's plans, their trees, their texts -/
inductive Plan where
  | num (n : Nat) | nam (s : Str) | mrk (s : Str) (p : Plan) | joi (p : Plan) (s : Str) (q : Plan)
structure Tr where
  text : Str
  toks : List Str
  depth : Nat
  level : Nat
def LEV : List (Str × Nat) := [("||", 1), ("&&", 2), ("==", 3), ("!=", 3), ("<", 3), ("<=", 3), (">", 3), (">=", 3), ("|", 4), ("^", 5), ("&", 6), ("<<", 7), (">>", 7), ("+", 8), ("-", 8), ("*", 9), ("/", 9), ("mod", 9)]
def OPS : List Str := LEV.map Prod.fst
def SGS : List Str := ["-", "~", "!"]
def PATHS : List Str := ["a", "b", "c.d", "x@3", "a.y@12", ".z", ".a", "section", "_9"]
def lev (s : Str) : Nat := (LEV.lookup s).getD 10
def numS (n : Nat) : Str := (toString (n : Int) : String)
def shw (b : Bool) (t : Tr) : Str × List Str × Nat := bif b then ((("(" : Str) ++ t.text) ++ (")" : Str), ("(" : Str) :: (t.toks ++ [(")" : Str)]), t.depth + 1) else (t.text, t.toks, t.depth)
def trN (n : Nat) : Tr := ⟨numS n, [numS n], 0, 10⟩
def trA (s : Str) : Tr := ⟨s, [s], 0, 10⟩
def trS (s : Str) (t : Tr) : Tr := let x := shw (decide (t.level < 10)) t; ⟨s ++ x.1, s :: x.2.1, x.2.2 + 1, 10⟩
def brL (t : Tr) (l : Nat) : Bool := decide (t.level < l) || (decide (t.level = l) && decide (l = 3))
def brR (t : Tr) (l : Nat) : Bool := decide (t.level ≤ l)
def trJ (p : Tr) (s : Str) (q : Tr) : Tr := let a := shw (brL p (lev s)) p; let b := shw (brR q (lev s)) q; ⟨(((a.1 ++ (" " : Str)) ++ s) ++ (" " : Str)) ++ b.1, a.2.1 ++ (s :: b.2.1), if b.2.2 > a.2.2 then b.2.2 else a.2.2, lev s⟩
def trOf : Plan → Tr
  | .num n => trN n
  | .nam s => trA s
  | .mrk s p => trS s (trOf p)
  | .joi p s q => trJ (trOf p) s (trOf q)
/-- the law's own words -/
def isJ : Plan → Bool
  | .joi _ _ _ => true
  | _ => false
def kind : Plan → Str
  | .num _ => "number"
  | .nam _ => "name"
  | .mrk _ _ => "mark"
  | .joi _ _ _ => "joined"
def lvl : Plan → Nat
  | .joi _ s _ => lev s
  | _ => 10
def brP (p : Plan) (l : Nat) : Bool := decide (lvl p < l) || (decide (lvl p = 3) && decide (l = 3))
def ins (b : Bool) (z : Str) : Str := bif b then (("(" : Str) ++ z) ++ (")" : Str) else z
def ltext : Plan → Str
  | .num n => numS n
  | .nam s => s
  | .mrk s p => s ++ ins (isJ p) (ltext p)
  | .joi p s q => (((ins (brP p (lev s)) (ltext p) ++ (" " : Str)) ++ s) ++ (" " : Str)) ++ ins (decide (lvl q ≤ lev s)) (ltext q)
def b2 (b : Bool) : Nat := bif b then 1 else 0
def lcount : Plan → Nat
  | .mrk _ p => 1 + lcount p + 2 * b2 (isJ p)
  | .joi p s q => 1 + 2 * (b2 (brP p (lev s)) + b2 (decide (lvl q ≤ lev s))) + lcount p + lcount q
  | _ => 1
def NUMS : List Nat := [0, 1, 2, 3, 5, 7, 64, 65, 10 ^ 9, 2 ^ 64, 2 ^ 63]
def PlanOk : Nat → Plan → Prop
  | 0, .num n => n ∈ NUMS
  | _ + 1, .num n => n ∈ NUMS
  | 0, .nam s => s ∈ PATHS
  | _ + 1, .nam s => s ∈ PATHS
  | 0, .mrk _ _ => False
  | 0, .joi _ _ _ => False
  | d + 1, .mrk s p => s ∈ SGS ∧ PlanOk d p
  | d + 1, .joi p s q => s ∈ OPS ∧ PlanOk d p ∧ PlanOk d q
theorem ok_num {d n : Nat} : PlanOk d (.num n) ↔ n ∈ NUMS := by cases d <;> exact Iff.rfl
theorem ok_nam {d : Nat} {s : Str} : PlanOk d (.nam s) ↔ s ∈ PATHS := by cases d <;> exact Iff.rfl

theorem ops_all (P : Str → Bool) (h : OPS.all P = true) {s : Str} (hs : s ∈ OPS) : P s = true := List.all_eq_true.mp h s hs
theorem lev_le {s : Str} (h : s ∈ OPS) : lev s ≤ 9 := of_decide_eq_true (ops_all (fun s => decide (lev s ≤ 9)) (by decide +kernel) h)
theorem lev_pos {s : Str} (h : s ∈ OPS) : 1 ≤ lev s := of_decide_eq_true (ops_all (fun s => decide (1 ≤ lev s)) (by decide +kernel) h)
theorem op_len {s : Str} (h : s ∈ OPS) : s.length ≤ 3 := of_decide_eq_true (ops_all (fun s => decide (s.length ≤ 3)) (by decide +kernel) h)
theorem sg_len {s : Str} (h : s ∈ SGS) : s.length ≤ 3 := of_decide_eq_true (List.all_eq_true.mp (show SGS.all (fun s => decide (s.length ≤ 3)) = true by decide +kernel) s h)
theorem path_len {s : Str} (h : s ∈ PATHS) : s.length ≤ 10 := of_decide_eq_true (List.all_eq_true.mp (show PATHS.all (fun s => decide (s.length ≤ 10)) = true by decide +kernel) s h)
theorem lvl_of (p : Plan) : (trOf p).level = lvl p := by cases p <;> rfl
theorem shw1 (b : Bool) (t : Tr) : (shw b t).1 = ins b t.text := by cases b <;> rfl
theorem shw2 (b : Bool) (t : Tr) : (shw b t).2.1.length = t.toks.length + 2 * b2 b := by
  cases b
  · rfl
  · simp [shw, b2]
theorem brL_of (p : Plan) (l : Nat) : brL (trOf p) l = brP p l := by
  unfold brL brP
  rw [lvl_of]
  by_cases h : l = 3
  · subst h
    rfl
  · simp [h]
theorem lt10 {d : Nat} {p : Plan} (h : PlanOk d p) : decide ((trOf p).level < 10) = isJ p := by
  rw [lvl_of]
  cases p with
  | num n => rfl
  | nam s => rfl
  | mrk s p => rfl
  | joi p s q =>
    cases d with
    | zero => exact h.elim
    | succ d =>
      have := lev_le h.1
      show decide (lev s < 10) = true
      exact decide_eq_true (by omega)
theorem text_of : ∀ {d : Nat} {p : Plan}, PlanOk d p → (trOf p).text = ltext p
  | _, .num n, _ => rfl
  | _, .nam s, _ => rfl
  | 0, .mrk _ _, h => h.elim
  | 0, .joi _ _ _, h => h.elim
  | d + 1, .mrk s p, h => by
    show s ++ (shw (decide ((trOf p).level < 10)) (trOf p)).1 = s ++ ins (isJ p) (ltext p)
    rw [shw1, lt10 h.2, text_of h.2]
  | d + 1, .joi p s q, h => by
    show ((((shw (brL (trOf p) (lev s)) (trOf p)).1 ++ (" " : Str)) ++ s) ++ (" " : Str)) ++ (shw (brR (trOf q) (lev s)) (trOf q)).1 = _
    rw [shw1, shw1, brL_of, text_of h.2.1, text_of h.2.2]
    unfold brR
    rw [lvl_of]
    rfl
theorem count_of : ∀ {d : Nat} {p : Plan}, PlanOk d p → (trOf p).toks.length = lcount p
  | _, .num n, _ => rfl
  | _, .nam s, _ => rfl
  | 0, .mrk _ _, h => h.elim
  | 0, .joi _ _ _, h => h.elim
  | d + 1, .mrk s p, h => by
    show (s :: (shw (decide ((trOf p).level < 10)) (trOf p)).2.1).length = 1 + lcount p + 2 * b2 (isJ p)
    rw [List.length_cons, shw2, lt10 h.2, count_of h.2]
    omega
  | d + 1, .joi p s q, h => by
    show ((shw (brL (trOf p) (lev s)) (trOf p)).2.1 ++ (s :: (shw (brR (trOf q) (lev s)) (trOf q)).2.1)).length = 1 + 2 * (b2 (brP p (lev s)) + b2 (decide (lvl q ≤ lev s))) + lcount p + lcount q
    rw [List.length_append, List.length_cons, shw2, shw2, brL_of, count_of h.2.1, count_of h.2.2]
    unfold brR
    rw [lvl_of]
    omega
theorem b2_le (b : Bool) : b2 b ≤ 1 := by cases b <;> decide
/-- sizes -/
def TrOk (n d : Nat) (t : Tr) : Prop := t.toks.length ≤ n ∧ t.depth ≤ d ∧ t.text.length ≤ 30 * t.toks.length ∧ t.level ≤ 10 ∧ 1 ≤ t.toks.length
theorem app_len (a b : Str) : (a ++ b).length = a.length + b.length := by
  show (a.cps ++ b.cps).size = _
  rw [Array.size_append]
  rfl
theorem shw_len (b : Bool) (t : Tr) : (shw b t).1.length = t.text.length + 2 * b2 b := by
  cases b
  · rfl
  · show ((("(" : Str) ++ t.text) ++ (")" : Str)).length = t.text.length + 2
    rw [app_len, app_len, show (("(" : Str)).length = 1 from rfl, show ((")" : Str)).length = 1 from rfl]
    omega
theorem shw_dep (b : Bool) (t : Tr) : (shw b t).2.2 ≤ t.depth + 1 := by
  cases b
  · exact Nat.le_succ _
  · exact Nat.le_refl _
theorem trS_ok {s : Str} {t : Tr} {n d : Nat} (hs : s.length ≤ 3) (h : TrOk n d t) : TrOk (n + 3) (d + 2) (trS s t) := by
  obtain ⟨h1, h2, h3, h4, h5⟩ := h
  have q2 := shw2 (decide (t.level < 10)) t
  have ql := shw_len (decide (t.level < 10)) t
  have qd := shw_dep (decide (t.level < 10)) t
  have qb := b2_le (decide (t.level < 10))
  refine ⟨?_, ?_, ?_, ?_, ?_⟩
  · show (s :: (shw (decide (t.level < 10)) t).2.1).length ≤ _
    rw [List.length_cons]
    omega
  · show (shw (decide (t.level < 10)) t).2.2 + 1 ≤ _
    omega
  · show (s ++ (shw (decide (t.level < 10)) t).1).length ≤ 30 * (s :: (shw (decide (t.level < 10)) t).2.1).length
    rw [List.length_cons, app_len]
    omega
  · exact Nat.le_refl _
  · show 1 ≤ (s :: (shw (decide (t.level < 10)) t).2.1).length
    rw [List.length_cons]
    omega
theorem trJ_ok {s : Str} {p q : Tr} {n m d : Nat} (hs : s.length ≤ 3) (hl : lev s ≤ 9) (h : TrOk n d p) (g : TrOk m d q) : TrOk (n + m + 5) (d + 1) (trJ p s q) := by
  obtain ⟨h1, h2, h3, h4, h5⟩ := h
  obtain ⟨g1, g2, g3, g4, g5⟩ := g
  have a2 := shw2 (brL p (lev s)) p
  have al := shw_len (brL p (lev s)) p
  have ad := shw_dep (brL p (lev s)) p
  have ab := b2_le (brL p (lev s))
  have c2 := shw2 (brR q (lev s)) q
  have cl := shw_len (brR q (lev s)) q
  have cd := shw_dep (brR q (lev s)) q
  have cb := b2_le (brR q (lev s))
  have len : ((shw (brL p (lev s)) p).2.1 ++ (s :: (shw (brR q (lev s)) q).2.1)).length = (shw (brL p (lev s)) p).2.1.length + (1 + (shw (brR q (lev s)) q).2.1.length) := by
    rw [List.length_append, List.length_cons]
    omega
  refine ⟨?_, ?_, ?_, ?_, ?_⟩
  · show ((shw (brL p (lev s)) p).2.1 ++ (s :: (shw (brR q (lev s)) q).2.1)).length ≤ _
    omega
  · show (if (shw (brR q (lev s)) q).2.2 > (shw (brL p (lev s)) p).2.2 then (shw (brR q (lev s)) q).2.2 else (shw (brL p (lev s)) p).2.2) ≤ _
    split <;> omega
  · show (((((shw (brL p (lev s)) p).1 ++ (" " : Str)) ++ s) ++ (" " : Str)) ++ (shw (brR q (lev s)) q).1).length ≤ 30 * ((shw (brL p (lev s)) p).2.1 ++ (s :: (shw (brR q (lev s)) q).2.1)).length
    rw [len, app_len, app_len, app_len, app_len, show ((" " : Str)).length = 1 from rfl]
    omega
  · show lev s ≤ 10
    omega
  · show 1 ≤ ((shw (brL p (lev s)) p).2.1 ++ (s :: (shw (brR q (lev s)) q).2.1)).length
    omega
theorem TrOk.mono {n m d e : Nat} {t : Tr} (h : TrOk n d t) (hn : n ≤ m) (hd : d ≤ e) : TrOk m e t := ⟨Nat.le_trans h.1 hn, Nat.le_trans h.2.1 hd, h.2.2⟩
theorem num_len {n : Nat} (h : n ∈ NUMS) : (numS n).length ≤ 30 := of_decide_eq_true (List.all_eq_true.mp (show NUMS.all (fun n => decide ((numS n).length ≤ 30)) = true by decide +kernel) n h)
theorem num_le {n : Nat} (h : n ∈ NUMS) : n ≤ 2 ^ 64 := of_decide_eq_true (List.all_eq_true.mp (show NUMS.all (fun n => decide (n ≤ 2 ^ 64)) = true by decide +kernel) n h)
theorem trN_ok {n : Nat} (h : n ∈ NUMS) : TrOk 1 0 (trN n) := ⟨Nat.le_refl _, Nat.le_refl _, num_len h, Nat.le_refl _, Nat.le_refl _⟩
theorem trA_ok {s : Str} (h : s ∈ PATHS) : TrOk 1 0 (trA s) := ⟨Nat.le_refl _, Nat.le_refl _, Nat.le_trans (path_len h) (show 10 ≤ 30 * 1 by decide), Nat.le_refl _, Nat.le_refl _⟩
def top6 : Nat → Nat
  | 0 => 1
  | d + 1 => 2 * top6 d + 5
theorem top6_pos : ∀ d, 1 ≤ top6 d
  | 0 => Nat.le_refl _
  | d + 1 => by show 1 ≤ 2 * top6 d + 5; omega
theorem tr_ok : ∀ {d : Nat} {p : Plan}, PlanOk d p → TrOk (top6 d) (2 * d) (trOf p)
  | d, .num n, h => (trN_ok (ok_num.mp h)).mono (top6_pos d) (Nat.zero_le _)
  | d, .nam s, h => (trA_ok (ok_nam.mp h)).mono (top6_pos d) (Nat.zero_le _)
  | 0, .mrk _ _, h => h.elim
  | 0, .joi _ _ _, h => h.elim
  | d + 1, .mrk s p, h => (trS_ok (sg_len h.1) (tr_ok h.2)).mono (by have := top6_pos d; show top6 d + 3 ≤ 2 * top6 d + 5; omega) (by omega)
  | d + 1, .joi p s q, h => (trJ_ok (op_len h.1) (lev_le h.1) (tr_ok h.2.1) (tr_ok h.2.2)).mono (by show _ ≤ 2 * top6 d + 5; omega) (by omega)
theorem planOk_succ : ∀ {d : Nat} {p : Plan}, PlanOk d p → PlanOk (d + 1) p
  | _, .num n, h => ok_num.mpr (ok_num.mp h)
  | _, .nam s, h => ok_nam.mpr (ok_nam.mp h)
  | 0, .mrk _ _, h => h.elim
  | 0, .joi _ _ _, h => h.elim
  | d + 1, .mrk s p, h => ⟨h.1, planOk_succ h.2⟩
  | d + 1, .joi p s q, h => ⟨h.1, planOk_succ h.2.1, planOk_succ h.2.2⟩
theorem planOk_mono {d e : Nat} {p : Plan} (h : PlanOk d p) (k : d ≤ e) : PlanOk e p := by
  induction k with
  | refl => exact h
  | step _ ih => exact planOk_succ ih

/-! ### in the heap -/
/-- a plan at a -/
def PlanR (H : Hp) : Addr → Plan → Prop
  | a, .num n => H a = some (.tup [.str "number", .int n])
  | a, .nam s => H a = some (.tup [.str "name", .str s])
  | a, .mrk s p => ∃ b, H a = some (.tup [.str "mark", .str s, .ref b]) ∧ PlanR H b p
  | a, .joi p s q => ∃ b c, H a = some (.tup [.str "joined", .ref b, .str s, .ref c]) ∧ PlanR H b p ∧ PlanR H c q
theorem PlanR.ex {H H' : Hp} (e : ∀ a o, H a = some o → H' a = some o) : ∀ {a : Addr} {p : Plan}, PlanR H a p → PlanR H' a p
  | a, .num n, h => e _ _ h
  | a, .nam s, h => e _ _ h
  | a, .mrk s p, ⟨b, h1, h2⟩ => ⟨b, e _ _ h1, h2.ex e⟩
  | a, .joi p s q, ⟨b, c, h1, h2, h3⟩ => ⟨b, c, e _ _ h1, h2.ex e, h3.ex e⟩
def METHS : List Str := ["_in_brackets", "walk", "by", "_with", "_fold", "replaced", "folded"]
/-- a tree of one of the classes CS at a -/
structure TRep (CS : Addr → Prop) (H : Hp) (a : Addr) (t : Tr) : Prop where
  ex : ∃ (C dx : Addr) (fs : List (Str × V)) (sh u : Addr) (us : List Str), CS C ∧ H a = some (.ins C dx fs) ∧ fs.lookup ("_text" : Str) = some (.str t.text) ∧ fs.lookup ("_shown" : Str) = some (.ref sh) ∧ H sh = some (.tup [.str t.text, .int (t.toks.length : Int), .int (t.depth : Int)]) ∧
    fs.lookup ("_level" : Str) = some (.int (t.level : Int)) ∧ fs.lookup ("_used" : Str) = some (.ref u) ∧ H u = some (.tup (us.map V.str)) ∧ us.length ≤ t.toks.length ∧ (∀ z ∈ us, PyData.canLay0 (.str z) = true) ∧ ∀ m ∈ METHS, fs.lookup m = none
  ok : TrOk 200 20 t
theorem TRep.ext {CS : Addr → Prop} {H H' : Hp} {a : Addr} {t : Tr} (h : TRep CS H a t) (e : ∀ a o, H a = some o → H' a = some o) : TRep CS H' a t := by
  obtain ⟨⟨C, dx, fs, sh, u, us, h0, h1, h2, h3, h4, h5, h6, h7, h8, h9, h10⟩, ok⟩ := h
  exact ⟨⟨C, dx, fs, sh, u, us, h0, e _ _ h1, h2, h3, e _ _ h4, h5, h6, e _ _ h7, h8, h9, h10⟩, ok⟩
end M14

set_option maxHeartbeats 4000000
/-! The trees of expressions: their classes, what is read off them. -/
namespace M14
open PySem PySem.Spec PyProof.Rows L2 Evl TL Gd

def FLD : List Str := ["_text", "_shown", "_branches", "_level", "_used", "_number", "_name", "_sign", "_inner", "_left", "_right"]
/-- a class of trees -/
structure TreeC (K : PySem.W.Frag) (CT gT gU fL fS : Addr) (C : Addr) : Prop where
  cls : Cls K C
  pT : ∃ p, PropOf K C "text" p gT
  pU : ∃ p, PropOf K C "used" p gU
  ln : PySem.W.findIn K (.ref C) "__len__" = some (some (.ref fL))
  sh : Meth K C "_in_brackets" fS
  no : ∀ f ∈ FLD, NoAttr K C f
  kit : PySem.W.kitOne K (.ref C) (.ref CT) = some true
  hcl : PySem.W.findIn K (.ref C) "__class__" = some (some (.builtin "object.__class__"))
  hob : PySem.W.mroIn K C (.type "object") = some true
structure TcOk (K : PySem.W.Frag) (fL : Addr) : Prop where
  hn : PySem.W.specialIn K (.builtin "object.__class__") "__get__" = some (some (.builtin "getset_descriptor.__get__"))
  htk : PySem.W.takesIn K (.builtin "object.__class__") = some true
  tf : PySem.W.typeIn K (.ref fL) = some (.type "function")

section
variable {K : PySem.W.Frag} {CT gT gU fL fS : Addr} {H : Hp} {a : Addr} {t : Tr} {σ : L2.St} {te : TE}
abbrev TR (K : PySem.W.Frag) (CT gT gU fL fS : Addr) (H : Hp) (a : Addr) (t : Tr) : Prop := TRep (TreeC K CT gT gU fL fS) H a t
theorem ev_fld {C dx : Addr} {fs : List (Str × V)} {f : Str} {v : V} (h : Ev te σ H (.ref a)) (ha : H a = some (.ins C dx fs)) (c : Cls K C) (n : NoAttr K C f) (l : fs.lookup f = some v) : Ev (tFld K te f) σ H v := fun H1 e Q q =>
  h H1 e _ fun H2 e2 => ⟨a, C, dx, fs, v, rfl, e2 a _ (e a _ ha), c, n, l, q H2 e2⟩
theorem mem_fld (f : Str) (h : FLD.contains f = true := by decide +kernel) : f ∈ FLD := List.contains_iff_mem.mp h
theorem ev_level (h : Ev te σ H (.ref a)) (r : TR K CT gT gU fL fS H a t) : Ev (tFld K te "_level") σ H (.int (t.level : Int)) := by
  obtain ⟨C, dx, fs, sh, u, us, c, h1, h2, h3, h4, h5, h6, h7, h8, h9, h10⟩ := r.ex
  exact ev_fld h h1 c.cls (c.no _ (mem_fld _)) h5
theorem ev_shownF (h : Ev te σ H (.ref a)) (r : TR K CT gT gU fL fS H a t) : ∃ sh, H sh = some (.tup [.str t.text, .int (t.toks.length : Int), .int (t.depth : Int)]) ∧ Ev (tFld K te "_shown") σ H (.ref sh) := by
  obtain ⟨C, dx, fs, sh, u, us, c, h1, h2, h3, h4, h5, h6, h7, h8, h9, h10⟩ := r.ex
  exact ⟨sh, h4, ev_fld h h1 c.cls (c.no _ (mem_fld _)) h3⟩
theorem ev_usedF (h : Ev te σ H (.ref a)) (r : TR K CT gT gU fL fS H a t) : ∃ (u : Addr) (us : List Str), H u = some (.tup (us.map V.str)) ∧ us.length ≤ t.toks.length ∧ (∀ z ∈ us, PyData.canLay0 (.str z) = true) ∧ Ev (tFld K te "_used") σ H (.ref u) := by
  obtain ⟨C, dx, fs, sh, u, us, c, h1, h2, h3, h4, h5, h6, h7, h8, h9, h10⟩ := r.ex
  exact ⟨u, us, h7, h8, h9, ev_fld h h1 c.cls (c.no _ (mem_fld _)) h6⟩
/-- isinstance(x, Tree) -/
theorem ev_isTree {tc : TE} (T : TcOk K fL) (h : Ev te σ H (.ref a)) (r : TR K CT gT gU fL fS H a t) (hc : Ev tc σ H (.ref CT)) : Ev (tCB (rIsi K) (tCons te (tCons tc tNil))) σ H (.bl true) := by
  obtain ⟨C, dx, fs, sh, u, us, c, h1, h2, h3, h4, h5, h6, h7, h8, h9, h10⟩ := r.ex
  exact ev_cb (ea_cons h (ea_cons hc ea_nil)) fun H1 e Q q => ⟨.ref a, .ref CT, .ref C, .ref CT, true, rfl, .own _, .base (.ins (e _ _ h1) c.cls c.hcl T.hn T.htk c.hob), c.kit, q H1 (Ex.refl H1)⟩
end

/-! ### properties, len, a method of any of the classes -/
section
variable {X : Cx} {k : Nat} {fd : FuncData} {ps : List Str} {sp : Sp} {e : Expr} {te : TE} {pos : Pos} {CS : Addr → Prop}
def tPropIn (CS : Addr → Prop) (sp : Sp) (te : TE) : TE := fun σ H Q => te σ H fun x H1 => ∃ C, CS C ∧ ∃ a dx fs, x = .ref a ∧ H1 a = some (.ins C dx fs) ∧ sp [.ref a] H1 Q E0
theorem pe_propIn {f : Str} {g : Addr} (h : ∀ C, CS C → Cls X.K C ∧ ∃ p, PropOf X.K C f p g) (F : FnOk X.prog X.w X.K X.mg X.base CX0 k g fd ps sp) (hr : Room (k + 1) X.A) (hb : L2.Binds X.K fd ps []) (he : PE X e te)
    (hab : attributeBase e f X.env (eval e X.env) = eval e X.env := by rfl) : PE X (.Attribute e f pos) (tPropIn CS sp te) := by
  refine ⟨fun pins s σ H Q I q => ?_⟩
  refine attr_of hab (thn (he.run pins s σ H _ I q) fun u s1 ⟨x, H1, I1, rx, C, hC, a, dx, fs, ex, ea, q⟩ => ?_)
  subst ex
  obtain rfl : u = Value.ref a := rx
  obtain ⟨c, p, hp⟩ := h C hC
  exact getprop_ok I1 ea c hp F hr hb .nil pass0 q
theorem ev_propIn {σ : L2.St} {H : Hp} {a C dx : Addr} {fs : List (Str × V)} {v : V} (h : Ev te σ H (.ref a)) (hC : CS C) (h1 : H a = some (.ins C dx fs)) (hs : SpIs sp [.ref a] H v) : Ev (tPropIn CS sp te) σ H v := fun H1 e Q q =>
  h H1 e _ fun H2 e2 => ⟨C, hC, a, dx, fs, rfl, e2 _ _ (e _ _ h1), hs H2 (e.trans e2) Q (fun H3 e3 => q H3 (e2.trans e3)) E0⟩
theorem eu_propIn {σ : L2.St} {H : Hp} {a C dx : Addr} {fs : List (Str × V)} {v : V} {P : V → Hp → Prop} (h : Ev te σ H (.ref a)) (hC : CS C) (h1 : H a = some (.ins C dx fs)) (hs : ∀ H1, Ex H H1 → ∀ Q : VK, (∀ v H2, Ex H1 H2 → P v H2 → Q v H2) → ∀ E, sp [.ref a] H1 Q E) : EvP (tPropIn CS sp te) σ H P := fun H1 e Q q =>
  h H1 e _ fun H2 e2 => ⟨C, hC, a, dx, fs, rfl, e2 _ _ (e _ _ h1), hs H2 (e.trans e2) Q (fun v H3 e3 w => q v H3 (e2.trans e3) w) E0⟩
def rLenIn (CS : Addr → Prop) (sp : Sp) : List V → Hp → VK → Prop := fun xs H Q => ∃ C, CS C ∧ rLenO C sp E0 xs H Q
theorem call_lenIn {f : Addr} (h : ∀ C, CS C → PySem.W.findIn X.K (.ref C) "__len__" = some (some (.ref f))) (hf : PySem.W.typeIn X.K (.ref f) = some (.type "function")) (F : FnOk X.prog X.w X.K X.mg X.base CX0 k f fd ps sp) (hr : Room (k + 1) X.A) (hb : L2.Binds X.K fd ps []) :
    CallR X (.builtin "len") (rLenIn CS sp) := CallR_in fun C hC => call_lenO (h C hC) hf F hr hb pass0
def tMethIn (CS : Addr → Prop) (m : Str) (sp : Sp) (ta : TE) (t : TA) : TE := fun σ H Q => ∃ C, CS C ∧ tMeth C m sp [] E0 ta t σ H Q
theorem pe_methIn {pl : Sem Bool} {o : Expr} {es : List Expr} {m : Str} {f : Addr} {ta : TE} {t : TA} {apos : Pos} (h : ∀ C, CS C → Cls X.K C ∧ Meth X.K C m f) (F : FnOk X.prog X.w X.K X.mg X.base CX0 k f fd ps sp) (hr : Room k X.A) (hb : L2.Binds X.K fd ps []) (he : PE X o ta) (ha : PA X (e :: es) t)
    (hst : starEach (e :: es) X.env = (false, eval e X.env) :: starEach es X.env := by rfl) (hpl : (backTo pos (starEach es X.env)).any (·.1) = false := by rfl)
    (ht : eval (.Call (.Attribute o m apos) (e :: es) [] pos) X.env = (do
      let ov ← eval o X.env
      standAt apos.atName
      let (f, first) ← holding [ov] (getMethod ov m pl)
      callWith pos f first (backTo pos (starEach (e :: es) X.env)) (backToKw pos (keywordEach [] X.env))) := by rfl) :
    PE X (.Call (.Attribute o m apos) (e :: es) [] pos) (tMethIn CS m sp ta t) :=
  PE_in fun C hC => pe_meth he (h C hC).1 (h C hC).2 F hr hb .nil pass0 ha hst hpl ht
end

/-! ### promises -/
section
variable {P : Program} {w : World} {K : PySem.W.Frag} {mg : Str → Option Value} {base : Heap} {CT gT gU fL fS : Addr}
def spFld (CS : Addr → Prop) (f : Str) : Sp := fun vs H Q _ => ∃ a C dx fs v, vs = [.ref a] ∧ CS C ∧ H a = some (.ins C dx fs) ∧ fs.lookup f = some v ∧ Q v H
def spLenT (CS : Addr → Prop) : Sp := fun vs H Q _ => ∃ a t, vs = [.ref a] ∧ TRep CS H a t ∧ RetV (.int (t.toks.length : Int)) H Q
def spBr (CS : Addr → Prop) : Sp := fun vs H Q _ => ∃ a t, vs = [.ref a] ∧ TRep CS H a t ∧
  ∀ p H2, Ex H H2 → H2 p = some (.tup [.str (shw true t).1, .int ((shw true t).2.1.length : Int), .int ((shw true t).2.2 : Int)]) → Q (.ref p) H2
theorem is_lenT {CS : Addr → Prop} {H : Hp} {a : Addr} {t : Tr} (r : TRep CS H a t) : SpIs (spLenT CS) [.ref a] H (.int (t.toks.length : Int)) := fun H1 e Q q E => ⟨a, t, rfl, r.ext e, fun H2 e2 => q H2 e2⟩
theorem is_fld {CS : Addr → Prop} {H : Hp} {a C dx : Addr} {fs : List (Str × V)} {f : Str} {v : V} (hC : CS C) (h : H a = some (.ins C dx fs)) (l : fs.lookup f = some v) : SpIs (spFld CS f) [.ref a] H v := fun H1 e Q q E => ⟨a, C, dx, fs, v, rfl, hC, e _ _ h, l, q H1 (Ex.refl H1)⟩
theorem ev_textP {σ : L2.St} {H : Hp} {a : Addr} {t : Tr} {te : TE} {CS : Addr → Prop} (h : Ev te σ H (.ref a)) (r : TRep CS H a t) : Ev (tPropIn CS (spFld CS "_text") te) σ H (.str t.text) := by
  obtain ⟨C, dx, fs, sh, u, us, c, h1, h2, h3, h4, h5, h6, h7, h8, h9, h10⟩ := r.ex
  exact ev_propIn h c h1 (is_fld c h1 h2)
theorem ev_lenIn {σ : L2.St} {H : Hp} {a : Addr} {t : Tr} {te : TE} {CS : Addr → Prop} (h : Ev te σ H (.ref a)) (r : TRep CS H a t) : Ev (tCB (rLenIn CS (spLenT CS)) (tCons te tNil)) σ H (.int (t.toks.length : Int)) := by
  obtain ⟨C, dx, fs, sh, u, us, c, h1, h2, h3, h4, h5, h6, h7, h8, h9, h10⟩ := r.ex
  exact ev_cb (ea_cons h ea_nil) fun H1 e Q q => ⟨C, c, a, dx, fs, rfl, e _ _ h1, a, t, rfl, r.ext e, fun H2 e2 => ⟨t.toks.length, rfl, by have := r.ok.1; omega, q H2 e2⟩⟩
theorem ev_textPP' {σ : L2.St} {H : Hp} {te : TE} {CS : Addr → Prop} {t : Tr} (h : EvP te σ H (fun v H1 => ∃ a, v = .ref a ∧ TRep CS H1 a t)) : Ev (tPropIn CS (spFld CS "_text") te) σ H (.str t.text) := fun H1 e Q q => h H1 e _ fun v H2 e2 ⟨a, ev, r⟩ => by
  subst ev
  obtain ⟨C, dx, fs, pa, u, us, c, h1, h2, h3⟩ := r.ex
  exact ⟨C, c, a, dx, fs, rfl, h1, a, C, dx, fs, _, rfl, c, h1, h2, q H2 e2⟩
/-- what a def hands back that makes a tree -/
def IsTr (CS : Addr → Prop) (t : Tr) (v : V) (H : Hp) : Prop := ∃ a, v = .ref a ∧ TRep CS H a t
theorem IsTr.ex {CS : Addr → Prop} {t : Tr} (v : V) (H H' : Hp) (e : Ex H H') (h : IsTr CS t v H) : IsTr CS t v H' := by
  obtain ⟨a, e1, r⟩ := h
  exact ⟨a, e1, r.ext e⟩
end
end M14

set_option maxHeartbeats 4000000
namespace M14
open PySem PySem.Spec PyProof.Rows L2 Evl TL Gd

def top (i : Nat) : Stmt := PySem.Challenge.pw_macroasm_k14_texts_of_trees.main.body.getD i (.Pass ⟨0, 0, 0, 0⟩)

def LET : Str := "abcdefghijklmnopqrstuvwxyzABCDEFGHIJKLMNOPQRSTUVWXYZ_"
def DIG : Str := "0123456789"
def SGN : Str := "abcdefghijklmnopqrstuvwxyzABCDEFGHIJKLMNOPQRSTUVWXYZ_0123456789"
structure Tx (K : PySem.W.Frag) (mg : Str → Option Value) : Prop where
  b_len : mg "len" = none
  b_isinstance : mg "isinstance" = none
  b_str : mg "str" = none
  b_all : mg "all" = none
  b_int : mg "int" = none
  b_bool : mg "bool" = none
  b_max : mg "max" = none
  b_min : mg "min" = none
  b_tuple : mg "tuple" = none
  b_list : mg "list" = none
  b_range : mg "range" = none
  b_enumerate : mg "enumerate" = none
  g_DIGITS : ∃ t, mg "DIGITS" = some (.str DIG t)
  g_MOST_IN_NAME : ∃ t, mg "MOST_IN_NAME" = some (.int 40 t)
  g_MOST_IN_MADE : ∃ t, mg "MOST_IN_MADE" = some (.int 9 t)
  g_MOST_IN_PATH : ∃ t, mg "MOST_IN_PATH" = some (.int 8 t)
  g_LARGEST : ∃ t, mg "LARGEST" = some (.int 18446744073709551616 t)
  g_COMPARING : ∃ t, mg "COMPARING" = some (.int 3 t)
  g_UNJOINED : ∃ t, mg "UNJOINED" = some (.int 10 t)
  g_MOST_TOKENS : ∃ t, mg "MOST_TOKENS" = some (.int 200 t)
  g_MOST_DEPTH : ∃ t, mg "MOST_DEPTH" = some (.int 20 t)
  g_SIGNS : ∃ a, mg "SIGNS" = some (.ref a) ∧ ∀ H : Hp, SqT K H a (SGS.map V.str)
/-! ### rows of signs -/
theorem row_step {α : Type} (p : α → Bool) : ∀ (L : List α) (j : Nat), j ≤ (L.takeWhile p).length →
    (j < (L.takeWhile p).length ↔ ∃ c, L[j]? = some c ∧ p c = true)
  | [], j, h => by simp
  | a :: L, 0, h => by
    by_cases q : p a = true
    · simp [List.takeWhile_cons, q]
    · simp [List.takeWhile_cons, q]
  | a :: L, j + 1, h => by
    by_cases q : p a = true
    · rw [List.takeWhile_cons, if_pos q, List.length_cons] at h ⊢
      have ih := row_step p L j (by omega)
      rw [List.getElem?_cons_succ]
      constructor
      · intro hh
        exact ih.mp (by omega)
      · intro hh
        have := ih.mpr hh
        omega
    · rw [List.takeWhile_cons, if_neg q] at h
      simp at h
def rowLen (l : List Nat) (at' : Nat) (S : List Nat) (most : Nat) : Nat := (((l.drop at').take most).takeWhile (fun c => decide (c ∈ S))).length
def rowEnd (l : List Nat) (at' : Nat) (S : List Nat) (most : Nat) : Nat := at' + rowLen l at' S most
theorem rowLen_step {l : List Nat} {a : Nat} {S : List Nat} {most j : Nat} (h : j ≤ rowLen l a S most) :
    (decide (a + j < l.length) && (decide (j < most) && decide (l.getD (a + j) 0 ∈ S))) = decide (j < rowLen l a S most) := by
  have key := row_step (fun c => decide (c ∈ S)) ((l.drop a).take most) j h
  have gt : ((l.drop a).take most)[j]? = if j < most then l[a + j]? else none := by
    rw [List.getElem?_take]
    split
    · rw [List.getElem?_drop]
    · rfl
  rw [gt] at key
  apply Bool.eq_iff_iff.mpr
  rw [decide_eq_true_iff, Bool.and_eq_true, Bool.and_eq_true, decide_eq_true_iff, decide_eq_true_iff, decide_eq_true_iff]
  unfold rowLen
  rw [key]
  constructor
  · rintro ⟨h1, h2, h3⟩
    refine ⟨l.getD (a + j) 0, ?_, by simpa using h3⟩
    rw [if_pos h2, List.getD_eq_getElem?_getD, List.getElem?_eq_getElem h1]
    rfl
  · rintro ⟨c, h1, h2⟩
    split at h1
    · next hm =>
      have hl : a + j < l.length := by
        rw [List.getElem?_eq_some_iff] at h1
        exact h1.1
      refine ⟨hl, hm, ?_⟩
      rw [List.getD_eq_getElem?_getD, h1]
      simpa using h2
    · cases h1
theorem rowLen_le {l : List Nat} {a : Nat} {S : List Nat} {most : Nat} : rowLen l a S most ≤ most := by
  unfold rowLen
  have h1 := (List.takeWhile_prefix (fun c => decide (c ∈ S)) (l := (l.drop a).take most)).length_le
  have h2 : ((l.drop a).take most).length ≤ most := by rw [List.length_take]; exact Nat.min_le_left _ _
  exact Nat.le_trans h1 h2

def nameEnd (l : List Nat) (a : Nat) : Nat := if rowEnd l a (tl LET) 1 = a then a else rowEnd l a (tl SGN) 40
def nameB (z : Str) : Bool := !decide (V.str z = V.str "") && decide (V.int (nameEnd (tl z) 0 : Nat) = V.int (z.length : Int))

theorem rowLen_step2 {l : List Nat} {a : Nat} {S : List Nat} {most j : Nat} (h : j ≤ rowLen l a S most) :
    (decide (a + j < (if a + most < l.length then a + most else l.length)) && decide (l.getD (a + j) 0 ∈ S)) = decide (j < rowLen l a S most) := by
  rw [← rowLen_step h, ← Bool.and_assoc]
  congr 1
  rw [← Bool.decide_and]
  refine decide_eq_decide.mpr ?_
  split <;> omega
/-! ### is_name as the text asks it -/
theorem start_ascii : ∀ c < 128, Unicode.isNameStart c = decide (c ∈ tl LET) := by decide +kernel
theorem cont_ascii : ∀ c < 128, Unicode.isNameContinue c = decide (c ∈ tl SGN) := by decide +kernel
theorem let_sgn : ∀ c ∈ tl LET, c ∈ tl SGN := by decide +kernel
theorem sgn_ascii : ∀ c ∈ tl SGN, c < 128 := by decide +kernel
theorem takeWhile_all {α : Type} (p : α → Bool) : ∀ l : List α, (l.takeWhile p).length = l.length ↔ ∀ x ∈ l, p x = true
  | [] => by simp
  | x :: l => by
    have ih := takeWhile_all p l
    by_cases h : p x = true
    · rw [List.takeWhile_cons, if_pos h, List.length_cons, List.length_cons]
      constructor
      · intro e y hy
        rcases List.mem_cons.mp hy with z | hy
        · rw [z]; exact h
        · exact ih.mp (by omega) y hy
      · intro e
        have := ih.mpr fun y hy => e y (List.mem_cons_of_mem _ hy)
        omega
    · rw [List.takeWhile_cons, if_neg h]
      constructor
      · intro e; simp at e
      · intro e; exact absurd (e x List.mem_cons_self) h
theorem rowEnd_all (l S : List Nat) (m : Nat) : rowEnd l 0 S m = l.length ↔ (l.length ≤ m ∧ ∀ c ∈ l, c ∈ S) := by
  unfold rowEnd rowLen
  rw [Nat.zero_add, List.drop_zero]
  constructor
  · intro e
    have h1 := (List.takeWhile_prefix (fun c => decide (c ∈ S)) (l := l.take m)).length_le
    have h2 : (l.take m).length ≤ m := by rw [List.length_take]; exact Nat.min_le_left _ _
    have h3 : (l.take m).length ≤ l.length := by rw [List.length_take]; exact Nat.min_le_right _ _
    have lm : l.length ≤ m := by omega
    have tk : l.take m = l := List.take_of_length_le lm
    rw [tk] at e
    exact ⟨lm, fun c hc => of_decide_eq_true ((takeWhile_all _ l).mp e c hc)⟩
  · rintro ⟨lm, h⟩
    rw [List.take_of_length_le lm]
    exact (takeWhile_all _ l).mpr fun c hc => decide_eq_true (h c hc)
theorem rowEnd_one (c : Nat) (l S : List Nat) : rowEnd (c :: l) 0 S 1 = 0 ↔ c ∉ S := by
  unfold rowEnd rowLen
  rw [Nat.zero_add, List.drop_zero]
  show ((([c] : List Nat).takeWhile (fun c => decide (c ∈ S))).length = 0) ↔ _
  by_cases h : c ∈ S
  · simp [List.takeWhile_cons, h]
  · simp [List.takeWhile_cons, h]
def askB (z : Str) : Bool := Txt.isascii z && (Txt.isidentifier z && decide ((z.length : Int) ≤ 40))
theorem askB_eq (z : Str) : askB z = nameB z := by
  unfold askB nameB
  have zl : (tl z).length = z.length := by simp [tl, Str.length]
  apply Bool.eq_iff_iff.mpr
  simp only [Bool.and_eq_true, Bool.not_eq_true', decide_eq_true_eq, decide_eq_false_iff_not]
  have asc : Txt.isascii z = true ↔ ∀ c ∈ tl z, c < 128 := by
    unfold Txt.isascii
    rw [Array.all_eq_true_iff_forall_mem]
    constructor
    · intro h c hc
      exact of_decide_eq_true (h c (Array.mem_toList_iff.mp hc))
    · intro h c hc
      exact decide_eq_true (h c (Array.mem_toList_iff.mpr hc))
  rw [asc]
  unfold Txt.isidentifier
  cases hz : z.cps.toList with
  | nil =>
    have e : z = "" := by
      obtain ⟨arr⟩ := z
      obtain ⟨l⟩ := arr
      have hl : l = [] := hz
      rw [hl]
      rfl
    constructor
    · rintro ⟨_, h, _⟩
      cases h
    · rintro ⟨h, _⟩
      exact absurd (by rw [e]) h
  | cons c l =>
    have tz : tl z = c :: l := hz
    have ne : V.str z ≠ V.str "" := fun h => by
      injection h with h
      rw [h] at hz
      cases hz
    rw [tz]
    have key : nameEnd (c :: l) 0 = z.length ↔ (c ∈ tl LET ∧ (c :: l).length ≤ 40 ∧ ∀ d ∈ c :: l, d ∈ tl SGN) := by
      unfold nameEnd
      have zl' : z.length = (c :: l).length := by rw [← zl, tz]
      by_cases h : c ∈ tl LET
      · rw [if_neg (fun q => (rowEnd_one c l (tl LET)).mp q h), zl', rowEnd_all]
        exact ⟨fun q => ⟨h, q⟩, fun q => q.2⟩
      · rw [if_pos ((rowEnd_one c l (tl LET)).mpr h), zl']
        constructor
        · intro q; simp at q
        · intro q; exact absurd q.1 h
    constructor
    · rintro ⟨h1, h2, h3⟩
      obtain ⟨h2a, h2b⟩ := Bool.and_eq_true_iff.mp h2
      refine ⟨ne, ?_⟩
      have e : nameEnd (c :: l) 0 = z.length := key.mpr ⟨of_decide_eq_true ((start_ascii c (h1 c List.mem_cons_self)).symm.trans h2a), by rw [← tz, zl]; omega, fun d hd => by
        rcases List.mem_cons.mp hd with q | hd
        · rw [q]
          exact let_sgn c (of_decide_eq_true ((start_ascii c (h1 c List.mem_cons_self)).symm.trans h2a))
        · exact of_decide_eq_true ((cont_ascii d (h1 d (List.mem_cons_of_mem _ hd))).symm.trans (List.all_eq_true.mp h2b d hd))⟩
      rw [e]
    · rintro ⟨_, h2⟩
      have e : nameEnd (c :: l) 0 = z.length := by
        injection h2 with h2
        omega
      obtain ⟨k1, k2, k3⟩ := key.mp e
      have a128 : ∀ d ∈ c :: l, d < 128 := fun d hd => sgn_ascii d (k3 d hd)
      refine ⟨a128, ?_, by rw [← tz, zl] at k2; omega⟩
      refine Bool.and_eq_true_iff.mpr ⟨(start_ascii c (a128 c List.mem_cons_self)).trans (decide_eq_true k1), List.all_eq_true.mpr fun d hd => (cont_ascii d (a128 d (List.mem_cons_of_mem _ hd))).trans (decide_eq_true (k3 d (List.mem_cons_of_mem _ hd)))⟩
theorem mt_isidentifier {X : Cx} : MtR X "str.isidentifier" (fun x xs H Q => ∃ a, x = .str a ∧ xs = [] ∧ True ∧ Q (.bl (Txt.isidentifier a)) H) :=
  mt0 (C := fun _ => True) (g := fun a => .bl (Txt.isidentifier a)) fun _ _ s _ _ h => PySem.SC.isidentifier (h _ s.toks rfl)
def rAsk (g : Str → Bool) : V → List V → Hp → VK → Prop := fun x xs H Q => ∃ a, x = .str a ∧ xs = [] ∧ True ∧ Q (.bl (g a)) H
theorem ev_ask0 {g : Str → Bool} {σ : L2.St} {H : Hp} {te : TE} {z : Str} (h : Ev te σ H (.str z)) : Ev (tM0 (rAsk g) te) σ H (.bl (g z)) := fun H1 e Q q =>
  h H1 e _ fun H2 e2 => ⟨⟨z, rfl⟩, z, rfl, rfl, trivial, q H2 e2⟩
section
variable {P : Program} {w : World} {K : PySem.W.Frag} {mg : Str → Option Value} {base : Heap}
abbrev s_row_end : Stmt := top 14
theorem sc_row_end : FnScope ["line", "at", "signs", "most", "row"] ["line", "at", "signs", "most"] (defScope s_row_end) := ⟨rfl, rfl, rfl, by decide +kernel, rfl, by decide +kernel, by decide +kernel⟩
theorem lstrip_len (x y : Str) : (Txt.lstripChars x y).length = x.length - ((tl x).takeWhile (fun c => decide (c ∈ tl y))).length := by
  unfold Txt.lstripChars
  rw [PyProof.Rows.stripBy_eq]
  have e : stripHi y.cps.contains false x (stripLo y.cps.contains true x) = x.length := rfl
  rw [e, size_strSub _ _ _ (Nat.le_refl _)]
  have e2 : stripLo y.cps.contains true x = ((tl x).takeWhile (fun c => decide (c ∈ tl y))).length := by
    show ((tl x).takeWhile y.cps.contains).length = _
    have : y.cps.contains = fun c => decide (c ∈ tl y) := funext fun c => by
      rw [Bool.eq_iff_iff, Array.contains_iff, decide_eq_true_iff]
      exact Array.mem_def
    rw [this]
  rw [e2]
theorem tl_cutN (z : Str) (a m : Nat) : tl (cutS z (some (a : Int)) (some ((a : Int) + (m : Int)))) = ((tl z).drop a).take m := by
  unfold cutS
  have h1 : HT.sIx z.length 0 (some (a : Int)) = min a z.length := HT.sIx_nat _ _ a
  have h2 : HT.sIx z.length z.length (some ((a : Int) + (m : Int))) = min (a + m) z.length := HT.sIx_nat _ _ (a + m)
  rw [h1, h2]
  show ((tl z).drop (min a z.length)).take (min (a + m) z.length - min a z.length) = _
  have zl : (tl z).length = z.length := by simp [Str.length, tl]
  by_cases h : a ≤ z.length
  · rw [Nat.min_eq_left h]
    by_cases h2 : a + m ≤ z.length
    · rw [Nat.min_eq_left h2, Nat.add_sub_cancel_left]
    · rw [Nat.min_eq_right (by omega), List.take_of_length_le (by rw [List.length_drop]; omega), List.take_of_length_le (by rw [List.length_drop]; omega)]
  · rw [List.drop_eq_nil_of_le (by omega : (tl z).length ≤ min a z.length), List.drop_eq_nil_of_le (by omega : (tl z).length ≤ a)]
    simp
def rLstrip : V → List V → Hp → VK → Prop := fun x xs H Q => ∃ a b, x = .str a ∧ xs = [.str b] ∧ a.length ≤ sizeLine ∧ Q (.str (Txt.lstripChars a b)) H
theorem ev_lstrip {σ : L2.St} {H : Hp} {ta tb : TE} {a b : Str} (h : Ev ta σ H (.str a)) (h2 : Ev tb σ H (.str b)) (hl : a.length ≤ 100000) : Ev (tM1 rLstrip ta tb) σ H (.str (Txt.lstripChars a b)) := fun H1 e Q q =>
  h H1 e _ fun H2 e2 => ⟨⟨a, rfl⟩, h2 H2 (e.trans e2) _ fun H3 e3 => ⟨a, b, rfl, rfl, sz_of hl, q H3 (e2.trans e3)⟩⟩
def spRowEnd : Sp := fun vs H Q _ => ∃ (z : Str) (a : Nat) (S : Str) (most : Nat), vs = [.str z, .int (a : Int), .str S, .int (most : Int)] ∧ z.length ≤ 100000 ∧
  RetV (.int (rowEnd z.cps.toList a S.cps.toList most : Nat)) H Q
theorem is_row {z S : Str} {a most : Nat} {H : Hp} (hz : z.length ≤ 100000) : SpIs spRowEnd [.str z, .int (a : Int), .str S, .int (most : Int)] H (.int (rowEnd (tl z) a (tl S) most : Nat)) :=
  fun H1 _ Q q E => ⟨z, a, S, most, rfl, hz, fun H2 e => q H2 e⟩
theorem ok_row_end {f : Addr} {fd : FuncData} (F : Fun K "row_end" "row_end" s_row_end f fd) (T : Tx K mg) : FnOk P w K mg base CX0 1 f fd ["line", "at", "signs", "most"] spRowEnd := by
  refine F.ok sc_row_end (fun vs H Q E h => ?_) (fun cdv A outer s H vs Q E hr h => ?_)
  · obtain ⟨z, a, S, most, rfl, _⟩ := h
    rfl
  · obtain ⟨z, a, S, most, rfl, hz, k⟩ := h
    refine ⟨_, (pss_cons (ps_set (i := 4) sc_row_end.nd rfl (Or.inl rfl) (pe_slice sl_str (pv 0) (po_some (pv 1)) (po_some (pe_op op_add (pv 1) (pv 3)))))
  (pss_one (ps_ret (pe_op op_sub (pe_op op_add (pv 1) (pe_callB call_len_str (by rfl) T.b_len (by decide +kernel) (pa_cons (pv 4) pa_nil))) (pe_callB call_len_str (by rfl) T.b_len (by decide +kernel) (pa_cons (pe_m1 PySem.F.slot_str_lstrip PySem.F.type_str_lstrip mt_lstripChars (pv 4) (pv 2)) pa_nil)))))), ?_⟩
    have cl : (cutS z (some (a : Int)) (some ((a : Int) + (most : Int)))).length ≤ z.length := cutS_length _ _ _
    have ll := PyProof.Rows.len_lstripChars (cutS z (some (a : Int)) (some ((a : Int) + (most : Int)))) S
    refine q_asg (v := .str (cutS z (some (a : Int)) (some ((a : Int) + (most : Int))))) (ev_slS (ev_var rfl) (eo_some (ev_var rfl)) (eo_some (ev_op (ev_var rfl) (ev_var rfl) rv_I0)) hz) fun H1 e1 => ?_
    refine s_ret (ev_op (ev_op (ev_var rfl) (ev_lenS (ev_var rfl) (by omega)) rv_I0) (ev_lenS (ev_lstrip (ev_var rfl) (ev_var rfl) (by omega)) (by omega)) rv_I0) fun H2 e2 => ?_
    have e := lstrip_len (cutS z (some (a : Int)) (some ((a : Int) + (most : Int)))) S
    rw [tl_cutN] at e
    have le : (((tl z).drop a).take most |>.takeWhile (fun c => decide (c ∈ tl S))).length ≤ (cutS z (some (a : Int)) (some ((a : Int) + (most : Int)))).length := by
      have h1 := (List.takeWhile_prefix (fun c => decide (c ∈ tl S)) (l := ((tl z).drop a).take most)).length_le
      rw [← tl_cutN] at h1
      have h2 : (tl (cutS z (some (a : Int)) (some ((a : Int) + (most : Int))))).length = (cutS z (some (a : Int)) (some ((a : Int) + (most : Int)))).length := by simp [Str.length, tl]
      rw [tl_cutN] at h1 h2
      omega
    have k2 := k H2 (e1.trans e2)
    unfold rowEnd rowLen at k2
    have fin : ((a : Int) + ((cutS z (some (a : Int)) (some ((a : Int) + (most : Int)))).length : Int) - ((Txt.lstripChars (cutS z (some (a : Int)) (some ((a : Int) + (most : Int)))) S).length : Int)) = ((a + (((tl z).drop a).take most |>.takeWhile (fun c => decide (c ∈ tl S))).length : Nat) : Int) := by
      rw [e]
      omega
    rw [fin]
    exact k2
abbrev s_is_name : Stmt := top 19
theorem sc_is_name : FnScope ["value"] ["value"] (defScope s_is_name) := ⟨rfl, rfl, rfl, by decide +kernel, rfl, by decide +kernel, by decide +kernel⟩
/-- a question about a value: g for texts, False for other kinds -/
def spAsk (K : PySem.W.Frag) (g : Str → Bool) : Sp := fun vs H Q _ => ∃ v, vs = [v] ∧ ((∃ z, v = .str z ∧ z.length ≤ 30000 ∧ RetV (.bl (g z)) H Q) ∨ (NotS K H v ∧ RetV (.bl false) H Q))
theorem is_askS {K : PySem.W.Frag} {g : Str → Bool} {z : Str} {H : Hp} (hz : z.length ≤ 30000) : SpIs (spAsk K g) [.str z] H (.bl (g z)) := fun H1 _ Q q E => ⟨_, rfl, Or.inl ⟨z, rfl, hz, fun H2 e => q H2 e⟩⟩
theorem is_askN {K : PySem.W.Frag} {g : Str → Bool} {v : V} {H : Hp} (n : NotS K H v) : SpIs (spAsk K g) [v] H (.bl false) := fun H1 e Q q E => ⟨_, rfl, Or.inr ⟨n.ex e, fun H2 e => q H2 e⟩⟩
theorem ok_is_name {f : Addr} {fd : FuncData} (F : Fun K "is_name" "is_name" s_is_name f fd) (T : Tx K mg) : FnOk P w K mg base CX0 3 f fd ["value"] (spAsk K nameB) := by
  refine F.ok sc_is_name (fun vs H Q E h => ?_) (fun cdv A outer s H vs Q E hr h => ?_)
  · obtain ⟨v, rfl, _⟩ := h
    rfl
  · obtain ⟨v, rfl, h⟩ := h
    obtain ⟨_, g_MOST_IN_NAME⟩ := T.g_MOST_IN_NAME
    refine ⟨_, (pss_one (ps_ret (pe_and (pe_callB call_isi (by rfl) T.b_isinstance (by decide +kernel) (pa_cons (pv 0) (pa_cons (pe_bT (T := "str") (by rfl) T.b_str (by decide +kernel)) pa_nil))) (pe_and (pe_m0 PySem.F.slot_str_isascii PySem.F.type_str_isascii mt_isascii (pv 0)) (pe_and (pe_m0 PySem.F.slot_str_isidentifier PySem.F.type_str_isidentifier mt_isidentifier (pv 0)) (pe_one (pe_cmpR op_le (pe_callB call_len_str (by rfl) T.b_len (by decide +kernel) (pa_cons (pv 0) pa_nil)) (pe_gI rfl g_MOST_IN_NAME) (nomark _)))))))), ?_⟩
    rcases h with ⟨z, rfl, hz, k⟩ | ⟨n, k⟩
    · refine s_ret (v := .bl (true && askB z)) (ev_andV (ev_isiS (ev_var rfl)) fun _ => ev_andV (ev_ask0 (g := Txt.isascii) (ev_var rfl)) fun _ => ev_andV (ev_ask0 (g := Txt.isidentifier) (ev_var rfl)) fun _ => ev_op (ev_lenS (ev_var rfl) (by omega)) ev_c rv_I0) fun H2 e2 => ?_
      have := k H2 e2
      rw [← askB_eq] at this
      exact this
    · refine s_ret (ev_andV (ev_isiN (ev_var rfl) n) fun hh => (by cases hh)) (v := .bl (false && false)) fun H2 e2 => ?_
      exact k H2 e2
end
section
variable {P : Program} {w : World} {K : PySem.W.Frag} {mg : Str → Option Value} {base : Heap}
/-! ### _is_part -/
def numB (d : Str) : Bool := !decide (V.str d = V.str "") && decide (V.int (rowEnd (tl d) 0 (tl DIG) 9 : Nat) = V.int (d.length : Int))
def sign0 (d : Str) : Str := ⟨#[(tl d).getD 0 0]⟩
def partB (z : Str) : Bool := bif decide (V.str (Txt.partition z "@").2.1 = V.str "") then nameB (Txt.partition z "@").1
  else nameB (Txt.partition z "@").1 && (numB (Txt.partition z "@").2.2 && !decide (V.str (sign0 (Txt.partition z "@").2.2) = V.str "0"))
abbrev s_is_part : Stmt := top 21
theorem sc_is_part : FnScope ["text", "name", "sign", "digits", "is_number"] ["text"] (defScope s_is_part) := ⟨rfl, rfl, rfl, by decide +kernel, rfl, by decide +kernel, by decide +kernel⟩
def spPart (g : Str → Bool) : Sp := fun vs H Q _ => ∃ z, vs = [.str z] ∧ z.length ≤ 30000 ∧ RetV (.bl (g z)) H Q
theorem is_part {g : Str → Bool} {z : Str} {H : Hp} (hz : z.length ≤ 30000) : SpIs (spPart g) [.str z] H (.bl (g z)) := fun H1 _ Q q E => ⟨z, rfl, hz, fun H2 e => q H2 e⟩
theorem at_ne : tl ("@" : Str) ≠ [] := by decide +kernel
theorem at_len : (("@" : Str).length == 0) = false := by decide +kernel
theorem ne_empty {d : Str} (h : (!decide (V.str d = V.str "")) = true) : 0 < (tl d).length := by
  have h1 : ¬ (V.str d = V.str "") := by simpa using h
  cases e : tl d with
  | nil => exact absurd (congrArg V.str (ext_tl (x := d) (y := "") (by rw [e]; rfl))) h1
  | cons a r => exact Nat.succ_pos _
theorem ok_is_part {f : Addr} {fd : FuncData} (F : Fun K "_is_part" "_is_part" s_is_part f fd) (T : Tx K mg) (D_row_end : Df P w K mg base CX0 1 "row_end" ["line", "at", "signs", "most"] spRowEnd)
    (D_is_name : Df P w K mg base CX0 3 "is_name" ["value"] (spAsk K nameB)) : FnOk P w K mg base CX0 4 f fd ["text"] (spPart partB) := by
  refine F.ok sc_is_part (fun vs H Q E h => ?_) (fun cdv A outer s H vs Q E hr h => ?_)
  · obtain ⟨v, rfl, _⟩ := h
    rfl
  · obtain ⟨z, rfl, hz, k⟩ := h
    obtain ⟨_, g_DIGITS⟩ := T.g_DIGITS
    obtain ⟨_, g_MOST_IN_MADE⟩ := T.g_MOST_IN_MADE
    refine ⟨_, (pss_cons (ps_asg (pe_partition (pv 0) pe_str) (pg_tup rfl (pgs_cons (pg_name (i := 1) sc_is_part.nd rfl (Or.inl rfl)) (pgs_cons (pg_name (i := 2) sc_is_part.nd rfl (Or.inl rfl)) (pgs_cons (pg_name (i := 3) sc_is_part.nd rfl (Or.inl rfl)) pgs_nil)))))
  (pss_cons (ps_if (pt_cmpR op_eq (pv 2) pe_str (nomark _))
    (pss_one (ps_ret (pe_df D_is_name (hr.mono (by decide)) rfl (pa_cons (pv 1) pa_nil))))
    pss_nil)
  (pss_cons (ps_set (i := 4) sc_is_part.nd rfl (Or.inl rfl) (pe_and (pe_cmpR op_ne (pv 3) pe_str (nomark _)) (pe_one (pe_cmpR op_eq (pe_df D_row_end (hr.mono (by decide)) rfl (pa_cons (pv 3) (pa_cons pe_int (pa_cons (pe_gS rfl g_DIGITS) (pa_cons (pe_gI rfl g_MOST_IN_MADE) pa_nil))))) (pe_callB call_len_str (by rfl) T.b_len (by decide +kernel) (pa_cons (pv 3) pa_nil)) (nomark _)))))
  (pss_one (ps_ret (pe_and (pe_df D_is_name (hr.mono (by decide)) rfl (pa_cons (pv 1) pa_nil)) (pe_and (pv 4) (pe_one (pe_cmpR op_ne (pe_ix ix_str (pv 3) pe_int (fun _ _ => rfl)) pe_str (nomark _)))))))))), ?_⟩
    have hp := part_facts z "@" at_ne
    have h1 : (Txt.partition z "@").1.length ≤ 30000 := by omega
    have h2 : (Txt.partition z "@").2.2.length ≤ 30000 := by omega
    refine q_unpack3 (eu_partition (ev_var rfl) ev_c at_len (by omega)) fun H1 e1 => ?_
    refine q_when (et_test (ev_op (ev_var rfl) ev_c (rv_eq rfl))) (fun hb H2 e2 => ?_) (fun hb H2 e2 => ?_)
    · refine s_ret (ev_df (ea_cons (ev_var rfl) ea_nil) (is_askS h1)) fun H3 e3 => ?_
      have := k H3 ((e1.trans e2).trans e3)
      unfold partB at this
      rw [hb] at this
      exact this
    · refine q_asg (ev_andV (ev_op (ev_var rfl) ev_c (rv_ne rfl)) fun _ => ev_op (ev_df (ea_cons (ev_var rfl) (ea_cons (ev_c (v := .int ((0 : Nat) : Int))) (ea_cons ev_c (ea_cons (ev_c (v := .int ((9 : Nat) : Int))) ea_nil)))) (is_row (by omega))) (ev_lenS (ev_var rfl) (by omega)) (rv_eq rfl)) fun H3 e3 => ?_
      refine s_ret (ev_andV (ev_df (ea_cons (ev_var rfl) ea_nil) (is_askS h1)) fun _ => ev_andV (ev_var rfl) fun hn => ev_op (ev_op (ev_var rfl) (ev_c (v := .int ((0 : Nat) : Int))) (rv_ixS (c := (tl (Txt.partition z "@").2.2).getD 0 0) (by omega) ?_)) ev_c (rv_ne rfl)) fun H4 e4 => ?_
      · have hpos := ne_empty (Bool.and_eq_true_iff.mp hn).1
        refine atI_nat ?_
        rw [List.getD_eq_getElem?_getD, List.getElem?_eq_getElem hpos]
        rfl
      · have := k H4 (((e1.trans e2).trans e3).trans e4)
        unfold partB at this
        rw [hb] at this
        exact this
/-! ### is_used -/
def usedB0 (z : Str) : Bool := bif Txt.startswith z "." then nameB (cutS z (some 1) none) else (decide (((Txt.split z ".").length : Int) ≤ 8) && ((Txt.split z ".").map partB).all id)
def usedB (z : Str) : Bool := bif nameB z then true else usedB0 z
abbrev s_is_used : Stmt := top 20
abbrev N_is_used : List Str := ["value", "parts", "part"]
theorem sc_is_used : FnScope N_is_used ["value"] (defScope s_is_used) := ⟨rfl, rfl, rfl, by decide +kernel, rfl, by decide +kernel, by decide +kernel⟩
theorem dot_ne : tl ("." : Str) ≠ [] := by decide +kernel
theorem dot_len : (("." : Str).length == 0) = false := by decide +kernel
theorem given_map {α : Type} (l : List α) (g : α → V) (d : α) : given l.length (fun _ => true) (fun i => g (l.getD i d)) = l.map g := by
  have e : given l.length (fun _ => true) (fun i => g (l.getD i d)) = (List.range l.length).map (fun i => g (l.getD i d)) := by
    unfold given
    rw [List.filter_eq_self.mpr (fun _ _ => rfl)]
  rw [e]
  refine List.ext_getElem (by rw [List.length_map, List.length_map, List.length_range]) fun i h1 h2 => ?_
  rw [List.getElem_map, List.getElem_map, List.getElem_range, List.getD_eq_getElem?_getD, List.getElem?_eq_getElem (by simpa using h2)]
  rfl
theorem ok_is_used {f : Addr} {fd : FuncData} (F : Fun K "is_used" "is_used" s_is_used f fd) (T : Tx K mg) 
    (D_is_name : Df P w K mg base CX0 3 "is_name" ["value"] (spAsk K nameB)) (D_is_part : Df P w K mg base CX0 4 "_is_part" ["text"] (spPart partB)) : FnOk P w K mg base CX0 5 f fd ["value"] (spAsk K usedB) := by
  refine F.ok sc_is_used (fun vs H Q E h => ?_) (fun cdv A outer s H vs Q E hr h => ?_)
  · obtain ⟨v, rfl, _⟩ := h
    rfl
  · obtain ⟨v, rfl, h⟩ := h
    obtain ⟨_, g_MOST_IN_PATH⟩ := T.g_MOST_IN_PATH
    refine ⟨_, (pss_cons (ps_if (pt_not (pt_val (pe_callB call_isi (by rfl) T.b_isinstance (by decide +kernel) (pa_cons (pv 0) (pa_cons (pe_bT (T := "str") (by rfl) T.b_str (by decide +kernel)) pa_nil)))))
    (pss_one (ps_ret pe_bl))
    pss_nil)
  (pss_cons (ps_if (pt_val (pe_df D_is_name (hr.mono (by decide)) rfl (pa_cons (pv 0) pa_nil)))
    (pss_one (ps_ret pe_bl))
    pss_nil)
  (pss_cons (ps_if (pt_val (pe_m1 PySem.F.slot_str_startswith PySem.F.type_str_startswith mt_startswith (pv 0) pe_str))
    (pss_one (ps_ret (pe_df D_is_name (hr.mono (by decide)) rfl (pa_cons (pe_slice sl_str (pv 0) (po_some pe_int) po_none) pa_nil))))
    pss_nil)
  (pss_cons (ps_set (i := 1) sc_is_used.nd rfl (Or.inl rfl) (pe_split (pv 0) pe_str))
  (pss_one (ps_ret (pe_and (pe_cmpR op_le (pe_callB call_len_seq (by rfl) T.b_len (by decide +kernel) (pa_cons (pv 1) pa_nil)) (pe_gI rfl g_MOST_IN_PATH) (nomark _)) (pe_one (pe_callB (cr_all rfl) (by rfl) T.b_all (by decide +kernel) (pa_cons (pe_lc (own := [("part", 2)]) (g := gName 2) (tt := tYes) rfl sc_is_used.nd (pi_list (pv 1)) (blkOk_by (N := N_is_used) (sc := defScope s_is_used) (by decide +kernel)) (fun _ _ _ _ _ => pg_name (i := 2) sc_is_used.nd rfl (Or.inl rfl)) (fun _ _ _ _ _ => pts_nil) (fun _ _ _ _ _ => (pe_df D_is_part (hr.mono (by decide)) rfl (pa_cons (pv 2) pa_nil)))) pa_nil)))))))))), ?_⟩
    rcases h with ⟨z, rfl, hz, k⟩ | ⟨n, k⟩
    · refine q_when (et_not (et_B (ev_isiS (ev_var rfl)))) (fun hb => by cases hb) (fun _ H0 e0 => ?_)
      refine q_when (b := nameB z) (et_B (ev_df (ea_cons (ev_var rfl) ea_nil) (is_askS hz))) (fun hb H1 e1 => s_ret ev_c fun H2 e2 => by
        have := k H2 ((e0.trans e1).trans e2)
        unfold usedB at this
        rw [hb] at this
        exact this) (fun hn H1 e1' => ?_)
      have e1 := e0.trans e1'
      refine q_when (et_B (ev_starts (ev_var rfl) ev_c)) (fun hb H2 e2 => ?_) (fun hb H2 e2 => ?_)
      · refine s_ret (ev_df (ea_cons (ev_slS (ev_var rfl) (eo_some (i := 1) ev_c) eo_none (by omega)) ea_nil) (is_askS (Nat.le_trans (cutS_length _ _ _) hz))) fun H3 e3 => ?_
        have := k H3 ((e1.trans e2).trans e3)
        unfold usedB usedB0 at this
        rw [hn, hb] at this
        exact this
      · refine q_asgL (el_split (ev_var rfl) ev_c dot_len (by omega)) fun p H3 hp e3 h3 => ?_
        have hL : ((Txt.split z ".").map V.str).length ≤ 40000 := by
          rw [List.length_map]
          have := PyProof.Rows.split_le z "."
          omega
        have ee : given ((Txt.split z ".").map V.str).length (fun _ => true) (fun i => V.bl (partB ((Txt.split z ".").getD i ""))) = ((Txt.split z ".").map partB).map V.bl := by
          rw [List.length_map, given_map (Txt.split z ".") (fun y => V.bl (partB y)) "", List.map_map]
          rfl
        refine s_ret (ev_andV (ev_op (ev_len (ev_var rfl) (sq_of h3)) ev_c rv_I0) fun _ => ev_allL (bs := (Txt.split z ".").map partB) (ee ▸ el_lcL (fun _ => true) (fun i => V.bl (partB ((Txt.split z ".").getD i ""))) (ev_var rfl) (sq_of h3) hL (fun _ => rfl) (fun _ _ _ _ _ => fun H _ Q q => q H (Ex.refl H)) (fun i x H4 e4 hx _ => ?_))) fun H4 e4 => ?_
        · rw [List.getElem?_map] at hx
          cases hy : (Txt.split z ".")[i]? with
          | none => rw [hy] at hx; cases hx
          | some y =>
            rw [hy] at hx
            cases hx
            have hm : y ∈ Txt.split z "." := List.mem_of_getElem? hy
            have hl := split_len dot_ne (by decide +kernel) hm
            rw [List.getD_eq_getElem?_getD, hy]
            exact ev_df (ea_cons (ev_var rfl) ea_nil) (is_part (by omega))
        · have := k H4 (((e1.trans e2).trans e3).trans e4)
          unfold usedB usedB0 at this
          rw [hn, hb] at this
          rw [List.length_map]
          exact this
    · refine q_when (et_not (et_B (ev_isiN (ev_var rfl) n))) (fun _ H1 e1 => s_ret ev_c fun H2 e2 => k H2 (e1.trans e2)) (fun hb => by cases hb)
end
end M14

set_option maxHeartbeats 4000000
/-! Readings taken apart step by step, from the left. -/
namespace Gd
open PySem PySem.Spec PyProof.Rows L2 Evl
section
variable {K : PySem.W.Frag} {σ : L2.St} {H : Hp} {te tb : TE} {ta tr : TA} {x : V} {QA : List V → Hp → Prop} {Q : VK} {P : V → Hp → Prop}
theorem k_cons (h : Ev te σ H x) (k : ∀ H1, Ex H H1 → tr σ H1 (fun vs H2 => QA (x :: vs) H2)) : tCons te tr σ H QA := h H (Ex.refl H) _ k
theorem k_consP (h : EvP te σ H P) (k : ∀ v H1, Ex H H1 → P v H1 → tr σ H1 (fun vs H2 => QA (v :: vs) H2)) : tCons te tr σ H QA := h H (Ex.refl H) _ k
theorem k_consL {xs : List V} (h : EvL te σ H xs) (k : ∀ p H1, H p = none → Ex H H1 → H1 p = some (.lst xs) → tr σ H1 (fun vs H2 => QA (.ref p :: vs) H2)) : tCons te tr σ H QA := h H (Ex.refl H) _ k
theorem k_consU {xs : List V} (h : EvU te σ H xs) (k : ∀ p H1, H p = none → Ex H H1 → H1 p = some (.tup xs) → tr σ H1 (fun vs H2 => QA (.ref p :: vs) H2)) : tCons te tr σ H QA := h H (Ex.refl H) _ k
theorem k_cons' (k : te σ H fun v H1 => tr σ H1 (fun vs H2 => QA (v :: vs) H2)) : tCons te tr σ H QA := k
theorem eu_mono {H1 : Hp} {xs : List V} (e : Ex H H1) (h : EvU te σ H xs) : EvU te σ H1 xs := fun H2 e2 Q q => h H2 (e.trans e2) Q q
theorem el_mono {H1 : Hp} {xs : List V} (e : Ex H H1) (h : EvL te σ H xs) : EvL te σ H1 xs := fun H2 e2 Q q => h H2 (e.trans e2) Q q
theorem evp_mono {H1 : Hp} (e : Ex H H1) (h : EvP te σ H P) : EvP te σ H1 P := fun H2 e2 Q q => h H2 (e.trans e2) Q q
theorem k_nil (k : QA [] H) : tNil σ H QA := k
theorem k_lst (h : ta σ H (fun vs H1 => vs.length ≤ sizeLine ∧ ∀ p, H1 p = none → Q (.ref p) (upd H1 p (.lst vs)))) : tLst ta σ H Q := h
theorem k_tup (h : ta σ H (fun vs H1 => vs.length ≤ sizeLine ∧ ∀ p, H1 p = none → Q (.ref p) (upd H1 p (.tup vs)))) : tTup ta σ H Q := h
theorem k_op {r : R2} (h : Ev te σ H x) (k : ∀ H1, Ex H H1 → tb σ H1 (fun y H2 => r x y H2 Q)) : tOp r te tb σ H Q := h H (Ex.refl H) _ k
theorem k_opP {r : R2} (h : EvP te σ H P) (k : ∀ v H1, Ex H H1 → P v H1 → tb σ H1 (fun y H2 => r v y H2 Q)) : tOp r te tb σ H Q := h H (Ex.refl H) _ k
theorem k_op' {r : R2} (k : te σ H fun x H1 => tb σ H1 (fun y H2 => r x y H2 Q)) : tOp r te tb σ H Q := k
theorem k_ev (h : Ev te σ H x) (k : ∀ H1, Ex H H1 → Q x H1) : te σ H Q := h H (Ex.refl H) _ k
theorem k_evP (h : EvP te σ H P) (k : ∀ v H1, Ex H H1 → P v H1 → Q v H1) : te σ H Q := h H (Ex.refl H) _ k
theorem k_evL {xs : List V} (h : EvL te σ H xs) (k : ∀ p H1, H p = none → Ex H H1 → H1 p = some (.lst xs) → Q (.ref p) H1) : te σ H Q := h H (Ex.refl H) _ k
theorem k_evU {xs : List V} (h : EvU te σ H xs) (k : ∀ p H1, H p = none → Ex H H1 → H1 p = some (.tup xs) → Q (.ref p) H1) : te σ H Q := h H (Ex.refl H) _ k
theorem k_rv {r : R2} {y z : V} (h : RV r x y H z) (k : ∀ H1, Ex H H1 → Q z H1) : r x y H Q := h H (Ex.refl H) Q k
theorem k_cb {R : List V → Hp → VK → Prop} (h : ta σ H (fun vs H1 => R vs H1 Q)) : tCB R ta σ H Q := h
theorem k_call {sp : Sp} {dvs : List V} {E : XK} (h : ta σ H (fun vs H1 => sp (vs ++ dvs) H1 Q E)) : tCall sp dvs E ta σ H Q := h
theorem q_asg' {D : Ends} {tz : TS} {i : Nat} (h : te σ H (fun v H1 => tz D (σ.set i (some v)) H1)) : tSeq (tAsg te (gName i)) tz D σ H := h
theorem s_ret' {D : Ends} (h : te σ H D.rt) : tRet te D σ H := h
theorem q_forL' {D : Ends} {tz tu : TS} {tl : TE} {xs : List V} {j : Nat} (h : EvL tl σ H xs) (hk : ∀ a H1, H a = none → Ex H H1 → H1 a = some (.lst xs) → ∃ Pv : Nat → L2.St → Hp → Prop, Pv 0 σ H1 ∧ (∀ i σ' H', i ≤ xs.length → Pv i σ' H' → SqL K H' a xs) ∧
    (∀ i x σ' H', xs[i]? = some x → Pv i σ' H' → tu { D with nx := Pv (i + 1), ct := Pv (i + 1), bk := tz D } (σ'.set j (some x)) H') ∧ (∀ σ' H', Pv xs.length σ' H' → tz D σ' H')) : tSeq (tFor (iList K tl) (gName j) tu) tz D σ H :=
  h H (Ex.refl H) _ fun a H1 na e ha => by
    obtain ⟨Pv, h0, hl, hs, hd⟩ := hk a H1 na e ha
    exact ⟨a, rfl, ⟨xs, sq_of ha⟩, for_list (D := { D with nx := tz D }) Pv h0 hl hs hd⟩
end
end Gd

set_option maxHeartbeats 4000000
/-! len(list(range(n))). -/
namespace Gd
open PySem PySem.Spec PyProof.Rows L2 Evl
section
variable {K : PySem.W.Frag} {σ : L2.St} {H : Hp} {te : TE}
theorem ev_llr {n : Nat} (h : Ev te σ H (.int (n : Int))) (hn : n ≤ 100000) : Ev (tCB (rLenS K) (tCons (tLstRg (tRg1 te)) tNil)) σ H (.int (n : Int)) := fun H1 e Q q => by
  refine k_cb (k_cons' ?_)
  show te σ H1 fun x H2 => ∃ m, x = .int m ∧ (RgOk 0 m ∧ ∀ q', H2 q' = none → _)
  refine k_ev (Ev.mono e h) fun H2 e2 => ⟨(n : Int), rfl, RgOk.of_le (by omega) (by omega) (by omega) (by omega), fun l nl => k_nil ⟨l, _, rfl, .inl (sq_of upd_same), ?_⟩⟩
  have hl : (rgV 0 (n : Int)).length = n := by
    rw [rgV_length]
    omega
  rw [hl]
  exact q _ (e2.trans (Ex.new nl))
end
end Gd

set_option maxHeartbeats 4000000
namespace M14
open PySem PySem.Spec PyProof.Rows L2 Evl TL Gd
section
variable {K : PySem.W.Frag} {H : Hp} {σ : L2.St} {te tb : TE}
theorem ev_isiI {n : Int} (h : Ev te σ H (.int n)) : Ev (tCB (rIsi K) (tCons te (tCons (tC (.ty "int")) tNil))) σ H (.bl true) :=
  ev_cb (ea_cons h (ea_cons ev_c ea_nil)) fun H1 e Q q => ⟨.int n, .ty "int", _, _, true, rfl, .ty _, .base (.int n), kit_ty (by decide +kernel), q H1 (Ex.refl H1)⟩
theorem ev_isiB {n : Int} (h : Ev te σ H (.int n)) : Ev (tCB (rIsi K) (tCons te (tCons (tC (.ty "bool")) tNil))) σ H (.bl false) :=
  ev_cb (ea_cons h (ea_cons ev_c ea_nil)) fun H1 e Q q => ⟨.int n, .ty "bool", _, _, false, rfl, .ty _, .base (.int n), kit_ty (by decide +kernel), q H1 (Ex.refl H1)⟩
theorem ev_lenT {p : Addr} {xs : List V} (ha : Ev te σ H (.ref p)) (h : SqT K H p xs) : Ev (tCB (rLenS K) (tCons te tNil)) σ H (.int (xs.length : Int)) :=
  ev_cb (ea_cons ha ea_nil) fun H1 e Q q => ⟨p, xs, rfl, .inr (ex_t e h), q H1 (Ex.refl H1)⟩
/-- a new tuple whose items have a property -/
theorem evp_tup {ta : TA} {R : List V → Hp → Prop} (h : EvAP ta σ H R) (up : ∀ vs H1 H2, Ex H1 H2 → R vs H1 → R vs H2) (hl : ∀ vs H1, R vs H1 → vs.length ≤ 100000) : EvP (tTup ta) σ H (fun v H1 => ∃ p vs, v = .ref p ∧ H1 p = some (.tup vs) ∧ R vs H1) := fun H1 e Q q =>
  h H1 e _ fun vs H2 e2 w => ⟨Nat.le_trans (hl vs H2 w) (by decide), fun p np => q _ _ (e2.trans (Ex.new np)) ⟨p, vs, rfl, upd_same, up _ _ _ (Ex.new np) w⟩⟩
theorem evp_ev {v : V} (h : Ev te σ H v) : EvP te σ H (fun x _ => x = v) := fun H1 e Q q => h H1 e _ fun H2 e2 => q v H2 e2 rfl
theorem evp_evl {xs : List V} (h : EvL te σ H xs) : EvP te σ H (fun x H1 => ∃ p, x = .ref p ∧ H1 p = some (.lst xs)) := fun H1 e Q q => h H1 e _ fun p H2 hp e2 h2 => q _ H2 e2 ⟨p, rfl, h2⟩
theorem evp_evu {xs : List V} (h : EvU te σ H xs) : EvP te σ H (fun x H1 => ∃ p, x = .ref p ∧ H1 p = some (.tup xs)) := fun H1 e Q q => h H1 e _ fun p H2 hp e2 h2 => q _ H2 e2 ⟨p, rfl, h2⟩
/-- a row of stars in a tuple -/
theorem ea_star {tr : TA} {p : Addr} {xs vs : List V} (h : Ev te σ H (.ref p)) (hp : H p = some (.tup xs)) (hr : EvA tr σ H vs) : EvA (StX.tStar K te tr) σ H (xs ++ vs) := fun H1 e Q q =>
  h H1 e _ fun H2 e2 => ⟨p, xs, rfl, .inl (st_of (e2 _ _ (e _ _ hp))), hr H2 (e.trans e2) _ fun H3 e3 => q H3 (e2.trans e3)⟩
/-- a, b, c = e -/
theorem q_unpackP {D : Ends} {tz : TS} {i j k : Nat} {P : V → Hp → Prop} {a b c : V} (h : EvP te σ H P) (hp : ∀ v H1, P v H1 → ∃ p, v = .ref p ∧ ∃ a b c, H1 p = some (.tup [a, b, c])) 
    (kk : ∀ p a b c H1, Ex H H1 → P (.ref p) H1 → H1 p = some (.tup [a, b, c]) → tz D (((σ.set i (some a)).set j (some b)).set k (some c)) H1) :
    tSeq (tAsg te (gTup K 3 (gCons (gName i) (gCons (gName j) (gCons (gName k) gNil))))) tz D σ H := h H (Ex.refl H) _ fun v H1 e w => by
  obtain ⟨p, rfl, a, b, c, hp⟩ := hp v H1 w
  exact ⟨p, [a, b, c], rfl, st_of hp, rfl, a, [b, c], rfl, b, [c], rfl, c, [], rfl, rfl, kk p a b c H1 e w hp⟩
end
section
variable {P : Program} {w : World} {K : PySem.W.Frag} {mg : Str → Option Value} {base : Heap} {CT gT gU fL fS : Addr}
abbrev CS (K : PySem.W.Frag) (CT gT gU fL fS : Addr) : Addr → Prop := TreeC K CT gT gU fL fS

abbrev s_is_number : Stmt := top 16
theorem sc_is_number : FnScope ["value"] ["value"] (defScope s_is_number) := ⟨rfl, rfl, rfl, by decide +kernel, rfl, by decide +kernel, by decide +kernel⟩
def spIntB : Sp := fun vs H Q _ => ∃ n : Int, vs = [.int n] ∧ RetV (.bl true) H Q
theorem is_num {n : Int} {H : Hp} : SpIs spIntB [.int n] H (.bl true) := fun H1 e Q q E => ⟨n, rfl, fun H2 e2 => q H2 e2⟩
theorem ok_is_number {f : Addr} {fd : FuncData} (F : Fun K "is_number" "is_number" s_is_number f fd) (T : Tx K mg) : FnOk P w K mg base CX0 1 f fd ["value"] spIntB := by
  refine F.ok sc_is_number (fun vs H Q E h => ?_) (fun cdv A outer s H vs Q E hr h => ?_)
  · obtain ⟨n, rfl, _⟩ := h
    rfl
  · obtain ⟨n, rfl, k⟩ := h
    refine ⟨_, (pss_one (ps_ret (pe_and (pe_callB call_isi (by rfl) T.b_isinstance (by decide +kernel) (pa_cons (pv 0) (pa_cons (pe_bT (T := "int") (by rfl) T.b_int (by decide +kernel)) pa_nil))) (pe_one (pe_not (pe_callB call_isi (by rfl) T.b_isinstance (by decide +kernel) (pa_cons (pv 0) (pa_cons (pe_bT (T := "bool") (by rfl) T.b_bool (by decide +kernel)) pa_nil)))))))), ?_⟩
    exact s_ret (ev_andV (ev_isiI (ev_var rfl)) fun _ => ev_notV (ev_isiB (ev_var rfl))) fun H2 e2 => k H2 e2
abbrev s_is_value : Stmt := top 17
theorem sc_is_value : FnScope ["value"] ["value"] (defScope s_is_value) := ⟨rfl, rfl, rfl, by decide +kernel, rfl, by decide +kernel, by decide +kernel⟩
def LARG : Int := 18446744073709551616
def spVal : Sp := fun vs H Q _ => ∃ n : Int, vs = [.int n] ∧ 0 ≤ n ∧ n ≤ LARG ∧ RetV (.bl true) H Q
theorem is_val {n : Int} {H : Hp} (h0 : 0 ≤ n) (h1 : n ≤ LARG) : SpIs spVal [.int n] H (.bl true) := fun H1 e Q q E => ⟨n, rfl, h0, h1, fun H2 e2 => q H2 e2⟩
theorem ok_is_value {f : Addr} {fd : FuncData} (F : Fun K "is_value" "is_value" s_is_value f fd) (T : Tx K mg) (DN : Df P w K mg base CX0 1 "is_number" ["value"] spIntB) : FnOk P w K mg base CX0 2 f fd ["value"] spVal := by
  refine F.ok sc_is_value (fun vs H Q E h => ?_) (fun cdv A outer s H vs Q E hr h => ?_)
  · obtain ⟨n, rfl, _⟩ := h
    rfl
  · obtain ⟨n, rfl, h0, h1, k⟩ := h
    obtain ⟨tt, g_LARGEST⟩ := T.g_LARGEST
    refine ⟨_, (pss_one (ps_ret (pe_and (pe_df DN (hr.mono (by decide)) rfl (pa_cons (pv 0) pa_nil)) (pe_one (pe_chain op_le op_le (pe_un un_neg (pe_gI rfl g_LARGEST)) (pv 0) (pe_gI rfl g_LARGEST)))))), ?_⟩
    refine s_ret (ev_andV (ev_df (ea_cons (ev_var rfl) ea_nil) is_num) fun _ => ev_chain (a := decide (-LARG ≤ n)) (b := decide (n ≤ LARG)) (ev_un ev_c ru_neg) (ev_var rfl) rv_I0 (fun _ => ev_c) (fun _ => rv_I0)) fun H2 e2 => ?_
    have a1 : decide (-LARG ≤ n) = true := decide_eq_true (by unfold LARG; omega)
    have a2 : decide (n ≤ LARG) = true := decide_eq_true h1
    rw [a1, a2]
    exact k H2 e2

/-! ### properties, len -/
abbrev s_Tree_text : Stmt := inClass (top 29) 1
theorem sc_Tree_text : FnScope ["self"] ["self"] (defScope s_Tree_text) := ⟨rfl, rfl, rfl, by decide +kernel, rfl, by decide +kernel, by decide +kernel⟩
abbrev s_Tree_used : Stmt := inClass (top 29) 2
theorem sc_Tree_used : FnScope ["self"] ["self"] (defScope s_Tree_used) := ⟨rfl, rfl, rfl, by decide +kernel, rfl, by decide +kernel, by decide +kernel⟩
theorem ok_Tree_text {f : Addr} {fd : FuncData} (F : Fun K "text" "Tree.text" s_Tree_text f fd) : FnOk P w K mg base CX0 1 f fd ["self"] (spFld (CS K CT gT gU fL fS) "_text") := by
  refine F.ok sc_Tree_text (fun vs H Q E h => ?_) (fun cdv A outer s H vs Q E hr h => ?_)
  · obtain ⟨a, C, dx, fs, v, rfl, _⟩ := h
    rfl
  · obtain ⟨a, C, dx, fs, v, rfl, c, h1, h2, q⟩ := h
    refine ⟨_, (pss_one (ps_ret (pe_fld (pv 0) rfl))), ?_⟩
    exact ⟨_, rfl, a, C, dx, fs, v, rfl, h1, c.cls, c.no _ (mem_fld _), h2, q⟩
theorem ok_Tree_used {f : Addr} {fd : FuncData} (F : Fun K "used" "Tree.used" s_Tree_used f fd) : FnOk P w K mg base CX0 1 f fd ["self"] (spFld (CS K CT gT gU fL fS) "_used") := by
  refine F.ok sc_Tree_used (fun vs H Q E h => ?_) (fun cdv A outer s H vs Q E hr h => ?_)
  · obtain ⟨a, C, dx, fs, v, rfl, _⟩ := h
    rfl
  · obtain ⟨a, C, dx, fs, v, rfl, c, h1, h2, q⟩ := h
    refine ⟨_, (pss_one (ps_ret (pe_fld (pv 0) rfl))), ?_⟩
    exact ⟨_, rfl, a, C, dx, fs, v, rfl, h1, c.cls, c.no _ (mem_fld _), h2, q⟩
abbrev s_Tree___len : Stmt := inClass (top 29) 3
theorem sc_Tree___len : FnScope ["self"] ["self"] (defScope s_Tree___len) := ⟨rfl, rfl, rfl, by decide +kernel, rfl, by decide +kernel, by decide +kernel⟩
theorem ok_Tree_len {f : Addr} {fd : FuncData} (F : Fun K "__len__" "Tree.__len__" s_Tree___len f fd) (T : Tx K mg) : FnOk P w K mg base CX0 1 f fd ["self"] (spLenT (CS K CT gT gU fL fS)) := by
  refine F.ok sc_Tree___len (fun vs H Q E h => ?_) (fun cdv A outer s H vs Q E hr h => ?_)
  · obtain ⟨a, t, rfl, _⟩ := h
    rfl
  · obtain ⟨a, t, rfl, r, k⟩ := h
    refine ⟨_, (pss_one (ps_ret (pe_callB call_len_seq (by rfl) T.b_len (by decide +kernel) (pa_cons (pe_listRg (by rfl) rfl T.b_list (prg_1 rfl T.b_range (pe_ix ix_tup (pe_fld (pv 0) rfl) pe_int (fun _ _ => rfl)))) pa_nil)))), ?_⟩
    obtain ⟨sh, hp, ev⟩ := ev_shownF (te := tVar 0) (σ := L2.start ["self"] [.ref a]) (ev_var rfl) r
    exact s_ret (ev_llr (ev_op ev ev_c (rv_ixT (st_of hp) (atI_nat (j := 1) rfl))) (by have := r.ok.1; omega)) fun H2 e2 => k H2 e2
end
end M14

set_option maxHeartbeats 4000000
namespace Gd
open PySem PySem.Spec PyProof.Rows L2 Evl TL
/-! ### list(a text) -/
section
variable {X : Cx}
def signV (c : Nat) : V := .str ⟨#[c]⟩
def rSigns : List V → Hp → VK → Prop := fun xs H Q => ∃ z, xs = [.str z] ∧ z.length ≤ sizeLine ∧ ∀ l, H l = none → Q (.ref l) (upd H l (.lst ((tl z).map signV)))
theorem vals_signs : ∀ {l : List Value} {m : List Nat}, l.length = m.length → (∀ (i : Nat) (v : Value), l[i]? = some v → ∃ (c : Nat) (t : Tok), m[i]? = some c ∧ v = Value.str ⟨#[c]⟩ t) → Vals (m.map signV) l
  | [], [], _, _ => .nil
  | v :: l, c :: m, hl, h => by
    obtain ⟨c', t, h1, h2⟩ := h 0 v rfl
    cases h1
    exact .cons ⟨t, h2⟩ (vals_signs (by simpa using hl) fun i v hv => h (i + 1) v hv)
  | [], _ :: _, hl, _ => by simp at hl
  | _ :: _, [], hl, _ => by simp at hl
theorem call_list_signs (hc : X.calm = true) : CallR X (.type "list") rSigns := by
  intro pins s σ H xs us Q I r h
  obtain ⟨z, rfl, hz, q⟩ := h
  obtain ⟨u, rfl, t, rfl⟩ := vals1 r
  have e0 : z.cps.size = (tl z).length := by simp [tl]
  refine PySem.call_list_str (I.ok.hd hc) z t (fun h' tk acc c keep hS hi => ?_) (by rw [e0, ← len_tl]; exact hz)
  have hv : Vals ((tl z).map signV) acc.toList := by
    refine vals_signs (by rw [← e0, Array.length_toList]; exact hi.1) fun i v hv => ?_
    obtain ⟨c, t, h1, h2⟩ := hi.2 i v (by rw [← hv]; exact Array.getElem?_toList.symm)
    exact ⟨c, t, by rw [← h1]; exact Array.getElem?_toList, h2⟩
  refine ⟨.ref _, _, I.laid (o := .lst ((tl z).map signV)) keep (Nat.le_refl _) ⟨by rw [List.length_map, ← len_tl]; exact hz, acc.toList, c, hv, by simpa using hS⟩, rfl, q _ I.fresh⟩
end
theorem el_signs {σ : L2.St} {H : Hp} {te : TE} {z : Str} (h : Ev te σ H (.str z)) (hz : z.length ≤ 100000) : EvL (tCB rSigns (tCons te tNil)) σ H ((tl z).map signV) :=
  el_cb (ea_cons h ea_nil) fun H1 e Q q => ⟨z, rfl, sz_of hz, fun l hl => q l _ hl (Ex.new hl) upd_same⟩
/-- int(n) of an int -/
def rInt1 : List V → Hp → VK → Prop := fun xs H Q => (∃ i, xs = [.int i] ∧ Q (.int i) H) ∨ ∃ k, xs = [.bl k] ∧ Q (.int (if k then 1 else 0)) H
theorem ev_int1 {σ : L2.St} {H : Hp} {te : TE} {i : Int} (h : Ev te σ H (.int i)) : Ev (tCB rInt1 (tCons te tNil)) σ H (.int i) :=
  ev_cb (ea_cons h ea_nil) fun H1 e Q q => Or.inl ⟨i, rfl, q H1 (Ex.refl H1)⟩

/-! ### a stream of draws: the list of three ints at p -/
def Sx (p : Addr) (b : Int) (H : Hp) : Prop := ∃ a c : Int, H p = some (.lst [.int a, .int b, .int c])
/-- a heap without what stands at p -/
def wo (p : Addr) (H : Hp) : Hp := fun a => if a = p then none else H a
theorem wo_at {p : Addr} {H : Hp} : wo p H p = none := if_pos rfl
theorem wo_ne {p a : Addr} {H : Hp} (h : a ≠ p) : wo p H a = H a := if_neg h
theorem wo_ex {p : Addr} {H : Hp} : Ex (wo p H) H := fun a o h => by
  by_cases e : a = p
  · rw [e, wo_at] at h
    cases h
  · rw [wo_ne e] at h
    exact h
theorem wo_mono {p : Addr} {H H' : Hp} (e : Ex H H') : Ex (wo p H) (wo p H') := fun a o h => by
  by_cases q : a = p
  · rw [q, wo_at] at h
    cases h
  · rw [wo_ne q] at h ⊢
    exact e a o h
theorem wo_upd {p : Addr} {H : Hp} {o : HO} : Ex (wo p H) (upd H p o) := fun a u h => by
  by_cases q : a = p
  · rw [q, wo_at] at h
    cases h
  · rw [wo_ne q] at h
    rw [upd_ne q]
    exact h
theorem wo_trans {p : Addr} {H H1 H2 : Hp} (e : Ex (wo p H) H1) (e2 : Ex (wo p H1) H2) : Ex (wo p H) H2 := fun a u h => by
  by_cases q : a = p
  · rw [q, wo_at] at h
    cases h
  · exact e2 a u (by rw [wo_ne q]; exact e a u h)
theorem wo_go {p : Addr} {G H1 H2 : Hp} (hg : G p = none) (e : Ex G H1) (e2 : Ex (wo p H1) H2) : Ex G H2 := fun a u h => by
  have q : a ≠ p := ne_of_none h hg
  exact e2 a u (by rw [wo_ne q]; exact e a u h)
theorem sq_wo {K : PySem.W.Frag} {p l : Addr} {H : Hp} {xs : List V} (np : l ≠ p) (h : SqL K H l xs) : SqL K (wo p H) l xs := by
  rcases h with (h | ⟨o, h⟩) | h
  · exact Or.inl (Or.inl (by rw [wo_ne np]; exact h))
  · exact Or.inl (Or.inr ⟨o, by rw [wo_ne np]; exact h⟩)
  · exact Or.inr h
theorem Sx.ex {p : Addr} {b : Int} {H H' : Hp} (s : Sx p b H) (e : Ex H H') : Sx p b H' := by
  obtain ⟨a, c, h⟩ := s
  exact ⟨a, c, e _ _ h⟩
/-- what follows a number of draws, at most k: the value, the heap, the draws so far -/
def Cn (p : Addr) (H1 : Hp) (b : Int) (k : Nat) (R : V → Hp → Prop) (Q : VK) : Prop := ∀ v H2 b', b ≤ b' → b' ≤ b + k → Sx p b' H2 → Ex (wo p H1) H2 → R v H2 → Q v H2
/-- an expression that draws at most k times; G: what stands besides -/
def Dv (p : Addr) (te : TE) (σ : L2.St) (G : Hp) (k : Nat) (R : V → Prop) : Prop :=
  ∀ H1, Ex G H1 → ∀ b : Int, 0 ≤ b → b + k ≤ 1000000000 → Sx p b H1 → ∀ Q : VK, Cn p H1 b k (fun v _ => R v) Q → te σ H1 Q
/-- the same, a new list comes -/
def DvL (p : Addr) (te : TE) (σ : L2.St) (G : Hp) (k : Nat) (R : List V → Prop) : Prop :=
  ∀ H1, Ex G H1 → ∀ b : Int, 0 ≤ b → b + k ≤ 1000000000 → Sx p b H1 → ∀ Q : VK, Cn p H1 b k (fun v H2 => ∃ l ys, v = .ref l ∧ l ≠ p ∧ H1 l = none ∧ H2 l = some (.lst ys) ∧ R ys) Q → te σ H1 Q
def DvA (p : Addr) (ta : TA) (σ : L2.St) (G : Hp) (k : Nat) (R : List V → Prop) : Prop :=
  ∀ H1, Ex G H1 → ∀ b : Int, 0 ≤ b → b + k ≤ 1000000000 → Sx p b H1 → ∀ Q : List V → Hp → Prop, (∀ vs H2 b', b ≤ b' → b' ≤ b + k → Sx p b' H2 → Ex (wo p H1) H2 → R vs → Q vs H2) → ta σ H1 Q
section
variable {K : PySem.W.Frag} {p : Addr} {σ : L2.St} {G : Hp} {te ta tb : TE} {k j : Nat} {R : V → Prop} {v : V}
theorem dv_ev (h : Ev te σ G v) : Dv p te σ G 0 (fun x => x = v) := fun H1 e b hb hk s Q q =>
  h H1 e _ fun H2 e2 => q v H2 b (Int.le_refl _) (by omega) (s.ex e2) (fun a o z => e2 a o (wo_ex a o z)) rfl
theorem dv_imp {R' : V → Prop} (h : Dv p te σ G k R) (hi : ∀ x, R x → R' x) (hj : k ≤ j) : Dv p te σ G j R' := fun H1 e b hb hk s Q q =>
  h H1 e b hb (by omega) s Q fun v H2 b' h1 h2 h3 h4 h5 => q v H2 b' h1 (by omega) h3 h4 (hi v h5)
theorem dvl_imp {R R' : List V → Prop} (h : DvL p te σ G k R) (hi : ∀ x, R x → R' x) (hj : k ≤ j) : DvL p te σ G j R' := fun H1 e b hb hk s Q q =>
  h H1 e b hb (by omega) s Q fun v H2 b' h1 h2 h3 h4 h5 => q v H2 b' h1 (by omega) h3 h4 (by obtain ⟨l, ys, a1, a2, a3, a4, a5⟩ := h5; exact ⟨l, ys, a1, a2, a3, a4, hi ys a5⟩)
theorem dvl_ev {xs : List V} (h : EvL te σ G xs) : DvL p te σ G 0 (fun x => x = xs) := fun H1 e b hb hk s Q q =>
  h H1 e _ fun l H2 hl e2 h2 => q (.ref l) H2 b (Int.le_refl _) (by omega) (s.ex e2) (fun a o z => e2 a o (wo_ex a o z)) ⟨l, xs, rfl, by
    obtain ⟨a, c, hp⟩ := s
    exact (ne_of_none hp hl).symm, hl, h2, rfl⟩
theorem dva_nil : DvA p tNil σ G 0 (fun vs => vs = []) := fun H1 e b hb hk s Q q => q [] H1 b (Int.le_refl _) (by omega) s wo_ex rfl
theorem dva_cons {tr : TA} {Rs : List V → Prop} (hg : G p = none) (h : Dv p te σ G k R) (hr : DvA p tr σ G j Rs) : DvA p (tCons te tr) σ G (k + j) (fun vs => ∃ v r, vs = v :: r ∧ R v ∧ Rs r) := fun H1 e b hb hk s Q q =>
  h H1 e b hb (by omega) s _ fun v H2 b2 h1 h2 h3 h4 h5 => hr H2 (wo_go hg e h4) b2 (by omega) (by omega) h3 _ fun vs H3 b3 g1 g2 g3 g4 g5 =>
    q (v :: vs) H3 b3 (by omega) (by omega) g3 (wo_trans h4 g4) ⟨v, vs, rfl, h5, g5⟩
theorem dvl_lst {ta : TA} {Rs : List V → Prop} (h : DvA p ta σ G k Rs) (hl : ∀ vs, Rs vs → vs.length ≤ 100000) : DvL p (tLst ta) σ G k Rs := fun H1 e b hb hk s Q q =>
  h H1 e b hb hk s _ fun vs H2 b2 h1 h2 h3 h4 h5 => ⟨sz_of (hl vs h5), fun l nl => by
    obtain ⟨a, c, hp⟩ := h3
    have np : l ≠ p := (ne_of_none hp nl).symm
    have hl1 : H1 l = none := by
      cases z : H1 l with
      | none => rfl
      | some o =>
        rw [h4 l o (by rw [wo_ne np]; exact z)] at nl
        cases nl
    exact q (.ref l) _ b2 h1 h2 ⟨a, c, by rw [upd_ne np.symm]; exact hp⟩ (fun x o z => Ex.new nl x o (h4 x o z)) ⟨l, vs, rfl, np, hl1, upd_same, h5⟩⟩
/-- two operands, the result a value by r -/
theorem dv_op {r : R2} {Ra Rb Rz : V → Prop} (hg : G p = none) (ha : Dv p ta σ G k Ra) (hb : Dv p tb σ G j Rb) (hr : ∀ x y, Ra x → Rb y → ∃ z, (∀ H : Hp, RV r x y H z) ∧ Rz z) : Dv p (tOp r ta tb) σ G (k + j) Rz := fun H1 e b hb0 hk s Q q =>
  ha H1 e b hb0 (by omega) s _ fun x H2 b2 h1 h2 h3 h4 h5 => hb H2 (wo_go hg e h4) b2 (by omega) (by omega) h3 _ fun y H3 b3 g1 g2 g3 g4 g5 => by
    obtain ⟨z, hz, rz⟩ := hr x y h5 g5
    exact hz H3 H3 (Ex.refl H3) Q fun H4 e4 => q z H4 b3 (by omega) (by omega) (g3.ex e4) (fun a o w => e4 a o (wo_trans h4 g4 a o w)) rz
/-! ### the statements over draws -/
variable {D : Ends} {tz : TS} {H : Hp} {b : Int}
theorem q_dv {i : Nat} (h : Dv p te σ G k R) (hg : G p = none) (e : Ex G H) (hb : 0 ≤ b) (hk : b + k ≤ 1000000000) (s : Sx p b H)
    (kk : ∀ v H2 b', b ≤ b' → b' ≤ b + k → Sx p b' H2 → Ex G H2 → R v → tz D (σ.set i (some v)) H2) : tSeq (tAsg te (gName i)) tz D σ H :=
  h H e b hb hk s _ fun v H2 b' h1 h2 h3 h4 h5 => kk v H2 b' h1 h2 h3 (wo_go hg e h4) h5
theorem s_dv {i : Nat} (h : Dv p te σ G k R) (hg : G p = none) (e : Ex G H) (hb : 0 ≤ b) (hk : b + k ≤ 1000000000) (s : Sx p b H)
    (kk : ∀ v H2 b', b ≤ b' → b' ≤ b + k → Sx p b' H2 → Ex G H2 → R v → D.nx (σ.set i (some v)) H2) : tAsg te (gName i) D σ H :=
  h H e b hb hk s _ fun v H2 b' h1 h2 h3 h4 h5 => kk v H2 b' h1 h2 h3 (wo_go hg e h4) h5
theorem s_dvRet (h : Dv p te σ G k R) (hg : G p = none) (e : Ex G H) (hb : 0 ≤ b) (hk : b + k ≤ 1000000000) (s : Sx p b H)
    (kk : ∀ v H2 b', b ≤ b' → b' ≤ b + k → Sx p b' H2 → Ex G H2 → R v → D.rt v H2) : tRet te D σ H :=
  h H e b hb hk s _ fun v H2 b' h1 h2 h3 h4 h5 => kk v H2 b' h1 h2 h3 (wo_go hg e h4) h5
/-! ### the promises of the law's draws -/
def mixed (n k : Int) : Int := (((n % 2147483647 + 7919 * k * k + 31 * k) * 48271) % 2147483647 * (69621 + 2 * k)) % 2147483629
theorem mixed_range (n k : Int) : 0 ≤ mixed n k ∧ mixed n k < 2147483629 := ⟨Int.emod_nonneg _ (by decide), Int.emod_lt_of_pos _ (by decide)⟩
def spMixed : Sp := fun vs H Q _ => ∃ n k : Int, vs = [.int n, .int k] ∧ 0 ≤ k ∧ k ≤ 2000000000 ∧ RetV (.int (mixed n k)) H Q
theorem is_mixed {n k : Int} (h0 : 0 ≤ k) (h1 : k ≤ 2000000000) : SpIs spMixed [.int n, .int k] H (.int (mixed n k)) := fun H1 _ Q q E => ⟨n, k, rfl, h0, h1, fun H2 e => q H2 e⟩
def spStream : Sp := fun vs H Q _ => ∃ n k : Int, vs = [.int n, .int k] ∧ 0 ≤ k ∧ k ≤ 2000000000 ∧ ∀ p H2, H p = none → Ex H H2 → Sx p 0 H2 → Q (.ref p) H2
def spDraw : Sp := fun vs H Q _ => ∃ (p : Addr) (b top : Int), vs = [.ref p, .int top] ∧ 0 ≤ b ∧ b + 1 ≤ 1000000000 ∧ Sx p b H ∧ 0 < top ∧ top ≤ 1000000 ∧
  ∀ (n : Int) H2, 0 ≤ n → n < top → Sx p (b + 1) H2 → Ex (wo p H) H2 → Q (.int n) H2
def spPick (K : PySem.W.Frag) : Sp := fun vs H Q _ => ∃ (p l : Addr) (b : Int) (xs : List V), vs = [.ref p, .ref l] ∧ 0 ≤ b ∧ b + 1 ≤ 1000000000 ∧ Sx p b H ∧ l ≠ p ∧ SqL K H l xs ∧ 0 < xs.length ∧ xs.length ≤ 100000 ∧
  ∀ v H2 b', v ∈ xs → b ≤ b' → b' ≤ b + 1 → Sx p b' H2 → Ex (wo p H) H2 → Q v H2
def InR (lo hi : Int) (v : V) : Prop := ∃ n : Int, v = .int n ∧ lo ≤ n ∧ n < hi
def IsS (n : Nat) (v : V) : Prop := ∃ z, v = .str z ∧ z.length ≤ n
/-- draw(stream, top) with a known top -/
theorem dv_draw {i : Nat} {E : XK} {top : Int} (hp : σ[i]? = some (some (.ref p))) (ht : Ev te σ G (.int top)) (h0 : 0 < top) (h1 : top ≤ 1000000) :
    Dv p (tCall spDraw [] E (tCons (tVar i) (tCons te tNil))) σ G 1 (InR 0 top) := fun H1 e b hb hk s Q q =>
  ⟨.ref p, hp, ht H1 e _ fun H2 e2 => by
    refine ⟨p, b, top, rfl, hb, by omega, s.ex e2, h0, h1, fun n H3 n0 n1 s3 e3 => q (.int n) H3 (b + 1) (by omega) (by omega) s3 (fun a o z => e3 a o (wo_mono e2 a o z)) ⟨n, rfl, n0, n1⟩⟩⟩
theorem dv_pick {i : Nat} {E : XK} {Rs : List V → Prop} (hg : G p = none) (hp : σ[i]? = some (some (.ref p))) (h : DvL p te σ G k Rs) (hn : ∀ ys, Rs ys → 0 < ys.length ∧ ys.length ≤ 100000) :
    Dv p (tCall (spPick K) [] E (tCons (tVar i) (tCons te tNil))) σ G (k + 1) (fun v => ∃ ys, Rs ys ∧ v ∈ ys) := fun H1 e b hb hk s Q q =>
  ⟨.ref p, hp, h H1 e b hb (by omega) s _ fun v H2 b2 h1 h2 h3 h4 h5 => by
    obtain ⟨l, ys, rfl, np, nl, hl, ry⟩ := h5
    refine ⟨p, l, b2, ys, rfl, by omega, by omega, h3, np, sq_of hl, (hn ys ry).1, (hn ys ry).2, fun v H3 b3 hv g1 g2 s3 e3 => q v H3 b3 (by omega) (by omega) s3 (wo_trans h4 e3) ⟨ys, ry, hv⟩⟩⟩
theorem dv_pickV {i : Nat} {E : XK} {l : Addr} {ys : List V} (hp : σ[i]? = some (some (.ref p))) (h : Ev te σ G (.ref l)) (np : l ≠ p) (hl : SqL K G l ys) (h0 : 0 < ys.length) (h1 : ys.length ≤ 100000) :
    Dv p (tCall (spPick K) [] E (tCons (tVar i) (tCons te tNil))) σ G 1 (fun v => v ∈ ys) := fun H1 e b hb hk s Q q =>
  ⟨.ref p, hp, h H1 e _ fun H2 e2 => by
    refine ⟨p, l, b, ys, rfl, hb, by omega, s.ex e2, np, ex_l (e.trans e2) hl, h0, h1, fun v H3 b3 hv g1 g2 s3 e3 => q v H3 b3 (by omega) (by omega) s3 (fun a o z => e3 a o (wo_mono e2 a o z)) hv⟩⟩
theorem t_dv {b : Int} {H : Hp} {Q : Bool → Hp → Prop} (h : Dv p te σ G k R) (hR : ∀ v, R v → ∃ c, v = V.bl c) (hg : G p = none) (e : Ex G H) (hb : 0 ≤ b) (hk : b + k ≤ 1000000000) (s : Sx p b H)
    (kk : ∀ c H2 b', b ≤ b' → b' ≤ b + k → Sx p b' H2 → Ex G H2 → Q c H2) : tTest te σ H Q :=
  h H e b hb hk s _ fun v H2 b' h1 h2 h3 h4 h5 => by
    obtain ⟨c, rfl⟩ := hR v h5
    exact ⟨c, rfl, kk c H2 b' h1 h2 h3 (wo_go hg e h4)⟩
theorem t_ev {t : TT} {b : Int} {H : Hp} {c : Bool} {Q : Bool → Hp → Prop} (h : EvT t σ G c) (e : Ex G H) (s : Sx p b H) (kk : ∀ H2, Sx p b H2 → Ex G H2 → Q c H2) : t σ H Q :=
  h H e Q fun H2 e2 => kk H2 (s.ex e2) (e.trans e2)
/-- draws: a comparison with a written number -/
theorem dv_cmp {f : Int → Int → Bool} {top m : Int} {ta : TE} {i : Nat} {E : XK} (hg : G p = none) (hp : σ[i]? = some (some (.ref p))) (ht : Ev ta σ G (.int top)) (h0 : 0 < top) (h1 : top ≤ 1000000) :
    Dv p (tOp (rI0 fun a b => .bl (f a b)) (tCall spDraw [] E (tCons (tVar i) (tCons ta tNil))) (tC (.int m))) σ G 1 (fun v => ∃ c, v = V.bl c) :=
  dv_imp (dv_op (Rz := fun v => ∃ c, v = V.bl c) hg (dv_draw hp ht h0 h1) (dv_ev ev_c) fun x y hx hy => by
    obtain ⟨n, rfl, _⟩ := hx
    cases hy
    exact ⟨_, fun H => rv_I0, _, rfl⟩) (fun _ h => h) (by omega)
theorem dv_eqZ {top m : Int} {ta : TE} {i : Nat} {E : XK} (hg : G p = none) (hp : σ[i]? = some (some (.ref p))) (ht : Ev ta σ G (.int top)) (h0 : 0 < top) (h1 : top ≤ 1000000) :
    Dv p (tOp rEq (tCall spDraw [] E (tCons (tVar i) (tCons ta tNil))) (tC (.int m))) σ G 1 (fun v => ∃ c, v = V.bl c) :=
  dv_imp (dv_op (Rz := fun v => ∃ c, v = V.bl c) hg (dv_draw hp ht h0 h1) (dv_ev ev_c) fun x y hx hy => by
    obtain ⟨n, rfl, _⟩ := hx
    cases hy
    exact ⟨_, fun H => rv_eq rfl, _, rfl⟩) (fun _ h => h) (by omega)
theorem dv_str {z : Str} {m : Nat} (h : Ev te σ G (.str z)) (hz : z.length ≤ m) : Dv p te σ G 0 (IsS m) := dv_imp (dv_ev h) (fun x e => ⟨z, e, hz⟩) (Nat.le_refl _)
theorem dv_addS {m n : Nat} (hg : G p = none) (ha : Dv p ta σ G k (IsS m)) (hb : Dv p tb σ G j (IsS n)) (hz : m + n ≤ 100000) : Dv p (tOp rAddS ta tb) σ G (k + j) (IsS (m + n)) :=
  dv_op hg ha hb fun x y hx hy => by
    obtain ⟨a, rfl, h1⟩ := hx
    obtain ⟨b, rfl, h2⟩ := hy
    exact ⟨_, fun H => rv_addS (by omega), _, rfl, by rw [Str.length_append]; omega⟩
/-! ### comprehensions that draw; joins -/
theorem dvl_lcR {tc : TA} {jj : Nat} {vs : List Nat} {n : Nat} (hg : G p = none) (h : EvA tc σ G [.int (n : Int)]) (hn : n ≤ 1000) (hw : ∀ x, wipe ((wipe σ vs).set jj (some x)) vs = wipe σ vs)
    (he : ∀ i : Nat, i < n → Dv p te ((wipe σ vs).set jj (some (.int (i : Int)))) G k R) : DvL p (tLc (iRng1 tc) (gName jj) tYes te vs) σ G (n * k) (fun ys => ys.length = n ∧ ∀ y ∈ ys, R y) := fun H1 e b hb hk s Q q =>
  h H1 e _ fun H2 e2 => ⟨(n : Int), rfl, by omega, by omega, fun Dl hD => by
    have np : Dl ≠ p := by
      obtain ⟨a, c, hp⟩ := s.ex e2
      exact (ne_of_none hp hD).symm
    refine lc_range (lo := 0) (n := ((n : Int)).toNat) (fun i H3 => ∃ (b3 : Int) (acc : List V), b ≤ b3 ∧ b3 ≤ b + (i * k : Nat) ∧ Sx p b3 H3 ∧ Ex (wo p H2) H3 ∧ H3 Dl = some (.lst acc) ∧ acc.length = i ∧ ∀ y ∈ acc, R y)
      ⟨b, [], Int.le_refl _, by omega, ?_, fun a o z => Ex.new hD a o (wo_ex a o z), upd_same, rfl, fun y hy => by cases hy⟩ ?_ ?_
    · obtain ⟨a, c, hp⟩ := s.ex e2
      exact ⟨a, c, by rw [upd_ne np.symm]; exact hp⟩
    · rintro i H3 hi ⟨b3, acc, h1, h2, h3, h4, h5, h6, h7⟩
      have hi' : i < n := by omega
      have e0 : (0 : Int) + (i : Int) = (i : Int) := Int.zero_add _
      have hkk : (i + 1) * k ≤ n * k := Nat.mul_le_mul_right k hi'
      have hk1 : (i + 1) * k = i * k + k := by rw [Nat.add_mul, Nat.one_mul]
      show wipe ((wipe σ vs).set jj (some (.int ((0 : Int) + (i : Int))))) vs = wipe σ vs ∧ _
      rw [e0]
      refine ⟨hw _, ?_⟩
      show te ((wipe σ vs).set jj (some (.int (i : Int)))) H3 _
      refine he i hi' H3 (fun a o z => h4 a o (by rw [wo_ne (ne_of_none z hg)]; exact (e.trans e2) a o z)) b3 (by omega) (by omega) h3 _ fun v H4 b4 g1 g2 g3 g4 g5 => ?_
      have h5' : H4 Dl = some (.lst acc) := g4 _ _ (by rw [wo_ne np]; exact h5)
      refine ⟨acc, h5', sz_lt (by omega), b4, acc ++ [v], by omega, by omega, ?_, ?_, upd_same, by rw [List.length_append, h6]; rfl, fun y hy => ?_⟩
      · obtain ⟨a, c, hp⟩ := g3
        exact ⟨a, c, by rw [upd_ne np.symm]; exact hp⟩
      · exact fun a o z => by
          have na : a ≠ Dl := by
            intro q2
            rw [q2, wo_ne np, hD] at z
            cases z
          rw [upd_ne na]
          exact wo_trans h4 g4 a o z
      · cases List.mem_append.mp hy with
        | inl hy => exact h7 y hy
        | inr hy => rw [List.mem_singleton.mp hy]; exact g5
    · rintro H3 ⟨b3, acc, h1, h2, h3, h4, h5, h6, h7⟩
      have en : ((n : Int)).toNat = n := Int.toNat_natCast n
      rw [en] at h2 h6
      have hl1 : H1 Dl = none := fresh_back e2 hD
      exact q (.ref Dl) H3 b3 h1 h2 h3 (fun a o z => h4 a o (wo_mono e2 a o z)) ⟨Dl, acc, rfl, np, hl1, h5, h6, h7⟩⟩
/-- the same over range(n), n itself drawn, below m -/
theorem dvl_lcRD {td : TE} {jj : Nat} {vs : List Nat} {m k0 : Nat} (hg : G p = none) (h : Dv p td σ G k0 (InR 1 m)) (hn : m ≤ 1000) (hw : ∀ x, wipe ((wipe σ vs).set jj (some x)) vs = wipe σ vs)
    (he : ∀ i : Nat, i < m → Dv p te ((wipe σ vs).set jj (some (.int (i : Int)))) G k R) : DvL p (tLc (iRng1 (tCons td tNil)) (gName jj) tYes te vs) σ G (k0 + m * k) (fun ys => 0 < ys.length ∧ ys.length < m ∧ ∀ y ∈ ys, R y) := fun H1 e b hb hk s Q q =>
  h H1 e b hb (by omega) s _ fun v H2 b2 h1 h2 h3 h4 h5 => by
    obtain ⟨n0, rfl, n1, n2⟩ := h5
    obtain ⟨n, rfl⟩ : ∃ n : Nat, n0 = (n : Int) := ⟨n0.toNat, by omega⟩
    have hkk : n * k ≤ m * k := Nat.mul_le_mul_right k (by omega)
    have e2 : Ex (wo p H1) H2 := h4
    refine dvl_lcR (G := wo p H2) (σ := σ) (n := n) (k := k) (R := R) (te := te) (jj := jj) (vs := vs) (tc := tCons (tC (.int (n : Int))) tNil) wo_at (ea_cons ev_c ea_nil) (by omega) hw (fun i hi H3 e3 => he i (by omega) H3 (fun a o z => e3 a o (by
      have q2 : a ≠ p := ne_of_none z hg
      rw [wo_ne q2]
      exact h4 a o (by rw [wo_ne q2]; exact e a o z)))) H2 wo_ex b2 (by omega) (by omega) h3 Q fun v3 H3 b3 g1 g2 g3 g4 g5 => ?_
    obtain ⟨l, ys, rfl, np, nl, hl, hn3, hy⟩ := g5
    refine q (.ref l) H3 b3 (by omega) (by omega) g3 (wo_trans h4 g4) ⟨l, ys, rfl, np, ?_, hl, by omega, by omega, hy⟩
    cases z : H1 l with
    | none => rfl
    | some o =>
      rw [h4 l o (by rw [wo_ne np]; exact z)] at nl
      cases nl
theorem q_dvL {D : Ends} {tz : TS} {H : Hp} {b : Int} {i : Nat} {Rs : List V → Prop} (h : DvL p te σ G k Rs) (hg : G p = none) (e : Ex G H) (hb : 0 ≤ b) (hk : b + k ≤ 1000000000) (s : Sx p b H)
    (kk : ∀ l ys H2 b', b ≤ b' → b' ≤ b + k → Sx p b' H2 → Ex G H2 → l ≠ p → H2 l = some (.lst ys) → Rs ys → tz D (σ.set i (some (.ref l))) H2) : tSeq (tAsg te (gName i)) tz D σ H :=
  h H e b hb hk s _ fun v H2 b' h1 h2 h3 h4 h5 => by
    obtain ⟨l, ys, rfl, np, nl, hl, ry⟩ := h5
    exact kk l ys H2 b' h1 h2 h3 (wo_go hg e h4) np hl ry
/-! ### lists of things that are no texts -/
def EvN (K : PySem.W.Frag) (te : TE) (σ : L2.St) (H : Hp) : Prop := ∀ H1, Ex H H1 → ∀ Q : VK, (∀ v H2, Ex H1 H2 → NotS K H2 v → Q v H2) → te σ H1 Q
def EvAN (K : PySem.W.Frag) (ta : TA) (σ : L2.St) (H : Hp) (n : Nat) : Prop := ∀ H1, Ex H H1 → ∀ Q : List V → Hp → Prop, (∀ vs H2, Ex H1 H2 → vs.length = n → (∀ v ∈ vs, NotS K H2 v) → Q vs H2) → ta σ H1 Q
theorem en_ev {H : Hp} (h : Ev te σ H v) (n : ∀ H1 : Hp, NotS K H1 v) : EvN K te σ H := fun H1 e Q q => h H1 e Q fun H2 e2 => q v H2 e2 (n H2)
theorem en_tup {H : Hp} {xs : List V} (h : EvU te σ H xs) : EvN K te σ H := fun H1 e Q q => h H1 e Q fun a H2 ha e2 h2 => q _ H2 e2 (.tup h2)
theorem en_lst {H : Hp} {xs : List V} (h : EvL te σ H xs) : EvN K te σ H := fun H1 e Q q => h H1 e Q fun a H2 ha e2 h2 => q _ H2 e2 (.lst h2)
theorem ean_nil {H : Hp} : EvAN K tNil σ H 0 := fun H1 e Q q => q [] H1 (Ex.refl H1) rfl fun v hv => by cases hv
theorem ean_cons {H : Hp} {tr : TA} {n : Nat} (h : EvN K te σ H) (hr : EvAN K tr σ H n) : EvAN K (tCons te tr) σ H (n + 1) := fun H1 e Q q =>
  h H1 e _ fun v H2 e2 nv => hr H2 (e.trans e2) _ fun vs H3 e3 hl hv => q (v :: vs) H3 (e2.trans e3) (by rw [List.length_cons, hl]) fun y hy => by
    cases List.mem_cons.mp hy with
    | inl e => rw [e]; exact nv.ex e3
    | inr hy => exact hv y hy
theorem en_dict1 {H : Hp} {kx : Str} {y : V} {tk tv : TE} (hk : Ev tk σ H (.str kx)) (hv : Ev tv σ H y) : EvN K (tDisp [(tk, tv)]) σ H := fun H1 e Q q =>
  fun d hd => by
    have e1 : Ex H (upd H1 d (.dK [])) := e.trans (Ex.new hd)
    refine hk _ e1 _ fun H2 e2 => hv H2 (e1.trans e2) _ fun H3 e3 => ?_
    have hd3 : H3 d = some (.dK []) := e3 _ _ (e2 _ _ upd_same)
    refine ⟨hd3, [(Sum.inr kx, y)], rfl, by show 1 ≤ 15; decide, q (.ref d) _ (fun a o z => ?_) (.dic upd_same)⟩
    have na : a ≠ d := ne_of_none z hd
    rw [upd_ne na]
    exact e3 a o (e2 a o (by rw [upd_ne na]; exact z))
theorem NotS.wo {H H' : Hp} {b : Int} (n : NotS K H v) (e : Ex (Gd.wo p H) H') (s : Sx p b H') : NotS K H' v := by
  have at_p : ∀ {a : Addr} {o : HO}, H a = some o → a = p ∨ H' a = some o := fun {a o} h => by
    by_cases q : a = p
    · exact Or.inl q
    · exact Or.inr (e a o (by rw [wo_ne q]; exact h))
  obtain ⟨a0, c0, hp⟩ := s
  cases n with
  | non => exact .non
  | bl b => exact .bl b
  | int i => exact .int i
  | lst h => cases at_p h with | inl q => rw [q]; exact .lst hp | inr h => exact .lst h
  | tup h => cases at_p h with | inl q => rw [q]; exact .lst hp | inr h => exact .tup h
  | dic h => cases at_p h with | inl q => rw [q]; exact .lst hp | inr h => exact .dic h
def rJoin (K : PySem.W.Frag) : V → List V → Hp → VK → Prop := fun x xs H Q => ∃ a p, ∃ ys : List Str, x = .str a ∧ xs = [.ref p] ∧ (SqL K H p (ys.map V.str) ∨ SqT K H p (ys.map V.str)) ∧
      (ys.map (·.length)).sum + ys.length * a.length ≤ 16777216 ∧ Q (.str (Txt.join a ys)) H
theorem texts_of {m : Nat} : ∀ {ys : List V}, (∀ y ∈ ys, IsS m y) → ∃ zs : List Str, ys = zs.map V.str ∧ (zs.map (·.length)).sum ≤ zs.length * m ∧ zs.length = ys.length
  | [], _ => ⟨[], rfl, Nat.zero_le _, rfl⟩
  | y :: ys, h => by
    obtain ⟨z, rfl, hz⟩ := h y List.mem_cons_self
    obtain ⟨zs, e, hs, hl⟩ := texts_of fun x hx => h x (List.mem_cons_of_mem _ hx)
    refine ⟨z :: zs, by rw [e]; rfl, ?_, by rw [List.length_cons, List.length_cons, hl]⟩
    rw [List.map_cons, List.sum_cons, List.length_cons, Nat.add_mul, Nat.one_mul]
    omega
theorem join_le (a : Str) (zs : List Str) : (Txt.join a zs).length ≤ (zs.map (·.length)).sum + zs.length * a.length := by
  rw [join_eq]
  exact PySem.StrLaws.join_length_le a zs
theorem dv_join {z0 : Str} {m n : Nat} (h : DvL p te σ G k (fun ys => ys.length ≤ n ∧ ∀ y ∈ ys, IsS m y)) (hz : n * (m + z0.length) ≤ 100000) : Dv p (tM1 (rJoin K) (tC (.str z0)) te) σ G k (IsS (n * (m + z0.length))) := fun H1 e b hb hk s Q q =>
  ⟨⟨z0, rfl⟩, h H1 e b hb hk s _ fun v H2 b' h1 h2 h3 h4 h5 => by
    obtain ⟨l, ys, rfl, np, nl, hl, hn, hy⟩ := h5
    obtain ⟨zs, e1, hs, hlen⟩ := texts_of hy
    have e2 : zs.length * m + zs.length * z0.length = zs.length * (m + z0.length) := (Nat.mul_add _ _ _).symm
    have e3 : zs.length * (m + z0.length) ≤ n * (m + z0.length) := Nat.mul_le_mul_right _ (by omega)
    have hj := join_le z0 zs
    exact ⟨z0, l, zs, rfl, rfl, Or.inl (sq_of (by rw [← e1]; exact hl)), by omega, q _ H2 b' h1 h2 h3 h4 ⟨_, rfl, by omega⟩⟩⟩
theorem ev_join {H : Hp} {z0 : Str} {zs : List Str} {l : Addr} (h : Ev te σ H (.ref l)) (hl : H l = some (.lst (zs.map V.str))) (hz : (zs.map (·.length)).sum + zs.length * z0.length ≤ 16777216) : Ev (tM1 (rJoin K) (tC (.str z0)) te) σ H (.str (Txt.join z0 zs)) := fun H1 e Q q =>
  ⟨⟨z0, rfl⟩, h H1 e _ fun H2 e2 => ⟨z0, l, zs, rfl, rfl, Or.inl (sq_of ((e.trans e2) _ _ hl)), hz, q H2 e2⟩⟩
theorem ev_joinL {H : Hp} {z0 : Str} {zs : List Str} (h : EvL te σ H (zs.map V.str)) (hz : (zs.map (·.length)).sum + zs.length * z0.length ≤ 16777216) : Ev (tM1 (rJoin K) (tC (.str z0)) te) σ H (.str (Txt.join z0 zs)) := fun H1 e Q q =>
  ⟨⟨z0, rfl⟩, h H1 e _ fun l H2 hl e2 h2 => ⟨z0, l, zs, rfl, rfl, Or.inl (sq_of h2), hz, q H2 e2⟩⟩
def rUpper : V → List V → Hp → VK → Prop := fun x xs H Q => ∃ a, x = .str a ∧ xs = [] ∧ a.length ≤ 5592405 ∧ Q (.str (Txt.upper a)) H
theorem ev_upper {H : Hp} {z : Str} (h : Ev te σ H (.str z)) (hz : z.length ≤ 100000) : Ev (tM0 rUpper te) σ H (.str (Txt.upper z)) := fun H1 e Q q =>
  h H1 e _ fun H2 e2 => ⟨⟨z, rfl⟩, z, rfl, rfl, by omega, q H2 e2⟩
theorem mulOk_of {z : Str} {n : Nat} (hz : z.length ≤ 100) (hn : n ≤ 10000) : MulOk z (n : Int) := by
  refine ⟨?_, fun h1 _ => ?_, fun _ _ => ?_⟩
  · rw [decide_eq_false (by omega), decide_eq_false (by omega)] <;> rfl
  · have h3 : (100 : Int) ≤ ((2 : Int) ^ 63 - 1) / (n : Int) := Int.le_ediv_of_mul_le (by omega) (by omega)
    omega
  · have h4 : z.length * ((n : Int)).toNat ≤ 100 * 10000 := Nat.mul_le_mul hz (by rw [Int.toNat_natCast]; exact hn)
    exact decide_eq_false (by have : (100 * 10000 : Nat) ≤ sizeLine := by decide
                              omega)
theorem mul_len (z : Str) (n : Nat) : (Txt.mul z (n : Int)).length ≤ z.length * n := by
  have fl : ∀ (m : Nat) (acc : Array Nat), ((List.replicate m z.cps).foldl (fun (x1 x2 : Array Nat) => x1 ++ x2) acc).size = acc.size + m * z.cps.size := by
    intro m
    induction m with
    | zero => intro acc; simp
    | succ m ih =>
      intro acc
      rw [List.replicate_succ, List.foldl_cons, ih, Array.size_append, Nat.add_mul, Nat.one_mul]
      omega
  unfold Txt.mul
  split
  · exact Nat.zero_le _
  · split
    · next h1 h2 =>
      have : 1 ≤ n := by omega
      exact Nat.le_mul_of_pos_right _ this
    · show ((List.replicate ((n : Int)).toNat z.cps).foldl (fun (x1 x2 : Array Nat) => x1 ++ x2) #[]).size ≤ _
      rw [fl, Int.toNat_natCast]
      show 0 + n * z.length ≤ z.length * n
      rw [Nat.mul_comm]
      omega
theorem el_slN {H : Hp} {tl th : TO} {xs : List V} {lo hi : Option Int} (h : EvL te σ H xs) (h1 : EvO tl σ H lo) (h2 : EvO th σ H hi) : EvL (tSl (rSlL K) te tl th) σ H (cutV xs lo hi) := fun H1 e Q q =>
  h H1 e _ fun a H2 ha e2 hx => h1 H2 (e.trans e2) _ fun H3 e3 => h2 H3 ((e.trans e2).trans e3) _ fun H4 e4 =>
    ⟨a, xs, rfl, sq_of (e4 _ _ (e3 _ _ hx)), fun p hp => q p _ (fresh_back ((e2.trans e3).trans e4) hp) (((e2.trans e3).trans e4).trans (Ex.new hp)) upd_same⟩
theorem mulOkZ {z : Str} {k : Int} (hz : z.length ≤ 100) (h0 : 0 ≤ k) (h1 : k ≤ 10000) : MulOk z k := by
  obtain ⟨n, rfl⟩ : ∃ n : Nat, k = (n : Int) := ⟨k.toNat, by omega⟩
  exact mulOk_of hz (by omega)
theorem mul_lenZ {z : Str} {k : Int} (h0 : 0 ≤ k) : (Txt.mul z k).length ≤ z.length * k.toNat := by
  obtain ⟨n, rfl⟩ : ∃ n : Nat, k = (n : Int) := ⟨k.toNat, by omega⟩
  rw [Int.toNat_natCast]
  exact mul_len z n
/-- a for over a new tuple -/
theorem s_forNT {D : Ends} {tu : TS} {H : Hp} {xs : List V} {tl : TE} {jj : Nat} (h : EvU tl σ H xs) (Pv : Hp → Nat → L2.St → Hp → Prop) (h0 : ∀ H1, Ex H H1 → Pv H1 0 σ H1) (hx : ∀ H1 i σ' H', Pv H1 i σ' H' → Ex H1 H')
    (hs : ∀ H1, Ex H H1 → ∀ (i : Nat) (x : V) σ' H', xs[i]? = some x → Pv H1 i σ' H' → tu { D with nx := Pv H1 (i + 1), ct := Pv H1 (i + 1), bk := D.nx } (σ'.set jj (some x)) H') (hd : ∀ H1 σ' H', Ex H H1 → Pv H1 xs.length σ' H' → D.nx σ' H') : tFor (iTup K tl) (gName jj) tu D σ H :=
  h H (Ex.refl H) _ fun a H1 ha e1 h1 => ⟨a, rfl, ⟨xs, st_of h1⟩, for_tup (Pv H1) (h0 H1 e1) (fun i σ' H' hi p => st_of (hx H1 i σ' H' p a _ h1)) (hs H1 e1) (fun σ' H' p => hd H1 σ' H' e1 p)⟩
/-- one of some things that are no texts -/
theorem q_pickN {D : Ends} {tz : TS} {H : Hp} {b : Int} {i jj n : Nat} {E : XK} {ta : TA} (hp : σ[i]? = some (some (.ref p))) (h : EvAN K ta σ H n) (h0 : 0 < n) (h1 : n ≤ 100) (hb : 0 ≤ b) (hk : b + 1 ≤ 1000000000) (s : Sx p b H)
    (kk : ∀ v H2 b', b ≤ b' → b' ≤ b + 1 → Sx p b' H2 → Ex (Gd.wo p H) H2 → NotS K H2 v → tz D (σ.set jj (some v)) H2) : tSeq (tAsg (tCall (spPick K) [] E (tCons (tVar i) (tCons (tLst ta) tNil))) (gName jj)) tz D σ H :=
  ⟨.ref p, hp, h H (Ex.refl H) _ fun vs H6 e6 hl hv => ⟨sz_of (by omega), fun l hl6 => by
    have s6 := s.ex e6
    have np : l ≠ p := by
      obtain ⟨_, _, hpp⟩ := s6
      exact (ne_of_none hpp hl6).symm
    refine ⟨p, l, b, vs, rfl, hb, hk, s6.ex (Ex.new hl6), np, sq_of upd_same, by omega, by omega, fun v H7 b7 hv7 b70 b71 s7 e7 => ?_⟩
    exact kk v H7 b7 b70 b71 s7 (fun x o z => e7 x o (wo_mono (e6.trans (Ex.new hl6)) x o z)) (((hv v hv7).ex (Ex.new hl6)).wo e7 s7)⟩⟩
/-- a def that draws and hands back a text -/
def spGive (kk m : Nat) : Sp := fun vs H Q _ => ∃ (p : Addr) (b : Int), vs = [.ref p] ∧ 0 ≤ b ∧ b + kk ≤ 1000000000 ∧ Sx p b H ∧ Cn p H b kk (fun v _ => IsS m v) Q
theorem dv_give {i kk m : Nat} {E : XK} (hp : σ[i]? = some (some (.ref p))) : Dv p (tCall (spGive kk m) [] E (tCons (tVar i) tNil)) σ G kk (IsS m) := fun H1 e b hb hk s Q q =>
  ⟨.ref p, hp, p, b, rfl, hb, hk, s, q⟩
end
end Gd

set_option maxHeartbeats 4000000
namespace M14
open PySem PySem.Spec PyProof.Rows L2 Evl TL Gd
section
variable {K : PySem.W.Frag} {σ : L2.St} {H : Hp} {te : TE}
/-- the parts of an f-string -/
theorem ev_js : ∀ (ts : List TE) (zs : List Str) (acc : Str), Paired (fun (t : TE) (z : Str) => Ev t σ H (.str z)) ts zs → (zs.foldl (fun a z => a ++ z) acc).length ≤ 100000 →
    ∀ H1, Ex H H1 → ∀ Q : Str → Hp → Prop, (∀ H2, Ex H1 H2 → Q (zs.foldl (fun a z => a ++ z) acc) H2) → tJs ts acc σ H1 Q
  | [], [], acc, _, _, H1, e, Q, q => q H1 (Ex.refl H1)
  | t :: ts, z :: zs, acc, .cons h hs, hz, H1, e, Q, q => h H1 e _ fun H2 e2 => ⟨z, rfl, by
      have key : ∀ (l : List Str) (a : Str), a.length ≤ (l.foldl (fun a z => a ++ z) a).length := fun l => by
        induction l with
        | nil => intro a; exact Nat.le_refl _
        | cons y l ih =>
          intro a
          have h1 := ih (a ++ y)
          have h2 := app_len a y
          show a.length ≤ (l.foldl (fun a z => a ++ z) (a ++ y)).length
          omega
      have := key zs (acc ++ z)
      have hz : (zs.foldl (fun a z => a ++ z) (acc ++ z)).length ≤ 100000 := hz
      exact sz_of (by omega), ev_js ts zs (acc ++ z) hs hz H2 (e.trans e2) Q fun H3 e3 => q H3 (e2.trans e3)⟩
theorem ev_joined {ts : List TE} {zs : List Str} {z : Str} (h : Paired (fun (t : TE) (z : Str) => Ev t σ H (.str z)) ts zs) (hz : z.length ≤ 100000) (e : zs.foldl (fun a z => a ++ z) Str.empty = z) : Ev (fun σ H Q => tJs ts Str.empty σ H fun out H1 => Q (.str out) H1) σ H (.str z) := fun H1 e1 Q q =>
  ev_js ts zs Str.empty h (by rw [e]; exact hz) H1 e1 _ fun H2 e2 => by rw [e]; exact q H2 e2
theorem ev_fmtS {z : Str} (h : Ev te σ H (.str z)) (hz : z.length ≤ 100000) : Ev (tFmt te) σ H (.str z) := fun H1 e Q q => h H1 e _ fun H2 e2 => .inl ⟨z, rfl, sz_of hz, q H2 e2⟩
theorem empty_app (z : Str) : Str.empty ++ z = z := by
  obtain ⟨c⟩ := z
  show (⟨#[] ++ c⟩ : Str) = ⟨c⟩
  rw [Array.empty_append]
theorem el_lcT {a : Addr} {xs : List V} {tl te : TE} {tt : TT} {j : Nat} {vs : List Nat} (f : Nat → Bool) (v : Nat → V) (h : Ev tl σ H (.ref a)) (hx : SqT K H a xs) (hz : xs.length ≤ 40000) (hw : ∀ x, wipe ((wipe σ vs).set j (some x)) vs = wipe σ vs)
    (ht : ∀ (i : Nat) (x : V) H1, Ex H H1 → xs[i]? = some x → EvT tt ((wipe σ vs).set j (some x)) H1 (f i)) (he : ∀ (i : Nat) (x : V) H1, Ex H H1 → xs[i]? = some x → f i = true → Ev te ((wipe σ vs).set j (some x)) H1 (v i)) :
    EvL (tLc (iTup K tl) (gName j) tt te vs) σ H (given xs.length f v) := fun H0 e Q q => h H0 e _ fun H1 e1 => ⟨a, rfl, ⟨xs, ex_t (e.trans e1) hx⟩, fun Dl hD =>
  lc_tup (xs := xs) (Cw H1 f v Dl) ⟨hD, Ex.new hD, upd_same⟩ (fun i H' _ p => ex_t ((e.trans e1).trans p.2.1) hx) (fun i x H' hi p => ⟨hw x, cw_turn p (by have := (List.getElem?_eq_some_iff.mp hi).1; omega) (ht i x H1 (e.trans e1) hi) (fun hf => he i x H1 (e.trans e1) hi hf)⟩)
    (fun H' p => q Dl H' (fresh_back e1 p.1) (e1.trans p.2.1) p.2.2)⟩
theorem s_extL {D : Ends} {ta : TE} {l : Addr} {xs ys : List V} (hl : H l = some (.lst xs)) (ha : Ev ta σ H (.ref l)) (h : EvL te σ H ys) (hz : xs.length + ys.length ≤ 100000) (k : ∀ H1, Ex H H1 → D.nx σ (upd H1 l (.lst (xs ++ ys)))) :
    tDrop (tBM K "list" rExtend ta (tCons te tNil)) D σ H := ha H (Ex.refl H) _ fun H1 e1 =>
  ⟨Or.inl ⟨rfl, xs, sq_of (e1 l _ hl)⟩, h H1 e1 _ fun p H2 hp e2 h2 => ⟨l, p, xs, ys, rfl, rfl, e2 l _ (e1 l _ hl), h2, sz_of hz, k H2 (e1.trans e2)⟩⟩
theorem given_str (us : List Str) (f : Nat → Bool) : ∃ zs : List Str, given us.length f (fun i => V.str (us.getD i "")) = zs.map V.str ∧ zs.length ≤ us.length := by
  refine ⟨((List.range us.length).filter f).map (fun i => us.getD i ""), ?_, ?_⟩
  · unfold given
    rw [List.map_map]
    rfl
  · rw [List.length_map]
    have h := List.length_filter_le f (List.range us.length)
    rw [List.length_range] at h
    exact h
end
section
variable {P : Program} {w : World} {K : PySem.W.Frag} {mg : Str → Option Value} {base : Heap} {CT gT gU fL fS : Addr}

/-! ### _in_brackets -/
def N_in_brackets : List Str := ["self", "text", "many", "depth"]
abbrev s_Tree__in_brackets : Stmt := inClass (top 29) 12
theorem sc_Tree__in_brackets : FnScope N_in_brackets ["self"] (defScope s_Tree__in_brackets) := ⟨rfl, rfl, rfl, by decide +kernel, rfl, by decide +kernel, by decide +kernel⟩
theorem q_unpT {K : PySem.W.Frag} {σ : L2.St} {H : Hp} {te : TE} {D : Ends} {tz : TS} {i j k : Nat} {p : Addr} {a b c : V} (h : Ev te σ H (.ref p)) (hp : H p = some (.tup [a, b, c])) (kk : ∀ H1, Ex H H1 → tz D (((σ.set i (some a)).set j (some b)).set k (some c)) H1) :
    tSeq (tAsg te (gTup K 3 (gCons (gName i) (gCons (gName j) (gCons (gName k) gNil))))) tz D σ H := h H (Ex.refl H) _ fun H1 e => ⟨p, [a, b, c], rfl, st_of (e _ _ hp), rfl, a, [b, c], rfl, b, [c], rfl, c, [], rfl, rfl, kk H1 e⟩
theorem ok_brackets {f : Addr} {fd : FuncData} (F : Fun K "_in_brackets" "Tree._in_brackets" s_Tree__in_brackets f fd) : FnOk P w K mg base CX0 1 f fd ["self"] (spBr (CS K CT gT gU fL fS)) := by
  refine F.ok sc_Tree__in_brackets (fun vs H Q E h => ?_) (fun cdv A outer s H vs Q E hr h => ?_)
  · obtain ⟨a, t, rfl, _⟩ := h
    rfl
  · obtain ⟨a, t, rfl, r, k⟩ := h
    refine ⟨_, (pss_cons (ps_asg (pe_fld (pv 0) rfl) (pg_tup rfl (pgs_cons (pg_name (i := 1) sc_Tree__in_brackets.nd rfl (Or.inl rfl)) (pgs_cons (pg_name (i := 2) sc_Tree__in_brackets.nd rfl (Or.inl rfl)) (pgs_cons (pg_name (i := 3) sc_Tree__in_brackets.nd rfl (Or.inl rfl)) pgs_nil)))))
  (pss_one (ps_ret (pe_tup (pa_cons (pe_joined (.cons pe_str (.cons (pe_fmt (pv 1)) (.cons pe_str .nil)))) (pa_cons (pe_op op_add (pv 2) pe_int) (pa_cons (pe_op op_add (pv 3) pe_int) pa_nil))))))), ?_⟩
    have tl3 : t.text.length ≤ 30 * 200 := Nat.le_trans r.ok.2.2.1 (Nat.mul_le_mul_left _ r.ok.1)
    obtain ⟨sh, hp, ev⟩ := ev_shownF (te := tVar 0) (σ := L2.start N_in_brackets [.ref a]) (ev_var rfl) r
    refine q_unpT ev hp fun H1 e1 => ?_
    refine k_tup (k_cons (ev_joined (z := (("(" : Str) ++ t.text) ++ (")" : Str)) (.cons ev_c (.cons (ev_fmtS (ev_var rfl) (by omega)) (.cons ev_c .nil))) (by rw [app_len, app_len, show (("(" : Str)).length = 1 from rfl, show ((")" : Str)).length = 1 from rfl]; omega) (by show ((Str.empty ++ ("(" : Str)) ++ t.text) ++ (")" : Str) = _; rw [empty_app])) fun H2 e2 => k_cons (ev_op (ev_var rfl) ev_c rv_I0) fun H3 e3 => k_cons (ev_op (ev_var rfl) ev_c rv_I0) fun H4 e4 => k_nil ⟨show 3 ≤ sizeLine from sz_of (by decide), fun p np => k p _ ((((e1.trans e2).trans e3).trans e4).trans (Ex.new np)) ?_⟩)
    have h2 := shw2 true t
    have hl : ((shw true t).2.1.length : Int) = (t.toks.length : Int) + 2 := by
      rw [h2]
      show ((t.toks.length + 2 * 1 : Nat) : Int) = _
      omega
    rw [hl, upd_same]
    rfl

/-! ### _used_by_both -/
theorem str_eqv (a b : Str) : PyData.eqv (.str a) (.str b) = (a == b) := by rw [PyData.eqv]
def strD (us : List Str) : PyData := .tuple (us.map PyData.str)
theorem dp_strs {H : Hp} : ∀ us : List Str, DpAll K H (us.map V.str) (us.map PyData.str)
  | [] => .nil
  | u :: us => .cons (.str u) (dp_strs us)
theorem lay_strs : ∀ us : List Str, (∀ z ∈ us, PyData.canLay0 (.str z) = true) → PyData.canLayAll0 (us.map PyData.str) = true ∧ PyData.depthAll (us.map PyData.str) ≤ 1
  | [], _ => ⟨rfl, Nat.zero_le _⟩
  | u :: us, h => by
    obtain ⟨h1, h2⟩ := lay_strs us fun z hz => h z (List.mem_cons_of_mem _ hz)
    refine ⟨by rw [List.map_cons, PyData.canLayAll0, h u List.mem_cons_self, h1]; rfl, ?_⟩
    rw [List.map_cons, PyData.depthAll]
    refine Nat.max_le.mpr ⟨?_, h2⟩
    simp [PyData.depth]
theorem strD_shaped {us : List Str} (h : ∀ z ∈ us, PyData.canLay0 (.str z) = true) : SeqAt.shaped (strD us) = true := by
  obtain ⟨h1, h2⟩ := lay_strs us h
  unfold SeqAt.shaped strD
  rw [PyData.canLay0, h1, Bool.true_and, PyData.depth]
  exact decide_eq_true (by omega)
theorem strD_eqv (us : List Str) : PyData.eqv (strD us) (strD []) = decide (us = []) := by
  cases us with
  | nil => rfl
  | cons u us =>
    unfold strD
    rw [List.map_cons, List.map_nil]
    have : PyData.eqv (.tuple (PyData.str u :: us.map PyData.str)) (.tuple []) = false := by simp only [PyData.eqv, PyData.eqvAll]
    rw [this]
    exact (decide_eq_false (by simp)).symm
theorem flat_strs' (l : List Str) : (l.map V.str).all flatV = true := by
  rw [List.all_map]
  exact List.all_eq_true.mpr fun _ _ => rfl
def N_used_by_both : List Str := ["names", "others", "name"]
abbrev s_used_by_both : Stmt := top 34
theorem sc_used_by_both : FnScope N_used_by_both ["names", "others"] (defScope s_used_by_both) := ⟨rfl, rfl, rfl, by decide +kernel, rfl, by decide +kernel, by decide +kernel⟩
def CanL (us : List Str) : Prop := ∀ z ∈ us, PyData.canLay0 (.str z) = true
def spUb : Sp := fun vs H Q _ => ∃ (u v : Addr) (us ws : List Str), vs = [.ref u, .ref v] ∧ H u = some (.tup (us.map V.str)) ∧ H v = some (.tup (ws.map V.str)) ∧ us.length ≤ 400 ∧ ws.length ≤ 400 ∧ CanL us ∧ CanL ws ∧
  ∀ (z : Addr) (zs : List Str) H2, Ex H H2 → H2 z = some (.tup (zs.map V.str)) → zs.length ≤ us.length + ws.length → CanL zs → Q (.ref z) H2
theorem given_strC (us : List Str) (f : Nat → Bool) (h : CanL us) : ∃ zs : List Str, given us.length f (fun i => V.str (us.getD i "")) = zs.map V.str ∧ zs.length ≤ us.length ∧ CanL zs := by
  refine ⟨((List.range us.length).filter f).map (fun i => us.getD i ""), ?_, ?_, ?_⟩
  · unfold given
    rw [List.map_map]
    rfl
  · rw [List.length_map]
    have h := List.length_filter_le f (List.range us.length)
    rw [List.length_range] at h
    exact h
  · intro z hz
    obtain ⟨i, hi, rfl⟩ := List.mem_map.mp hz
    have hl := List.mem_range.mp (List.mem_filter.mp hi).1
    rw [List.getD_eq_getElem?_getD, List.getElem?_eq_getElem hl]
    exact h _ (List.getElem_mem hl)
theorem ok_used_by_both {f : Addr} {fd : FuncData} (F : Fun K "_used_by_both" "_used_by_both" s_used_by_both f fd) (T : Tx K mg) : FnOk P w K mg base CX0 1 f fd ["names", "others"] spUb := by
  refine F.ok sc_used_by_both (fun vs H Q E h => ?_) (fun cdv A outer s H vs Q E hr h => ?_)
  · obtain ⟨u, v, us, ws, rfl, _⟩ := h
    rfl
  · obtain ⟨u, v, us, ws, rfl, hu, hv, lu, lw, cu, cw, k⟩ := h
    refine ⟨_, (pss_cons (ps_if (pt_cmpR (op_eqD hr.units) (pv 1) (pe_tup pa_nil) (nomark _))
    (pss_one (ps_ret (pv 0)))
    pss_nil)
  (pss_one (ps_ret (pe_op op_catA (pv 0) (pe_callTy call_tuple_of (by rfl) T.b_tuple (by decide +kernel) (pa_cons (pe_lc (own := [("name", 2)]) (g := gName 2) rfl sc_used_by_both.nd (pi_tup (pv 1)) (blkOk_by (N := N_used_by_both) (sc := defScope s_used_by_both) (by decide +kernel)) (fun _ _ _ _ _ => pg_name (i := 2) sc_used_by_both.nd rfl (Or.inl rfl)) (fun _ _ _ _ _ => pts_one (pt_cmpR (show OpR _ _ (rIn K true) from op_notIn_seq) (pv 2) (pv 0) rfl)) (fun _ _ _ _ _ => (pv 2))) pa_nil)))))), ?_⟩
    refine q_when (b := decide (ws = [])) (et_B (fun H1 e Q q => k_op (ev_var rfl) fun H2 e2 => k_tup (k_nil ⟨Nat.zero_le _, fun t nt => ⟨strD ws, strD [], .tup (st_of (((e.trans e2).trans (Ex.new nt)) _ _ hv)) (dp_strs ws), .tup (st_of upd_same) .nil, strD_shaped cw, strD_shaped (fun _ h => nomatch h), by rw [strD_eqv]; exact q _ (e2.trans (Ex.new nt))⟩⟩))) (fun hb H1 e1 => ?_) (fun hb H1 e1 => ?_)
    · exact s_ret (ev_var rfl) fun H2 e2 => k u us H2 (e1.trans e2) ((e1.trans e2) _ _ hu) (Nat.le_add_right _ _) cu
    · obtain ⟨zs, hz, hzl, hzc⟩ := given_strC ws (fun i => !inV (.str (ws.getD i "")) (us.map V.str)) cw
      have el : EvL (tLc (iTup K (tVar 1)) (gName 2) (tB (tOp (rIn K true) (tVar 2) (tVar 0))) (tVar 2) [2]) [some (.ref u), some (.ref v), none] H1 (zs.map V.str) := by
        rw [← hz]
        have el := el_lcT (K := K) (σ := [some (.ref u), some (.ref v), none]) (H := H1) (te := tVar 2) (tl := tVar 1) (tt := tB (tOp (rIn K true) (tVar 2) (tVar 0))) (j := 2) (vs := [2]) (fun i => !inV (.str (ws.getD i "")) (us.map V.str)) (fun i => V.str (ws.getD i "")) (ev_var rfl) (st_of (e1 _ _ hv)) (by rw [List.length_map]; omega) (fun _ => rfl) (fun i x H2 e2 hx => ?_) (fun i x H2 e2 hx _ => ?_)
        · rw [List.length_map] at el
          exact el
        all_goals
          rw [List.getElem?_map] at hx
          cases hy : ws[i]? with
          | none => rw [hy] at hx; cases hx
          | some y =>
            rw [hy] at hx
            cases hx
            rw [List.getD_eq_getElem?_getD, hy]
            first
            | exact et_B (ev_op (ev_var rfl) (ev_var rfl) (rv_niT (st_of ((e1.trans e2) _ _ hu)) rfl (flat_strs' us)))
            | exact ev_var rfl
      refine k_op (ev_var rfl) fun H2 e2 => k_cb (k_consL (el_mono e2 el) fun l H3 nl e3 hl => k_nil ⟨l, _, rfl, .inl ⟨sq_of hl, fun t nt => ?_⟩⟩)
      have e4 := (e1.trans e2).trans e3
      have et := Ex.new (o := .tup (zs.map V.str)) nt
      refine ⟨u, t, _, _, rfl, rfl, st_of ((e4.trans et) _ _ hu), st_of upd_same, by rw [List.length_map, List.length_map]; exact sz_of (by omega), fun h0 => ?_, fun _ h0 => ?_, fun _ _ z nz => ?_⟩
      · exact k t zs _ (e4.trans et) upd_same (by omega) hzc
      · exact k u us _ (e4.trans et) ((e4.trans et) _ _ hu) (Nat.le_add_right _ _) cu
      · refine k z (us ++ zs) _ ((e4.trans et).trans (Ex.new nz)) (by rw [upd_same, List.map_append]) (by rw [List.length_append]; omega) fun y hy => (List.mem_append.mp hy).elim (cu y) (hzc y)
end
end M14

set_option maxHeartbeats 4000000
namespace M14
open PySem PySem.Spec PyProof.Rows L2 Evl TL Gd
section
variable {K : PySem.W.Frag} {σ : L2.St} {G H : Hp} {tv : TE} {D : Ends} {tz : TS} {x C dx : Addr} {fs : List (Str × V)} {f : Str} {v : V} {i : Nat}
/-- self.f = e, self at x out of the base G -/
theorem s_self (hx : G x = none) (e : Ex G H) (hH : H x = some (.ins C dx fs)) (hσ : σ[i]? = some (some (.ref x))) (h : Ev tv σ G v) (c : Cls K C) (n : NoAttr K C f) (hl : fs.length < 900) (k : ∀ H', Ex G H' → H' x = some (.ins C dx (putF f v fs)) → D.nx σ H') : sFld K (tVar i) tv f D σ H :=
  h H e _ fun H2 e2 => ⟨.ref x, hσ, x, C, dx, fs, rfl, e2 _ _ hH, c, n, Nat.lt_trans hl (by decide), k _ (Ex.mut (e.trans e2) hx) upd_same⟩
theorem q_self (hx : G x = none) (e : Ex G H) (hH : H x = some (.ins C dx fs)) (hσ : σ[i]? = some (some (.ref x))) (h : Ev tv σ G v) (c : Cls K C) (n : NoAttr K C f) (hl : fs.length < 900) (k : ∀ H', Ex G H' → H' x = some (.ins C dx (putF f v fs)) → tz D σ H') : tSeq (sFld K (tVar i) tv f) tz D σ H :=
  s_self (D := { D with nx := tz D }) hx e hH hσ h c n hl k
theorem s_selfP {P : V → Hp → Prop} (hx : G x = none) (e : Ex G H) (hH : H x = some (.ins C dx fs)) (hσ : σ[i]? = some (some (.ref x))) (h : EvP tv σ G P) (c : Cls K C) (n : NoAttr K C f) (hl : fs.length < 900) (k : ∀ v H2 H', Ex G H2 → H2 x = some (.ins C dx fs) → P v H2 → H' = upd H2 x (.ins C dx (putF f v fs)) → Ex G H' → H' x = some (.ins C dx (putF f v fs)) → D.nx σ H') : sFld K (tVar i) tv f D σ H :=
  h H e _ fun v H2 e2 p => ⟨.ref x, hσ, x, C, dx, fs, rfl, e2 _ _ hH, c, n, Nat.lt_trans hl (by decide), k v H2 _ (e.trans e2) (e2 _ _ hH) p rfl (Ex.mut (e.trans e2) hx) upd_same⟩
end
def FS5 (t h b l u : V) : List (Str × V) := putF "_used" u (putF "_level" l (putF "_branches" b (putF "_shown" h (putF "_text" t []))))
def TFS (fs : List (Str × V)) (t h l u : V) : Prop := fs.lookup ("_text" : Str) = some t ∧ fs.lookup ("_shown" : Str) = some h ∧ fs.lookup ("_level" : Str) = some l ∧ fs.lookup ("_used" : Str) = some u ∧ fs.length ≤ 20 ∧ ∀ m ∈ METHS, fs.lookup m = none
theorem putF_len (f : Str) (v : V) : ∀ fs : List (Str × V), (putF f v fs).length ≤ fs.length + 1
  | [] => Nat.le_refl _
  | (g, x) :: r => by
    show (if g = f then (g, v) :: r else (g, x) :: putF f v r).length ≤ _
    split
    · exact Nat.le_succ _
    · have := putF_len f v r
      show (putF f v r).length + 1 ≤ r.length + 1 + 1
      omega
theorem meths_ne (f : Str) (h : METHS.all (fun m => !decide (m = f)) = true) {m : Str} (hm : m ∈ METHS) : m ≠ f := by
  have := List.all_eq_true.mp h m hm
  simpa using this
theorem fs5_len (t h b l u : V) : (FS5 t h b l u).length ≤ 5 := by
  unfold FS5
  have a1 := putF_len "_text" t []
  have a2 := putF_len "_shown" h (putF "_text" t [])
  have a4 := putF_len "_branches" b (putF "_shown" h (putF "_text" t []))
  have a5 := putF_len "_level" l (putF "_branches" b (putF "_shown" h (putF "_text" t [])))
  have a6 := putF_len "_used" u (putF "_level" l (putF "_branches" b (putF "_shown" h (putF "_text" t []))))
  simp only [List.length_nil] at a1
  omega
theorem fs5 (t h b l u : V) : TFS (FS5 t h b l u) t h l u := by
  refine ⟨?_, ?_, ?_, ?_, by have := fs5_len t h b l u; omega, fun m hm => ?_⟩
  all_goals unfold FS5
  · simp only [lookup_putF]
    rw [if_neg (by decide +kernel), if_neg (by decide +kernel), if_neg (by decide +kernel), if_neg (by decide +kernel), if_pos trivial]
  · simp only [lookup_putF]
    rw [if_neg (by decide +kernel), if_neg (by decide +kernel), if_neg (by decide +kernel), if_pos trivial]
  · simp only [lookup_putF]
    rw [if_neg (by decide +kernel), if_pos trivial]
  · simp only [lookup_putF]
    rw [if_pos trivial]
  · simp only [lookup_putF]
    rw [if_neg (meths_ne _ (by decide +kernel) hm), if_neg (meths_ne _ (by decide +kernel) hm), if_neg (meths_ne _ (by decide +kernel) hm), if_neg (meths_ne _ (by decide +kernel) hm), if_neg (meths_ne _ (by decide +kernel) hm)]
    rfl
/-- a further field -/
theorem TFS.put {fs : List (Str × V)} {t hh l u v : V} {f : Str} (h : TFS fs t hh l u) (hl : fs.length ≤ 10) (nf : (["_text", "_shown", "_level", "_used"] : List Str).all (fun m => !decide (m = f)) = true) (nm : METHS.all (fun m => !decide (m = f)) = true) : TFS (putF f v fs) t hh l u := by
  obtain ⟨h1, h2, h4, h5, h6, h7⟩ := h
  have ne : ∀ m ∈ (["_text", "_shown", "_level", "_used"] : List Str), m ≠ f := fun m hm => by
    have := List.all_eq_true.mp nf m hm
    simpa using this
  refine ⟨?_, ?_, ?_, ?_, ?_, fun m hm => ?_⟩
  · rw [lookup_putF, if_neg (ne _ (by simp))]
    exact h1
  · rw [lookup_putF, if_neg (ne _ (by simp))]
    exact h2
  · rw [lookup_putF, if_neg (ne _ (by simp))]
    exact h4
  · rw [lookup_putF, if_neg (ne _ (by simp))]
    exact h5
  · have := putF_len f v fs
    omega
  · rw [lookup_putF, if_neg (meths_ne _ nm hm)]
    exact h7 m hm
theorem TFS.rep {CS : Addr → Prop} {H : Hp} {C dx x sh u : Addr} {fs : List (Str × V)} {t : Tr} {us : List Str} (h : TFS fs (.str t.text) (.ref sh) (.int (t.level : Int)) (.ref u)) (c : CS C) (hx : H x = some (.ins C dx fs)) (hp : H sh = some (.tup [.str t.text, .int (t.toks.length : Int), .int (t.depth : Int)]))
    (hu : H u = some (.tup (us.map V.str))) (hul : us.length ≤ t.toks.length) (huc : CanL us) (ok : TrOk 200 20 t) : TRep CS H x t :=
  ⟨⟨C, dx, fs, sh, u, us, c, hx, h.1, h.2.1, hp, h.2.2.1, h.2.2.2.1, hu, hul, huc, h.2.2.2.2.2⟩, ok⟩
section
variable {P : Program} {w : World} {K : PySem.W.Frag} {mg : Str → Option Value} {base : Heap} {CT gT gU fL fS : Addr}
/-! ### Tree.__init__ -/
def N_Tree___init : List Str := ["self", "shown", "branches", "level", "used", "text", "many", "depth"]
abbrev s_Tree___init : Stmt := inClass (top 29) 0
theorem sc_Tree___init : FnScope N_Tree___init ["self", "shown", "branches", "level", "used"] (defScope s_Tree___init) := ⟨rfl, rfl, rfl, by decide +kernel, rfl, by decide +kernel, by decide +kernel⟩
def spTreeI (CS : Addr → Prop) : Sp := fun vs H Q _ => ∃ (x C dx sh u : Addr) (bv : V) (t : Tr), vs = [.ref x, .ref sh, bv, .int (t.level : Int), .ref u] ∧ H x = some (.ins C dx []) ∧ CS C ∧
  wo x H sh = some (.tup [.str t.text, .int (t.toks.length : Int), .int (t.depth : Int)]) ∧ TrOk 200 20 t ∧
  ∀ H2, Ex (wo x H) H2 → H2 x = some (.ins C dx (FS5 (.str t.text) (.ref sh) bv (.int (t.level : Int)) (.ref u))) → Q .non H2
theorem ok_Tree_init {f : Addr} {fd : FuncData} (F : Fun K "__init__" "Tree.__init__" s_Tree___init f fd) (T : Tx K mg) : FnOk P w K mg base CX0 4 f fd ["self", "shown", "branches", "level", "used"] (spTreeI (CS K CT gT gU fL fS)) := by
  refine F.ok sc_Tree___init (fun vs H Q E h => ?_) (fun cdv A outer s H vs Q E hr h => ?_)
  · obtain ⟨x, C, dx, sh, u, bv, t, rfl, _⟩ := h
    rfl
  · obtain ⟨x, C, dx, sh, u, bv, t, rfl, hx, c, hp, ok, k⟩ := h
    obtain ⟨_, g_MOST_TOKENS⟩ := T.g_MOST_TOKENS
    obtain ⟨_, g_MOST_DEPTH⟩ := T.g_MOST_DEPTH
    refine ⟨_, (pss_cons (ps_asg (pv 1) (pg_tup rfl (pgs_cons (pg_name (i := 5) sc_Tree___init.nd rfl (Or.inl rfl)) (pgs_cons (pg_name (i := 6) sc_Tree___init.nd rfl (Or.inl rfl)) (pgs_cons (pg_name (i := 7) sc_Tree___init.nd rfl (Or.inl rfl)) pgs_nil)))))
  (pss_cons (ps_if (pt_cmpR op_gt (pv 6) (pe_gI rfl g_MOST_TOKENS) (nomark _))
    pss_never
    pss_nil)
  (pss_cons (ps_if (pt_cmpR op_gt (pv 7) (pe_gI rfl g_MOST_DEPTH) (nomark _))
    pss_never
    pss_nil)
  (pss_cons (ps_fld (pv 0) (pv 5) rfl)
  (pss_cons (ps_fld (pv 0) (pv 1) rfl)
  (pss_cons (ps_fld (pv 0) (pv 2) rfl)
  (pss_cons (ps_fld (pv 0) (pv 3) rfl)
  (pss_one (ps_fld (pv 0) (pv 4) rfl))))))))), ?_⟩
    have e0 : Ex (wo x H) H := wo_ex
    have nx : wo x H x = none := wo_at
    refine q_unpT (ev_var rfl) (e0 _ _ hp) fun H0 e00 => ?_
    refine q_when (b := decide ((t.toks.length : Int) > 200)) (et_B (ev_op (ev_var rfl) ev_c rv_I0)) (fun hh => ?_) (fun _ H1 e1 => ?_)
    · have := ok.1
      have z := of_decide_eq_true hh
      omega
    refine q_when (b := decide ((t.depth : Int) > 20)) (et_B (ev_op (ev_var rfl) ev_c rv_I0)) (fun hh => ?_) (fun _ H2 e2 => ?_)
    · have := ok.2.1
      have z := of_decide_eq_true hh
      omega
    have hx2 := e2 _ _ (e1 _ _ (e00 _ _ hx))
    have a1 := putF_len "_text" (.str t.text) []
    have a2 := putF_len "_shown" (.ref sh) (putF "_text" (.str t.text) [])
    have a4 := putF_len "_branches" bv (putF "_shown" (.ref sh) (putF "_text" (.str t.text) []))
    have a5 := putF_len "_level" (.int (t.level : Int)) (putF "_branches" bv (putF "_shown" (.ref sh) (putF "_text" (.str t.text) [])))
    simp only [List.length_nil] at a1
    refine q_self nx (e0.trans (e00.trans (e1.trans e2))) hx2 rfl (ev_var rfl) c.cls (c.no _ (mem_fld _)) (by decide) fun H3 e3 hx3 => ?_
    refine q_self nx e3 hx3 rfl (ev_var rfl) c.cls (c.no _ (mem_fld _)) (by omega) fun H4 e4 hx4 => ?_
    refine q_self nx e4 hx4 rfl (ev_var rfl) c.cls (c.no _ (mem_fld _)) (by omega) fun H5 e5 hx5 => ?_
    refine q_self nx e5 hx5 rfl (ev_var rfl) c.cls (c.no _ (mem_fld _)) (by omega) fun H6 e6 hx6 => ?_
    exact s_self nx e6 hx6 rfl (ev_var rfl) c.cls (c.no _ (mem_fld _)) (by omega) fun H7 e7 hx7 => k H7 e7 hx7
end
end M14

set_option maxHeartbeats 4000000
namespace M14
open PySem PySem.Spec PyProof.Rows L2 Evl TL Gd

/-- a method that closes over its class D (cell cc, code object cda) -/
structure FunS (K : PySem.W.Frag) (x qual : Str) (st : Stmt) (f : Addr) (fd : FuncData) (cda cc D : Addr) : Prop where
  ex : ∃ (oc : Value) (od : Option Addr) (kV doc pm : Value) (an : Option Addr) (ct : Value) (osl : Array (Option Value)) (cl : Value) (cld : Option Addr) (csl : Array (Option Value)),
    fd = PySem.W.ksFn x qual (defArgs st) (defBody st) (defScope st) .none kV doc pm an (.ref cda) ct cc ∧ K.lookup f = some ⟨oc, od, .func fd, osl⟩ ∧ PySem.W.codeIn K (.ref cda) qual = true ∧ K.lookup cc = some ⟨cl, cld, .cell (some (.ref D)), csl⟩
theorem FunS.ok {P : Program} {w : World} {K : PySem.W.Frag} {mg : Str → Option Value} {base : Heap} {x qual : Str} {st : Stmt} {f : Addr} {fd : FuncData} {cda cc D : Addr} {N ps : List Str} {k : Nat} {sp : Sp} (F : FunS K x qual st f fd cda cc D) (S : SupScope N ps (defScope st)) (len : ∀ vs H Q E, sp vs H Q E → vs.length = ps.length)
    (hbody : ∀ (A : Around) (outer : List Env) (s : Shared) (H : Hp) (vs : List V) (Q : VK) (E : XK), Room k (A.deeper (PySem.W.ksEnv qual (defScope st) s.heap.objs.size f (.ref cda) cc)) → sp vs H Q E →
      ∃ t, PSA (supCx CX0 P w K mg base N qual (defScope st) f (.ref cda) cc A outer s H E) (.func (defBody st) (PySem.W.ksEnv qual (defScope st) s.heap.objs.size f (.ref cda) cc)) (defBody st) t ∧ t { nx := fun _ H' => Q .non H', rt := Q } (L2.start N vs) H) : FnOk P w K mg base CX0 (k + 1) f fd ps sp := by
  obtain ⟨oc, od, kV, doc, pm, an, ct, osl, cl, cld, csl, rfl, lk, hcd, hcc⟩ := F.ex
  exact ok_super lk hcd hcc S len hbody

section
variable {σ : L2.St} {G Hc : Hp} {D : Ends} {uu : TS} {x C dx : Addr} {ta : TA} {CS : Addr → Prop} {E : XK}
theorem q_supT {t : Tr} (hx : Hc x = some (.ins C dx [])) (hσ : σ[0]? = some (some (.ref x))) (c : CS C) (ok : TrOk 200 20 t)
    (h : EvAP ta σ (wo x Hc) (fun vs H1 => ∃ sh bv u us, vs = [.ref sh, bv, .int (t.level : Int), .ref u] ∧ H1 sh = some (.tup [.str t.text, .int (t.toks.length : Int), .int (t.depth : Int)]) ∧ H1 u = some (.tup (us.map V.str)) ∧ us.length ≤ t.toks.length ∧ CanL us))
    (k : ∀ (sh u : Addr) (bv : V) (us : List Str) H3, Ex (wo x Hc) H3 → H3 x = some (.ins C dx (FS5 (.str t.text) (.ref sh) bv (.int (t.level : Int)) (.ref u))) → H3 sh = some (.tup [.str t.text, .int (t.toks.length : Int), .int (t.depth : Int)]) → H3 u = some (.tup (us.map V.str)) → us.length ≤ t.toks.length → CanL us → sh ≠ x → u ≠ x → uu D σ H3) :
    tSup C (spTreeI CS) [] E ta uu D σ Hc :=
  ⟨x, dx, [], hσ, hx, h Hc wo_ex _ fun vs H1 e r => by
    obtain ⟨sh, bv, u, us, rfl, hp, hu, hul, huc⟩ := r
    have hx1 := e _ _ hx
    have nsh : sh ≠ x := fun z => by rw [z, hx1] at hp; cases hp
    have nu : u ≠ x := fun z => by rw [z, hx1] at hu; cases hu
    exact ⟨x, C, dx, sh, u, bv, t, rfl, hx1, c, by rw [wo_ne nsh]; exact hp, ok, fun H3 e3 hx3 =>
      k sh u bv us H3 ((wo_mono e).trans e3) hx3 (e3 _ _ (by rw [wo_ne nsh]; exact hp)) (e3 _ _ (by rw [wo_ne nu]; exact hu)) hul huc nsh nu⟩⟩
theorem canl_nil : CanL [] := fun _ h => nomatch h
theorem canl_one {z : Str} (h : PyData.canLay0 (.str z) = true) : CanL [z] := fun y hy => by rw [List.mem_singleton.mp hy]; exact h
end
section
variable {σ : L2.St} {G : Hp} {te : TE}
def rStrI : List V → Hp → VK → Prop := fun xs H Q => ∃ i : Int, xs = [.int i] ∧ i.natAbs.log2 < 1920 ∧ Q (.str (toString i)) H
theorem log_small {n : Nat} (h : n ≤ 2 ^ 64) : ((n : Int)).natAbs.log2 < 1920 := by
  rw [Int.natAbs_natCast]
  rcases Nat.eq_zero_or_pos n with z | z
  · rw [z]
    decide
  · exact (Nat.log2_lt (by omega)).mpr (Nat.lt_of_le_of_lt h (Nat.pow_lt_pow_right (by decide) (by decide)))
theorem ev_strI {n : Nat} (h : Ev te σ G (.int (n : Int))) (hn : n ≤ 2 ^ 64) : Ev (tCB rStrI (tCons te tNil)) σ G (.str (numS n)) :=
  ev_cb (ea_cons h ea_nil) fun H1 e Q q => ⟨_, rfl, log_small hn, q H1 (Ex.refl H1)⟩
end
section
variable {P : Program} {w : World} {K : PySem.W.Frag} {mg : Str → Option Value} {base : Heap} {CT gT gU fL fS : Addr}
def spMade (CS : Addr → Prop) (C : Addr) (ok : List V → Hp → Tr → Prop) : Sp := fun vs H Q _ => ∃ (x dx : Addr) (us : List V) (t : Tr), vs = .ref x :: us ∧ H x = some (.ins C dx []) ∧ ok us (wo x H) t ∧ ∀ H2, Ex (wo x H) H2 → TRep CS H2 x t → Q .non H2
def okNum (us : List V) (_ : Hp) (t : Tr) : Prop := ∃ n : Nat, us = [.int (n : Int)] ∧ n ≤ 2 ^ 64 ∧ t = trN n ∧ TrOk 200 20 t
def okNam (us : List V) (_ : Hp) (t : Tr) : Prop := ∃ s : Str, us = [.str s] ∧ usedB s = true ∧ decide (V.str s = V.str ("mod" : Str)) = false ∧ s.length ≤ 30000 ∧ PyData.canLay0 (.str s) = true ∧ t = trA s ∧ TrOk 200 20 t
def okSig (CS : Addr → Prop) (us : List V) (G : Hp) (t : Tr) : Prop := ∃ (s : Str) (a : Addr) (ti : Tr), us = [.str s, .ref a] ∧ s ∈ SGS ∧ TRep CS G a ti ∧ t = trS s ti ∧ TrOk 200 20 t
def okJoi (CS : Addr → Prop) (us : List V) (G : Hp) (t : Tr) : Prop := ∃ (s : Str) (a b : Addr) (p q : Tr), us = [.ref a, .str s, .ref b] ∧ s ∈ OPS ∧ TRep CS G a p ∧ TRep CS G b q ∧ t = trJ p s q ∧ TrOk 200 20 t
abbrev PsT : List Str := ["self", "shown", "branches", "level", "used"]

/-! ### Number -/
abbrev s_Number___init : Stmt := inClass (top 30) 0
theorem sc_Number___init : SupScope ["self", "number", "__class__"] ["self", "number"] (defScope s_Number___init) := ⟨rfl, rfl, rfl, by decide +kernel, rfl, by decide +kernel, by decide +kernel, by decide +kernel⟩
theorem ok_Number_init {f fT cda cc C : Addr} {fd fdT : FuncData} (F : FunS K "__init__" "Number.__init__" s_Number___init f fd cda cc C) (T : Tx K mg) (D_is_value : Df P w K mg base CX0 2 "is_value" ["value"] spVal)
    (FT : FnOk P w K mg base CX0 4 fT fdT PsT (spTreeI (CS K CT gT gU fL fS))) (BT : L2.Binds K fdT PsT []) (SA : SupAt P K mg f cda cc C C fT "self" "__init__") (hC : CS K CT gT gU fL fS C) :
    FnOk P w K mg base CX0 5 f fd ["self", "number"] (spMade (CS K CT gT gU fL fS) C okNum) := by
  refine F.ok sc_Number___init (fun vs H Q E h => ?_) (fun A outer s H vs Q E hr h => ?_)
  · obtain ⟨x, dx, us, t, rfl, _, ⟨n, rfl, _⟩, _⟩ := h
    rfl
  · obtain ⟨x, dx, us, t, rfl, hx, ⟨n, rfl, hn, rfl, ok⟩, k⟩ := h
    obtain ⟨_, g_UNJOINED⟩ := T.g_UNJOINED
    refine ⟨_, (psa_cons (ps_if (PW.pt (pw_or (pt_not (pt_val (pe_df D_is_value (hr.mono (by decide)) rfl (pa_cons (pv 1) pa_nil)))) (pw_or1 (pt_cmpR op_lt (pv 1) pe_int (nomark _)))))
    pss_never
    pss_nil)
  (psa_super rfl rfl rfl rfl rfl rfl SA FT (hr.mono (by decide)) BT .nil pass0 (pa_cons (pe_tup (pa_cons (pe_callTy call_str_int (by rfl) T.b_str (by decide +kernel) (pa_cons (pv 1) pa_nil)) (pa_cons pe_int (pa_cons pe_int pa_nil)))) (pa_cons (pe_tup pa_nil) (pa_cons (pe_gI rfl g_UNJOINED) (pa_cons (pe_tup pa_nil) pa_nil))))
  (psa_of (pss_one (ps_fld (pv 0) (pv 1) rfl))) rfl rfl rfl rfl)), ?_⟩
    refine q_when (b := !true || decide ((n : Int) < 0)) (et_or (et_not (et_B (ev_df (ea_cons (ev_var rfl) ea_nil) (is_val (by omega) (by unfold LARG; omega))))) (fun _ => et_B (ev_op (ev_var rfl) ev_c rv_I0))) (fun hb => ?_) (fun _ H1 e1 => ?_)
    · have z : decide ((n : Int) < 0) = true := hb
      have := of_decide_eq_true z
      omega
    refine q_supT (t := trN n) (e1 _ _ hx) rfl hC ok (fun H2 e Q q => k_consU (eu_tup (ea_cons (ev_strI (ev_var rfl) hn) (ea_cons ev_c (ea_cons ev_c ea_nil))) (show 3 ≤ 100000 by decide)) fun sh H3 _ e3 hsh => k_consU (eu_tup ea_nil (show 0 ≤ 100000 by decide)) fun b H4 _ e4 _ => k_cons ev_c fun H5 e5 => k_consU (eu_tup ea_nil (show 0 ≤ 100000 by decide)) fun u H6 _ e6 hu => k_nil (q _ _ (((e3.trans e4).trans e5).trans e6) ⟨sh, .ref b, u, [], rfl, (e4.trans (e5.trans e6)) _ _ hsh, hu, Nat.zero_le _, canl_nil⟩)) fun sh u bv us H3 e3 hx3 hp hu hul huc nsh nu => ?_
    have l5 := fs5_len (.str (trN n).text) (.ref sh) bv (.int ((trN n).level : Int)) (.ref u)
    refine s_self wo_at wo_ex hx3 rfl (ev_var rfl) hC.cls (hC.no _ (mem_fld _)) (by omega) fun H4 e4 hx4 => ?_
    have r := TFS.put (f := "_number") (v := .int (n : Int)) (fs5 (.str (trN n).text) (.ref sh) bv (.int ((trN n).level : Int)) (.ref u)) (by omega) (by decide +kernel) (by decide +kernel)
    exact k H4 (wo_trans (wo_trans (wo_ex.trans e1) e3) e4) (r.rep hC hx4 (e4 sh _ (by rw [wo_ne nsh]; exact hp)) (e4 u _ (by rw [wo_ne nu]; exact hu)) hul huc ok)

/-! ### Named -/
abbrev s_Named___init : Stmt := inClass (top 31) 0
theorem sc_Named___init : SupScope ["self", "name", "__class__"] ["self", "name"] (defScope s_Named___init) := ⟨rfl, rfl, rfl, by decide +kernel, rfl, by decide +kernel, by decide +kernel, by decide +kernel⟩
theorem ok_Named_init {f fT cda cc C : Addr} {fd fdT : FuncData} (F : FunS K "__init__" "Named.__init__" s_Named___init f fd cda cc C) (T : Tx K mg) (D_is_used : Df P w K mg base CX0 5 "is_used" ["value"] (spAsk K usedB))
    (FT : FnOk P w K mg base CX0 4 fT fdT PsT (spTreeI (CS K CT gT gU fL fS))) (BT : L2.Binds K fdT PsT []) (SA : SupAt P K mg f cda cc C C fT "self" "__init__") (hC : CS K CT gT gU fL fS C) :
    FnOk P w K mg base CX0 6 f fd ["self", "name"] (spMade (CS K CT gT gU fL fS) C okNam) := by
  refine F.ok sc_Named___init (fun vs H Q E h => ?_) (fun A outer s H vs Q E hr h => ?_)
  · obtain ⟨x, dx, us, t, rfl, _, ⟨n, rfl, _⟩, _⟩ := h
    rfl
  · obtain ⟨x, dx, us, t, rfl, hx, ⟨z, rfl, hu0, hm, hz, hcl, rfl, ok⟩, k⟩ := h
    obtain ⟨_, g_UNJOINED⟩ := T.g_UNJOINED
    refine ⟨_, (psa_cons (ps_if (PW.pt (pw_or (pt_not (pt_val (pe_df D_is_used (hr.mono (by decide)) rfl (pa_cons (pv 1) pa_nil)))) (pw_or1 (pt_cmpR op_eq (pv 1) pe_str (nomark _)))))
    pss_never
    pss_nil)
  (psa_super rfl rfl rfl rfl rfl rfl SA FT (hr.mono (by decide)) BT .nil pass0 (pa_cons (pe_tup (pa_cons (pv 1) (pa_cons pe_int (pa_cons pe_int pa_nil)))) (pa_cons (pe_tup pa_nil) (pa_cons (pe_gI rfl g_UNJOINED) (pa_cons (pe_tup (pa_cons (pv 1) pa_nil)) pa_nil))))
  (psa_of (pss_one (ps_fld (pv 0) (pv 1) rfl))) rfl rfl rfl rfl)), ?_⟩
    refine q_when (b := !true || false) (et_or (et_not (et_B (ev_is (ev_df (ea_cons (ev_var rfl) ea_nil) (is_askS hz)) (by rw [hu0])))) (fun _ => et_B (ev_is (ev_op (ev_var rfl) ev_c (rv_eq rfl)) (by rw [hm])))) (fun hb => by cases hb) (fun _ H1 e1 => ?_)
    refine q_supT (t := trA z) (e1 _ _ hx) rfl hC ok (fun H2 e Q q => k_consU (eu_tup (ea_cons (ev_var rfl) (ea_cons ev_c (ea_cons ev_c ea_nil))) (show 3 ≤ 100000 by decide)) fun sh H3 _ e3 hsh => k_consU (eu_tup ea_nil (show 0 ≤ 100000 by decide)) fun b H4 _ e4 _ => k_cons ev_c fun H5 e5 => k_consU (eu_tup (ea_cons (ev_var rfl) ea_nil) (show 1 ≤ 100000 by decide)) fun u H6 _ e6 hu => k_nil (q _ _ (((e3.trans e4).trans e5).trans e6) ⟨sh, .ref b, u, [z], rfl, (e4.trans (e5.trans e6)) _ _ hsh, hu, Nat.le_refl _, canl_one hcl⟩)) fun sh u bv us H3 e3 hx3 hp hu hul huc nsh nu => ?_
    have l5 := fs5_len (.str (trA z).text) (.ref sh) bv (.int ((trA z).level : Int)) (.ref u)
    refine s_self wo_at wo_ex hx3 rfl (ev_var rfl) hC.cls (hC.no _ (mem_fld _)) (by omega) fun H4 e4 hx4 => ?_
    have r := TFS.put (f := "_name") (v := .str z) (fs5 (.str (trA z).text) (.ref sh) bv (.int ((trA z).level : Int)) (.ref u)) (by omega) (by decide +kernel) (by decide +kernel)
    exact k H4 (wo_trans (wo_trans (wo_ex.trans e1) e3) e4) (r.rep hC hx4 (e4 sh _ (by rw [wo_ne nsh]; exact hp)) (e4 u _ (by rw [wo_ne nu]; exact hu)) hul huc ok)
end
end M14

set_option maxHeartbeats 4000000
/-! dict(xs), xs a tuple of pairs whose keys are ints and texts: the tuple is one of which it is known that it has no dict of its own (made by tuple(list)). -/
namespace Gd
open PySem PySem.Spec PyProof.Rows L2
/-- a tuple that was made, and has no dict -/
def TupZ (H : Hp) (a : Addr) (xs : List V) : Prop := ∃ o : Obj, o.dict = none ∧ H a = some (.frz o (.tup xs))
theorem TupZ.sq {K : PySem.W.Frag} {H : Hp} {a : Addr} {xs : List V} (h : TupZ H a xs) : SqT K H a xs := by
  obtain ⟨o, _, e⟩ := h
  exact .inl (.inr ⟨o, e⟩)
theorem TupZ.rd {H : Hp} {a : Addr} {xs : List V} (h : TupZ H a xs) : Rd H a (.tup xs) := by
  obtain ⟨o, _, e⟩ := h
  exact .inr ⟨o, e⟩
section
variable {X : Cx}
/-- tuple(l) of a list -/
theorem call_tuple_z : CallR X (.type "tuple") (fun xs H Q => ∃ p ys, xs = [.ref p] ∧ SqL X.K H p ys ∧ ∀ l o, H l = none → Obj.dict o = none → Q (.ref l) (upd H l (.frz o (.tup ys)))) := by
  intro pins s σ H xs us Q I r h
  obtain ⟨p, ys, rfl, hq, q⟩ := h
  obtain ⟨u, rfl, rx⟩ := vals1 r
  cases rx
  obtain ⟨its, r', pl, hz⟩ := I.list hq
  have hlen := r'.length
  refine call_tuple_list pl.isList (fun h' kp => ?_) (by simp only [List.size_toArray] <;> omega)
  have I1 : Inv X pins σ H { s with heap := h' } := I.kept (t' := s.toks) kp
  have e0 : (h'.push { cls := .type "tuple", data := .seq its.toArray }).get? h'.objs.size = some { cls := .type "tuple", data := .seq its.toArray } := Heap.get?_push_size _ rfl
  have I2 : Inv X pins σ (upd H h'.objs.size (.frz { cls := .type "tuple", data := .seq its.toArray } (.tup ys))) { s with heap := h'.push { cls := .type "tuple", data := .seq its.toArray } } :=
    I1.laid (t' := s.toks) (fun b o e => Heap.get?_push_of_some _ e) (Nat.le_refl _) (show ObjOk X.prog X.w _ _ _ (.frz _ (.tup ys)) from ⟨e0, hz, its, r', IsTup.new _ _⟩)
  exact ⟨.ref h'.objs.size, _, I2, rfl, q _ _ (I1.hok.fresh (Nat.le_refl _)) rfl⟩
/-- dict(t) of a tuple of pairs (key, value): later pairs win, the place is the first one's -/
theorem call_dictT (hcalm : X.calm = true) : CallR X (.type "dict") (fun xs H Q => ∃ (a : Addr) (ps : List Addr) (kvs : List (Key × V)), xs = [.ref a] ∧ TupZ H a (ps.map V.ref) ∧ Paired (fun p kv => SqT X.K H p [kV kv.1, kv.2]) ps kvs ∧
    ∀ p, H p = none → Q (.ref p) (upd H p (.dK (mergeK [] kvs)))) := by
  intro pins s σ H xs us Q I r q
  obtain ⟨a, ps, kvs, ex, hq, hp, q⟩ := q
  subst ex
  obtain ⟨u, eu, rx⟩ := vals1 r
  subst eu
  cases rx
  obtain ⟨o, od, e⟩ := hq
  obtain ⟨ho, hz, its, rv, pl⟩ := (show s.heap.get? a = some o ∧ _ from I.hok _ _ e)
  have ei := refs_at rv
  subst ei
  rw [List.length_map] at hz
  obtain ⟨prs, rel, hl, hpr⟩ := pairs_of I hp
  obtain ⟨o', ho', hc, n, hdat⟩ := pl
  rw [ho] at ho'
  obtain rfl := Option.some.inj ho'
  obtain ⟨pv, hpv⟩ : ∃ pv : List (Value × Value), pv.length = prs.length ∧ ∀ (j : Nat) (q : Key × Value), prs[j]? = some q → ∃ b u, ps[j]? = some b ∧ pv[j]? = some (u, q.2) ∧ IsTup s.heap b #[u, q.2] ∧ keyIs q.1 u = true := by
    have key : ∀ (m : Nat) (ps : List Addr) (prs : List (Key × Value)), prs.length = m → (∀ (j : Nat) (q : Key × Value), prs[j]? = some q → ∃ (b : Addr) (u : Value), ps[j]? = some b ∧ IsTup s.heap b #[u, q.2] ∧ keyIs q.1 u = true) →
        ∃ pv : List (Value × Value), pv.length = prs.length ∧ ∀ (j : Nat) (q : Key × Value), prs[j]? = some q → ∃ b u, ps[j]? = some b ∧ pv[j]? = some (u, q.2) ∧ IsTup s.heap b #[u, q.2] ∧ keyIs q.1 u = true := by
      intro m
      induction m with
      | zero =>
        intro ps prs h0 _
        obtain rfl := List.length_eq_zero_iff.mp h0
        exact ⟨[], rfl, fun j q e => by simp at e⟩
      | succ m ih =>
        intro ps prs h0 hh
        obtain ⟨q0, rest, rfl⟩ : ∃ q0 rest, prs = q0 :: rest := by
          cases prs with
          | nil => simp at h0
          | cons q0 rest => exact ⟨q0, rest, rfl⟩
        obtain ⟨b0, u0, e1, e2, e3⟩ := hh 0 q0 rfl
        obtain ⟨pv, l, hpv⟩ := ih ps.tail rest (by simpa using h0) fun j q e => by
          obtain ⟨b, u, e1, e2, e3⟩ := hh (j + 1) q (by simpa using e)
          exact ⟨b, u, by rw [List.getElem?_tail]; exact e1, e2, e3⟩
        refine ⟨(u0, q0.2) :: pv, by simp [l], fun j q e => ?_⟩
        cases j with
        | zero =>
          obtain rfl : q0 = q := Option.some.inj e
          exact ⟨b0, u0, e1, rfl, e2, e3⟩
        | succ j =>
          obtain ⟨b, u, f1, f2, f3, f4⟩ := hpv j q (by simpa using e)
          exact ⟨b, u, by rw [List.getElem?_tail] at f1; exact f1, by simpa using f2, f3, f4⟩
    exact key prs.length ps prs rfl hpr
  have pvl := hpv.1
  have get : ∀ (j : Nat) (k v : Value), pv[j]? = some (k, v) → ∃ q : Key × Value, prs[j]? = some q ∧ q.2 = v ∧ ∃ b, ps[j]? = some b ∧ IsTup s.heap b #[k, v] ∧ keyIs q.1 k = true := by
    intro j k v hj
    have lt : j < prs.length := by
      rw [← pvl]
      exact (List.getElem?_eq_some_iff.mp hj).1
    obtain ⟨b, u, f1, f2, f3, f4⟩ := hpv.2 j prs[j] (List.getElem?_eq_getElem lt)
    rw [hj] at f2
    obtain ⟨rfl, rfl⟩ := Prod.mk.inj (Option.some.inj f2)
    exact ⟨prs[j], List.getElem?_eq_getElem lt, rfl, b, f1, f3, f4⟩
  refine PySem.call_dict_pairs (knd := mixKind X.prog X.w) (kvs := prs) (PairArg.tuple a (ps.map Value.ref).toArray (fun j => ps.getD j 0) pv) (I.ok.hd hcalm) (show PlainSeq "tuple" s.heap a _ ∧ PairItems s.heap _ _ pv from ⟨⟨o, n, ho, hc, od, hdat⟩, by simp [pvl, hl], fun j k v hj => ?_⟩) ⟨by rw [pvl], fun j k v hj => ?_⟩ (by rw [pvl, hl]; exact hz) fun h' tk hd' k => ?_
  · obtain ⟨q, e1, e2, b, e3, e4, e5⟩ := get j k v hj
    refine ⟨?_, .inl ?_⟩
    · simp [e3, List.getD_eq_getElem?_getD]
    · show s.heap.IsTuple (ps.getD j 0) #[k, v]
      rw [List.getD_eq_getElem?_getD, e3]
      exact e4
  · obtain ⟨q, e1, e2, b, e3, e4, e5⟩ := get j k v hj
    exact ⟨q.1, by rw [e1, ← e2], e5⟩
  · have hm : (s.heap.objs.size == sysModules) = false := beq_eq_false_iff_ne.mpr (Nat.ne_of_gt I.big)
    have hlen : (mergeK [] kvs).length ≤ sizeLine := by
      refine Nat.le_trans (length_mergeK kvs []) ?_
      rw [List.length_nil, Nat.zero_add, rel.length, hl]
      exact hz
    exact ⟨.ref s.heap.objs.size, upd H s.heap.objs.size (.dK (mergeK [] kvs)), I.laid (t' := tk) (fun b o e => k b o (by simp) e) (Nat.le_refl _) (show ObjOk X.prog X.w _ _ _ (.dK (mergeK [] kvs)) from ⟨hlen, hm, merged [] prs, KV.merge rel .nil, hd'⟩), rfl, q _ (I.hok.fresh (Nat.le_refl _))⟩
end
end Gd

set_option maxHeartbeats 4000000
/-! (a, b, ..): a tuple of which it is known that it has no dict of its own. -/
namespace Gd
open PySem PySem.Spec PyProof.Rows L2 Evl
def tTupZ (ta : TA) : TE := fun σ H Q => ta σ H fun xs H1 => xs.length ≤ sizeLine ∧ ∀ l o, H1 l = none → Obj.dict o = none → Q (.ref l) (upd H1 l (.frz o (.tup xs)))
section
variable {X : Cx} {es : List Expr} {t : TA} {pos : Pos}
theorem pe_tupZ {x1} (h : PA X es t) : PE X (.Tuple es x1 pos) (tTupZ t) := by
  refine ⟨fun pins s σ H Q I hq => ?_⟩
  refine wpAny_Tuple_spliced (thn (h.run pos pins s σ H _ I hq) fun us s1 ⟨xs, H1, I1, r, z, q⟩ => ⟨by rw [← r.length]; exact z, ?_⟩)
  have hf : H1 s1.heap.objs.size = none := I1.hok.fresh (Nat.le_refl _)
  have e0 : (s1.heap.push { cls := .type "tuple", data := .seq us.toArray }).get? s1.heap.objs.size = some { cls := .type "tuple", data := .seq us.toArray } := Heap.get?_push_size _ rfl
  exact ⟨.ref s1.heap.objs.size, upd H1 s1.heap.objs.size (.frz { cls := .type "tuple", data := .seq us.toArray } (.tup xs)), I1.laid (t' := s1.toks) (fun b u e => Heap.get?_push_of_some _ e) (Nat.le_refl _) (show ObjOk X.prog X.w _ _ _ (.frz _ (.tup xs)) from ⟨e0, z, us, r, IsTup.new _ _⟩), rfl, q _ _ hf rfl⟩
end
section
variable {σ : L2.St} {H : Hp} {t : TT} {ta tb : TE} {P : V → Hp → Prop}
theorem evp_if {b : Bool} (h : EvT t σ H b) (h1 : b = true → EvP ta σ H P) (h2 : b = false → EvP tb σ H P) : EvP (tIf t ta tb) σ H P := fun H1 e Q q => h H1 e _ fun H2 e2 => by
  cases b with
  | true =>
    show ta σ H2 Q
    exact h1 rfl H2 (e.trans e2) Q fun v H3 e3 p => q v H3 (e2.trans e3) p
  | false =>
    show tb σ H2 Q
    exact h2 rfl H2 (e.trans e2) Q fun v H3 e3 p => q v H3 (e2.trans e3) p
end
end Gd

set_option maxHeartbeats 4000000
namespace M14
open PySem PySem.Spec PyProof.Rows L2 Evl TL Gd
section
variable {K : PySem.W.Frag} {CT gT gU fL fS : Addr} {σ : L2.St} {H : Hp} {te tb : TE} {D : Ends} {tz : TS} {a : Addr} {t : Tr} {b : Bool} {i j l : Nat}
def tMethIn0 (CS : Addr → Prop) (m : Str) (sp : Sp) (ta : TE) : TE := fun σ H Q => ta σ H fun x H1 => ∃ C, CS C ∧ ∃ a dx fs, x = .ref a ∧ H1 a = some (.ins C dx fs) ∧ fs.lookup m = none ∧ sp [.ref a] H1 Q E0
theorem q_unpP {D : Ends} {tz : TS} {p q r : V} (h : EvP te σ H (fun v H1 => ∃ x, v = .ref x ∧ H1 x = some (.tup [p, q, r]))) (kk : ∀ H1, Ex H H1 → tz D (((σ.set i (some p)).set j (some q)).set l (some r)) H1) :
    tSeq (tAsg te (gTup K 3 (gCons (gName i) (gCons (gName j) (gCons (gName l) gNil))))) tz D σ H := h H (Ex.refl H) _ fun v H1 e ⟨x, ev, hp⟩ => by
  subst ev
  exact ⟨x, [p, q, r], rfl, st_of hp, rfl, p, [q, r], rfl, q, [r], rfl, r, [], rfl, rfl, kk H1 e⟩
theorem evp_shw {tt : TT} (ht : EvT tt σ H b) (h : Ev te σ H (.ref a)) (r : TR K CT gT gU fL fS H a t) : EvP (tIf tt (tMethIn0 (CS K CT gT gU fL fS) "_in_brackets" (spBr (CS K CT gT gU fL fS)) te) (tFld K te "_shown")) σ H (fun v H1 => ∃ x, v = .ref x ∧ H1 x = some (.tup [.str (shw b t).1, .int ((shw b t).2.1.length : Int), .int ((shw b t).2.2 : Int)])) := by
  refine evp_if ht (fun hb H1 e Q q => ?_) (fun hb => ?_)
  · subst hb
    unfold tMethIn0
    refine k_ev (Ev.mono e h) fun H2 e2 => ?_
    have r2 := r.ext (e.trans e2)
    obtain ⟨C, dx, fs, sh, u, us, c, h1, h2, h3, h4, h5, h6, h7, h8, h9, h10⟩ := r2.ex
    exact ⟨C, c, a, dx, fs, rfl, h1, h10 _ (by decide +kernel), a, t, rfl, r2, fun p H3 e3 hp => q _ H3 (e2.trans e3) ⟨p, rfl, hp⟩⟩
  · subst hb
    obtain ⟨sh, hp, ev⟩ := ev_shownF h r
    exact fun H1 e Q q => k_ev (Ev.mono e ev) fun H2 e2 => q _ H2 e2 ⟨sh, rfl, (e.trans e2) _ _ hp⟩
end
section
variable {X : Cx} {k : Nat} {fd : FuncData} {ps : List Str} {sp : Sp} {CS : Addr → Prop} {pos : Pos}
theorem pe_methIn0 {pl : Sem Bool} {o : Expr} {m : Str} {f : Addr} {ta : TE} {apos : Pos} (h : ∀ C, CS C → Cls X.K C ∧ Meth X.K C m f) (F : FnOk X.prog X.w X.K X.mg X.base CX0 k f fd ps sp) (hr : Room k X.A) (hb : L2.Binds X.K fd ps []) (he : PE X o ta)
    (ht : eval (.Call (.Attribute o m apos) [] [] pos) X.env = (do
      let ov ← eval o X.env
      standAt apos.atName
      let (f, first) ← holding [ov] (getMethod ov m pl)
      callWith pos f first (backTo pos (starEach [] X.env)) (backToKw pos (keywordEach [] X.env))) := by rfl) :
    PE X (.Call (.Attribute o m apos) [] [] pos) (tMethIn0 CS m sp ta) := by
  refine ⟨fun pins s σ H Q I hh => ?_⟩
  refine PySem.W.methodCall_KW (pl := pl) (thn (he.run pins s σ H _ I hh) fun u s1 ⟨x, H1, I1, rx, C, hC, a, dx, fs, ex, ea, l, q⟩ => ?_) ht
  subst ex
  obtain rfl : u = Value.ref a := rx
  obtain ⟨c, hm⟩ := h C hC
  refine getmeth_ok I1 ea c hm l ?_
  exact PySem.W.callWith_K0 (first := [.ref a]) I1.kIn hm.kp (run_fn (us := [.ref a]) F hr hb .nil pass0 I1 (.cons (show RelV (.ref a) (.ref a) from rfl) .nil) q)
end
theorem in_of (l : List Str) (h : l.all (fun s => inV (.str s) (l.map V.str)) = true) {s : Str} (hs : s ∈ l) : inV (.str s) (l.map V.str) = true := List.all_eq_true.mp h s hs
theorem bl_eq {x y : Bool} (h : x = y) : V.bl x = V.bl y := by rw [h]
/-- the written dict of the levels -/
structure TLv (w : World) (K : PySem.W.Frag) (mg : Str → Option Value) : Prop where
  g_LEVELS : ∃ d, mg "LEVELS" = some (.ref d) ∧ (∃ es n, KDict K w d es n) ∧ ∀ s ∈ OPS, ∃ u, PySem.W.nsIn K d s = some (some u) ∧ RelV (.int (lev s : Int)) u
  g_Tree : ∃ CT, mg "Tree" = some (.ref CT)
section
variable {P : Program} {w : World} {K : PySem.W.Frag} {mg : Str → Option Value} {base : Heap} {CT gT gU fL fS : Addr}
/-! ### Signed -/
abbrev s_Signed___init : Stmt := inClass (top 32) 0
theorem sc_Signed___init : SupScope ["self", "sign", "inner", "text", "many", "depth", "__class__"] ["self", "sign", "inner"] (defScope s_Signed___init) := ⟨rfl, rfl, rfl, by decide +kernel, rfl, by decide +kernel, by decide +kernel, by decide +kernel⟩
theorem ok_Signed_init {f fT cda cc C : Addr} {fd fdT fdS : FuncData} (F : FunS K "__init__" "Signed.__init__" s_Signed___init f fd cda cc C) (T : Tx K mg) (g_Tree : mg "Tree" = some (.ref CT)) (TC : TcOk K fL)
    (FT : FnOk P w K mg base CX0 4 fT fdT PsT (spTreeI (CS K CT gT gU fL fS))) (BT : L2.Binds K fdT PsT []) (SA : SupAt P K mg f cda cc C C fT "self" "__init__") (hC : CS K CT gT gU fL fS C)
    (FS : FnOk P w K mg base CX0 1 fS fdS ["self"] (spBr (CS K CT gT gU fL fS))) (BS : L2.Binds K fdS ["self"] []) :
    FnOk P w K mg base CX0 5 f fd ["self", "sign", "inner"] (spMade (CS K CT gT gU fL fS) C (okSig (CS K CT gT gU fL fS))) := by
  refine F.ok sc_Signed___init (fun vs H Q E h => ?_) (fun A outer s H vs Q E hr h => ?_)
  · obtain ⟨x, dx, us, t, rfl, _, ⟨s, a, ti, rfl, _⟩, _⟩ := h
    rfl
  · obtain ⟨x, dx, us, t, rfl, hx, ⟨z, a, ti, rfl, hz, ra, rfl, ok⟩, k⟩ := h
    obtain ⟨_, g_UNJOINED⟩ := T.g_UNJOINED
    obtain ⟨aS, g_SIGNS, hS⟩ := T.g_SIGNS
    refine ⟨_, (psa_cons (ps_if (PW.pt (pw_or (pt_not (pt_val (pe_callB call_isi (by rfl) T.b_isinstance (by decide +kernel) (pa_cons (pv 1) (pa_cons (pe_bT (T := "str") (by rfl) T.b_str (by decide +kernel)) pa_nil))))) (pw_or1 (pt_cmpR op_notIn_seq (pv 1) (pe_gR rfl g_SIGNS) rfl))))
    pss_never
    pss_nil)
  (psa_cons (ps_if (pt_not (pt_val (pe_callB call_isi (by rfl) T.b_isinstance (by decide +kernel) (pa_cons (pv 2) (pa_cons (pe_gR rfl g_Tree) pa_nil)))))
    pss_never
    pss_nil)
  (psa_cons (ps_asg (pe_ifExp (pt_cmpR op_lt (pe_fld (pv 2) rfl) (pe_gI rfl g_UNJOINED) (nomark _)) (pe_methIn0 (CS := CS K CT gT gU fL fS) (fun C hC => ⟨hC.cls, hC.sh⟩) FS (hr.mono (by decide)) BS (pv 2)) (pe_fld (pv 2) rfl)) (pg_tup rfl (pgs_cons (pg_name (i := 3) sc_Signed___init.nd rfl (Or.inl rfl)) (pgs_cons (pg_name (i := 4) sc_Signed___init.nd rfl (Or.inl rfl)) (pgs_cons (pg_name (i := 5) sc_Signed___init.nd rfl (Or.inl rfl)) pgs_nil)))))
  (psa_super rfl rfl rfl rfl rfl rfl SA FT (hr.mono (by decide)) BT .nil pass0 (pa_cons (pe_tup (pa_cons (pe_op op_add_str (pv 1) (pv 3)) (pa_cons (pe_op op_add (pv 4) pe_int) (pa_cons (pe_op op_add (pv 5) pe_int) pa_nil)))) (pa_cons (pe_tup (pa_cons (pv 2) pa_nil)) (pa_cons (pe_gI rfl g_UNJOINED) (pa_cons (pe_fld (pv 2) rfl) pa_nil))))
  (psa_of (pss_cons (ps_fld (pv 0) (pv 1) rfl)
  (pss_one (ps_fld (pv 0) (pv 2) rfl)))) rfl rfl rfl rfl)))), ?_⟩
    have inZ : inV (.str z) (SGS.map V.str) = true := in_of SGS (by decide +kernel) hz
    have rH := ra.ext (wo_ex (p := x) (H := H))
    refine q_when (b := !true || false) (et_or (et_not (et_B (ev_isiS (ev_var rfl)))) (fun _ => et_B (ev_is (ev_op (ev_var rfl) ev_c (rv_niT (hS _) rfl (flat_strs' SGS))) (by rw [inZ]; rfl)))) (fun hb => by cases hb) (fun _ H1 e1 => ?_)
    refine q_when (b := !true) (et_not (et_B (ev_isTree TC (ev_var rfl) (rH.ext e1) ev_c))) (fun hb => by cases hb) (fun _ H2 e2 => ?_)
    have r2 := rH.ext (e1.trans e2)
    refine q_unpP (evp_shw (b := decide (ti.level < 10)) (et_B (ev_is (ev_op (ev_level (ev_var rfl) r2) ev_c rv_I0) (bl_eq (by
      by_cases q : ti.level < 10
      · rw [decide_eq_true q]
        exact decide_eq_true (by omega)
      · rw [decide_eq_false q]
        exact decide_eq_false (by omega))))) (ev_var rfl) r2) fun H3 e3 => ?_
    have eH3 := (e1.trans e2).trans e3
    have hx3 := eH3 _ _ hx
    have ra3 := ra.ext (wo_mono eH3)
    have len : (shw (decide (ti.level < 10)) ti).1.length ≤ 6200 := by
      have h1 := shw_len (decide (ti.level < 10)) ti
      have h2 := ra.ok.2.2.1
      have h3 := ra.ok.1
      have h4 := b2_le (decide (ti.level < 10))
      omega
    have tl : (trS z ti).toks.length = (shw (decide (ti.level < 10)) ti).2.1.length + 1 := by
      show (z :: (shw (decide (ti.level < 10)) ti).2.1).length = _
      rw [List.length_cons]
    have h3' := shw2 (decide (ti.level < 10)) ti
    refine q_supT (t := trS z ti) hx3 rfl hC ok (fun H4 e Q q => ?_) fun sh u bv us H4 e4 hx4 hp hu hul huc nsh nu => ?_
    · have ra4 := ra3.ext e
      obtain ⟨u, us, hu, hul, huc, evu⟩ := ev_usedF (te := tVar 2) (σ := [some (.ref x), some (.str z), some (.ref a), some (.str (shw (decide (ti.level < 10)) ti).1), some (.int ((shw (decide (ti.level < 10)) ti).2.1.length : Int)), some (.int ((shw (decide (ti.level < 10)) ti).2.2 : Int)), none]) (ev_var rfl) ra4
      refine k_consU (eu_tup (ea_cons (ev_op (ev_var rfl) (ev_var rfl) (rv_addS (by have := sg_len hz; omega))) (ea_cons (ev_op (ev_var rfl) ev_c rv_I0) (ea_cons (ev_op (ev_var rfl) ev_c rv_I0) ea_nil))) (show 3 ≤ 100000 by decide)) fun sh H5 _ e5 hsh => k_consU (eu_tup (ea_cons (ev_var rfl) ea_nil) (show 1 ≤ 100000 by decide)) fun b H6 _ e6 _ => k_cons ev_c fun H7 e7 => k_cons (Ev.mono (((e5.trans e6).trans e7)) evu) fun H8 e8 => k_nil (q _ _ (((e5.trans e6).trans e7).trans e8) ⟨sh, .ref b, u, us, rfl, ?_, (((e5.trans e6).trans e7).trans e8) _ _ hu, by omega, huc⟩)
      rw [tl]
      exact ((e6.trans e7).trans e8) _ _ hsh
    have l6 := fs5_len (.str (trS z ti).text) (.ref sh) bv (.int ((trS z ti).level : Int)) (.ref u)
    refine q_self wo_at wo_ex hx4 rfl (ev_var rfl) hC.cls (hC.no _ (mem_fld _)) (by omega) fun H5 e5 hx5 => ?_
    have l7 := putF_len "_sign" (.str z) (FS5 (.str (trS z ti).text) (.ref sh) bv (.int ((trS z ti).level : Int)) (.ref u))
    refine s_self wo_at wo_ex hx5 rfl (ev_var rfl) hC.cls (hC.no _ (mem_fld _)) (by omega) fun H6 e6 hx6 => ?_
    have r := (TFS.put (f := "_sign") (v := .str z) (fs5 (.str (trS z ti).text) (.ref sh) bv (.int ((trS z ti).level : Int)) (.ref u)) (by omega) (by decide +kernel) (by decide +kernel)).put (f := "_inner") (v := .ref a) (by omega) (by decide +kernel) (by decide +kernel)
    have sh5 := e5 sh _ (by rw [wo_ne nsh]; exact hp)
    have u5 := e5 u _ (by rw [wo_ne nu]; exact hu)
    exact k H6 (wo_trans (wo_trans (wo_trans (wo_ex.trans eH3) e4) e5) e6) (r.rep hC hx6 (e6 sh _ (by rw [wo_ne nsh]; exact sh5)) (e6 u _ (by rw [wo_ne nu]; exact u5)) hul huc ok)

/-! ### Joined -/
abbrev s_Joined___init : Stmt := inClass (top 33) 0
theorem sc_Joined___init : SupScope ["self", "left", "sign", "right", "level", "is_weak", "one", "many", "depth", "other", "more", "deeper", "shown", "__class__"] ["self", "left", "sign", "right"] (defScope s_Joined___init) := ⟨rfl, rfl, rfl, by decide +kernel, rfl, by decide +kernel, by decide +kernel, by decide +kernel⟩
theorem dec_lt {n m : Nat} : decide ((n : Int) < (m : Int)) = decide (n < m) := by
  by_cases q : n < m
  · rw [decide_eq_true q]
    exact decide_eq_true (by omega)
  · rw [decide_eq_false q]
    exact decide_eq_false (by omega)
theorem dec_le {n m : Nat} : decide ((n : Int) ≤ (m : Int)) = decide (n ≤ m) := by
  by_cases q : n ≤ m
  · rw [decide_eq_true q]
    exact decide_eq_true (by omega)
  · rw [decide_eq_false q]
    exact decide_eq_false (by omega)
theorem dec_eqV {n m : Nat} : decide (V.int (n : Int) = V.int (m : Int)) = decide (n = m) := by
  by_cases q : n = m
  · rw [decide_eq_true q, q]
    exact decide_eq_true rfl
  · rw [decide_eq_false q]
    exact decide_eq_false fun h => q (by injection h with h; omega)
theorem max_nat (i j : Nat) : (if (j : Int) > (i : Int) then (j : Int) else (i : Int)) = ((if j > i then j else i : Nat) : Int) := by
  by_cases q : j > i
  · rw [if_pos q, if_pos (by omega)]
  · rw [if_neg q, if_neg (by omega)]
theorem ok_Joined_init {f fT cda cc C : Addr} {fd fdT fdS : FuncData} (F : FunS K "__init__" "Joined.__init__" s_Joined___init f fd cda cc C) (T : Tx K mg) (TL : TLv w K mg) (g_Tree : mg "Tree" = some (.ref CT)) (TC : TcOk K fL)
    (FT : FnOk P w K mg base CX0 4 fT fdT PsT (spTreeI (CS K CT gT gU fL fS))) (BT : L2.Binds K fdT PsT []) (SA : SupAt P K mg f cda cc C C fT "self" "__init__") (hC : CS K CT gT gU fL fS C)
    (FS : FnOk P w K mg base CX0 1 fS fdS ["self"] (spBr (CS K CT gT gU fL fS))) (BS : L2.Binds K fdS ["self"] []) (D_used_by_both : Df P w K mg base CX0 1 "_used_by_both" ["names", "others"] spUb) :
    FnOk P w K mg base CX0 5 f fd ["self", "left", "sign", "right"] (spMade (CS K CT gT gU fL fS) C (okJoi (CS K CT gT gU fL fS))) := by
  refine F.ok sc_Joined___init (fun vs H Q E h => ?_) (fun A outer s H vs Q E hr h => ?_)
  · obtain ⟨x, dx, us, t, rfl, _, ⟨s, a, b, p, q, rfl, _⟩, _⟩ := h
    rfl
  · obtain ⟨x, dx, us, t, rfl, hx, ⟨z, a, b, p, q, rfl, hz, ra, rb, rfl, ok⟩, k⟩ := h
    obtain ⟨_, g_COMPARING⟩ := T.g_COMPARING
    obtain ⟨dL, g_LEVELS, ⟨es, nn, KD⟩, hL⟩ := TL.g_LEVELS
    obtain ⟨uL, hu1, hu2⟩ := hL z hz
    refine ⟨_, (psa_cons (ps_if (pt_not (pt_val (pe_callB call_isi (by rfl) T.b_isinstance (by decide +kernel) (pa_cons (pv 1) (pa_cons (pe_gR rfl g_Tree) pa_nil)))))
    pss_never
    pss_nil)
  (psa_cons (ps_if (PW.pt (pw_or (pt_not (pt_val (pe_callB call_isi (by rfl) T.b_isinstance (by decide +kernel) (pa_cons (pv 2) (pa_cons (pe_bT (T := "str") (by rfl) T.b_str (by decide +kernel)) pa_nil))))) (pw_or1 (pt_cmpR (op_notIn_kd KD) (pv 2) (pe_gR rfl g_LEVELS) rfl))))
    pss_never
    pss_nil)
  (psa_cons (ps_if (pt_not (pt_val (pe_callB call_isi (by rfl) T.b_isinstance (by decide +kernel) (pa_cons (pv 3) (pa_cons (pe_gR rfl g_Tree) pa_nil)))))
    pss_never
    pss_nil)
  (psa_cons (ps_set (i := 4) sc_Joined___init.nd rfl (Or.inl rfl) (pe_ix ix_kdict (pe_gR rfl g_LEVELS) (pv 2) (fun _ _ => rfl)))
  (psa_cons (ps_set (i := 5) sc_Joined___init.nd rfl (Or.inl rfl) (pe_or (pe_cmpR op_lt (pe_fld (pv 1) rfl) (pv 4) (nomark _)) (pe_one (pe_chain op_eq op_eq (pe_fld (pv 1) rfl) (pv 4) (pe_gI rfl g_COMPARING)))))
  (psa_cons (ps_asg (pe_ifExp (pt_val (pv 5)) (pe_methIn0 (CS := CS K CT gT gU fL fS) (fun C hC => ⟨hC.cls, hC.sh⟩) FS (hr.mono (by decide)) BS (pv 1)) (pe_fld (pv 1) rfl)) (pg_tup rfl (pgs_cons (pg_name (i := 6) sc_Joined___init.nd rfl (Or.inl rfl)) (pgs_cons (pg_name (i := 7) sc_Joined___init.nd rfl (Or.inl rfl)) (pgs_cons (pg_name (i := 8) sc_Joined___init.nd rfl (Or.inl rfl)) pgs_nil)))))
  (psa_cons (ps_asg (pe_ifExp (pt_cmpR op_le (pe_fld (pv 3) rfl) (pv 4) (nomark _)) (pe_methIn0 (CS := CS K CT gT gU fL fS) (fun C hC => ⟨hC.cls, hC.sh⟩) FS (hr.mono (by decide)) BS (pv 3)) (pe_fld (pv 3) rfl)) (pg_tup rfl (pgs_cons (pg_name (i := 9) sc_Joined___init.nd rfl (Or.inl rfl)) (pgs_cons (pg_name (i := 10) sc_Joined___init.nd rfl (Or.inl rfl)) (pgs_cons (pg_name (i := 11) sc_Joined___init.nd rfl (Or.inl rfl)) pgs_nil)))))
  (psa_cons (ps_set (i := 12) sc_Joined___init.nd rfl (Or.inl rfl) (pe_tup (pa_cons (pe_joined (.cons (pe_fmt (pv 6)) (.cons pe_str (.cons (pe_fmt (pv 2)) (.cons pe_str (.cons (pe_fmt (pv 9)) .nil)))))) (pa_cons (pe_op op_add (pe_op op_add (pv 7) (pv 10)) pe_int) (pa_cons (pe_callB (call_max2 rfl) (by rfl) T.b_max (by decide +kernel) (pa_cons (pv 8) (pa_cons (pv 11) pa_nil))) pa_nil)))))
  (psa_super rfl rfl rfl rfl rfl rfl SA FT (hr.mono (by decide)) BT .nil pass0 (pa_cons (pv 12) (pa_cons (pe_tup (pa_cons (pv 1) (pa_cons (pv 3) pa_nil))) (pa_cons (pv 4) (pa_cons (pe_df D_used_by_both (hr.mono (by decide)) rfl (pa_cons (pe_fld (pv 1) rfl) (pa_cons (pe_fld (pv 3) rfl) pa_nil))) pa_nil))))
  (psa_of (pss_cons (ps_fld (pv 0) (pv 1) rfl)
  (pss_cons (ps_fld (pv 0) (pv 2) rfl)
  (pss_one (ps_fld (pv 0) (pv 3) rfl))))) rfl rfl rfl rfl))))))))), ?_⟩
    have rA := ra.ext (wo_ex (p := x) (H := H))
    have rB := rb.ext (wo_ex (p := x) (H := H))
    refine q_when (b := !true) (et_not (et_B (ev_isTree TC (ev_var rfl) rA ev_c))) (fun hb => by cases hb) (fun _ H1 e1 => ?_)
    refine q_when (b := !true || false) (et_or (et_not (et_B (ev_isiS (ev_var rfl)))) (fun _ => et_B (ev_op (ev_var rfl) ev_c (fun H1 e Q q => ⟨z, some uL, rfl, rfl, hu1, q H1 (Ex.refl H1)⟩)))) (fun hb => by cases hb) (fun _ H2 e2 => ?_)
    refine q_when (b := !true) (et_not (et_B (ev_isTree TC (ev_var rfl) (rB.ext (e1.trans e2)) ev_c))) (fun hb => by cases hb) (fun _ H3 e3 => ?_)
    refine q_asg (v := .int (lev z : Int)) (ev_op ev_c (ev_var rfl) (fun H1 e Q q => ⟨dL, z, _, rfl, rfl, ⟨es, nn, uL, KD.at_, KD.lit, hu1, hu2⟩, q H1 (Ex.refl H1)⟩)) fun H4 e4 => ?_
    have eH4 := ((e1.trans e2).trans e3).trans e4
    have rA4 := rA.ext eH4
    refine q_asg (v := .bl (brL p (lev z))) (ev_is (ev_orV (ev_op (ev_level (ev_var rfl) rA4) (ev_var rfl) rv_I0) fun _ => ev_chain (ev_level (ev_var rfl) rA4) (ev_var rfl) (rv_eq rfl) (fun _ => ev_c (v := .int ((3 : Nat) : Int))) (fun _ => rv_eq rfl)) (bl_eq (by
      unfold brL
      rw [dec_lt, dec_eqV, dec_eqV]))) fun H4' e4' => ?_
    have eH4' := eH4.trans e4'
    refine q_unpP (evp_shw (b := brL p (lev z)) (et_B (ev_var rfl)) (ev_var rfl) (rA.ext eH4')) fun H5 e5 => ?_
    have eH5 := eH4'.trans e5
    have rB5 := rB.ext eH5
    refine q_unpP (evp_shw (b := brR q (lev z)) (et_B (ev_is (ev_op (ev_level (ev_var rfl) rB5) (ev_var rfl) rv_I0) (bl_eq (by
      unfold brR
      rw [dec_le])))) (ev_var rfl) rB5) fun H6 e6 => ?_
    have eH6 := eH5.trans e6
    have lp : (shw (brL p (lev z)) p).1.length ≤ 6200 := by
      have h1 := shw_len (brL p (lev z)) p
      have h2 := ra.ok.2.2.1
      have h3 := ra.ok.1
      have h4 := b2_le (brL p (lev z))
      omega
    have lq : (shw (brR q (lev z)) q).1.length ≤ 6200 := by
      have h1 := shw_len (brR q (lev z)) q
      have h2 := rb.ok.2.2.1
      have h3 := rb.ok.1
      have h4 := b2_le (brR q (lev z))
      omega
    have lz := op_len hz
    have tl : (trJ p z q).toks.length = (shw (brL p (lev z)) p).2.1.length + (shw (brR q (lev z)) q).2.1.length + 1 := by
      show ((shw (brL p (lev z)) p).2.1 ++ (z :: (shw (brR q (lev z)) q).2.1)).length = _
      rw [List.length_append, List.length_cons]
      omega
    have h3' := shw2 (brL p (lev z)) p
    have h4' := shw2 (brR q (lev z)) q
    refine q_asgP (P := fun v H' => ∃ sh, v = .ref sh ∧ H' sh = some (.tup [.str (trJ p z q).text, .int ((trJ p z q).toks.length : Int), .int ((trJ p z q).depth : Int)])) (fun H7 e Q q0 => k_tup (k_cons (ev_joined (z := (trJ p z q).text) (.cons (ev_fmtS (ev_var rfl) (by omega)) (.cons ev_c (.cons (ev_fmtS (ev_var rfl) (by omega)) (.cons ev_c (.cons (ev_fmtS (ev_var rfl) (by omega)) .nil))))) (by have h2 := ok.2.2.1; have h3 := ok.1; omega) (by
      show ((((Str.empty ++ (shw (brL p (lev z)) p).1) ++ (" " : Str)) ++ z) ++ (" " : Str)) ++ (shw (brR q (lev z)) q).1 = _
      rw [empty_app]
      rfl)) fun H8 e8 => k_cons (ev_op (ev_op (ev_var rfl) (ev_var rfl) rv_I0) ev_c rv_I0) fun H9 e9 => k_cons (x := .int ((trJ p z q).depth : Int)) (ev_cb (ea_cons (ev_var (v := .int ((shw (brL p (lev z)) p).2.2 : Int)) rfl) (ea_cons (ev_var (v := .int ((shw (brR q (lev z)) q).2.2 : Int)) rfl) ea_nil)) fun H1 e Q q => ⟨_, _, rfl, by rw [max_nat]; exact q H1 (Ex.refl H1)⟩) fun H10 e10 => k_nil ⟨show 3 ≤ sizeLine from sz_of (by decide), fun t nt => q0 _ _ (((e8.trans e9).trans e10).trans (Ex.new nt)) ⟨t, rfl, by rw [upd_same, tl]; rfl⟩⟩)) fun v7 H7 e7 ⟨sh, ev7, hsh⟩ => ?_
    subst ev7
    have eH7 := eH6.trans e7
    have hx7 := eH7 _ _ hx
    have nsh : sh ≠ x := fun q => by rw [q, hx7] at hsh; cases hsh
    have ra7 := ra.ext (wo_mono eH7)
    have rb7 := rb.ext (wo_mono eH7)
    refine q_supT (t := trJ p z q) hx7 rfl hC ok (fun H8 e Q q0 => ?_) fun sh u bv us H8 e8 hx8 hp hu hul huc nsh nu => ?_
    · have ra8 := ra7.ext e
      have rb8 := rb7.ext e
      refine k_cons (ev_var rfl) fun H9 e9 => k_consU (eu_tup (ea_cons (ev_var rfl) (ea_cons (ev_var rfl) ea_nil)) (show 2 ≤ 100000 by decide)) fun b2 H10 _ e10 _ => k_cons (ev_var rfl) fun H11 e11 => ?_
      have e811 := (e9.trans e10).trans e11
      obtain ⟨u1, us1, hu1', hul1, huc1, evu1⟩ := ev_usedF (te := tVar 1) (ev_var (σ := [some (.ref x), some (.ref a), some (.str z), some (.ref b), some (.int (lev z : Int)), some (.bl (brL p (lev z))), some (.str (shw (brL p (lev z)) p).1), some (.int ((shw (brL p (lev z)) p).2.1.length : Int)), some (.int ((shw (brL p (lev z)) p).2.2 : Int)), some (.str (shw (brR q (lev z)) q).1), some (.int ((shw (brR q (lev z)) q).2.1.length : Int)), some (.int ((shw (brR q (lev z)) q).2.2 : Int)), some (.ref sh), none]) rfl) (ra8.ext e811)
      obtain ⟨u2, us2, hu2', hul2, huc2, evu2⟩ := ev_usedF (te := tVar 3) (ev_var (σ := [some (.ref x), some (.ref a), some (.str z), some (.ref b), some (.int (lev z : Int)), some (.bl (brL p (lev z))), some (.str (shw (brL p (lev z)) p).1), some (.int ((shw (brL p (lev z)) p).2.1.length : Int)), some (.int ((shw (brL p (lev z)) p).2.2 : Int)), some (.str (shw (brR q (lev z)) q).1), some (.int ((shw (brR q (lev z)) q).2.1.length : Int)), some (.int ((shw (brR q (lev z)) q).2.2 : Int)), some (.ref sh), none]) rfl) (rb8.ext e811)
      have a200 := ra.ok.1
      have b200 := rb.ok.1
      refine k_cons' (k_call (k_cons evu1 fun H12 e12 => k_cons (Ev.mono e12 evu2) fun H13 e13 => k_nil ⟨u1, u2, us1, us2, rfl, (e12.trans e13) _ _ hu1', (e12.trans e13) _ _ hu2', by omega, by omega, huc1, huc2, fun zu zs H14 e14 hz' hzl hzc => k_nil (q0 _ _ (e811.trans ((e12.trans e13).trans e14)) ⟨sh, .ref b2, zu, zs, rfl, (e811.trans ((e12.trans e13).trans e14)) _ _ (e _ _ (by rw [wo_ne nsh]; exact hsh)), hz', by omega, hzc⟩)⟩))
    have l6 := fs5_len (.str (trJ p z q).text) (.ref sh) bv (.int ((trJ p z q).level : Int)) (.ref u)
    refine q_self wo_at wo_ex hx8 rfl (ev_var rfl) hC.cls (hC.no _ (mem_fld _)) (by omega) fun H9 e9 hx9 => ?_
    have l7 := putF_len "_left" (.ref a) (FS5 (.str (trJ p z q).text) (.ref sh) bv (.int ((trJ p z q).level : Int)) (.ref u))
    refine q_self wo_at wo_ex hx9 rfl (ev_var rfl) hC.cls (hC.no _ (mem_fld _)) (by omega) fun H10 e10 hx10 => ?_
    have l8 := putF_len "_sign" (.str z) (putF "_left" (.ref a) (FS5 (.str (trJ p z q).text) (.ref sh) bv (.int ((trJ p z q).level : Int)) (.ref u)))
    refine s_self wo_at wo_ex hx10 rfl (ev_var rfl) hC.cls (hC.no _ (mem_fld _)) (by omega) fun H11 e11 hx11 => ?_
    have r := ((TFS.put (f := "_left") (v := .ref a) (fs5 (.str (trJ p z q).text) (.ref sh) bv (.int ((trJ p z q).level : Int)) (.ref u)) (by omega) (by decide +kernel) (by decide +kernel)).put (f := "_sign") (v := .str z) (by omega) (by decide +kernel) (by decide +kernel)).put (f := "_right") (v := .ref b) (by omega) (by decide +kernel) (by decide +kernel)
    have s9 := e9 sh _ (by rw [wo_ne nsh]; exact hp)
    have u9 := e9 u _ (by rw [wo_ne nu]; exact hu)
    have s10 := e10 sh _ (by rw [wo_ne nsh]; exact s9)
    have u10 := e10 u _ (by rw [wo_ne nu]; exact u9)
    exact k H11 (wo_trans (wo_trans (wo_trans (wo_trans (wo_ex.trans eH7) e8) e9) e10) e11) (r.rep hC hx11 (e11 sh _ (by rw [wo_ne nsh]; exact s10)) (e11 u _ (by rw [wo_ne nu]; exact u10)) hul huc ok)
end
end M14

set_option maxHeartbeats 4000000
namespace M14
open PySem PySem.Spec PyProof.Rows L2 Evl TL Gd
section
variable {K : PySem.W.Frag} {σ : L2.St} {G H : Hp} {te td ty tv tb : TE} {ta tr : TA} {D : Ends} {tz : TS} {p : Addr}
theorem ev_dget {kvs : List (Key × V)} {z : Str} {v : V} (h : Ev td σ H (.ref p)) (hy : Ev ty σ H (.str z)) (hp : H p = some (.dK kvs)) (hv : valV kvs (.inr z) = some v) : Ev (tDGet td ty) σ H v := fun H1 e Q q =>
  h H1 e _ fun H2 e2 => hy H2 (e.trans e2) _ fun H3 e3 => ⟨p, v, rfl, by
    have := DGet.k (k := .inr z) (((e.trans e2).trans e3) _ _ hp)
    rw [hv] at this
    exact this, q H3 (e2.trans e3)⟩
theorem q_dput {kvs : List (Key × V)} {z : Str} {v : V} (h : Ev tv σ H v) (ho : Ev td σ H (.ref p)) (hy : Ev ty σ H (.str z)) (hp : H p = some (.dK kvs)) (hl : kvs.length < 1000) (k : ∀ H1, Ex (wo p H) H1 → H1 p = some (.dK (putK kvs (.inr z) v)) → tz D σ H1) :
    tSeq (sDPut td ty tv) tz D σ H := h H (Ex.refl H) _ fun H1 e1 => ho H1 e1 _ fun H2 e2 => hy H2 (e1.trans e2) _ fun H3 e3 => ⟨p, _, rfl, DPut.k (k := .inr z) (((e1.trans e2).trans e3) _ _ hp) (Nat.lt_trans hl (by decide)),
      k _ (wo_trans (wo_ex.trans ((e1.trans e2).trans e3)) wo_upd) upd_same⟩
/-- a new list of new lists -/
def LR (zss : List (List Str)) (vs : List V) (H1 : Hp) : Prop := ∃ as : List Addr, vs = as.map V.ref ∧ Paired (fun (a : Addr) (zs : List Str) => H1 a = some (.lst (zs.map V.str))) as zss
theorem paired_ex {H1 H2 : Hp} (e : Ex H1 H2) : ∀ {as : List Addr} {zss : List (List Str)}, Paired (fun (a : Addr) (zs : List Str) => H1 a = some (.lst (zs.map V.str))) as zss → Paired (fun (a : Addr) (zs : List Str) => H2 a = some (.lst (zs.map V.str))) as zss
  | _, _, .nil => .nil
  | _, _, .cons h r => .cons (e _ _ h) (paired_ex e r)
theorem LR.ex {zss : List (List Str)} (vs : List V) (H1 H2 : Hp) (e : Ex H1 H2) (h : LR zss vs H1) : LR zss vs H2 := by
  obtain ⟨as, h1, h2⟩ := h
  exact ⟨as, h1, paired_ex e h2⟩
theorem eapl_nil : EvAP tNil σ G (LR []) := fun H1 e Q q => q [] H1 (Ex.refl H1) ⟨[], rfl, .nil⟩
theorem eapl_cons {zs : List Str} {zss : List (List Str)} (h : EvA ta σ G (zs.map V.str)) (hz : zs.length ≤ 100) (hr : EvAP tr σ G (LR zss)) : EvAP (tCons (tLst ta) tr) σ G (LR (zs :: zss)) := fun H1 e Q q =>
  el_lst h (by rw [List.length_map]; omega) H1 e _ fun a H2 na e2 ha => hr H2 (e.trans e2) _ fun vs H3 e3 ⟨as, h1, h2⟩ => q _ H3 (e2.trans e3) ⟨a :: as, by rw [h1]; rfl, .cons (e3 _ _ ha) h2⟩
theorem ea_strs {σ : L2.St} {H : Hp} : EvA tNil σ H (([] : List Str).map V.str) := ea_nil
theorem ea_str {σ : L2.St} {H : Hp} {z : Str} {l : List Str} {t : TA} (h : EvA t σ H (l.map V.str)) : EvA (tCons (tC (.str z)) t) σ H ((z :: l).map V.str) := ea_cons ev_c h
end
def OPL8 : List (List Str) := [["||"], ["&&"], ["==", "!=", "<", "<=", ">", ">="], ["|"], ["^"], ["&"], ["<<", ">>"], ["+", "-"]]
def OPL9 : List (List Str) := [["*", "/", "mod"]]
def OPL : List (List Str) := OPL8 ++ OPL9
def OpsR (H : Hp) (l : Addr) : Prop := ∃ vs, H l = some (.lst vs) ∧ LR OPL vs H
theorem paired_app {α β : Type} {R : α → β → Prop} : ∀ {as : List α} {bs : List β} {cs : List α} {ds : List β}, Paired R as bs → Paired R cs ds → Paired R (as ++ cs) (bs ++ ds)
  | _, _, _, _, .nil, h => h
  | _, _, _, _, .cons h r, k => .cons h (paired_app r k)
theorem OpsR.ex {H H' : Hp} {l : Addr} (h : OpsR H l) (e : Ex H H') : OpsR H' l := by
  obtain ⟨vs, h1, h2⟩ := h
  exact ⟨vs, e _ _ h1, h2.ex _ _ _ e⟩

section
variable {P : Program} {w : World} {K : PySem.W.Frag} {mg : Str → Option Value} {base : Heap} {CT gT gU fL fS : Addr}
/-! ### paths, operators -/
abbrev s_law_paths : Stmt := top 38
theorem sc_law_paths : FnScope [] [] (defScope s_law_paths) := ⟨rfl, rfl, rfl, by decide +kernel, rfl, by decide +kernel, by decide +kernel⟩
def spPaths : Sp := fun vs H Q _ => vs = [] ∧ ∀ l H2, Ex H H2 → H2 l = some (.lst (PATHS.map V.str)) → Q (.ref l) H2
theorem ok_law_paths {f : Addr} {fd : FuncData} (F : Fun K "_law_paths" "_law_paths" s_law_paths f fd) : FnOk P w K mg base CX0 1 f fd [] spPaths := by
  refine F.ok sc_law_paths (fun vs H Q E h => ?_) (fun cdv A outer s H vs Q E hr h => ?_)
  · obtain ⟨rfl, _⟩ := h
    rfl
  · obtain ⟨rfl, k⟩ := h
    refine ⟨_, (pss_one (ps_ret (pe_lst (pa_cons pe_str (pa_cons pe_str (pa_cons pe_str (pa_cons pe_str (pa_cons pe_str (pa_cons pe_str (pa_cons pe_str (pa_cons pe_str (pa_cons pe_str pa_nil)))))))))))), ?_⟩
    refine s_retL (xs := PATHS.map V.str) (el_lst (ea_str (ea_str (ea_str (ea_str (ea_str (ea_str (ea_str (ea_str (ea_str ea_strs))))))))) (by decide)) fun l H2 hl e2 h2 => k l H2 e2 h2
abbrev s_law_operators : Stmt := top 39
theorem sc_law_operators : FnScope ["_law_some"] [] (defScope s_law_operators) := ⟨rfl, rfl, rfl, by decide +kernel, rfl, by decide +kernel, by decide +kernel⟩
def spOps : Sp := fun vs H Q _ => vs = [] ∧ ∀ l H2, Ex H H2 → OpsR H2 l → Q (.ref l) H2
theorem ok_law_operators {f : Addr} {fd : FuncData} (F : Fun K "_law_operators" "_law_operators" s_law_operators f fd) : FnOk P w K mg base CX0 1 f fd [] spOps := by
  refine F.ok sc_law_operators (fun vs H Q E h => ?_) (fun cdv A outer s H vs Q E hr h => ?_)
  · obtain ⟨rfl, _⟩ := h
    rfl
  · obtain ⟨rfl, k⟩ := h
    refine ⟨_, (pss_cons (ps_set (i := 0) sc_law_operators.nd rfl (Or.inl rfl) (pe_lst (pa_cons (pe_lst (pa_cons pe_str pa_nil)) (pa_cons (pe_lst (pa_cons pe_str pa_nil)) (pa_cons (pe_lst (pa_cons pe_str (pa_cons pe_str (pa_cons pe_str (pa_cons pe_str (pa_cons pe_str (pa_cons pe_str pa_nil))))))) (pa_cons (pe_lst (pa_cons pe_str pa_nil)) (pa_cons (pe_lst (pa_cons pe_str pa_nil)) (pa_cons (pe_lst (pa_cons pe_str pa_nil)) (pa_cons (pe_lst (pa_cons pe_str (pa_cons pe_str pa_nil))) (pa_cons (pe_lst (pa_cons pe_str (pa_cons pe_str pa_nil))) pa_nil))))))))))
  (pss_one (ps_ret (pe_op op_cat (pv 0) (pe_lst (pa_cons (pe_lst (pa_cons pe_str (pa_cons pe_str (pa_cons pe_str pa_nil)))) pa_nil)))))), ?_⟩
    refine q_asgP (P := fun v H1 => ∃ l vs, v = .ref l ∧ H1 l = some (.lst vs) ∧ LR OPL8 vs H1) (evp_lst (R := LR OPL8) (eapl_cons (zs := ["||"]) (ea_str ea_strs) (by decide) (eapl_cons (zs := ["&&"]) (ea_str ea_strs) (by decide) (eapl_cons (zs := ["==", "!=", "<", "<=", ">", ">="]) (ea_str (ea_str (ea_str (ea_str (ea_str (ea_str ea_strs)))))) (by decide) (eapl_cons (zs := ["|"]) (ea_str ea_strs) (by decide) (eapl_cons (zs := ["^"]) (ea_str ea_strs) (by decide) (eapl_cons (zs := ["&"]) (ea_str ea_strs) (by decide) (eapl_cons (zs := ["<<", ">>"]) (ea_str (ea_str ea_strs)) (by decide) (eapl_cons (zs := ["+", "-"]) (ea_str (ea_str ea_strs)) (by decide) eapl_nil)))))))) LR.ex (fun vs H1 ⟨as, h1, h2⟩ => by
      have hl : as.length = OPL8.length := h2.length
      rw [h1, List.length_map, hl]
      decide)) fun v H1 e1 hv => ?_
    obtain ⟨l, vs, rfl, hl, hv⟩ := hv
    have len : vs.length = 8 := by
      obtain ⟨as, h1, h2⟩ := hv
      have hl : as.length = OPL8.length := h2.length
      rw [h1, List.length_map, hl]
      rfl
    refine s_retP (evp_cat (R := LR OPL9) (ev_var rfl) hl (evp_lst (R := LR OPL9) (eapl_cons (zs := ["*", "/", "mod"]) (ea_str (ea_str (ea_str ea_strs))) (by decide) eapl_nil) LR.ex (fun vs H1 ⟨as, h1, h2⟩ => by
      have hl : as.length = OPL9.length := h2.length
      rw [h1, List.length_map, hl]
      decide)) LR.ex (fun ws H1 ⟨as, h1, h2⟩ => by
      have hl : as.length = OPL9.length := h2.length
      rw [h1, List.length_map, hl, len]
      decide)) fun v H2 e2 hw => ?_
    obtain ⟨l2, ws, rfl, hl2, as2, rfl, hp2⟩ := hw
    obtain ⟨as, rfl, hp⟩ := hv.ex _ _ _ e2
    exact k l2 H2 (e1.trans e2) ⟨_, hl2, as ++ as2, by rw [List.map_append], paired_app hp hp2⟩

/-! ### the draws -/
abbrev s_law_next : Stmt := top 37
theorem sc_law_next : FnScope ["_law_stream", "_law_many", "_law_found", "_law_k", "_law_cells", "_law_mixed"] ["_law_stream", "_law_many"] (defScope s_law_next) := ⟨rfl, rfl, rfl, by decide +kernel, rfl, by decide +kernel, by decide +kernel⟩
def kv3 (c t r : V) : List (Key × V) := [(.inr "cells", c), (.inr "turn", t), (.inr "rest", r)]
def Stm (p : Addr) (b : Nat) (H : Hp) : Prop := ∃ (c : Addr) (xs : List Int) (t r : Int), H p = some (.dK (kv3 (.ref c) (.int t) (.int r))) ∧ H c = some (.lst (xs.map V.int)) ∧ 0 < xs.length ∧ xs.length ≤ 130 ∧ 0 ≤ t ∧ t ≤ b ∧ 0 ≤ r
def spNext : Sp := fun vs H Q _ => ∃ (p : Addr) (m : Nat) (b : Nat), vs = [.ref p, .int (m : Int)] ∧ 0 < m ∧ m ≤ 1000 ∧ Stm p b H ∧ b + 1 ≤ 1000000000 ∧ ∀ (n : Nat) H2, n < m → Stm p (b + 1) H2 → Ex (wo p H) H2 → Q (.int (n : Int)) H2
theorem put_turn (c t r v : V) : putK (kv3 c t r) (.inr "turn") v = kv3 c v r := by rfl
theorem put_rest (c t r v : V) : putK (kv3 c t r) (.inr "rest") v = kv3 c t v := by rfl
theorem val_cells (c t r : V) : valV (kv3 c t r) (.inr "cells") = some c := by rfl
theorem val_turn (c t r : V) : valV (kv3 c t r) (.inr "turn") = some t := by rfl
theorem val_rest (c t r : V) : valV (kv3 c t r) (.inr "rest") = some r := by rfl
theorem ok_law_next {f : Addr} {fd : FuncData} (F : Fun K "_law_next" "_law_next" s_law_next f fd) (T : Tx K mg) : FnOk P w K mg base CX0 1 f fd ["_law_stream", "_law_many"] spNext := by
  refine F.ok sc_law_next (fun vs H Q E h => ?_) (fun cdv A outer s H vs Q E hr h => ?_)
  · obtain ⟨p, m, b, rfl, _⟩ := h
    rfl
  · obtain ⟨p, m, b, rfl, hm, hm2, hS, hb, k⟩ := h
    have hu : (A.deeper (envOfC "_law_next" (defScope s_law_next) s.heap.objs.size f cdv)).units + 1 < cLine := by
      have := hr.un
      omega
    refine ⟨_, (pss_cons (ps_dput hu (pv 0) pe_str (pe_op op_add (pe_dget hu (pv 0) pe_str (fun _ _ => rfl)) pe_int) rfl)
  (pss_cons (ps_if (pt_cmpR op_gt (pe_dget hu (pv 0) pe_str (fun _ _ => rfl)) pe_int (nomark _))
    (pss_cons (ps_set (i := 2) sc_law_next.nd rfl (Or.inl rfl) (pe_op op_modN (pe_callTy call_int1 (by rfl) T.b_int (by decide +kernel) (pa_cons (pe_dget hu (pv 0) pe_str (fun _ _ => rfl)) pa_nil)) (pv 1)))
      (pss_cons (ps_dput hu (pv 0) pe_str (pe_op op_fdivN (pe_dget hu (pv 0) pe_str (fun _ _ => rfl)) (pv 1)) rfl)
      (pss_one (ps_ret (pv 2)))))
    pss_nil)
  (pss_cons (ps_par (i := 3) (j := 4) (by rfl) sc_law_next.nd rfl rfl (by decide) rfl rfl (pa_cons (pe_dget hu (pv 0) pe_str (fun _ _ => rfl)) (pa_cons (pe_dget hu (pv 0) pe_str (fun _ _ => rfl)) pa_nil)) (by rfl))
  (pss_cons (ps_set (i := 5) sc_law_next.nd rfl (Or.inl rfl) (pe_op op_add (pe_op op_mod (pe_callTy call_int1 (by rfl) T.b_int (by decide +kernel) (pa_cons (pe_op op_add (pe_ix ix_list (pv 4) (pe_op op_modN (pe_callTy call_int1 (by rfl) T.b_int (by decide +kernel) (pa_cons (pv 3) pa_nil)) (pe_callB call_len_seq (by rfl) T.b_len (by decide +kernel) (pa_cons (pv 4) pa_nil))) (fun _ _ => rfl)) (pe_op op_mul pe_int (pv 3))) pa_nil)) pe_int) (pe_op op_mul (pe_op op_mul pe_int (pv 3)) (pv 3))))
  (pss_cons (ps_set (i := 5) sc_law_next.nd rfl (Or.inl rfl) (pe_op op_mod (pe_op op_mul (pe_op op_mod (pe_callTy call_int1 (by rfl) T.b_int (by decide +kernel) (pa_cons (pv 5) pa_nil)) pe_int) (pe_op op_add (pv 3) pe_int)) pe_int))
  (pss_one (ps_ret (pe_op op_modN (pe_op op_fdiv (pe_op op_mod (pe_callTy call_int1 (by rfl) T.b_int (by decide +kernel) (pa_cons (pe_op op_mul (pv 5) (pv 5)) pa_nil)) pe_int) pe_int) (pv 1))))))))), ?_⟩
    obtain ⟨c, xs, t, r, hp, hc, hl, hl2, ht0, htb, hr0⟩ := hS
    have ncp : c ≠ p := fun q => by rw [q, hp] at hc; cases hc
    have m0 : (m : Int) ≠ 0 := by omega
    refine q_dput (p := p) (v := .int (t + 1)) (ev_op (ev_dget (ev_var rfl) ev_c hp (val_turn _ _ _)) ev_c rv_I0) (ev_var rfl) ev_c hp (show 3 < 1000 by decide) fun H1 e1 hp1 => ?_
    rw [put_turn] at hp1
    have c1 : H1 c = some (.lst (xs.map V.int)) := e1 _ _ (by rw [wo_ne ncp]; exact hc)
    have fin : ∀ (v : Int) (r' : Int) (H2 : Hp), 0 ≤ r' → H2 p = some (.dK (kv3 (.ref c) (.int (t + 1)) (.int r'))) → Ex (wo p H) H2 → 0 ≤ v → v < (m : Int) → Q (.int v) H2 := fun v r' H2 hr' h2 e2 h3 h4 => by
      have hv : v = ((v.toNat : Nat) : Int) := (Int.toNat_of_nonneg h3).symm
      rw [hv]
      exact k v.toNat H2 (by omega) ⟨c, xs, t + 1, r', h2, e2 _ _ (by rw [wo_ne ncp]; exact hc), hl, hl2, by omega, by omega, hr'⟩ e2
    refine q_when (b := decide (r > 0)) (et_B (ev_op (ev_dget (ev_var rfl) ev_c hp1 (val_rest _ _ _)) ev_c rv_I0)) (fun hb H2 e2 => ?_) (fun hb H2 e2 => ?_)
    · have hp2 := e2 _ _ hp1
      refine q_asg (v := .int (r.fmod m)) (ev_op (ev_int1 (ev_dget (ev_var rfl) ev_c hp2 (val_rest _ _ _))) (ev_var rfl) (rv_I m0)) fun H3 e3 => ?_
      have hp3 := e3 _ _ hp2
      refine q_dput (p := p) (v := .int (r.fdiv m)) (ev_op (ev_dget (ev_var rfl) ev_c hp3 (val_rest _ _ _)) (ev_var rfl) (rv_I ⟨m0, by omega⟩)) (ev_var rfl) ev_c hp3 (show 3 < 1000 by decide) fun H4 e4 hp4 => ?_
      rw [put_rest] at hp4
      refine s_ret (ev_var rfl) fun H5 e5 => ?_
      refine fin (r.fmod m) (r.fdiv m) H5 ?_ (e5 _ _ hp4) ((wo_trans ((e1.trans e2).trans e3) e4).trans e5) (Int.fmod_nonneg_of_pos _ (by omega)) (Int.fmod_lt_of_pos _ (by omega))
      rw [Int.fdiv_eq_ediv_of_nonneg _ (by omega)]
      exact Int.ediv_nonneg hr0 (by omega)
    · have hp2 := e2 _ _ hp1
      have c2 := e2 _ _ c1
      refine (fun {H : Hp} {i j : Nat} {ta : TA} {v w : V} {tz : TS} (h : EvA ta _ H [v, w]) (kk : ∀ H1, Ex H H1 → tz _ ((L2.start _ _).set i (some v) |>.set j (some w)) H1) => (h H (Ex.refl H) _ fun H1 e => ⟨v, w, rfl, kk H1 e⟩ : tSeq (tPar i j ta) tz _ _ H)) (ea_cons (ev_dget (ev_var rfl) ev_c hp2 (val_turn _ _ _)) (ea_cons (ev_dget (ev_var rfl) ev_c hp2 (val_cells _ _ _)) ea_nil)) fun H3 e3 => ?_
      have c3 := e3 _ _ c2
      have i0 := Int.fmod_nonneg_of_pos (t + 1) (show (0 : Int) < (xs.length : Int) by omega)
      have i1 := Int.fmod_lt_of_pos (t + 1) (show (0 : Int) < (xs.length : Int) by omega)
      obtain ⟨j, hj⟩ : ∃ j : Nat, (t + 1).fmod (xs.length : Int) = (j : Int) := ⟨_, (Int.toNat_of_nonneg i0).symm⟩
      have hjl : j < xs.length := by omega
      have at_ : atI (xs.map V.int) (j : Int) = some (.int (xs[j]'hjl)) := atI_nat (j := j) (by rw [List.getElem?_map, List.getElem?_eq_getElem hjl]; rfl)
      generalize hx : xs[j]'hjl = y at at_
      refine q_asg (v := .int ((y + 1009 * (t + 1)) % 2147483647 + 65537 * (t + 1) * (t + 1))) (ev_op (ev_op (ev_int1 (ev_op (ev_op (ev_var rfl) (ev_op (z := .int (j : Int)) (ev_int1 (ev_var rfl)) (ev_len (ev_var rfl) (sq_of c3)) (by
        rw [List.length_map, ← hj]
        exact rv_I (by omega))) (rv_ixL (sq_of c3) at_)) (ev_op ev_c (ev_var rfl) (rv_I (Or.inl (by omega)))) rv_I0)) ev_c (rv_I (by decide))) (ev_op (ev_op ev_c (ev_var rfl) (rv_I (Or.inl (by omega)))) (ev_var rfl) (rv_I (Or.inr (by omega)))) rv_I0) fun H4 e4 => ?_
      generalize (y + 1009 * (t + 1)) % 2147483647 + 65537 * (t + 1) * (t + 1) = a
      have a0 : 0 ≤ a % 2147483647 := Int.emod_nonneg _ (by decide)
      have a1 : a % 2147483647 < 2147483647 := Int.emod_lt_of_pos _ (by decide)
      refine q_asg (v := .int (a % 2147483647 * (t + 1 + 48271) % 2147483629)) (ev_op (ev_op (ev_op (ev_int1 (ev_var rfl)) ev_c (rv_I (by decide))) (ev_op (ev_var rfl) ev_c rv_I0) (rv_I (Or.inl (by omega)))) ev_c (rv_I (by decide))) fun H5 e5 => ?_
      have b0 : 0 ≤ a % 2147483647 * (t + 1 + 48271) % 2147483629 := Int.emod_nonneg _ (by decide)
      have b1 : a % 2147483647 * (t + 1 + 48271) % 2147483629 < 2147483629 := Int.emod_lt_of_pos _ (by decide)
      generalize a % 2147483647 * (t + 1 + 48271) % 2147483629 = d at b0 b1
      refine s_ret (v := .int ((d * d % 2147483647 / 5).fmod m)) (ev_op (ev_op (ev_op (ev_int1 (ev_op (ev_var rfl) (ev_var rfl) (rv_I (Or.inl (by omega))))) ev_c (rv_I (by decide))) ev_c (rv_I (show CDiv _ _ from by unfold CDiv; decide))) (ev_var rfl) (rv_I m0)) fun H6 e6 => ?_
      exact fin _ r H6 hr0 (e6 _ _ (e5 _ _ (e4 _ _ (e3 _ _ hp2)))) (((((e1.trans e2).trans e3).trans e4).trans e5).trans e6) (Int.fmod_nonneg_of_pos _ (by omega)) (Int.fmod_lt_of_pos _ (by omega))
end
end M14

set_option maxHeartbeats 4000000
namespace M14
open PySem PySem.Spec PyProof.Rows L2 Evl TL Gd
theorem Stm.ex {p : Addr} {b : Nat} {H H' : Hp} (h : Stm p b H) (e : Ex H H') : Stm p b H' := by
  obtain ⟨c, xs, t, r, h1, h2, h3⟩ := h
  exact ⟨c, xs, t, r, e _ _ h1, e _ _ h2, h3⟩
theorem Stm.up {p : Addr} {b b' : Nat} {H : Hp} (h : Stm p b H) (hb : b ≤ b') : Stm p b' H := by
  obtain ⟨c, xs, t, r, h1, h2, h3, h4, h5, h6, h7⟩ := h
  exact ⟨c, xs, t, r, h1, h2, h3, h4, h5, by omega, h7⟩
theorem Stm.dk {p : Addr} {b : Nat} {H : Hp} (h : Stm p b H) : ∃ kvs, H p = some (.dK kvs) := by
  obtain ⟨c, xs, t, r, h1, _⟩ := h
  exact ⟨_, h1⟩
theorem ne_dk {p a : Addr} {b : Nat} {H : Hp} {o : HO} (h : Stm p b H) (ha : H a = some o) (no : ∀ kvs, o ≠ .dK kvs) : a ≠ p := fun q => by
  obtain ⟨kvs, h1⟩ := h.dk
  rw [q, h1] at ha
  exact no kvs (Option.some.inj ha).symm
theorem PlanR.wo {p : Addr} {b : Nat} {H : Hp} (h : Stm p b H) : ∀ {a : Addr} {pl : Plan}, PlanR H a pl → PlanR (wo p H) a pl
  | a, .num n, r => by
    show Gd.wo p H a = _
    rw [wo_ne (ne_dk h r fun _ z => by cases z)]
    exact r
  | a, .nam s, r => by
    show Gd.wo p H a = _
    rw [wo_ne (ne_dk h r fun _ z => by cases z)]
    exact r
  | a, .mrk s q, ⟨c, h1, h2⟩ => ⟨c, by rw [wo_ne (ne_dk h h1 fun _ z => by cases z)]; exact h1, PlanR.wo h h2⟩
  | a, .joi q s r, ⟨c, d, h1, h2, h3⟩ => ⟨c, d, by rw [wo_ne (ne_dk h h1 fun _ z => by cases z)]; exact h1, PlanR.wo h h2, PlanR.wo h h3⟩
section
variable {K : PySem.W.Frag} {σ : L2.St} {H : Hp} {te td tl tm : TE} {D : Ends} {tz : TS} {p : Addr} {b k : Nat} {R : V → Hp → Prop}
/-- draws: p's counter goes up by k at most -/
def Ds (p : Addr) (te : TE) (σ : L2.St) (H : Hp) (b k : Nat) (R : V → Hp → Prop) : Prop := ∀ H1, Ex H H1 → ∀ Q : VK, (∀ v H2, Ex (wo p H1) H2 → Stm p (b + k) H2 → R v H2 → Q v H2) → te σ H1 Q
theorem ds_next {i m : Nat} {E : XK} (hσ : σ[i]? = some (some (.ref p))) (hm : Ev tm σ H (.int (m : Int))) (h0 : 0 < m) (h1 : m ≤ 1000) (hS : Stm p b H) (hb : b + 1 ≤ 1000000000) :
    Ds p (tCall spNext [] E (tCons (tVar i) (tCons tm tNil))) σ H b 1 (fun v _ => ∃ n : Nat, v = .int (n : Int) ∧ n < m) := fun H1 e Q q =>
  ⟨.ref p, hσ, hm H1 e _ fun H2 e2 => ⟨p, m, b, rfl, h0, h1, hS.ex (e.trans e2), hb, fun n H3 hn s3 e3 => q _ H3 ((wo_mono e2).trans e3) s3 ⟨n, rfl, hn⟩⟩⟩
theorem ds_ix {m : Nat} {PL : List V → Hp → Prop} (hl : EvP tl σ H (fun v H1 => ∃ l xs, v = .ref l ∧ H1 l = some (.lst xs) ∧ PL xs H1)) (hd : Ds p td σ H b k (fun v _ => ∃ n : Nat, v = .int (n : Int) ∧ n < m)) (hm : ∀ xs H1, PL xs H1 → m ≤ xs.length) (hS : Stm p b H) :
    Ds p (tOp (rIxL K) tl td) σ H b k (fun v H2 => ∃ xs H1 n, PL xs H1 ∧ Stm p b H1 ∧ Ex (wo p H1) H2 ∧ n < m ∧ xs[n]? = some v) := fun H1 e Q q =>
  hl H1 e _ fun v H2 e2 ⟨l, xs, ev, h2, pl⟩ => by
    subst ev
    refine hd H2 (e.trans e2) _ fun v H3 e3 s3 ⟨n, ev, hn⟩ => ?_
    subst ev
    have hS2 := hS.ex (e.trans e2)
    have nl : l ≠ p := ne_dk hS2 h2 fun _ z => by cases z
    have h3 : H3 l = some (.lst xs) := e3 _ _ (by rw [wo_ne nl]; exact h2)
    have hlt : n < xs.length := Nat.lt_of_lt_of_le hn (hm xs H2 pl)
    exact ⟨l, xs, (n : Int), xs[n], rfl, rfl, sq_of h3, atI_nat (j := n) (List.getElem?_eq_getElem hlt), q _ H3 ((wo_mono e2).trans e3) s3 ⟨xs, H2, n, pl, hS2, e3, hn, List.getElem?_eq_getElem hlt⟩⟩
theorem ds_imp {R' : V → Hp → Prop} (h : Ds p te σ H b k R) (hi : ∀ v H2, R v H2 → R' v H2) : Ds p te σ H b k R' := fun H1 e Q q => h H1 e Q fun v H2 e2 s r => q v H2 e2 s (hi v H2 r)
theorem q_ds {i : Nat} (h : Ds p te σ H b k R) (kk : ∀ v H2, Ex (wo p H) H2 → Stm p (b + k) H2 → R v H2 → tz D (σ.set i (some v)) H2) : tSeq (tAsg te (gName i)) tz D σ H := h H (Ex.refl H) _ fun v H2 e s r => kk v H2 e s r
theorem s_retD2 {c : V} (h : Ds p te σ H b k R) (up : ∀ v H1 H2, Ex H1 H2 → R v H1 → R v H2) (kk : ∀ v a H2, Ex (wo p H) H2 → Stm p (b + k) H2 → R v H2 → H2 a = some (.tup [c, v]) → D.rt (.ref a) H2) :
    tRet (tTup (tCons (tC c) (tCons te tNil))) D σ H := h H (Ex.refl H) _ fun v H2 e s r => ⟨show 2 ≤ sizeLine by decide, fun a ha => kk v a _ (e.trans (Ex.new ha)) (s.ex (Ex.new ha)) (up _ _ _ (Ex.new ha) r) upd_same⟩
theorem s_retD3 {te2 : TE} {c : V} {k2 : Nat} {R2 : V → Hp → Prop} (h : Ds p te σ H b k R) (h2 : ∀ v H2, Ex (wo p H) H2 → Stm p (b + k) H2 → R v H2 → Ds p te2 σ H2 (b + k) k2 R2) (up : ∀ v H1 H2, Ex H1 H2 → R2 v H1 → R2 v H2)
    (kk : ∀ v1 v2 a H2 H3, R v1 H2 → Ex (wo p H) H3 → Stm p (b + k + k2) H3 → R2 v2 H3 → H3 a = some (.tup [c, v1, v2]) → D.rt (.ref a) H3) : tRet (tTup (tCons (tC c) (tCons te (tCons te2 tNil)))) D σ H :=
  h H (Ex.refl H) _ fun v H2 e s r => h2 v H2 e s r H2 (Ex.refl H2) _ fun v2 H3 e3 s3 r3 => ⟨show 3 ≤ sizeLine by decide, fun a ha => kk v v2 a H2 _ r ((wo_trans e e3).trans (Ex.new ha)) (s3.ex (Ex.new ha)) (up _ _ _ (Ex.new ha) r3) upd_same⟩
theorem s_retD4 {i j : Nat} {c v1 v2 : V} (hi : σ[i]? = some (some v1)) (hj : σ[j]? = some (some v2)) (h : Ds p te σ H b k R) (up : ∀ v H1 H2, Ex H1 H2 → R v H1 → R v H2)
    (kk : ∀ v a H3, Ex (wo p H) H3 → Stm p (b + k) H3 → R v H3 → H3 a = some (.tup [c, v1, v2, v]) → D.rt (.ref a) H3) : tRet (tTup (tCons (tC c) (tCons (tVar i) (tCons (tVar j) (tCons te tNil))))) D σ H :=
  ⟨v1, hi, v2, hj, h H (Ex.refl H) _ fun v H2 e s r => ⟨show 4 ≤ sizeLine by decide, fun a ha => kk v a _ (e.trans (Ex.new ha)) (s.ex (Ex.new ha)) (up _ _ _ (Ex.new ha) r) upd_same⟩⟩
theorem ds_if {tt : TT} {ta tb : TE} {c : Bool} (h : EvT tt σ H c) (h1 : c = true → Ds p ta σ H b k R) (h2 : c = false → Ds p tb σ H b k R) : Ds p (tIf tt ta tb) σ H b k R := fun H1 e Q q => h H1 e _ fun H2 e2 => by
  cases c with
  | true => exact h1 rfl H2 (e.trans e2) Q fun v H3 e3 s r => q v H3 ((wo_mono e2).trans e3) s r
  | false => exact h2 rfl H2 (e.trans e2) Q fun v H3 e3 s r => q v H3 ((wo_mono e2).trans e3) s r
end
def cost : Nat → Nat
  | 0 => 2
  | d + 1 => 4 + 2 * cost d
def spPlan (n : Nat) : Sp := fun vs H Q _ => ∃ (p : Addr) (e b : Nat), vs = [.ref p, .int (e : Int)] ∧ e < n ∧ Stm p b H ∧ b + cost e ≤ 1000000000 ∧
  ∀ (a : Addr) (pl : Plan) H2, PlanOk e pl → PlanR H2 a pl → Stm p (b + cost e) H2 → Ex (wo p H) H2 → Q (.ref a) H2
section
variable {P : Program} {w : World} {K : PySem.W.Frag} {mg : Str → Option Value} {base : Heap} {CT gT gU fL fS : Addr}
def IsPl (e : Nat) (v : V) (H : Hp) : Prop := ∃ (a : Addr) (pl : Plan), v = .ref a ∧ PlanOk e pl ∧ PlanR H a pl
theorem IsPl.ex {e : Nat} (v : V) (H H' : Hp) (x : Ex H H') (h : IsPl e v H) : IsPl e v H' := by
  obtain ⟨a, pl, h1, h2, h3⟩ := h
  exact ⟨a, pl, h1, h2, h3.ex x⟩
theorem IsPl.wo {e b : Nat} {p : Addr} {v : V} {H : Hp} (s : Stm p b H) (h : IsPl e v H) : IsPl e v (wo p H) := by
  obtain ⟨a, pl, h1, h2, h3⟩ := h
  exact ⟨a, pl, h1, h2, h3.wo s⟩
theorem ds_plan {σ : L2.St} {H : Hp} {p : Addr} {b n e i : Nat} {E : XK} {tm : TE} (hσ : σ[i]? = some (some (.ref p))) (hm : Ev tm σ H (.int (e : Int))) (he : e < n) (hS : Stm p b H) (hb : b + cost e ≤ 1000000000) :
    Ds p (tCall (spPlan n) [] E (tCons (tVar i) (tCons tm tNil))) σ H b (cost e) (IsPl e) := fun H1 x Q q =>
  ⟨.ref p, hσ, hm H1 x _ fun H2 e2 => ⟨p, e, b, rfl, he, hS.ex (x.trans e2), hb, fun a pl H3 h1 h2 h3 e3 => q _ H3 ((wo_mono e2).trans e3) h3 ⟨a, pl, rfl, h1, h2⟩⟩⟩
abbrev s_law_plan : Stmt := top 40
theorem sc_law_plan : FnScope ["_law_stream", "_law_deep", "_law_way", "_law_some", "_law_mark", "_law_front"] ["_law_stream", "_law_deep"] (defScope s_law_plan) := ⟨rfl, rfl, rfl, by decide +kernel, rfl, by decide +kernel, by decide +kernel⟩
def NUML : List Nat := [0, 1, 2, 3, 7, 64, 65, 10 ^ 9, 2 ^ 64, 2 ^ 63]
theorem ev_pw {σ : L2.St} {H : Hp} {ta tb : TE} {a b : Int} {n : Nat} (ha : Ev ta σ H (.int a)) (hb : Ev tb σ H (.int b)) (hc : CPow a b) (e : a ^ b.toNat = (n : Int)) : Ev (tOp (rI CPow fun i j => .int (i ^ j.toNat)) ta tb) σ H (.int (n : Int)) :=
  ev_is (ev_op ha hb (rv_I hc)) (by rw [e])
def NUMV : List V := NUML.map (fun n : Nat => V.int (n : Int))
theorem numl_in {n : Nat} (h : n ∈ NUML) : n ∈ NUMS := of_decide_eq_true (List.all_eq_true.mp (show NUML.all (fun n => decide (n ∈ NUMS)) = true by decide +kernel) n h)
theorem opl_in {i : Nat} {zs : List Str} {s : Str} (h : OPL[i]? = some zs) (hs : s ∈ zs) : s ∈ OPS := by
  have h1 : zs ∈ OPL := List.mem_of_getElem? h
  have h2 := List.all_eq_true.mp (show OPL.all (fun zs => zs.all fun s => decide (s ∈ OPS)) = true by decide +kernel) zs h1
  exact of_decide_eq_true (List.all_eq_true.mp h2 s hs)
theorem opl_pos {i : Nat} {zs : List Str} (h : OPL[i]? = some zs) : 0 < zs.length ∧ zs.length ≤ 6 := by
  have h1 : zs ∈ OPL := List.mem_of_getElem? h
  exact of_decide_eq_true (List.all_eq_true.mp (show OPL.all (fun zs => decide (0 < zs.length ∧ zs.length ≤ 6)) = true by decide +kernel) zs h1)
theorem paired_get {α β : Type} {R : α → β → Prop} : ∀ {as : List α} {bs : List β}, Paired R as bs → ∀ {i : Nat} {a : α}, as[i]? = some a → ∃ b, bs[i]? = some b ∧ R a b
  | _, _, .nil, i, a, h => by simp at h
  | _, _, .cons h r, 0, a, e => by
    rw [List.getElem?_cons_zero] at e
    cases e
    exact ⟨_, rfl, h⟩
  | _, _, .cons h r, i + 1, a, e => by
    rw [List.getElem?_cons_succ] at e ⊢
    exact paired_get r e
theorem ok_law_plan {n k : Nat} {f : Addr} {fd : FuncData} (F : Fun K "_law_plan" "_law_plan" s_law_plan f fd) (T : Tx K mg) (hk : 1 ≤ k) (D_law_next : Df P w K mg base CX0 1 "_law_next" ["_law_stream", "_law_many"] spNext) (D_law_paths : Df P w K mg base CX0 1 "_law_paths" [] spPaths)
    (D_law_operators : Df P w K mg base CX0 1 "_law_operators" [] spOps) (D_law_plan : Df P w K mg base CX0 k "_law_plan" ["_law_stream", "_law_deep"] (spPlan n)) : FnOk P w K mg base CX0 (k + 1) f fd ["_law_stream", "_law_deep"] (spPlan (n + 1)) := by
  refine F.ok sc_law_plan (fun vs H Q E h => ?_) (fun cdv A outer s H vs Q E hr h => ?_)
  · obtain ⟨p, e, b, rfl, _⟩ := h
    rfl
  · obtain ⟨p, e, b, rfl, he, hS, hb, kk⟩ := h
    refine ⟨_, (pss_cons (ps_set (i := 2) sc_law_plan.nd rfl (Or.inl rfl) (pe_ifExp (pt_cmpR op_gt (pv 1) pe_int (nomark _)) (pe_df D_law_next (hr.mono hk) rfl (pa_cons (pv 0) (pa_cons pe_int pa_nil))) (pe_df D_law_next (hr.mono hk) rfl (pa_cons (pv 0) (pa_cons pe_int pa_nil)))))
  (pss_cons (ps_if (pt_cmpR op_eq (pv 2) pe_int (nomark _))
    (pss_one (ps_ret (pe_tup (pa_cons pe_str (pa_cons (pe_ix ix_list (pe_lst (pa_cons pe_int (pa_cons pe_int (pa_cons pe_int (pa_cons pe_int (pa_cons pe_int (pa_cons pe_int (pa_cons pe_int (pa_cons (pe_op op_pow pe_int pe_int) (pa_cons (pe_op op_pow pe_int pe_int) (pa_cons (pe_op op_pow pe_int pe_int) pa_nil))))))))))) (pe_df D_law_next (hr.mono hk) rfl (pa_cons (pv 0) (pa_cons pe_int pa_nil))) (fun _ _ => rfl)) pa_nil)))))
    pss_nil)
  (pss_cons (ps_if (pt_cmpR op_lt (pv 2) pe_int (nomark _))
    (pss_one (ps_ret (pe_tup (pa_cons pe_str (pa_cons (pe_ix ix_list (pe_df0 D_law_paths (hr.mono hk) rfl) (pe_df D_law_next (hr.mono hk) rfl (pa_cons (pv 0) (pa_cons pe_int pa_nil))) (fun _ _ => rfl)) pa_nil)))))
    pss_nil)
  (pss_cons (ps_if (pt_cmpR op_lt (pv 2) pe_int (nomark _))
    (pss_one (ps_ret (pe_tup (pa_cons pe_str (pa_cons (pe_ix ix_list (pe_lst (pa_cons pe_str (pa_cons pe_str (pa_cons pe_str pa_nil)))) (pe_df D_law_next (hr.mono hk) rfl (pa_cons (pv 0) (pa_cons pe_int pa_nil))) (fun _ _ => rfl)) (pa_cons (pe_df D_law_plan (hr.mono (Nat.le_refl _)) rfl (pa_cons (pv 0) (pa_cons (pe_op op_sub (pv 1) pe_int) pa_nil))) pa_nil))))))
    pss_nil)
  (pss_cons (ps_set (i := 3) sc_law_plan.nd rfl (Or.inl rfl) (pe_ix ix_list (pe_df0 D_law_operators (hr.mono hk) rfl) (pe_df D_law_next (hr.mono hk) rfl (pa_cons (pv 0) (pa_cons pe_int pa_nil))) (fun _ _ => rfl)))
  (pss_cons (ps_set (i := 4) sc_law_plan.nd rfl (Or.inl rfl) (pe_ix ix_list (pv 3) (pe_df D_law_next (hr.mono hk) rfl (pa_cons (pv 0) (pa_cons (pe_callB call_len_seq (by rfl) T.b_len (by decide +kernel) (pa_cons (pv 3) pa_nil)) pa_nil))) (fun _ _ => rfl)))
  (pss_cons (ps_set (i := 5) sc_law_plan.nd rfl (Or.inl rfl) (pe_df D_law_plan (hr.mono (Nat.le_refl _)) rfl (pa_cons (pv 0) (pa_cons (pe_op op_sub (pv 1) pe_int) pa_nil))))
  (pss_one (ps_ret (pe_tup (pa_cons pe_str (pa_cons (pv 5) (pa_cons (pv 4) (pa_cons (pe_df D_law_plan (hr.mono (Nat.le_refl _)) rfl (pa_cons (pv 0) (pa_cons (pe_op op_sub (pv 1) pe_int) pa_nil))) pa_nil)))))))))))))), ?_⟩
    have c2 : 2 ≤ cost e := by cases e with
      | zero => exact Nat.le_refl _
      | succ e => show 2 ≤ 4 + 2 * cost e; omega
    refine q_ds (b := b) (k := 1) (R := fun v _ => ∃ n : Nat, v = .int (n : Int) ∧ (e = 0 → n < 3)) (ds_if (c := decide ((e : Int) > 0)) (et_B (ev_op (ev_var rfl) ev_c rv_I0)) (fun hc => ds_imp (ds_next (m := 9) rfl ev_c (by decide) (by decide) hS (by omega)) fun v H2 ⟨n, h1, h2⟩ => ⟨n, h1, fun z => by
      have := of_decide_eq_true hc
      omega⟩) (fun hc => ds_imp (ds_next (m := 3) rfl ev_c (by decide) (by decide) hS (by omega)) fun v H2 ⟨n, h1, h2⟩ => ⟨n, h1, fun _ => h2⟩)) fun v H1 e1 s1 ⟨way, ev, hway⟩ => ?_
    subst ev
    refine q_when (et_B (ev_op (ev_var rfl) ev_c (rv_eq rfl))) (fun hc H2 e2 => ?_) (fun hc0 H2 e2 => ?_)
    · have s2 := s1.ex e2
      refine s_retD2 (b := b + 1) (k := 1) (ds_ix (m := 10) (PL := fun xs _ => xs = NUMV) (fun H3 e3 Q q => evp_evl (xs := NUMV) (el_lst (ea_cons ev_c (ea_cons ev_c (ea_cons ev_c (ea_cons ev_c (ea_cons ev_c (ea_cons ev_c (ea_cons ev_c (ea_cons (ev_pw (n := 10 ^ 9) ev_c ev_c (show CPow 10 9 by unfold CPow; decide) (by decide +kernel)) (ea_cons (ev_pw (n := 2 ^ 64) ev_c ev_c (show CPow 2 64 by unfold CPow; decide) (by decide +kernel)) (ea_cons (ev_pw (n := 2 ^ 63) ev_c ev_c (show CPow 2 63 by unfold CPow; decide) (by decide +kernel)) ea_nil)))))))))) (by decide)) H3 e3 Q fun v H4 e4 ⟨l, h1, h2⟩ => q v H4 e4 ⟨l, _, h1, h2, rfl⟩) (ds_next (m := 10) rfl ev_c (by decide) (by decide) s2 (by omega)) (fun xs _ h => by rw [h]; decide) s2) (fun _ _ _ _ h => by
        obtain ⟨xs, H1, n, h1, h2, h3, h4, h5⟩ := h
        exact ⟨xs, H1, n, h1, h2, h3.trans (by assumption), h4, h5⟩) fun v a H3 e3 s3 hv ha => ?_
      obtain ⟨xs, H1', n, rfl, _, _, hn, hx⟩ := hv
      unfold NUMV at hx
      rw [List.getElem?_map] at hx
      cases hy : NUML[n]? with
      | none => rw [hy] at hx; cases hx
      | some y =>
        rw [hy] at hx
        cases hx
        exact kk a (.num y) H3 (ok_num.mpr (numl_in (List.mem_of_getElem? hy))) ha (s3.up (by omega)) (wo_trans (e1.trans e2) e3)
    refine q_when (et_B (ev_op (ev_var rfl) ev_c rv_I0)) (fun hc H3 e3 => ?_) (fun hc1 H3 e3 => ?_)
    · have s3 := (s1.ex e2).ex e3
      refine s_retD2 (b := b + 1) (k := 1) (ds_ix (m := 9) (PL := fun xs _ => xs = PATHS.map V.str) (fun H4 e4 Q q => ⟨rfl, fun l H5 e5 h5 => q (.ref l) H5 e5 ⟨l, _, rfl, h5, rfl⟩⟩) (ds_next (m := 9) rfl ev_c (by decide) (by decide) s3 (by omega)) (fun xs _ h => by rw [h]; decide) s3) (fun _ _ _ _ h => by
        obtain ⟨xs, H1, n, h1, h2, h3, h4, h5⟩ := h
        exact ⟨xs, H1, n, h1, h2, h3.trans (by assumption), h4, h5⟩) fun v a H4 e4 s4 hv ha => ?_
      obtain ⟨xs, H1', n, rfl, _, _, hn, hx⟩ := hv
      rw [List.getElem?_map] at hx
      cases hy : PATHS[n]? with
      | none => rw [hy] at hx; cases hx
      | some y =>
        rw [hy] at hx
        cases hx
        exact kk a (.nam y) H4 (ok_nam.mpr (List.mem_of_getElem? hy)) ha (s4.up (by omega)) (wo_trans ((e1.trans e2).trans e3) e4)
    have e1' : 1 ≤ e := by
      rcases Nat.eq_zero_or_pos e with z | z
      · have h1 := hway z
        have h2 := of_decide_eq_false hc1
        omega
      · exact z
    obtain ⟨e', rfl⟩ : ∃ e', e = e' + 1 := ⟨e - 1, by omega⟩
    have cst : cost (e' + 1) = 4 + 2 * cost e' := rfl
    have evD : ∀ (σ' : L2.St) (H' : Hp), σ'[1]? = some (some (.int ((e' + 1 : Nat) : Int))) → Ev (tOp (rI0 fun i j => V.int (i - j)) (tVar 1) (tC (.int 1))) σ' H' (.int (e' : Int)) := fun σ' H' hs => ev_is (ev_op (ev_var hs) ev_c rv_I0) (by
      show V.int (((e' + 1 : Nat) : Int) - 1) = _
      congr 1
      omega)
    refine q_when (et_B (ev_op (ev_var rfl) ev_c rv_I0)) (fun hc H4 e4 => ?_) (fun hc2 H4 e4 => ?_)
    · have s4 := ((s1.ex e2).ex e3).ex e4
      refine s_retD3 (b := b + 1) (k := 1) (k2 := cost e') (R2 := IsPl e') (ds_ix (m := 3) (PL := fun xs _ => xs = SGS.map V.str) (fun H5 e5 Q q => evp_evl (xs := SGS.map V.str) (el_lst (ea_str (ea_str (ea_str ea_strs))) (by decide)) H5 e5 Q fun v H6 e6 ⟨l, h1, h2⟩ => q v H6 e6 ⟨l, _, h1, h2, rfl⟩) (ds_next (m := 3) rfl ev_c (by decide) (by decide) s4 (by omega)) (fun xs _ h => by rw [h]; decide) s4)
        (fun v H5 e5 s5 _ => ds_plan rfl (evD _ _ rfl) (by omega) s5 (by omega)) IsPl.ex fun v1 v2 a H5 H6 hv e6 s6 hp ha => ?_
      obtain ⟨xs, H1', n, rfl, _, _, hn, hx⟩ := hv
      obtain ⟨a2, pl, rfl, ok, pr⟩ := hp
      rw [List.getElem?_map] at hx
      cases hy : SGS[n]? with
      | none => rw [hy] at hx; cases hx
      | some y =>
        rw [hy] at hx
        cases hx
        exact kk a (.mrk y pl) H6 ⟨List.mem_of_getElem? hy, ok⟩ ⟨a2, ha, pr⟩ (s6.up (by omega)) (wo_trans (((e1.trans e2).trans e3).trans e4) e6)
    have s4 := ((s1.ex e2).ex e3).ex e4
    refine q_ds (b := b + 1) (k := 1) (ds_ix (m := 9) (PL := LR OPL) (fun H5 e5 Q q => ⟨rfl, fun l H6 e6 ⟨vs, h1, h2⟩ => q (.ref l) H6 e6 ⟨l, vs, rfl, h1, h2⟩⟩) (ds_next (m := 9) rfl ev_c (by decide) (by decide) s4 (by omega)) (fun xs _ ⟨as, h1, h2⟩ => by
      have hl : as.length = OPL.length := h2.length
      rw [h1, List.length_map, hl]
      decide) s4) fun v H5 e5 s5 hv => ?_
    obtain ⟨xs, H1', n, ⟨as, rfl, hpr⟩, s1', ex', hn, hx⟩ := hv
    rw [List.getElem?_map] at hx
    cases hy : as[n]? with
    | none => rw [hy] at hx; cases hx
    | some aL =>
      rw [hy] at hx
      cases hx
      obtain ⟨zs, hzs, haL⟩ := paired_get hpr hy
      have naL : aL ≠ p := ne_dk s1' haL fun _ z => by cases z
      have haL5 : H5 aL = some (.lst (zs.map V.str)) := ex' _ _ (by rw [wo_ne naL]; exact haL)
      obtain ⟨zp, zm⟩ := opl_pos hzs
      refine q_ds (b := b + 1 + 1) (k := 1) (ds_ix (m := (zs.map V.str).length) (PL := fun xs _ => xs = zs.map V.str) (fun H6 e6 Q q => ⟨.ref aL, rfl, q _ H6 (Ex.refl H6) ⟨aL, _, rfl, e6 _ _ haL5, rfl⟩⟩) (ds_next rfl (ev_len (ev_var rfl) (sq_of haL5)) (by rw [List.length_map]; exact zp) (by rw [List.length_map]; omega) s5 (by omega)) (fun xs _ h => by rw [h]; exact Nat.le_refl _) s5) fun v H6 e6 s6 hv => ?_
      obtain ⟨xs, H1'', n2, rfl, _, _, hn2, hx2⟩ := hv
      rw [List.getElem?_map] at hx2
      cases hz : zs[n2]? with
      | none => rw [hz] at hx2; cases hx2
      | some z =>
        rw [hz] at hx2
        cases hx2
        have zOp : z ∈ OPS := opl_in hzs (List.mem_of_getElem? hz)
        refine q_ds (b := b + 1 + 1 + 1) (k := cost e') (ds_plan rfl (evD _ _ rfl) (by omega) s6 (by omega)) fun v H7 e7 s7 hp => ?_
        have hpw := IsPl.wo s7 hp
        obtain ⟨a1, pl1, rfl, ok1, pr1⟩ := hp
        have pr1' := PlanR.wo s7 pr1
        refine s_retD4 (b := b + 1 + 1 + 1 + cost e') (k := cost e') rfl rfl (ds_plan rfl (evD _ _ rfl) (by omega) s7 (by omega)) IsPl.ex fun v a H8 e8 s8 hp2 ha => ?_
        obtain ⟨a2, pl2, rfl, ok2, pr2⟩ := hp2
        exact kk a (.joi pl1 z pl2) H8 ⟨zOp, ok1, ok2⟩ ⟨a1, a2, ha, pr1'.ex e8, pr2⟩ (s8.up (by omega)) (wo_trans (wo_trans (wo_trans (wo_trans (((e1.trans e2).trans e3).trans e4) e5) e6) e7) e8)
/-- all depths -/
theorem plan_all {f : Addr} {fd : FuncData} (F : Fun K "_law_plan" "_law_plan" s_law_plan f fd) (T : Tx K mg) (D_law_next : Df P w K mg base CX0 1 "_law_next" ["_law_stream", "_law_many"] spNext) (D_law_paths : Df P w K mg base CX0 1 "_law_paths" [] spPaths)
    (D_law_operators : Df P w K mg base CX0 1 "_law_operators" [] spOps) (B : L2.Binds K fd ["_law_stream", "_law_deep"] []) (kp : PySem.W.keepIn K (.ref f) = true) (hm : mg "_law_plan" = some (.ref f)) :
    ∀ n, FnOk P w K mg base CX0 (2 + n) f fd ["_law_stream", "_law_deep"] (spPlan n)
  | 0 => ⟨fun vs H Q E h => by
      obtain ⟨p, e, b, _, he, _⟩ := h
      exact absurd he (Nat.not_lt_zero _), fun A out s H args us vs Q E _ _ _ _ h => by
      obtain ⟨p, e, b, _, he, _⟩ := h
      exact absurd he (Nat.not_lt_zero _)⟩
  | n + 1 => ok_law_plan (k := 2 + n) F T (by omega) D_law_next D_law_paths D_law_operators ⟨f, fd, plan_all F T D_law_next D_law_paths D_law_operators B kp hm n, B, kp, hm⟩
end
end M14

set_option maxHeartbeats 4000000
namespace M14
open PySem PySem.Spec PyProof.Rows L2 Evl TL Gd
section
variable {K : PySem.W.Frag} {σ : L2.St} {H : Hp} {te : TE} {tt : TT} {ta : TA} {a : Addr} {xs : List V}
/-- a comprehension over enumerate of a list with a property -/
theorem el_lcE {j l n : Nat} {vs : List Nat} {PL : List V → Hp → Prop} (f : Nat → Bool) (v : Nat → V) (h : EvAP ta σ H (fun ws H1 => ∃ a xs, ws = [.ref a] ∧ H1 a = some (.lst xs) ∧ xs.length = n ∧ PL xs H1)) (hn : n ≤ 40000)
    (hw : ∀ x y, wipe (((wipe σ vs).set j (some x)).set l (some y)) vs = wipe σ vs)
    (ht : ∀ xs H1 (i : Nat) x H2, PL xs H1 → Ex H H1 → Ex H1 H2 → xs[i]? = some x → EvT tt (((wipe σ vs).set j (some (.int (i : Int)))).set l (some x)) H2 (f i))
    (he : ∀ xs H1 (i : Nat) x H2, PL xs H1 → Ex H H1 → Ex H1 H2 → xs[i]? = some x → f i = true → Ev te (((wipe σ vs).set j (some (.int (i : Int)))).set l (some x)) H2 (v i)) :
    EvL (tLc (iEnum K ta) (gTup K 2 (gCons (gName j) (gCons (gName l) gNil))) tt te vs) σ H (given n f v) := fun H0 e Q q => h H0 e _ fun ws H1 e1 ⟨a, xs, ev, ha, hl, pl⟩ => ⟨a, xs, ev, sq_of ha, fun Dl hD => by
  subst hl
  refine lc_it (xs.length |> fun _ => walk_enum (K := K) (a := a) (xs := xs)) (Cw H1 f v Dl) ⟨hD, Ex.new hD, upd_same⟩ (fun i H' _ p => sq_of (p.2.1 a _ ha)) (fun i x H' H'' hi p y => ?_) (fun H' p => q Dl H' (fresh_back e1 p.1) (e1.trans p.2.1) p.2.2)
  obtain ⟨T, u, z, rfl, hT, rfl, hu, hz⟩ := y
  cases hu
  have p' : Cw H1 f v Dl i (upd H' T (.tup [.int (i : Nat), z])) := ⟨p.1, p.2.1.trans (Ex.new hT), by
    rw [upd_ne (fun q => by rw [← q, p.2.2] at hT; cases hT)]
    exact p.2.2⟩
  exact ⟨T, _, rfl, st_of upd_same, rfl, _, _, rfl, z, [], rfl, rfl, hw _ _, cw_turn p' (by omega) (ht xs H1 i z H1 pl (e.trans e1) (Ex.refl H1) hz) (fun hf => he xs H1 i z H1 pl (e.trans e1) (Ex.refl H1) hz hf)⟩⟩
theorem ev_ix0 {i j : Nat} {v : V} (hσ : σ[i]? = some (some (.ref a))) (h : H a = some (.tup xs)) (hv : xs[j]? = some v) : Ev (tOp (rIxT K) (tVar i) (tC (.int (j : Int)))) σ H v := ev_op (ev_var hσ) ev_c (rv_ixT (st_of h) (atI_nat hv))
theorem ev_kEq {z y : Str} {c : Bool} (h : Ev te σ H (.str z)) (hc : decide (V.str z = V.str y) = c) : Ev (tOp rEq te (tC (.str y))) σ H (.bl c) := ev_is (ev_op h ev_c (rv_eq rfl)) (by rw [hc])
theorem ev_kNe {z y : Str} {c : Bool} (h : Ev te σ H (.str z)) (hc : (!decide (V.str z = V.str y)) = c) : Ev (tOp rNe te (tC (.str y))) σ H (.bl c) := ev_is (ev_op h ev_c (rv_ne rfl)) (by rw [hc])
theorem ev_intB {b : Bool} (h : Ev te σ H (.bl b)) : Ev (tCB rInt1 (tCons te tNil)) σ H (.int (b2 b : Int)) :=
  ev_cb (ea_cons h ea_nil) fun H1 e Q q => .inr ⟨b, rfl, by
    have := q H1 (Ex.refl H1)
    cases b <;> exact this⟩
end
theorem planHead {H : Hp} {a : Addr} {pl : Plan} (h : PlanR H a pl) : ∃ xs, H a = some (.tup (.str (kind pl) :: xs)) := by
  cases pl with
  | num n => exact ⟨_, h⟩
  | nam s => exact ⟨_, h⟩
  | mrk s q =>
    obtain ⟨b, h1, _⟩ := h
    exact ⟨_, h1⟩
  | joi q s r =>
    obtain ⟨b, c, h1, _⟩ := h
    exact ⟨_, h1⟩
theorem kindJ (pl : Plan) : decide (V.str (kind pl) = V.str ("joined" : Str)) = isJ pl := by
  cases pl
  · show decide (V.str ("number" : Str) = V.str ("joined" : Str)) = false
    decide +kernel
  · show decide (V.str ("name" : Str) = V.str ("joined" : Str)) = false
    decide +kernel
  · show decide (V.str ("mark" : Str) = V.str ("joined" : Str)) = false
    decide +kernel
  · exact decide_eq_true rfl
theorem k_nn : decide (V.str ("name" : Str) = V.str ("number" : Str)) = false := by decide +kernel
theorem k_mn : decide (V.str ("mark" : Str) = V.str ("number" : Str)) = false := by decide +kernel
theorem k_jn : decide (V.str ("joined" : Str) = V.str ("number" : Str)) = false := by decide +kernel
theorem k_ma : decide (V.str ("mark" : Str) = V.str ("name" : Str)) = false := by decide +kernel
theorem k_ja : decide (V.str ("joined" : Str) = V.str ("name" : Str)) = false := by decide +kernel
theorem k_jm : decide (V.str ("joined" : Str) = V.str ("mark" : Str)) = false := by decide +kernel
theorem k_um : decide (V.str ("number" : Str) = V.str ("mark" : Str)) = false := by decide +kernel
theorem k_am : decide (V.str ("name" : Str) = V.str ("mark" : Str)) = false := by decide +kernel
theorem k_rf (z : Str) : decide (V.str z = V.str z) = true := decide_eq_true rfl
def fLev (s : Str) (i : Nat) : Bool := inV (.str s) ((OPL.getD i []).map V.str)
theorem lev_given {s : Str} (h : s ∈ OPS) : given 9 (fLev s) (fun i => .int (i : Int)) = [.int ((lev s - 1 : Nat) : Int)] :=
  of_decide_eq_true (ops_all (fun s => decide (given 9 (fLev s) (fun i => .int (i : Int)) = [.int ((lev s - 1 : Nat) : Int)])) (by decide +kernel) h)
section
variable {P : Program} {w : World} {K : PySem.W.Frag} {mg : Str → Option Value} {base : Heap} {CT gT gU fL fS : Addr}
/-! ### levels -/
abbrev s_law_level : Stmt := top 42
def N_law_level : List Str := ["_law_plan_here", "_law_k", "_law_some"]
theorem sc_law_level : FnScope N_law_level ["_law_plan_here"] (defScope s_law_level) := ⟨rfl, rfl, rfl, by decide +kernel, rfl, by decide +kernel, by decide +kernel⟩
def spLevel : Sp := fun vs H Q _ => ∃ (a : Addr) (pl : Plan) (e : Nat), vs = [.ref a] ∧ PlanR H a pl ∧ PlanOk e pl ∧ RetV (.int (lvl pl : Int)) H Q
theorem is_level {H : Hp} {a : Addr} {pl : Plan} {e : Nat} (h : PlanR H a pl) (ok : PlanOk e pl) : SpIs spLevel [.ref a] H (.int (lvl pl : Int)) := fun H1 x Q q E => ⟨a, pl, e, rfl, h.ex x, ok, fun H2 e2 => q H2 e2⟩
theorem ok_law_level {f : Addr} {fd : FuncData} (F : Fun K "_law_level" "_law_level" s_law_level f fd) (T : Tx K mg) (D_law_operators : Df P w K mg base CX0 1 "_law_operators" [] spOps) : FnOk P w K mg base CX0 2 f fd ["_law_plan_here"] spLevel := by
  refine F.ok sc_law_level (fun vs H Q E h => ?_) (fun cdv A outer s H vs Q E hr h => ?_)
  · obtain ⟨a, pl, e, rfl, _⟩ := h
    rfl
  · obtain ⟨a, pl, e, rfl, hp, ok, k⟩ := h
    refine ⟨_, (pss_cons (ps_if (pt_cmpR op_ne (pe_ix ix_tup (pv 0) pe_int (fun _ _ => rfl)) pe_str (nomark _))
    (pss_one (ps_ret pe_int))
    pss_nil)
  (pss_one (ps_ret (pe_op op_add (pe_ix ix_list (pe_lc (own := [("_law_k", 1), ("_law_some", 2)]) (g := gTup K 2 (gCons (gName 1) (gCons (gName 2) gNil))) rfl sc_law_level.nd (pi_enum (by rfl) T.b_enumerate (pa_cons (pe_df0 D_law_operators (hr.mono (by decide)) rfl) pa_nil)) (blkOk_by (N := N_law_level) (sc := defScope s_law_level) (by decide +kernel)) (fun _ _ _ _ _ => pg_tup rfl (pgs_cons (pg_name (i := 1) sc_law_level.nd rfl (Or.inl rfl)) (pgs_cons (pg_name (i := 2) sc_law_level.nd rfl (Or.inl rfl)) pgs_nil))) (fun _ _ _ _ _ => pts_one (pt_cmpR (show OpR _ _ (rIn K false) from op_in_seq) (pe_ix (show IxR _ (rIxT K) from ix_tup) (pv 0) pe_int (fun _ _ => rfl)) (pv 2) rfl)) (fun _ _ _ _ _ => (pv 1))) pe_int (fun _ _ => rfl)) pe_int)))), ?_⟩
    obtain ⟨xs, hx⟩ := planHead hp
    refine q_when (b := !isJ pl) (et_B (ev_kNe (ev_ix0 (j := 0) rfl hx rfl) (by rw [kindJ]))) (fun hb H1 e1 => ?_) (fun hb H1 e1 => ?_)
    · refine s_ret ev_c fun H2 e2 => ?_
      have := k H2 (e1.trans e2)
      cases pl with
      | joi => cases hb
      | num => exact this
      | nam => exact this
      | mrk => exact this
    · cases pl with
      | num => cases hb
      | nam => cases hb
      | mrk => cases hb
      | joi p s q =>
        cases e with
        | zero => exact ok.elim
        | succ e =>
          have hs : s ∈ OPS := ok.1
          obtain ⟨b, c, ha, _, _⟩ := hp
          have ha1 := e1 _ _ ha
          have el := el_lcE (K := K) (σ := [some (.ref a), none, none]) (H := H1) (j := 1) (l := 2) (n := 9) (vs := [1, 2]) (PL := LR OPL) (te := tVar 1) (tt := tB (tOp (rIn K false) (tOp (rIxT K) (tVar 0) (tC (.int 2))) (tVar 2))) (ta := tCons (tCall spOps [] E0 tNil) tNil) (fLev s) (fun i => .int (i : Int)) (fun H2 e2 Q q => ⟨rfl, fun l H3 e3 ⟨vs, h1, as, h2, h3⟩ => q _ H3 e3 ⟨l, vs, rfl, h1, by
            have hl : as.length = OPL.length := h3.length
            rw [h2, List.length_map, hl]
            rfl, as, h2, h3⟩⟩) (by decide) (fun _ _ => rfl) (fun xs H2 i x H3 ⟨as, h2, h3⟩ e2 e3 hx => ?_) (fun xs H2 i x H3 _ _ _ _ _ => ev_var rfl)
          · rw [lev_given hs] at el
            refine s_ret (v := .int (((lev s - 1 : Nat) : Int) + 1)) (ev_op (ev_opL1 (z := .int ((lev s - 1 : Nat) : Int)) el (fun _ _ => ev_c) (fun p H2 h2 _ => rv_ixL (sq_of h2) (atI_nat (j := 0) rfl))) ev_c rv_I0) fun H2 e2 => ?_
            have := k H2 (e1.trans e2)
            have e3 : ((lev s - 1 : Nat) : Int) + 1 = (lev s : Int) := by
              have := lev_pos hs
              omega
            rw [e3]
            exact this
          · rw [h2, List.getElem?_map] at hx
            cases hy : as[i]? with
            | none => rw [hy] at hx; cases hx
            | some aL =>
              rw [hy] at hx
              cases hx
              obtain ⟨zs, hzs, haL⟩ := paired_get h3 hy
              have hg : OPL.getD i [] = zs := by rw [List.getD_eq_getElem?_getD, hzs]; rfl
              unfold fLev
              rw [hg]
              exact et_B (ev_op (ev_ix0 (j := 2) rfl ((e2.trans e3) _ _ ha1) rfl) (ev_var rfl) (rv_isL (sq_of (e3 _ _ haL)) rfl (flat_strs' zs)))
end
end M14

set_option maxHeartbeats 4000000
namespace M14
open PySem PySem.Spec PyProof.Rows L2 Evl TL Gd
section
variable {K : PySem.W.Frag} {σ : L2.St} {H : Hp} {te : TE} {ta : TA} {CS : Addr → Prop} {C : Addr} {ok : List V → Hp → Tr → Prop} {t : Tr}
theorem ex_ins {H2 : Hp} {x dx C : Addr} (nx : H2 x = none) (nd : H2 dx = none) : Ex H2 (wo x (upd (upd H2 dx (.own x)) x (.ins C dx []))) := fun b o h => by
  have n1 : b ≠ x := ne_of_none h nx
  have n2 : b ≠ dx := ne_of_none h nd
  rw [wo_ne n1, upd_ne n1, upd_ne n2]
  exact h
theorem evp_make {R : List V → Hp → Prop} (h : EvAP ta σ H R) (hok : ∀ us H1, Ex H H1 → R us H1 → ok us H1 t) (up : ∀ us H1 H2, Ex H1 H2 → ok us H1 t → ok us H2 t) : EvP (tMake C (spMade CS C ok) [] E0 ta) σ H (IsTr CS t) := fun H1 e Q q =>
  h H1 e _ fun us H2 e2 r x dx nx nd ne => ⟨x, dx, us ++ [], t, rfl, upd_same, by
    rw [List.append_nil]
    exact up _ _ _ (ex_ins nx nd) (hok us H2 (e.trans e2) r), fun H3 e3 tr => ⟨rfl, q _ H3 (e2.trans ((ex_ins nx nd).trans e3)) ⟨x, rfl, tr⟩⟩⟩
theorem okSig_up (us : List V) (H1 H2 : Hp) (e : Ex H1 H2) (h : okSig CS us H1 t) : okSig CS us H2 t := by
  obtain ⟨s, a, ti, h1, h2, h3, h4⟩ := h
  exact ⟨s, a, ti, h1, h2, h3.ext e, h4⟩
theorem okJoi_up (us : List V) (H1 H2 : Hp) (e : Ex H1 H2) (h : okJoi CS us H1 t) : okJoi CS us H2 t := by
  obtain ⟨s, a, b, p, q, h1, h2, h3, h4, h5⟩ := h
  exact ⟨s, a, b, p, q, h1, h2, h3.ext e, h4.ext e, h5⟩
def spMd (CS : Addr → Prop) (n : Nat) : Sp := fun vs H Q _ => ∃ (a : Addr) (pl : Plan) (e : Nat), vs = [.ref a] ∧ PlanR H a pl ∧ PlanOk e pl ∧ e < n ∧ e ≤ 5 ∧ ∀ a' H2, Ex H H2 → TRep CS H2 a' (trOf pl) → Q (.ref a') H2
theorem evp_md {n e : Nat} {a : Addr} {pl : Plan} {E : XK} (h : Ev te σ H (.ref a)) (hp : PlanR H a pl) (ok : PlanOk e pl) (he : e < n) (h5 : e ≤ 5) : EvP (tCall (spMd CS n) [] E (tCons te tNil)) σ H (IsTr CS (trOf pl)) := fun H1 x Q q =>
  h H1 x _ fun H2 e2 => ⟨a, pl, e, rfl, hp.ex (x.trans e2), ok, he, h5, fun a' H3 e3 tr => q _ H3 (e2.trans e3) ⟨a', rfl, tr⟩⟩
theorem tr_ok5 {e : Nat} {pl : Plan} (ok : PlanOk e pl) (h5 : e ≤ 5) : TrOk 200 20 (trOf pl) :=
  (tr_ok ok).mono ((by decide : ∀ e ≤ 5, top6 e ≤ 200) e h5) (by omega)
theorem used_paths : PATHS.all usedB = true := by decide +kernel
theorem path_used {s : Str} (h : s ∈ PATHS) : usedB s = true := List.all_eq_true.mp used_paths s h
theorem path_lay {s : Str} (h : s ∈ PATHS) : PyData.canLay0 (.str s) = true := (by decide +kernel : ∀ s ∈ PATHS, PyData.canLay0 (.str s) = true) s h
theorem path_mod {s : Str} (h : s ∈ PATHS) : decide (V.str s = V.str ("mod" : Str)) = false := by
  have := List.all_eq_true.mp (show PATHS.all (fun s => !decide (V.str s = V.str ("mod" : Str))) = true by decide +kernel) s h
  simpa using this
end
section
variable {P : Program} {w : World} {K : PySem.W.Frag} {mg : Str → Option Value} {base : Heap} {CT gT gU fL fS : Addr}
/-! ### the tree of a plan -/
abbrev s_law_made : Stmt := top 41
theorem sc_law_made : FnScope ["_law_plan_here", "_law_front"] ["_law_plan_here"] (defScope s_law_made) := ⟨rfl, rfl, rfl, by decide +kernel, rfl, by decide +kernel, by decide +kernel⟩
/-- the four classes, as the law calls them -/
structure Made (P : Program) (w : World) (K : PySem.W.Frag) (mg : Str → Option Value) (base : Heap) (CS : Addr → Prop) (k : Nat) (x : Str) (C : Addr) (ps : List Str) (ok : List V → Hp → Tr → Prop) : Prop where
  ex : ∃ (f : Addr) (fd : FuncData), Mk K C f ∧ FnOk P w K mg base CX0 k f fd ps (spMade CS C ok) ∧ L2.Binds K fd ps [] ∧ mg x = some (.ref C)
theorem ok_law_made {n k : Nat} {C1 C2 C3 C4 : Addr} {f : Addr} {fd : FuncData} (F : Fun K "_law_made" "_law_made" s_law_made f fd) (hk : 7 ≤ k)
    (M1 : Made P w K mg base (CS K CT gT gU fL fS) 5 "Number" C1 ["self", "number"] okNum) (M2 : Made P w K mg base (CS K CT gT gU fL fS) 6 "Named" C2 ["self", "name"] okNam)
    (M3 : Made P w K mg base (CS K CT gT gU fL fS) 5 "Signed" C3 ["self", "sign", "inner"] (okSig (CS K CT gT gU fL fS))) (M4 : Made P w K mg base (CS K CT gT gU fL fS) 5 "Joined" C4 ["self", "left", "sign", "right"] (okJoi (CS K CT gT gU fL fS)))
    (D_law_made : Df P w K mg base CX0 k "_law_made" ["_law_plan_here"] (spMd (CS K CT gT gU fL fS) n)) : FnOk P w K mg base CX0 (k + 1) f fd ["_law_plan_here"] (spMd (CS K CT gT gU fL fS) (n + 1)) := by
  refine F.ok sc_law_made (fun vs H Q E h => ?_) (fun cdv A outer s H vs Q E hr h => ?_)
  · obtain ⟨a, pl, e, rfl, _⟩ := h
    rfl
  · obtain ⟨a, pl, e, rfl, hp, ok, he, h5, kk⟩ := h
    obtain ⟨fN, fdN, M_Number, FI_Number, BI_Number, g_Number⟩ := M1.ex
    obtain ⟨fA, fdA, M_Named, FI_Named, BI_Named, g_Named⟩ := M2.ex
    obtain ⟨fG, fdG, M_Signed, FI_Signed, BI_Signed, g_Signed⟩ := M3.ex
    obtain ⟨fJ, fdJ, M_Joined, FI_Joined, BI_Joined, g_Joined⟩ := M4.ex
    refine ⟨_, (pss_cons (ps_if (pt_cmpR op_eq (pe_ix ix_tup (pv 0) pe_int (fun _ _ => rfl)) pe_str (nomark _))
    (pss_one (ps_ret (pe_make M_Number FI_Number (hr.mono (by omega)) rfl g_Number BI_Number .nil pass0 (pa_cons (pe_ix ix_tup (pv 0) pe_int (fun _ _ => rfl)) pa_nil))))
    pss_nil)
  (pss_cons (ps_if (pt_cmpR op_eq (pe_ix ix_tup (pv 0) pe_int (fun _ _ => rfl)) pe_str (nomark _))
    (pss_one (ps_ret (pe_make M_Named FI_Named (hr.mono (by omega)) rfl g_Named BI_Named .nil pass0 (pa_cons (pe_ix ix_tup (pv 0) pe_int (fun _ _ => rfl)) pa_nil))))
    pss_nil)
  (pss_cons (ps_if (pt_cmpR op_eq (pe_ix ix_tup (pv 0) pe_int (fun _ _ => rfl)) pe_str (nomark _))
    (pss_one (ps_ret (pe_make M_Signed FI_Signed (hr.mono (by omega)) rfl g_Signed BI_Signed .nil pass0 (pa_cons (pe_ix ix_tup (pv 0) pe_int (fun _ _ => rfl)) (pa_cons (pe_df D_law_made (hr.mono (by omega)) rfl (pa_cons (pe_ix ix_tup (pv 0) pe_int (fun _ _ => rfl)) pa_nil)) pa_nil)))))
    pss_nil)
  (pss_cons (ps_set (i := 1) sc_law_made.nd rfl (Or.inl rfl) (pe_df D_law_made (hr.mono (by omega)) rfl (pa_cons (pe_ix ix_tup (pv 0) pe_int (fun _ _ => rfl)) pa_nil)))
  (pss_one (ps_ret (pe_make M_Joined FI_Joined (hr.mono (by omega)) rfl g_Joined BI_Joined .nil pass0 (pa_cons (pv 1) (pa_cons (pe_ix ix_tup (pv 0) pe_int (fun _ _ => rfl)) (pa_cons (pe_df D_law_made (hr.mono (by omega)) rfl (pa_cons (pe_ix ix_tup (pv 0) pe_int (fun _ _ => rfl)) pa_nil)) pa_nil)))))))))), ?_⟩
    have tok := tr_ok5 ok h5
    cases pl with
    | num m =>
      refine q_when (b := true) (et_B (ev_kEq (ev_ix0 (j := 0) rfl hp rfl) (k_rf _))) (fun _ H1 e1 => ?_) (fun hb => by cases hb)
      have hm := ok_num.mp ok
      refine s_retP (evp_make (CS := CS K CT gT gU fL fS) (ok := okNum) (t := trN m) (R := fun us _ => us = [.int (m : Int)]) (fun H2 e2 Q q => ea_cons (ev_ix0 (j := 1) rfl (e1 _ _ hp) rfl) ea_nil H2 e2 _ fun H3 e3 => q _ H3 e3 rfl) (fun us H2 _ h => ⟨m, h, num_le hm, rfl, tok⟩) (fun _ _ _ _ h => h)) fun v H2 e2 hv => ?_
      obtain ⟨a', rfl, tr⟩ := hv
      exact kk a' H2 (e1.trans e2) tr
    | nam z =>
      refine q_when (b := false) (et_B (ev_kEq (ev_ix0 (j := 0) rfl hp rfl) k_nn)) (fun hb => by cases hb) (fun _ H1 e1 => ?_)
      refine q_when (b := true) (et_B (ev_kEq (ev_ix0 (j := 0) rfl (e1 _ _ hp) rfl) (k_rf _))) (fun _ H2 e2 => ?_) (fun hb => by cases hb)
      have hz := ok_nam.mp ok
      refine s_retP (evp_make (CS := CS K CT gT gU fL fS) (ok := okNam) (t := trA z) (R := fun us _ => us = [.str z]) (fun H3 e3 Q q => ea_cons (ev_ix0 (j := 1) rfl ((e1.trans e2) _ _ hp) rfl) ea_nil H3 e3 _ fun H4 e4 => q _ H4 e4 rfl) (fun us H2 _ h => ⟨z, h, path_used hz, path_mod hz, Nat.le_trans (path_len hz) (by decide), path_lay hz, rfl, tok⟩) (fun _ _ _ _ h => h)) fun v H3 e3 hv => ?_
      obtain ⟨a', rfl, tr⟩ := hv
      exact kk a' H3 ((e1.trans e2).trans e3) tr
    | mrk z q =>
      cases e with
      | zero => exact ok.elim
      | succ e =>
        obtain ⟨b, ha, hq⟩ := hp
        refine q_when (b := false) (et_B (ev_kEq (ev_ix0 (j := 0) rfl ha rfl) k_mn)) (fun hb => by cases hb) (fun _ H1 e1 => ?_)
        refine q_when (b := false) (et_B (ev_kEq (ev_ix0 (j := 0) rfl (e1 _ _ ha) rfl) k_ma)) (fun hb => by cases hb) (fun _ H2 e2 => ?_)
        refine q_when (b := true) (et_B (ev_kEq (ev_ix0 (j := 0) rfl (e2 _ _ (e1 _ _ ha)) rfl) (k_rf _))) (fun _ H3 e3 => ?_) (fun hb => by cases hb)
        have e123 := (e1.trans e2).trans e3
        have ha3 := e123 _ _ ha
        refine s_retP (evp_make (CS := CS K CT gT gU fL fS) (ok := okSig (CS K CT gT gU fL fS)) (t := trS z (trOf q)) (eap_cons (evp_ev (ev_ix0 (j := 1) rfl ha3 rfl)) (fun _ _ _ _ h => h) (eap_cons (evp_md (ev_ix0 (j := 2) rfl ha3 rfl) (hq.ex e123) ok.2 (by omega) (by omega)) IsTr.ex eap_nil)) (fun us H4 _ h => by
          obtain ⟨v, r, rfl, rfl, v2, r2, rfl, ⟨a2, rfl, tr⟩, rfl⟩ := h
          exact ⟨z, a2, trOf q, rfl, ok.1, tr, rfl, tok⟩) okSig_up) fun v H4 e4 hv => ?_
        obtain ⟨a', rfl, tr⟩ := hv
        exact kk a' H4 (e123.trans e4) tr
    | joi q z r =>
      cases e with
      | zero => exact ok.elim
      | succ e =>
        obtain ⟨b, c, ha, hq, hr'⟩ := hp
        refine q_when (b := false) (et_B (ev_kEq (ev_ix0 (j := 0) rfl ha rfl) k_jn)) (fun hb => by cases hb) (fun _ H1 e1 => ?_)
        refine q_when (b := false) (et_B (ev_kEq (ev_ix0 (j := 0) rfl (e1 _ _ ha) rfl) k_ja)) (fun hb => by cases hb) (fun _ H2 e2 => ?_)
        refine q_when (b := false) (et_B (ev_kEq (ev_ix0 (j := 0) rfl (e2 _ _ (e1 _ _ ha)) rfl) k_jm)) (fun hb => by cases hb) (fun _ H3 e3 => ?_)
        have e123 := (e1.trans e2).trans e3
        refine q_asgP (evp_md (CS := CS K CT gT gU fL fS) (ev_ix0 (j := 1) rfl (e123 _ _ ha) rfl) (hq.ex e123) ok.2.1 (by omega) (by omega)) fun v H4 e4 hv => ?_
        obtain ⟨a1, rfl, tr1⟩ := hv
        have e1234 := e123.trans e4
        have ha4 := e1234 _ _ ha
        refine s_retP (evp_make (CS := CS K CT gT gU fL fS) (ok := okJoi (CS K CT gT gU fL fS)) (t := trJ (trOf q) z (trOf r)) (eap_cons (evp_ev (ev_var rfl)) (fun _ _ _ _ h => h) (eap_cons (evp_ev (ev_ix0 (j := 2) rfl ha4 rfl)) (fun _ _ _ _ h => h) (eap_cons (evp_md (ev_ix0 (j := 3) rfl ha4 rfl) (hr'.ex e1234) ok.2.2 (by omega) (by omega)) IsTr.ex eap_nil))) (fun us H5 e5 h => by
          obtain ⟨v, r1, rfl, rfl, v2, r2, rfl, rfl, v3, r3, rfl, ⟨a3, rfl, tr3⟩, rfl⟩ := h
          exact ⟨z, a1, a3, trOf q, trOf r, rfl, ok.1, tr1.ext e5, tr3, rfl, tok⟩) okJoi_up) fun v H5 e5 hv => ?_
        obtain ⟨a', rfl, tr⟩ := hv
        exact kk a' H5 (e1234.trans e5) tr
theorem made_all {C1 C2 C3 C4 : Addr} {f : Addr} {fd : FuncData} (F : Fun K "_law_made" "_law_made" s_law_made f fd)
    (M1 : Made P w K mg base (CS K CT gT gU fL fS) 5 "Number" C1 ["self", "number"] okNum) (M2 : Made P w K mg base (CS K CT gT gU fL fS) 6 "Named" C2 ["self", "name"] okNam)
    (M3 : Made P w K mg base (CS K CT gT gU fL fS) 5 "Signed" C3 ["self", "sign", "inner"] (okSig (CS K CT gT gU fL fS))) (M4 : Made P w K mg base (CS K CT gT gU fL fS) 5 "Joined" C4 ["self", "left", "sign", "right"] (okJoi (CS K CT gT gU fL fS)))
    (B : L2.Binds K fd ["_law_plan_here"] []) (kp : PySem.W.keepIn K (.ref f) = true) (hm : mg "_law_made" = some (.ref f)) : ∀ n, FnOk P w K mg base CX0 (7 + n) f fd ["_law_plan_here"] (spMd (CS K CT gT gU fL fS) n)
  | 0 => ⟨fun vs H Q E h => by
      obtain ⟨p, e, b, _, _, _, he, _⟩ := h
      exact absurd he (Nat.not_lt_zero _), fun A out s H args us vs Q E _ _ _ _ h => by
      obtain ⟨p, e, b, _, _, _, he, _⟩ := h
      exact absurd he (Nat.not_lt_zero _)⟩
  | n + 1 => ok_law_made (k := 7 + n) F (by omega) M1 M2 M3 M4 ⟨f, fd, made_all F M1 M2 M3 M4 B kp hm n, B, kp, hm⟩
end
end M14

set_option maxHeartbeats 4000000
namespace M14
open PySem PySem.Spec PyProof.Rows L2 Evl TL Gd
section
variable {σ : L2.St} {H : Hp} {te tb : TE} {ta : TA} {D : Ends} {tz : TS}
theorem q_par {i j : Nat} {v w : V} (h : EvA ta σ H [v, w]) (k : ∀ H1, Ex H H1 → tz D ((σ.set i (some v)).set j (some w)) H1) : tSeq (tPar i j ta) tz D σ H := h H (Ex.refl H) _ fun H1 e => ⟨v, w, rfl, k H1 e⟩
def spTx (n : Nat) : Sp := fun vs H Q _ => ∃ (a : Addr) (pl : Plan) (e : Nat), vs = [.ref a] ∧ PlanR H a pl ∧ PlanOk e pl ∧ e < n ∧ e ≤ 5 ∧ RetV (.str (ltext pl)) H Q
def spIn (n : Nat) : Sp := fun vs H Q _ => ∃ (a : Addr) (pl : Plan) (e : Nat) (b : Bool), vs = [.ref a, .bl b] ∧ PlanR H a pl ∧ PlanOk e pl ∧ e < n ∧ e ≤ 5 ∧ RetV (.str (ins b (ltext pl))) H Q
def spCt (n : Nat) : Sp := fun vs H Q _ => ∃ (a : Addr) (pl : Plan) (e : Nat), vs = [.ref a] ∧ PlanR H a pl ∧ PlanOk e pl ∧ e < n ∧ e ≤ 5 ∧ RetV (.int (lcount pl : Int)) H Q
theorem is_tx {n e : Nat} {a : Addr} {pl : Plan} (h : PlanR H a pl) (ok : PlanOk e pl) (he : e < n) (h5 : e ≤ 5) : SpIs (spTx n) [.ref a] H (.str (ltext pl)) := fun H1 x Q q E => ⟨a, pl, e, rfl, h.ex x, ok, he, h5, fun H2 e2 => q H2 e2⟩
theorem is_in {n e : Nat} {a : Addr} {pl : Plan} {b : Bool} (h : PlanR H a pl) (ok : PlanOk e pl) (he : e < n) (h5 : e ≤ 5) : SpIs (spIn n) [.ref a, .bl b] H (.str (ins b (ltext pl))) := fun H1 x Q q E => ⟨a, pl, e, b, rfl, h.ex x, ok, he, h5, fun H2 e2 => q H2 e2⟩
theorem is_ct {n e : Nat} {a : Addr} {pl : Plan} (h : PlanR H a pl) (ok : PlanOk e pl) (he : e < n) (h5 : e ≤ 5) : SpIs (spCt n) [.ref a] H (.int (lcount pl : Int)) := fun H1 x Q q E => ⟨a, pl, e, rfl, h.ex x, ok, he, h5, fun H2 e2 => q H2 e2⟩
theorem ltext_len {e : Nat} {pl : Plan} (ok : PlanOk e pl) (h5 : e ≤ 5) : (ltext pl).length ≤ 6000 := by
  rw [← text_of ok]
  have h := tr_ok5 ok h5
  exact Nat.le_trans h.2.2.1 (Nat.mul_le_mul_left 30 h.1)
theorem ins_len (b : Bool) (z : Str) : (ins b z).length ≤ z.length + 2 := by
  cases b
  · exact Nat.le_add_right _ _
  · show ((("(" : Str) ++ z) ++ (")" : Str)).length ≤ z.length + 2
    rw [app_len, app_len, show (("(" : Str)).length = 1 from rfl, show ((")" : Str)).length = 1 from rfl]
    omega
theorem lcount_le {e : Nat} {pl : Plan} (ok : PlanOk e pl) (h5 : e ≤ 5) : lcount pl ≤ 200 := by
  rw [← count_of ok]
  exact (tr_ok5 ok h5).1
theorem add_nat (m n : Nat) : V.int ((m : Int) + (n : Int)) = V.int ((m + n : Nat) : Int) := rfl
end
section
variable {P : Program} {w : World} {K : PySem.W.Frag} {mg : Str → Option Value} {base : Heap} {CT gT gU fL fS : Addr}
/-! ### the law's text of a plan -/
abbrev s_law_text : Stmt := top 43
theorem sc_law_text : FnScope ["_law_plan_here", "_law_level_here", "_law_own", "_law_front"] ["_law_plan_here"] (defScope s_law_text) := ⟨rfl, rfl, rfl, by decide +kernel, rfl, by decide +kernel, by decide +kernel⟩
abbrev s_law_inside : Stmt := top 44
theorem sc_law_inside : FnScope ["_law_plan_here", "_law_is_bracketed"] ["_law_plan_here", "_law_is_bracketed"] (defScope s_law_inside) := ⟨rfl, rfl, rfl, by decide +kernel, rfl, by decide +kernel, by decide +kernel⟩
theorem ok_law_inside {n k : Nat} {f : Addr} {fd : FuncData} (F : Fun K "_law_inside" "_law_inside" s_law_inside f fd) (D_law_text : Df P w K mg base CX0 k "_law_text" ["_law_plan_here"] (spTx n)) : FnOk P w K mg base CX0 (k + 1) f fd ["_law_plan_here", "_law_is_bracketed"] (spIn n) := by
  refine F.ok sc_law_inside (fun vs H Q E h => ?_) (fun cdv A outer s H vs Q E hr h => ?_)
  · obtain ⟨a, pl, e, b, rfl, _⟩ := h
    rfl
  · obtain ⟨a, pl, e, b, rfl, hp, ok, he, h5, kk⟩ := h
    refine ⟨_, (pss_one (ps_ret (pe_ifExp (pt_val (pv 1)) (pe_op op_add_str (pe_op op_add_str pe_str (pe_df D_law_text (hr.mono (Nat.le_refl _)) rfl (pa_cons (pv 0) pa_nil))) pe_str) (pe_df D_law_text (hr.mono (Nat.le_refl _)) rfl (pa_cons (pv 0) pa_nil))))), ?_⟩
    have ll := ltext_len ok h5
    have l1 : (("(" : Str)).length = 1 := rfl
    have l2 : ((")" : Str)).length = 1 := rfl
    refine s_ret (v := .str (ins b (ltext pl))) (ev_if (et_B (ev_var rfl)) (fun hb => ev_is (ev_op (ev_op ev_c (ev_df (ea_cons (ev_var rfl) ea_nil) (is_tx hp ok he h5)) (rv_addS (by omega))) ev_c (rv_addS (by rw [app_len]; omega))) (by rw [hb]; rfl)) (fun hb => ev_is (ev_df (ea_cons (ev_var rfl) ea_nil) (is_tx hp ok he h5)) (by rw [hb]; rfl))) fun H2 e2 => kk H2 e2
theorem ok_law_text {n k : Nat} {f : Addr} {fd : FuncData} (F : Fun K "_law_text" "_law_text" s_law_text f fd) (T : Tx K mg) (hk : 3 ≤ k) (D_law_level : Df P w K mg base CX0 2 "_law_level" ["_law_plan_here"] spLevel)
    (D_law_inside : Df P w K mg base CX0 k "_law_inside" ["_law_plan_here", "_law_is_bracketed"] (spIn n)) : FnOk P w K mg base CX0 (k + 1) f fd ["_law_plan_here"] (spTx (n + 1)) := by
  refine F.ok sc_law_text (fun vs H Q E h => ?_) (fun cdv A outer s H vs Q E hr h => ?_)
  · obtain ⟨a, pl, e, rfl, _⟩ := h
    rfl
  · obtain ⟨a, pl, e, rfl, hp, ok, he, h5, kk⟩ := h
    refine ⟨_, (pss_cons (ps_if (pt_cmpR op_eq (pe_ix ix_tup (pv 0) pe_int (fun _ _ => rfl)) pe_str (nomark _))
    (pss_one (ps_ret (pe_callTy call_str_int (by rfl) T.b_str (by decide +kernel) (pa_cons (pe_ix ix_tup (pv 0) pe_int (fun _ _ => rfl)) pa_nil))))
    pss_nil)
  (pss_cons (ps_if (pt_cmpR op_eq (pe_ix ix_tup (pv 0) pe_int (fun _ _ => rfl)) pe_str (nomark _))
    (pss_one (ps_ret (pe_ix ix_tup (pv 0) pe_int (fun _ _ => rfl))))
    pss_nil)
  (pss_cons (ps_if (pt_cmpR op_eq (pe_ix ix_tup (pv 0) pe_int (fun _ _ => rfl)) pe_str (nomark _))
    (pss_one (ps_ret (pe_op op_add_str (pe_ix ix_tup (pv 0) pe_int (fun _ _ => rfl)) (pe_df D_law_inside (hr.mono (Nat.le_refl _)) rfl (pa_cons (pe_ix ix_tup (pv 0) pe_int (fun _ _ => rfl)) (pa_cons (pe_cmpR op_eq (pe_ix ix_tup (pe_ix ix_tup (pv 0) pe_int (fun _ _ => rfl)) pe_int (fun _ _ => rfl)) pe_str (nomark _)) pa_nil))))))
    pss_nil)
  (pss_cons (ps_par (i := 1) (j := 2) (by rfl) sc_law_text.nd rfl rfl (by decide) rfl rfl (pa_cons (pe_df D_law_level (hr.mono (by omega)) rfl (pa_cons (pv 0) pa_nil)) (pa_cons (pe_df D_law_level (hr.mono (by omega)) rfl (pa_cons (pe_ix ix_tup (pv 0) pe_int (fun _ _ => rfl)) pa_nil)) pa_nil)) (by rfl))
  (pss_cons (ps_set (i := 3) sc_law_text.nd rfl (Or.inl rfl) (pe_df D_law_inside (hr.mono (Nat.le_refl _)) rfl (pa_cons (pe_ix ix_tup (pv 0) pe_int (fun _ _ => rfl)) (pa_cons (pe_or (pe_cmpR op_lt (pv 2) (pv 1) (nomark _)) (pe_one (pe_and (pe_cmpR op_eq (pv 2) pe_int (nomark _)) (pe_one (pe_cmpR op_eq (pv 1) pe_int (nomark _)))))) pa_nil))))
  (pss_one (ps_ret (pe_op op_add_str (pe_op op_add_str (pe_op op_add_str (pe_op op_add_str (pv 3) pe_str) (pe_ix ix_tup (pv 0) pe_int (fun _ _ => rfl))) pe_str) (pe_df D_law_inside (hr.mono (Nat.le_refl _)) rfl (pa_cons (pe_ix ix_tup (pv 0) pe_int (fun _ _ => rfl)) (pa_cons (pe_cmpR op_le (pe_df D_law_level (hr.mono (by omega)) rfl (pa_cons (pe_ix ix_tup (pv 0) pe_int (fun _ _ => rfl)) pa_nil)) (pv 1) (nomark _)) pa_nil))))))))))), ?_⟩
    cases pl with
    | num m =>
      refine q_when (b := true) (et_B (ev_kEq (ev_ix0 (j := 0) rfl hp rfl) (k_rf _))) (fun _ H1 e1 => ?_) (fun hb => by cases hb)
      exact s_ret (ev_strI (ev_ix0 (j := 1) rfl (e1 _ _ hp) rfl) (num_le (ok_num.mp ok))) fun H2 e2 => kk H2 (e1.trans e2)
    | nam z =>
      refine q_when (b := false) (et_B (ev_kEq (ev_ix0 (j := 0) rfl hp rfl) k_nn)) (fun hb => by cases hb) (fun _ H1 e1 => ?_)
      refine q_when (b := true) (et_B (ev_kEq (ev_ix0 (j := 0) rfl (e1 _ _ hp) rfl) (k_rf _))) (fun _ H2 e2 => ?_) (fun hb => by cases hb)
      exact s_ret (ev_ix0 (j := 1) rfl ((e1.trans e2) _ _ hp) rfl) fun H3 e3 => kk H3 ((e1.trans e2).trans e3)
    | mrk z q =>
      cases e with
      | zero => exact ok.elim
      | succ e =>
        obtain ⟨b, ha, hq⟩ := hp
        refine q_when (b := false) (et_B (ev_kEq (ev_ix0 (j := 0) rfl ha rfl) k_mn)) (fun hb => by cases hb) (fun _ H1 e1 => ?_)
        refine q_when (b := false) (et_B (ev_kEq (ev_ix0 (j := 0) rfl (e1 _ _ ha) rfl) k_ma)) (fun hb => by cases hb) (fun _ H2 e2 => ?_)
        refine q_when (b := true) (et_B (ev_kEq (ev_ix0 (j := 0) rfl (e2 _ _ (e1 _ _ ha)) rfl) (k_rf _))) (fun _ H3 e3 => ?_) (fun hb => by cases hb)
        have e123 := (e1.trans e2).trans e3
        have ha3 := e123 _ _ ha
        have hq3 := hq.ex e123
        obtain ⟨xs, hx⟩ := planHead hq3
        have l1 := ltext_len ok.2 (show e ≤ 5 by omega)
        have l2 := ins_len (isJ q) (ltext q)
        have l3 := sg_len ok.1
        exact s_ret (v := .str (z ++ ins (isJ q) (ltext q))) (ev_op (ev_ix0 (j := 1) rfl ha3 rfl) (ev_df (ea_cons (ev_ix0 (j := 2) rfl ha3 rfl) (ea_cons (ev_kEq (ev_op (ev_ix0 (j := 2) rfl ha3 rfl) ev_c (rv_ixT (st_of hx) (atI_nat (j := 0) rfl))) (kindJ q)) ea_nil)) (is_in hq3 ok.2 (by omega) (by omega))) (rv_addS (by omega))) fun H4 e4 => kk H4 (e123.trans e4)
    | joi q z r =>
      cases e with
      | zero => exact ok.elim
      | succ e =>
        have hpl := hp
        obtain ⟨b, c, ha, hq, hr'⟩ := hp
        refine q_when (b := false) (et_B (ev_kEq (ev_ix0 (j := 0) rfl ha rfl) k_jn)) (fun hb => by cases hb) (fun _ H1 e1 => ?_)
        refine q_when (b := false) (et_B (ev_kEq (ev_ix0 (j := 0) rfl (e1 _ _ ha) rfl) k_ja)) (fun hb => by cases hb) (fun _ H2 e2 => ?_)
        refine q_when (b := false) (et_B (ev_kEq (ev_ix0 (j := 0) rfl (e2 _ _ (e1 _ _ ha)) rfl) k_jm)) (fun hb => by cases hb) (fun _ H3 e3 => ?_)
        have e123 := (e1.trans e2).trans e3
        have ha3 := e123 _ _ ha
        have lq := ltext_len ok.2.1 (show e ≤ 5 by omega)
        have lr := ltext_len ok.2.2 (show e ≤ 5 by omega)
        have iq := ins_len (brP q (lev z)) (ltext q)
        have ir := ins_len (decide (lvl r ≤ lev z)) (ltext r)
        have lz := op_len ok.1
        have ls : ((" " : Str)).length = 1 := rfl
        refine q_par (v := .int (lev z : Int)) (w := .int (lvl q : Int)) (ea_cons (ev_df (ea_cons (ev_var rfl) ea_nil) (is_level (hpl.ex e123) ok)) (ea_cons (ev_df (ea_cons (ev_ix0 (j := 1) rfl ha3 rfl) ea_nil) (is_level (hq.ex e123) ok.2.1)) ea_nil)) fun H4 e4 => ?_
        have e4' := e123.trans e4
        have ha4 := e4' _ _ ha
        refine q_asg (v := .str (ins (brP q (lev z)) (ltext q))) (ev_df (ea_cons (ev_ix0 (j := 1) rfl ha4 rfl) (ea_cons (ev_is (ev_orV (ev_op (ev_var rfl) (ev_var rfl) rv_I0) fun _ => ev_andV (ev_op (ev_var rfl) (ev_c (v := .int ((3 : Nat) : Int))) (rv_eq rfl)) fun _ => ev_op (ev_var rfl) (ev_c (v := .int ((3 : Nat) : Int))) (rv_eq rfl)) (bl_eq (y := brP q (lev z)) (by
          unfold brP
          rw [dec_lt, dec_eqV, dec_eqV]))) ea_nil)) (is_in (hq.ex e4') ok.2.1 (by omega) (by omega))) fun H5 e5 => ?_
        have e5' := e4'.trans e5
        have ha5 := e5' _ _ ha
        exact s_ret (v := .str ((((ins (brP q (lev z)) (ltext q) ++ (" " : Str)) ++ z) ++ (" " : Str)) ++ ins (decide (lvl r ≤ lev z)) (ltext r))) (ev_op (ev_op (ev_op (ev_op (ev_var rfl) ev_c (rv_addS (by omega))) (ev_ix0 (j := 2) rfl ha5 rfl) (rv_addS (by rw [app_len]; omega))) ev_c (rv_addS (by rw [app_len, app_len]; omega)))
          (ev_df (ea_cons (ev_ix0 (j := 3) rfl ha5 rfl) (ea_cons (ev_is (ev_op (ev_df (ea_cons (ev_ix0 (j := 3) rfl ha5 rfl) ea_nil) (is_level (hr'.ex e5') ok.2.2)) (ev_var rfl) rv_I0) (bl_eq (y := decide (lvl r ≤ lev z)) dec_le)) ea_nil)) (is_in (hr'.ex e5') ok.2.2 (by omega) (by omega))) (rv_addS (by rw [app_len, app_len, app_len]; omega))) fun H6 e6 => kk H6 (e5'.trans e6)
theorem text_all {f fi : Addr} {fd fdi : FuncData} (F : Fun K "_law_text" "_law_text" s_law_text f fd) (Fi : Fun K "_law_inside" "_law_inside" s_law_inside fi fdi) (T : Tx K mg) (D_law_level : Df P w K mg base CX0 2 "_law_level" ["_law_plan_here"] spLevel)
    (B : L2.Binds K fd ["_law_plan_here"] []) (kp : PySem.W.keepIn K (.ref f) = true) (hm : mg "_law_text" = some (.ref f)) (Bi : L2.Binds K fdi ["_law_plan_here", "_law_is_bracketed"] []) (kpi : PySem.W.keepIn K (.ref fi) = true) (hmi : mg "_law_inside" = some (.ref fi)) : ∀ n, FnOk P w K mg base CX0 (3 + 2 * n) f fd ["_law_plan_here"] (spTx n)
  | 0 => ⟨fun vs H Q E h => by
      obtain ⟨p, e, b, _, _, _, he, _⟩ := h
      exact absurd he (Nat.not_lt_zero _), fun A out s H args us vs Q E _ _ _ _ h => by
      obtain ⟨p, e, b, _, _, _, he, _⟩ := h
      exact absurd he (Nat.not_lt_zero _)⟩
  | n + 1 => ok_law_text (k := 3 + 2 * n + 1) F T (by omega) D_law_level ⟨fi, fdi, ok_law_inside Fi ⟨f, fd, text_all F Fi T D_law_level B kp hm Bi kpi hmi n, B, kp, hm⟩, Bi, kpi, hmi⟩
/-! ### the law's count -/
abbrev s_law_count : Stmt := top 45
theorem sc_law_count : FnScope ["_law_plan_here", "_law_level_here", "_law_own", "_law_brackets"] ["_law_plan_here"] (defScope s_law_count) := ⟨rfl, rfl, rfl, by decide +kernel, rfl, by decide +kernel, by decide +kernel⟩
theorem ok_law_count {n k : Nat} {f : Addr} {fd : FuncData} (F : Fun K "_law_count" "_law_count" s_law_count f fd) (T : Tx K mg) (hk : 3 ≤ k) (D_law_level : Df P w K mg base CX0 2 "_law_level" ["_law_plan_here"] spLevel)
    (D_law_count : Df P w K mg base CX0 k "_law_count" ["_law_plan_here"] (spCt n)) : FnOk P w K mg base CX0 (k + 1) f fd ["_law_plan_here"] (spCt (n + 1)) := by
  refine F.ok sc_law_count (fun vs H Q E h => ?_) (fun cdv A outer s H vs Q E hr h => ?_)
  · obtain ⟨a, pl, e, rfl, _⟩ := h
    rfl
  · obtain ⟨a, pl, e, rfl, hp, ok, he, h5, kk⟩ := h
    refine ⟨_, (pss_cons (ps_if (pt_cmpR op_eq (pe_ix ix_tup (pv 0) pe_int (fun _ _ => rfl)) pe_str (nomark _))
    (pss_one (ps_ret (pe_op op_add (pe_op op_add pe_int (pe_df D_law_count (hr.mono (Nat.le_refl _)) rfl (pa_cons (pe_ix ix_tup (pv 0) pe_int (fun _ _ => rfl)) pa_nil))) (pe_op op_mul pe_int (pe_callTy call_int1 (by rfl) T.b_int (by decide +kernel) (pa_cons (pe_cmpR op_eq (pe_ix ix_tup (pe_ix ix_tup (pv 0) pe_int (fun _ _ => rfl)) pe_int (fun _ _ => rfl)) pe_str (nomark _)) pa_nil))))))
    pss_nil)
  (pss_cons (ps_if (pt_cmpR op_ne (pe_ix ix_tup (pv 0) pe_int (fun _ _ => rfl)) pe_str (nomark _))
    (pss_one (ps_ret pe_int))
    pss_nil)
  (pss_cons (ps_par (i := 1) (j := 2) (by rfl) sc_law_count.nd rfl rfl (by decide) rfl rfl (pa_cons (pe_df D_law_level (hr.mono (by omega)) rfl (pa_cons (pv 0) pa_nil)) (pa_cons (pe_df D_law_level (hr.mono (by omega)) rfl (pa_cons (pe_ix ix_tup (pv 0) pe_int (fun _ _ => rfl)) pa_nil)) pa_nil)) (by rfl))
  (pss_cons (ps_set (i := 3) sc_law_count.nd rfl (Or.inl rfl) (pe_op op_add (pe_callTy call_int1 (by rfl) T.b_int (by decide +kernel) (pa_cons (pe_or (pe_cmpR op_lt (pv 2) (pv 1) (nomark _)) (pe_one (pe_and (pe_cmpR op_eq (pv 2) pe_int (nomark _)) (pe_one (pe_cmpR op_eq (pv 1) pe_int (nomark _)))))) pa_nil)) (pe_callTy call_int1 (by rfl) T.b_int (by decide +kernel) (pa_cons (pe_cmpR op_le (pe_df D_law_level (hr.mono (by omega)) rfl (pa_cons (pe_ix ix_tup (pv 0) pe_int (fun _ _ => rfl)) pa_nil)) (pv 1) (nomark _)) pa_nil))))
  (pss_one (ps_ret (pe_op op_add (pe_op op_add (pe_op op_add pe_int (pe_op op_mul pe_int (pv 3))) (pe_df D_law_count (hr.mono (Nat.le_refl _)) rfl (pa_cons (pe_ix ix_tup (pv 0) pe_int (fun _ _ => rfl)) pa_nil))) (pe_df D_law_count (hr.mono (Nat.le_refl _)) rfl (pa_cons (pe_ix ix_tup (pv 0) pe_int (fun _ _ => rfl)) pa_nil))))))))), ?_⟩
    cases pl with
    | num m =>
      refine q_when (b := false) (et_B (ev_kEq (ev_ix0 (j := 0) rfl hp rfl) k_um)) (fun hb => by cases hb) (fun _ H1 e1 => ?_)
      refine q_when (b := true) (et_B (ev_kNe (ev_ix0 (j := 0) rfl (e1 _ _ hp) rfl) (by rw [show decide (V.str ("number" : Str) = V.str ("joined" : Str)) = false from kindJ (.num m)]; rfl))) (fun _ H2 e2 => ?_) (fun hb => by cases hb)
      exact s_ret ev_c fun H3 e3 => kk H3 ((e1.trans e2).trans e3)
    | nam z =>
      refine q_when (b := false) (et_B (ev_kEq (ev_ix0 (j := 0) rfl hp rfl) k_am)) (fun hb => by cases hb) (fun _ H1 e1 => ?_)
      refine q_when (b := true) (et_B (ev_kNe (ev_ix0 (j := 0) rfl (e1 _ _ hp) rfl) (by rw [show decide (V.str ("name" : Str) = V.str ("joined" : Str)) = false from kindJ (.nam z)]; rfl))) (fun _ H2 e2 => ?_) (fun hb => by cases hb)
      exact s_ret ev_c fun H3 e3 => kk H3 ((e1.trans e2).trans e3)
    | mrk z q =>
      cases e with
      | zero => exact ok.elim
      | succ e =>
        obtain ⟨b, ha, hq⟩ := hp
        refine q_when (b := true) (et_B (ev_kEq (ev_ix0 (j := 0) rfl ha rfl) (k_rf _))) (fun _ H1 e1 => ?_) (fun hb => by cases hb)
        have ha1 := e1 _ _ ha
        have hq1 := hq.ex e1
        obtain ⟨xs, hx⟩ := planHead hq1
        refine s_ret (v := .int ((1 : Int) + (lcount q : Int) + 2 * (b2 (isJ q) : Int))) (ev_op (ev_op ev_c (ev_df (ea_cons (ev_ix0 (j := 2) rfl ha1 rfl) ea_nil) (is_ct hq1 ok.2 (by omega) (by omega))) rv_I0) (ev_op ev_c (ev_intB (ev_kEq (ev_op (ev_ix0 (j := 2) rfl ha1 rfl) ev_c (rv_ixT (st_of hx) (atI_nat (j := 0) rfl))) (kindJ q))) (rv_I (Or.inl (by omega)))) rv_I0) fun H2 e2 => ?_
        have h := kk H2 (e1.trans e2)
        have e3 : ((lcount (.mrk z q) : Nat) : Int) = (1 : Int) + (lcount q : Int) + 2 * (b2 (isJ q) : Int) := by
          show ((1 + lcount q + 2 * b2 (isJ q) : Nat) : Int) = _
          omega
        rw [e3] at h
        exact h
    | joi q z r =>
      cases e with
      | zero => exact ok.elim
      | succ e =>
        have hpl := hp
        obtain ⟨b, c, ha, hq, hr'⟩ := hp
        refine q_when (b := false) (et_B (ev_kEq (ev_ix0 (j := 0) rfl ha rfl) k_jm)) (fun hb => by cases hb) (fun _ H1 e1 => ?_)
        refine q_when (b := false) (et_B (ev_kNe (ev_ix0 (j := 0) rfl (e1 _ _ ha) rfl) (by rw [k_rf]; rfl))) (fun hb => by cases hb) (fun _ H2 e2 => ?_)
        have e12 := e1.trans e2
        have ha2 := e12 _ _ ha
        refine q_par (v := .int (lev z : Int)) (w := .int (lvl q : Int)) (ea_cons (ev_df (ea_cons (ev_var rfl) ea_nil) (is_level (hpl.ex e12) ok)) (ea_cons (ev_df (ea_cons (ev_ix0 (j := 1) rfl ha2 rfl) ea_nil) (is_level (hq.ex e12) ok.2.1)) ea_nil)) fun H3 e3 => ?_
        have e3' := e12.trans e3
        have ha3 := e3' _ _ ha
        refine q_asg (v := .int ((b2 (brP q (lev z)) : Int) + (b2 (decide (lvl r ≤ lev z)) : Int))) (ev_op (ev_intB (ev_is (ev_orV (ev_op (ev_var rfl) (ev_var rfl) rv_I0) fun _ => ev_andV (ev_op (ev_var rfl) (ev_c (v := .int ((3 : Nat) : Int))) (rv_eq rfl)) fun _ => ev_op (ev_var rfl) (ev_c (v := .int ((3 : Nat) : Int))) (rv_eq rfl)) (bl_eq (y := brP q (lev z)) (by
          unfold brP
          rw [dec_lt, dec_eqV, dec_eqV])))) (ev_intB (ev_is (ev_op (ev_df (ea_cons (ev_ix0 (j := 3) rfl ha3 rfl) ea_nil) (is_level (hr'.ex e3') ok.2.2)) (ev_var rfl) rv_I0) (bl_eq (y := decide (lvl r ≤ lev z)) dec_le))) rv_I0) fun H4 e4 => ?_
        have e4' := e3'.trans e4
        have ha4 := e4' _ _ ha
        refine s_ret (v := .int ((1 : Int) + 2 * ((b2 (brP q (lev z)) : Int) + (b2 (decide (lvl r ≤ lev z)) : Int)) + (lcount q : Int) + (lcount r : Int))) (ev_op (ev_op (ev_op ev_c (ev_op ev_c (ev_var rfl) (rv_I (Or.inl (by omega)))) rv_I0) (ev_df (ea_cons (ev_ix0 (j := 1) rfl ha4 rfl) ea_nil) (is_ct (hq.ex e4') ok.2.1 (by omega) (by omega))) rv_I0) (ev_df (ea_cons (ev_ix0 (j := 3) rfl ha4 rfl) ea_nil) (is_ct (hr'.ex e4') ok.2.2 (by omega) (by omega))) rv_I0) fun H5 e5 => ?_
        have h := kk H5 (e4'.trans e5)
        have e6 : ((lcount (.joi q z r) : Nat) : Int) = (1 : Int) + 2 * ((b2 (brP q (lev z)) : Int) + (b2 (decide (lvl r ≤ lev z)) : Int)) + (lcount q : Int) + (lcount r : Int) := by
          show ((1 + 2 * (b2 (brP q (lev z)) + b2 (decide (lvl r ≤ lev z))) + lcount q + lcount r : Nat) : Int) = _
          omega
        rw [e6] at h
        exact h
theorem count_all {f : Addr} {fd : FuncData} (F : Fun K "_law_count" "_law_count" s_law_count f fd) (T : Tx K mg) (D_law_level : Df P w K mg base CX0 2 "_law_level" ["_law_plan_here"] spLevel)
    (B : L2.Binds K fd ["_law_plan_here"] []) (kp : PySem.W.keepIn K (.ref f) = true) (hm : mg "_law_count" = some (.ref f)) : ∀ n, FnOk P w K mg base CX0 (3 + n) f fd ["_law_plan_here"] (spCt n)
  | 0 => ⟨fun vs H Q E h => by
      obtain ⟨p, e, b, _, _, _, he, _⟩ := h
      exact absurd he (Nat.not_lt_zero _), fun A out s H args us vs Q E _ _ _ _ h => by
      obtain ⟨p, e, b, _, _, _, he, _⟩ := h
      exact absurd he (Nat.not_lt_zero _)⟩
  | n + 1 => ok_law_count (k := 3 + n) F T (by omega) D_law_level ⟨f, fd, count_all F T D_law_level B kp hm n, B, kp, hm⟩
end
end M14

set_option maxHeartbeats 4000000
namespace M14
open PySem PySem.Spec PyProof.Rows L2 Evl TL Gd
/-- a value that is a plan -/
def PlV (pl : Plan) (v : V) (H : Hp) : Prop := ∃ p, v = .ref p ∧ PlanR H p pl
theorem PlV.ex {pl : Plan} (v : V) (H H' : Hp) (e : Ex H H') (h : PlV pl v H) : PlV pl v H' := by
  obtain ⟨p, h1, h2⟩ := h
  exact ⟨p, h1, h2.ex e⟩
def spRt : Sp := fun vs H Q _ => ∃ (a : Addr) (pl : Plan), vs = [.ref a] ∧ PlanR H a pl ∧ PlanOk 5 pl ∧ RetV (.bl true) H Q
section
variable {K : PySem.W.Frag} {σ : L2.St} {H : Hp} {te t1 t2 t3 tl : TE} {D : Ends} {tz tu : TS} {E : XK} {p q : Plan} {s : Str}
theorem pl_var {i : Nat} {a : Addr} (hσ : σ[i]? = some (some (.ref a))) (h : PlanR H a p) : EvP (tVar i) σ H (PlV p) := fun H1 e Q k => ⟨_, hσ, k _ H1 (Ex.refl H1) ⟨a, rfl, h.ex e⟩⟩
theorem pl_num {n : Nat} (h : Ev t1 σ H (.int (n : Int))) : EvP (tTup (tCons (tC (.str "number")) (tCons t1 tNil))) σ H (PlV (.num n)) := fun H1 e Q k => eu_tup (ea_cons ev_c (ea_cons h ea_nil)) (show 2 ≤ 100000 by decide) H1 e Q fun a H2 _ e2 h2 => k _ H2 e2 ⟨a, rfl, h2⟩
theorem pl_nam (h : Ev t1 σ H (.str s)) : EvP (tTup (tCons (tC (.str "name")) (tCons t1 tNil))) σ H (PlV (.nam s)) := fun H1 e Q k => eu_tup (ea_cons ev_c (ea_cons h ea_nil)) (show 2 ≤ 100000 by decide) H1 e Q fun a H2 _ e2 h2 => k _ H2 e2 ⟨a, rfl, h2⟩
theorem pl_mrk (h : Ev t1 σ H (.str s)) (h2 : EvP t2 σ H (PlV p)) : EvP (tTup (tCons (tC (.str "mark")) (tCons t1 (tCons t2 tNil)))) σ H (PlV (.mrk s p)) := fun H1 e Q k =>
  evp_tup (eap_cons (evp_ev ev_c) (fun _ _ _ _ h => h) (eap_cons (evp_ev h) (fun _ _ _ _ h => h) (eap_cons h2 PlV.ex eap_nil))) (fun vs H1 H2 e ⟨v, r, h1, h2, v', r', h3, h4, v3, r3, h5, h6, h7⟩ => ⟨v, r, h1, h2, v', r', h3, h4, v3, r3, h5, PlV.ex _ _ _ e h6, h7⟩)
    (fun vs H1 ⟨v, r, h1, h2, v', r', h3, h4, v3, r3, h5, h6, h7⟩ => by subst h1; subst h3; subst h5; subst h7; exact (show 3 ≤ 100000 by decide)) H1 e Q fun v H2 e2 ⟨a, vs, ev, ha, v1, r1, h1, h2, v2, r2, h3, h4, v3, r3, h5, ⟨b, h6, h7⟩, h8⟩ => k v H2 e2 (by
      subst ev; subst h1; subst h3; subst h5; subst h8; subst h2; subst h4; subst h6
      exact ⟨a, rfl, b, ha, h7⟩)
theorem pl_joi (h1 : EvP t1 σ H (PlV p)) (h : Ev t2 σ H (.str s)) (h2 : EvP t3 σ H (PlV q)) : EvP (tTup (tCons (tC (.str "joined")) (tCons t1 (tCons t2 (tCons t3 tNil))))) σ H (PlV (.joi p s q)) := fun H1 e Q k =>
  evp_tup (eap_cons (evp_ev ev_c) (fun _ _ _ _ h => h) (eap_cons h1 PlV.ex (eap_cons (evp_ev h) (fun _ _ _ _ h => h) (eap_cons h2 PlV.ex eap_nil)))) (fun vs H1 H2 e ⟨v, r, h1, h2, v', r', h3, h4, v3, r3, h5, h6, v4, r4, h7, h8, h9⟩ => ⟨v, r, h1, h2, v', r', h3, PlV.ex _ _ _ e h4, v3, r3, h5, h6, v4, r4, h7, PlV.ex _ _ _ e h8, h9⟩)
    (fun vs H1 ⟨v, r, h1, h2, v', r', h3, h4, v3, r3, h5, h6, v4, r4, h7, h8, h9⟩ => by subst h1; subst h3; subst h5; subst h7; subst h9; exact (show 4 ≤ 100000 by decide)) H1 e Q fun v H2 e2 ⟨a, vs, ev, ha, v1, r1, h1, h2, v2, r2, h3, ⟨b, h4, h4'⟩, v3, r3, h5, h6, v4, r4, h7, ⟨c, h8, h8'⟩, h9⟩ => k v H2 e2 (by
      subst ev; subst h1; subst h3; subst h5; subst h7; subst h9; subst h2; subst h4; subst h6; subst h8
      exact ⟨a, rfl, b, c, ha, h4', h8'⟩)
theorem ev_rt (h : EvP te σ H (PlV p)) (ok : PlanOk 5 p) : Ev (tCall spRt [] E (tCons te tNil)) σ H (.bl true) := fun H1 e Q k => h H1 e _ fun v H2 e2 ⟨a, ev, hp⟩ => by
  subst ev
  exact ⟨a, p, rfl, hp, ok, fun H3 e3 => k H3 (e2.trans e3)⟩
theorem q_parP {i j : Nat} {ta : TA} {R : List V → Hp → Prop} (h : EvAP ta σ H R) (hR : ∀ vs H1, R vs H1 → ∃ v w, vs = [v, w]) (k : ∀ v w H1, Ex H H1 → R [v, w] H1 → tz D ((σ.set i (some v)).set j (some w)) H1) : tSeq (tPar i j ta) tz D σ H :=
  h H (Ex.refl H) _ fun vs H1 e r => by
    obtain ⟨v, w, rfl⟩ := hR vs H1 r
    exact ⟨v, w, rfl, k v w H1 e r⟩
theorem q_forPL {j : Nat} {PL : List V → Hp → Prop} (h : EvP tl σ H (fun v H1 => ∃ a xs, v = .ref a ∧ H1 a = some (.lst xs) ∧ PL xs H1))
    (k : ∀ a xs H1, Ex H H1 → H1 a = some (.lst xs) → PL xs H1 → ∃ Pv : Nat → L2.St → Hp → Prop, Pv 0 σ H1 ∧ (∀ i σ' H', i ≤ xs.length → Pv i σ' H' → SqL K H' a xs) ∧
      (∀ i x σ' H', xs[i]? = some x → Pv i σ' H' → tu { D with nx := Pv (i + 1), ct := Pv (i + 1), bk := tz D } (σ'.set j (some x)) H') ∧ (∀ σ' H', Pv xs.length σ' H' → tz D σ' H')) : tSeq (tFor (iList K tl) (gName j) tu) tz D σ H :=
  h H (Ex.refl H) _ fun v H1 e ⟨a, xs, ev, ha, pl⟩ => by
    subst ev
    obtain ⟨Pv, h0, hl, hs, hd⟩ := k a xs H1 e ha pl
    exact ⟨a, rfl, ⟨xs, sq_of ha⟩, for_list (D := { D with nx := tz D }) Pv h0 hl hs hd⟩
theorem el_cat2 {ta tb : TE} {l m : Addr} {xs ys : List V} (ha : Ev ta σ H (.ref l)) (hl : H l = some (.lst xs)) (hb : Ev tb σ H (.ref m)) (hm : H m = some (.lst ys)) (hz : xs.length + ys.length ≤ 100000) : EvL (tOp rCat ta tb) σ H (xs ++ ys) := fun H1 e Q q =>
  ha H1 e _ fun H2 e2 => hb H2 (e.trans e2) _ fun H3 e3 => ⟨l, m, xs, ys, rfl, rfl, ((e.trans e2).trans e3) _ _ hl, ((e.trans e2).trans e3) _ _ hm, sz_of hz, fun r hr => q r _ (fresh_back (e2.trans e3) hr) ((e2.trans e3).trans (Ex.new hr)) upd_same⟩
theorem s_forS {j : Nat} {z : Str} (h : Ev tl σ H (.str z)) (Pv : Nat → L2.St → Hp → Prop) (h0 : ∀ H1, Ex H H1 → Pv 0 σ H1)
    (hs : ∀ i c σ' H', z.cps[i]? = some c → Pv i σ' H' → tu { D with nx := Pv (i + 1), ct := Pv (i + 1), bk := D.nx } (σ'.set j (some (.str ⟨#[c]⟩))) H') (hd : ∀ σ' H', Pv z.cps.size σ' H' → D.nx σ' H') : tFor (iStr tl) (gName j) tu D σ H :=
  h H (Ex.refl H) _ fun H1 e => ⟨z, rfl, for_it walk_str Pv (h0 H1 e) (fun _ _ _ _ _ => trivial) (fun i x σ' H' H'' hi p ⟨hh, c, hc, hx⟩ => by
    subst hh
    subst hx
    exact hs i c σ' _ hc p) hd⟩
end
section
variable {P : Program} {w : World} {K : PySem.W.Frag} {mg : Str → Option Value} {base : Heap} {CT gT gU fL fS : Addr}
abbrev s_law_right : Stmt := top 46
theorem sc_law_right : FnScope ["_law_plan_here", "_law_told"] ["_law_plan_here"] (defScope s_law_right) := ⟨rfl, rfl, rfl, by decide +kernel, rfl, by decide +kernel, by decide +kernel⟩
theorem ok_law_right {f : Addr} {fd fdX fdN : FuncData} (F : Fun K "_law_right" "_law_right" s_law_right f fd) (T : Tx K mg) (TC : TcOk K fL) (D_law_made : Df P w K mg base CX0 13 "_law_made" ["_law_plan_here"] (spMd (CS K CT gT gU fL fS) 6))
    (D_law_text : Df P w K mg base CX0 15 "_law_text" ["_law_plan_here"] (spTx 6)) (D_law_count : Df P w K mg base CX0 9 "_law_count" ["_law_plan_here"] (spCt 6))
    (FX : FnOk P w K mg base CX0 1 gT fdX ["self"] (spFld (CS K CT gT gU fL fS) "_text")) (BX : L2.Binds K fdX ["self"] []) (FN : FnOk P w K mg base CX0 1 fL fdN ["self"] (spLenT (CS K CT gT gU fL fS))) (BN : L2.Binds K fdN ["self"] []) :
    FnOk P w K mg base CX0 16 f fd ["_law_plan_here"] spRt := by
  refine F.ok sc_law_right (fun vs H Q E h => ?_) (fun cdv A outer s H vs Q E hr h => ?_)
  · obtain ⟨a, pl, rfl, _⟩ := h
    rfl
  · obtain ⟨a, pl, rfl, hp, ok, kk⟩ := h
    refine ⟨_, (pss_cons (ps_set (i := 1) sc_law_right.nd rfl (Or.inl rfl) (pe_df D_law_made (hr.mono (by decide)) rfl (pa_cons (pv 0) pa_nil)))
  (pss_one (ps_ret (pe_and (pe_cmpR op_eq (pe_propIn (CS := CS K CT gT gU fL fS) (fun C hC => ⟨hC.cls, hC.pT⟩) FX (hr.mono (by decide)) BX (pv 1)) (pe_df D_law_text (hr.mono (by decide)) rfl (pa_cons (pv 0) pa_nil)) (nomark _)) (pe_one (pe_cmpR op_eq (pe_callB (call_lenIn (CS := CS K CT gT gU fL fS) (fun C hC => hC.ln) TC.tf FN (hr.mono (by decide)) BN) (by rfl) T.b_len (by decide +kernel) (pa_cons (pv 1) pa_nil)) (pe_df D_law_count (hr.mono (by decide)) rfl (pa_cons (pv 0) pa_nil)) (nomark _))))))), ?_⟩
    refine q_asgP (evp_md (CS := CS K CT gT gU fL fS) (ev_var rfl) hp ok (by decide) (by decide)) fun v H1 e1 hv => ?_
    obtain ⟨a1, rfl, tr⟩ := hv
    have h1 : decide (V.str (trOf pl).text = V.str (ltext pl)) = true := decide_eq_true (by rw [text_of ok])
    have h2 : decide (V.int ((trOf pl).toks.length : Int) = V.int (lcount pl : Int)) = true := decide_eq_true (by rw [count_of ok])
    refine s_ret (v := .bl (true && true)) (ev_andV (ev_is (ev_op (ev_textP (ev_var rfl) tr) (ev_df (ea_cons (ev_var rfl) ea_nil) (is_tx (hp.ex e1) ok (by decide) (by decide))) (rv_eq rfl)) (by rw [h1])) fun _ => ev_is (ev_op (ev_lenIn (ev_var rfl) tr) (ev_df (ea_cons (ev_var rfl) ea_nil) (is_ct (hp.ex e1) ok (by decide) (by decide))) (rv_eq rfl)) (by rw [h2])) fun H2 e2 => kk H2 (e1.trans e2)

abbrev s_law_pairs_right : Stmt := top 47
theorem sc_law_pairs_right : FnScope ["_law_every", "_law_one", "_law_some", "_law_mark", "_law_other", "_law_part", "_law_sign"] [] (defScope s_law_pairs_right) := ⟨rfl, rfl, rfl, by decide +kernel, rfl, by decide +kernel, by decide +kernel⟩
def spTrue : Sp := fun vs H Q _ => vs = [] ∧ RetV (.bl true) H Q
theorem opl_flat {s : Str} (h : s ∈ OPL.flatten) : s ∈ OPS := of_decide_eq_true (List.all_eq_true.mp (show OPL.flatten.all (fun s => decide (s ∈ OPS)) = true by decide +kernel) s h)
theorem sgs_str {i c : Nat} (h : ("-~!" : Str).cps[i]? = some c) : (⟨#[c]⟩ : Str) ∈ SGS := by
  have hm : c ∈ ("-~!" : Str).cps.toList := Array.mem_toList_iff.mpr (Array.mem_of_getElem? h)
  exact of_decide_eq_true (List.all_eq_true.mp (show ("-~!" : Str).cps.toList.all (fun c => decide ((⟨#[c]⟩ : Str) ∈ SGS)) = true by decide +kernel) c hm)
theorem ok_law_pairs_right {f : Addr} {fd : FuncData} (F : Fun K "_law_pairs_right" "_law_pairs_right" s_law_pairs_right f fd) (D_law_operators : Df P w K mg base CX0 1 "_law_operators" [] spOps) (D_law_right : Df P w K mg base CX0 16 "_law_right" ["_law_plan_here"] spRt) :
    FnOk P w K mg base CX0 17 f fd [] spTrue := by
  refine F.ok sc_law_pairs_right (fun vs H Q E h => ?_) (fun cdv A outer s H vs Q E hr h => ?_)
  · obtain ⟨rfl, _⟩ := h
    rfl
  · obtain ⟨rfl, kk⟩ := h
    refine ⟨_, (pss_cons (ps_par (i := 0) (j := 1) (by rfl) sc_law_pairs_right.nd rfl rfl (by decide) rfl rfl (pa_cons (pe_lst pa_nil) (pa_cons (pe_tup (pa_cons pe_str (pa_cons pe_str pa_nil))) pa_nil)) (by rfl))
  (pss_cons (ps_for PassesOwn.never rfl (pi_list (pe_df0 D_law_operators (hr.mono (by decide)) rfl)) (pg_name (i := 2) sc_law_pairs_right.nd rfl (Or.inl rfl))
    (pss_one (ps_set (i := 0) sc_law_pairs_right.nd rfl (Or.inl rfl) (pe_op op_cat (pv 0) (pv 2)))))
  (pss_cons (ps_for PassesOwn.never rfl (pi_list (pv 0)) (pg_name (i := 3) sc_law_pairs_right.nd rfl (Or.inl rfl))
    (pss_cons (ps_for PassesOwn.never rfl (pi_list (pv 0)) (pg_name (i := 4) sc_law_pairs_right.nd rfl (Or.inl rfl))
        (pss_cons (ps_set (i := 5) sc_law_pairs_right.nd rfl (Or.inl rfl) (pe_tup (pa_cons pe_str (pa_cons (pv 1) (pa_cons (pv 4) (pa_cons (pe_tup (pa_cons pe_str (pa_cons pe_int pa_nil))) pa_nil))))))
          (pss_one (ps_if (PW.pt (pw_or (pt_not (pt_val (pe_df D_law_right (hr.mono (by decide)) rfl (pa_cons (pe_tup (pa_cons pe_str (pa_cons (pv 5) (pa_cons (pv 3) (pa_cons (pv 1) pa_nil))))) pa_nil)))) (pw_or1 (pt_not (pt_val (pe_df D_law_right (hr.mono (by decide)) rfl (pa_cons (pe_tup (pa_cons pe_str (pa_cons (pv 1) (pa_cons (pv 3) (pa_cons (pv 5) pa_nil))))) pa_nil)))))))
            (pss_one (ps_ret pe_bl))
            pss_nil))))
      (pss_one (ps_for PassesOwn.never rfl (pi_str pe_str) (pg_name (i := 6) sc_law_pairs_right.nd rfl (Or.inl rfl))
        (pss_cons (ps_set (i := 5) sc_law_pairs_right.nd rfl (Or.inl rfl) (pe_tup (pa_cons pe_str (pa_cons (pv 6) (pa_cons (pe_tup (pa_cons pe_str (pa_cons (pv 1) (pa_cons (pv 3) (pa_cons (pv 1) pa_nil))))) pa_nil)))))
          (pss_one (ps_if (PW.pt (pw_or (pt_not (pt_val (pe_df D_law_right (hr.mono (by decide)) rfl (pa_cons (pv 5) pa_nil)))) (pw_or1 (pt_not (pt_val (pe_df D_law_right (hr.mono (by decide)) rfl (pa_cons (pe_tup (pa_cons pe_str (pa_cons (pv 5) (pa_cons (pv 3) (pa_cons (pe_tup (pa_cons pe_str (pa_cons (pv 6) (pa_cons (pv 5) pa_nil)))) pa_nil))))) pa_nil)))))))
            (pss_one (ps_ret pe_bl))
            pss_nil)))))))
  (pss_one (ps_ret pe_bl))))), ?_⟩
    have aP : ("a" : Str) ∈ PATHS := by decide +kernel
    have n5 : 5 ∈ NUMS := by decide
    refine q_parP (eap_cons (evp_evl (el_lst ea_nil (show 0 ≤ 100000 by decide))) (fun _ _ _ e ⟨p, h1, h2⟩ => ⟨p, h1, e _ _ h2⟩) (eap_cons (pl_nam (s := "a") ev_c) PlV.ex eap_nil)) (fun vs H1 ⟨v, r, h1, _, w, r2, h2, _, h3⟩ => ⟨v, w, by rw [h1, h2, h3]⟩) fun v w H2 e2 hv => ?_
    obtain ⟨v0, r0, hvr, ⟨l, hl0, hl⟩, w0, r1, hr1, ⟨a, ha0, ha⟩, hr2⟩ := hv
    subst hr2
    subst hr1
    obtain ⟨rfl, h2⟩ := List.cons.inj hvr
    obtain ⟨rfl, _⟩ := List.cons.inj h2
    subst hl0
    subst ha0
    refine q_forPL (PL := LR OPL) (fun H3 e3 Q q => ⟨rfl, fun l3 H4 e4 ⟨vs, h1, h2⟩ => q _ H4 e4 ⟨l3, vs, rfl, h1, h2⟩⟩) fun lo xs H3 e3 hlo hLR => ?_
    obtain ⟨as, rfl, hpr⟩ := hLR
    refine ⟨fun i σ' H' => Ex H3 H' ∧ ∃ (l' : Addr) (zs : List Str) (o : Option V), σ' = [some (.ref l'), some (.ref a), o, none, none, none, none] ∧ H' l' = some (.lst (zs.map V.str)) ∧ zs = (OPL.take i).flatten, ⟨Ex.refl H3, l, [], none, rfl, e3 _ _ hl, rfl⟩, fun i σ' H' _ p => sq_of (p.1 _ _ hlo), fun i x σ' H' hx p => ?_, fun σ' H' p => ?_⟩
    · obtain ⟨ex, l', zs, o, rfl, hl', rfl⟩ := p
      rw [List.getElem?_map] at hx
      cases hy : as[i]? with
      | none => rw [hy] at hx; cases hx
      | some aL =>
        rw [hy] at hx
        cases hx
        obtain ⟨zs, hzs, haL⟩ := paired_get hpr hy
        have ib : i < 9 := by
          have h1 := (List.getElem?_eq_some_iff.mp hzs).1
          exact h1
        have lz := (opl_pos hzs).2
        have lt : ∀ i ≤ 9, ((OPL.take i).flatten).length ≤ 100 := by decide
        refine s_asgL (el_cat2 (ev_var rfl) hl' (ev_var rfl) (ex _ _ haL) (by rw [List.length_map, List.length_map]; have := lt i (by omega); omega)) fun p H4 _ e4 hp => ?_
        refine ⟨ex.trans e4, p, (OPL.take i).flatten ++ zs, some (.ref aL), rfl, by rw [List.map_append]; exact hp, ?_⟩
        rw [List.take_add_one, hzs]
        simp
    · obtain ⟨ex, l', zs, o, rfl, hl', rfl⟩ := p
      have hlen : (as.map V.ref).length = 9 := by
        have h1 : as.length = OPL.length := hpr.length
        rw [List.length_map, h1]
        rfl
      rw [hlen] at hl'
      have tk : (OPL.take 9).flatten = OPL.flatten := rfl
      rw [tk] at hl'
      have ha' := (ha.ex e3).ex ex
      have all : ∀ (i : Nat) (x : V), (OPL.flatten.map V.str)[i]? = some x → ∃ s, x = .str s ∧ s ∈ OPS := fun i x hx => by
        rw [List.getElem?_map] at hx
        cases hy : OPL.flatten[i]? with
        | none => rw [hy] at hx; cases hx
        | some y =>
          rw [hy] at hx
          cases hx
          exact ⟨y, rfl, opl_flat (List.mem_of_getElem? hy)⟩
      refine q_forL (ev_var rfl) (sq_of hl') (fun _ σ2 H2 => Ex H' H2 ∧ ∃ o3 o4 o5 o6, σ2 = [some (.ref l'), some (.ref a), o, o3, o4, o5, o6]) (fun H5 e5 => ⟨e5, none, none, none, none, rfl⟩) (fun i σ2 H2 _ p => sq_of (p.1 _ _ hl')) (fun i x σ2 H2 hx p => ?_) (fun σ2 H2 p => ?_)
      · obtain ⟨ex2, o3, o4, o5, o6, rfl⟩ := p
        obtain ⟨m, rfl, hm⟩ := all i x hx
        refine q_forL (ev_var rfl) (sq_of (ex2 _ _ hl')) (fun _ σ3 H3 => Ex H2 H3 ∧ ∃ o4 o5 o6, σ3 = [some (.ref l'), some (.ref a), o, some (.str m), o4, o5, o6]) (fun H5 e5 => ⟨e5, o4, o5, o6, rfl⟩) (fun i σ3 H3 _ p => sq_of ((ex2.trans p.1) _ _ hl')) (fun i x σ3 H3 hx p => ?_) (fun σ3 H3 p => ?_)
        · obtain ⟨ex3, q4, q5, q6, rfl⟩ := p
          obtain ⟨t, rfl, ht⟩ := all i x hx
          have ha3 := (ha'.ex ex2).ex ex3
          refine q_asgP (pl_joi (p := .nam "a") (s := t) (q := .num 5) (pl_var rfl ha3) (ev_var rfl) (pl_num ev_c)) fun v H4 e4 hv => ?_
          obtain ⟨ap, rfl, hp⟩ := hv
          have ha4 := ha3.ex e4
          refine s_if (b := !true || !true) (et_or (et_not (et_B (ev_rt (p := .joi (.joi (.nam "a") t (.num 5)) m (.nam "a")) (pl_joi (pl_var rfl hp) (ev_var rfl) (pl_var rfl ha4)) ⟨hm, ⟨ht, aP, n5⟩, aP⟩))) fun _ => et_not (et_B (ev_rt (p := .joi (.nam "a") m (.joi (.nam "a") t (.num 5))) (pl_joi (pl_var rfl ha4) (ev_var rfl) (pl_var rfl hp)) ⟨hm, aP, ⟨ht, aP, n5⟩⟩))) (fun hb => by cases hb) (fun _ H5 e5 => ?_)
          exact ⟨(ex3.trans e4).trans e5, _, _, _, rfl⟩
        · obtain ⟨ex3, q4, q5, q6, rfl⟩ := p
          refine s_forS ev_c (fun _ σ4 H4 => Ex H3 H4 ∧ ∃ o5 o6, σ4 = [some (.ref l'), some (.ref a), o, some (.str m), q4, o5, o6]) (fun H5 e5 => ⟨e5, q5, q6, rfl⟩) (fun i c σ4 H4 hc p => ?_) (fun σ4 H4 p => ?_)
          · obtain ⟨ex4, r5, r6, rfl⟩ := p
            have hs := sgs_str hc
            have ha4 := ((ha'.ex ex2).ex ex3).ex ex4
            refine q_asgP (pl_mrk (p := .joi (.nam "a") m (.nam "a")) (s := ⟨#[c]⟩) (ev_var rfl) (pl_joi (pl_var rfl ha4) (ev_var rfl) (pl_var rfl ha4))) fun v H5 e5 hv => ?_
            obtain ⟨ap, rfl, hp⟩ := hv
            refine s_if (b := !true || !true) (et_or (et_not (et_B (ev_rt (pl_var rfl hp) ⟨hs, hm, aP, aP⟩))) fun _ => et_not (et_B (ev_rt (p := .joi (.mrk ⟨#[c]⟩ (.joi (.nam "a") m (.nam "a"))) m (.mrk ⟨#[c]⟩ (.mrk ⟨#[c]⟩ (.joi (.nam "a") m (.nam "a"))))) (pl_joi (pl_var rfl hp) (ev_var rfl) (pl_mrk (ev_var rfl) (pl_var rfl hp))) ⟨hm, ⟨hs, hm, aP, aP⟩, hs, hs, hm, aP, aP⟩))) (fun hb => by cases hb) (fun _ H6 e6 => ?_)
            exact ⟨(ex4.trans e5).trans e6, _, _, rfl⟩
          · obtain ⟨ex4, r5, r6, rfl⟩ := p
            exact ⟨(ex2.trans ex3).trans ex4, _, _, _, _, rfl⟩
      · obtain ⟨ex2, o3, o4, o5, o6, rfl⟩ := p
        exact s_ret ev_c fun H5 e5 => kk H5 ((((e2.trans e3).trans ex).trans ex2).trans e5)
end
end M14

set_option maxHeartbeats 4000000
namespace M14
open PySem PySem.Spec PyProof.Rows L2 Evl TL Gd
/-- a stream whose cells are not at l -/
def StmL (l p : Addr) (H : Hp) : Prop := p ≠ l ∧ ∃ (c : Addr) (xs : List Int) (t r : Int), c ≠ l ∧ H p = some (.dK (kv3 (.ref c) (.int t) (.int r))) ∧ H c = some (.lst (xs.map V.int)) ∧ 0 < xs.length ∧ xs.length ≤ 130 ∧ 0 ≤ t ∧ t ≤ (194 : Nat) ∧ 0 ≤ r
theorem StmL.stm {l p : Addr} {H : Hp} (h : StmL l p H) : Stm p 194 H := by
  obtain ⟨_, c, xs, t, r, _, h1, h2, h3⟩ := h
  exact ⟨c, xs, t, r, h1, h2, h3⟩
theorem StmL.ex {l p : Addr} {H H' : Hp} (h : StmL l p H) (e : Ex H H') : StmL l p H' := by
  obtain ⟨h0, c, xs, t, r, hc, h1, h2, h3⟩ := h
  exact ⟨h0, c, xs, t, r, hc, e _ _ h1, e _ _ h2, h3⟩
theorem StmL.upd {l p : Addr} {H : Hp} {o : HO} (h : StmL l p H) : StmL l p (upd H l o) := by
  obtain ⟨h0, c, xs, t, r, hc, h1, h2, h3⟩ := h
  exact ⟨h0, c, xs, t, r, hc, by rw [upd_ne h0]; exact h1, by rw [upd_ne hc]; exact h2, h3⟩
section
variable {K : PySem.W.Frag} {σ : L2.St} {H : Hp} {t1 t2 t3 tl : TE} {D : Ends} {E : XK}
/-- l.append({"cells": .., "turn": .., "rest": ..}) -/
theorem s_appD {i : Nat} {l : Addr} {xs ys : List V} {t r : Int} (hσ : σ[i]? = some (some (.ref l))) (hl : H l = some (.lst xs)) (h1 : EvL t1 σ H ys) (h2 : Ev t2 σ H (.int t)) (h3 : Ev t3 σ H (.int r)) (hz : xs.length < 100000)
    (k : ∀ d c H2, H d = none → H c = none → Ex H H2 → H2 d = some (.dK (kv3 (.ref c) (.int t) (.int r))) → H2 c = some (.lst ys) → D.nx σ (upd H2 l (.lst (xs ++ [.ref d])))) :
    tDrop (tBM K "list" rAppend (tVar i) (tCons (tDisp [(tC (.str "cells"), t1), (tC (.str "turn"), t2), (tC (.str "rest"), t3)]) tNil)) D σ H :=
  ⟨.ref l, hσ, Or.inl ⟨rfl, xs, sq_of hl⟩, fun d hd => by
    have e0 : Ex H (upd H d (.dK [])) := Ex.new hd
    refine h1 _ e0 _ fun c H2 hc e2 hc2 => h2 H2 (e0.trans e2) _ fun H3 e3 => h3 H3 ((e0.trans e2).trans e3) _ fun H4 e4 => ?_
    have hd4 : H4 d = some (.dK []) := e4 _ _ (e3 _ _ (e2 _ _ upd_same))
    have hc4 : H4 c = some (.lst ys) := e4 _ _ (e3 _ _ hc2)
    have ncd : c ≠ d := fun q => by rw [q, upd_same] at hc; cases hc
    have hcN : H c = none := by rw [upd_ne ncd] at hc; exact hc
    have eH : Ex H (upd H4 d (.dK (kv3 (.ref c) (.int t) (.int r)))) := fun a o z => by
      have na : a ≠ d := ne_of_none z hd
      rw [upd_ne na]
      exact e4 _ _ (e3 _ _ (e2 _ _ (by rw [upd_ne na]; exact z)))
    exact ⟨hd4, kv3 (.ref c) (.int t) (.int r), rfl, (show 3 ≤ 15 by decide), l, xs, .ref d, rfl, rfl, eH _ _ hl, sz_lt hz, k d c _ hd hcN eH upd_same (by rw [upd_ne ncd]; exact hc4)⟩⟩
theorem el_ifL {tt : TT} {ta tb : TE} {b : Bool} {xs : List V} (h : EvT tt σ H b) (h1 : b = true → EvL ta σ H xs) (h2 : b = false → EvL tb σ H xs) : EvL (tIf tt ta tb) σ H xs := fun H1 e Q q => h H1 e _ fun H2 e2 => by
  cases b with
  | true => exact h1 rfl H2 (e.trans e2) Q fun p H3 hp e3 h3 => q p H3 (fresh_back e2 hp) (e2.trans e3) h3
  | false => exact h2 rfl H2 (e.trans e2) Q fun p H3 hp e3 h3 => q p H3 (fresh_back e2 hp) (e2.trans e3) h3
theorem cut_int (ys : List Int) (lo hi : Option Int) : ∃ zs : List Int, cutV (ys.map V.int) lo hi = zs.map V.int ∧ zs.length ≤ ys.length := by
  refine ⟨(ys.drop (HT.sIx ys.length 0 lo)).take (HT.sIx ys.length ys.length hi - HT.sIx ys.length 0 lo), ?_, ?_⟩
  · unfold cutV
    rw [List.length_map, ← List.map_drop, ← List.map_take]
  · rw [List.length_take, List.length_drop]
    omega
theorem cut_pos (ys : List Int) (k : Nat) (hk : k < ys.length) {zs : List Int} (h : cutV (ys.map V.int) (some (k : Int)) none = zs.map V.int) : 0 < zs.length := by
  have h1 := congrArg List.length h
  unfold cutV at h1
  simp only [List.length_map, List.length_take, List.length_drop, HT.sIx_nat, HT.sIx_none] at h1
  omega
end
section
variable {P : Program} {w : World} {K : PySem.W.Frag} {mg : Str → Option Value} {base : Heap} {CT gT gU fL fS : Addr}
abbrev s_law_streams : Stmt := top 36
theorem sc_law_streams : FnScope ["_law_script", "_law_cells", "_law_found", "_law_k", "_law_rest"] ["_law_script"] (defScope s_law_streams) := ⟨rfl, rfl, rfl, by decide +kernel, rfl, by decide +kernel, by decide +kernel⟩
def spStr (K : PySem.W.Frag) : Sp := fun vs H Q _ => ∃ (a : Addr) (ns : List Int), vs = [.ref a] ∧ Scr K H a ns ∧ ns.length ≤ 63 ∧
  ∀ (l : Addr) (ps : List Addr) H2, Ex H H2 → H2 l = some (.lst (ps.map V.ref)) → ps.Nodup → ps.length ≤ 3 → (∀ p ∈ ps, StmL l p H2 ∧ H p = none) → Q (.ref l) H2
theorem ok_law_streams {f : Addr} {fd : FuncData} (F : Fun K "_law_streams" "_law_streams" s_law_streams f fd) (T : Tx K mg) : FnOk P w K mg base CX0 1 f fd ["_law_script"] (spStr K) := by
  refine F.ok sc_law_streams (fun vs H Q E h => ?_) (fun cdv A outer s H vs Q E hr h => ?_)
  · obtain ⟨a, ns, rfl, _⟩ := h
    rfl
  · obtain ⟨a, ns, rfl, hS, hn, kk⟩ := h
    refine ⟨_, (pss_cons (ps_par (i := 1) (j := 2) (by rfl) sc_law_streams.nd rfl rfl (by decide) rfl rfl (pa_cons (pe_ifExp (pt_cmpR op_gt (pe_callB call_len_seq (by rfl) T.b_len (by decide +kernel) (pa_cons (pv 0) pa_nil)) pe_int (nomark _)) (pe_callTy call_list_of (by rfl) T.b_list (by decide +kernel) (pa_cons (pv 0) pa_nil)) (pe_lst (pa_cons pe_int pa_nil))) (pa_cons (pe_lst pa_nil) pa_nil)) (by rfl))
  (pss_cons (ps_for PassesOwn.never rfl (pi_range1 rfl T.b_range (pa_cons (pe_callB (call_min2 rfl) (by rfl) T.b_min (by decide +kernel) (pa_cons pe_int (pa_cons (pe_callB call_len_seq (by rfl) T.b_len (by decide +kernel) (pa_cons (pv 1) pa_nil)) pa_nil))) pa_nil)) (pg_name (i := 3) sc_law_streams.nd rfl (Or.inl rfl))
    (pss_cons (ps_set (i := 4) sc_law_streams.nd rfl (Or.inl rfl) (pe_ifExp (pt_cmpR op_ge (pe_ix ix_list (pv 1) (pv 3) (fun _ _ => rfl)) (pe_op op_pow pe_int pe_int) (nomark _)) (pe_ix ix_list (pv 1) (pv 3) (fun _ _ => rfl)) pe_int))
      (pss_one (ps_expr (pe_bm PySem.F.plainAttrs_list PySem.F.slot_list_append PySem.F.type_list_append mt_append (pv 2) (pa_cons (pe_disp (pps_cons pe_str (pe_op op_cat (pe_slice sl_list (pv 1) (po_some (pv 3)) po_none) (pe_slice sl_list (pv 1) po_none (po_some (pv 3)))) (pps_cons pe_str (pe_op op_mul pe_int (pv 3)) (pps_cons pe_str (pv 4) pps_nil))) (by rfl) (by rfl) (by simp) (Nat.le_of_ble_eq_true rfl)) pa_nil))))))
  (pss_one (ps_ret (pv 2))))), ?_⟩
    obtain ⟨ys, hys, hyl, hy0⟩ : ∃ ys : List Int, (ys = if 0 < ns.length then ns else [0]) ∧ ys.length ≤ 63 ∧ 0 < ys.length := by
      refine ⟨_, rfl, ?_, ?_⟩
      · split
        · exact hn
        · decide
      · split
        · assumption
        · decide
    have el1 : EvL (tIf (tB (tOp (rI0 fun i j => V.bl (decide (i > j))) (tCB (rLenS K) (tCons (tVar 0) tNil)) (tC (.int 0)))) (tCB (rListS K) (tCons (tVar 0) tNil)) (tLst (tCons (tC (.int 0)) tNil))) (L2.start ["_law_script", "_law_cells", "_law_found", "_law_k", "_law_rest"] [.ref a]) H (ys.map V.int) := el_ifL (b := decide (((ns.map V.int).length : Int) > 0)) (et_B (ev_op (ev_len (ev_var rfl) hS.sq) ev_c rv_I0)) (fun hb => by
        have h := of_decide_eq_true hb
        rw [List.length_map] at h
        rw [hys, if_pos (by omega)]
        exact el_list (ev_var rfl) hS.sq) (fun hb => by
        have h := of_decide_eq_false hb
        rw [List.length_map] at h
        rw [hys, if_neg (by omega)]
        exact el_lst (ea_cons ev_c ea_nil) (show 1 ≤ 100000 by decide))
    refine el1 H (Ex.refl H) _ fun c H1 hcN e1 hc => (el_lst (σ := L2.start ["_law_script", "_law_cells", "_law_found", "_law_k", "_law_rest"] [.ref a]) (H := H) ea_nil (show 0 ≤ 100000 by decide)) H1 e1 _ fun l H2 hlN e2 hl => ⟨_, _, rfl, ?_⟩
    have ncl : c ≠ l := fun q => by rw [← q, hc] at hlN; cases hlN
    have hlH : H l = none := fresh_back e1 hlN
    have e12 := e1.trans e2
    have hc2 := e2 _ _ hc
    have nmin : (if ((ys.map V.int).length : Int) < 3 then ((ys.map V.int).length : Int) else 3) = ((min 3 ys.length : Nat) : Int) := by
      rw [List.length_map]
      split <;> omega
    refine q_forR1 (n := ((min 3 ys.length : Nat) : Int)) (ea_cons (ev_is (ev_cb (r := fun xs H Q => ∃ i j, xs = [.int i, .int j] ∧ Q (.int (if j < i then j else i)) H) (ea_cons ev_c (ea_cons (ev_len (ev_var rfl) (sq_of hc2)) ea_nil)) fun H3 e3 Q q => ⟨3, _, rfl, q H3 (Ex.refl H3)⟩) (by rw [nmin])) ea_nil) (by omega)
      (fun i σ' H' => Ex H H' ∧ H' c = some (.lst (ys.map V.int)) ∧ ∃ (ps : List Addr) (o3 o4 : Option V), σ' = [some (.ref a), some (.ref c), some (.ref l), o3, o4] ∧ H' l = some (.lst (ps.map V.ref)) ∧ ps.Nodup ∧ ps.length = i ∧ ∀ p ∈ ps, StmL l p H' ∧ H p = none)
      (fun H3 e3 => ⟨e12.trans e3, e3 _ _ hc2, [], none, none, rfl, e3 _ _ hl, List.nodup_nil, rfl, fun p hp => by cases hp⟩) (fun i σ' H' hi p => ?_) (fun σ' H' p => ?_)
    · obtain ⟨ex, hcx, ps, o3, o4, rfl, hlx, hnd, hpl, hps⟩ := p
      have hil : i < ys.length := by omega
      have at_ : atI (ys.map V.int) (i : Int) = some (.int (ys[i]'hil)) := atI_nat (j := i) (by rw [List.getElem?_map, List.getElem?_eq_getElem hil]; rfl)
      generalize hy : ys[i]'hil = y at at_
      have pw : CPow 10 18 := by unfold CPow; decide
      refine q_asg (v := .int (if y ≥ (10 : Int) ^ (18 : Int).toNat then y else 0)) (ev_if (b := decide (y ≥ (10 : Int) ^ (18 : Int).toNat)) (et_B (ev_op (ev_op (ev_var rfl) (ev_var rfl) (rv_ixL (sq_of hcx) at_)) (ev_op ev_c ev_c (rv_I pw)) rv_I0)) (fun hb => ev_is (ev_op (ev_var rfl) (ev_var rfl) (rv_ixL (sq_of hcx) at_)) (by rw [if_pos (of_decide_eq_true hb)])) (fun hb => ev_is ev_c (by rw [if_neg (of_decide_eq_false hb)]))) fun H4 e4 => ?_
      have r0 : 0 ≤ (if y ≥ (10 : Int) ^ (18 : Int).toNat then y else 0) := by
        split
        · rename_i h
          exact Int.le_trans (by decide) h
        · exact Int.le_refl _
      generalize (if y ≥ (10 : Int) ^ (18 : Int).toNat then y else 0) = r at r0
      have hc4 := e4 _ _ hcx
      obtain ⟨z1, hz1, hl1⟩ := cut_int ys (some (i : Int)) none
      obtain ⟨z2, hz2, hl2⟩ := cut_int ys none (some (i : Int))
      have p1 := cut_pos ys i hil hz1
      have el2 : EvL (tOp rCat (tSl (rSlL K) (tVar 1) (tPart (tVar 3)) tNoPart) (tSl (rSlL K) (tVar 1) tNoPart (tPart (tVar 3)))) [some (.ref a), some (.ref c), some (.ref l), some (.int (i : Int)), some (.int r)] H4 ((z1 ++ z2).map V.int) := by
        rw [List.map_append, ← hz1, ← hz2]
        exact el_cat (el_sl (ev_var rfl) (eo_some (ev_var rfl)) eo_none (sq_of hc4)) (el_sl (ev_var rfl) eo_none (eo_some (ev_var rfl)) (sq_of hc4)) (by rw [hz1, hz2, List.length_map, List.length_map]; omega)
      refine s_appD (t := 97 * (i : Int)) (r := r) rfl (e4 _ _ hlx) el2 (ev_op ev_c (ev_var rfl) (rv_I (Or.inl (by omega)))) (ev_var rfl) (by rw [List.length_map, hpl]; omega) fun d c' H5 hd hc' e5 hd5 hc5 => ?_
      have exl : Ex H (upd H5 l (.lst (ps.map V.ref ++ [.ref d]))) := Ex.mut ((ex.trans e4).trans e5) hlH
      have hlx5 := e5 _ _ (e4 _ _ hlx)
      have hcx5 := e5 _ _ hc4
      have ndl : d ≠ l := fun q => by rw [q, hlx5] at hd5; cases hd5
      have nc'l : c' ≠ l := fun q => by rw [q] at hc'; rw [e4 _ _ hlx] at hc'; cases hc'
      refine ⟨exl, by rw [upd_ne ncl]; exact hcx5, ps ++ [d], _, _, rfl, by rw [List.map_append]; exact upd_same, ?_, by rw [List.length_append, hpl]; rfl, fun p hp => ?_⟩
      · refine List.nodup_append.mpr ⟨hnd, by simp, fun x hx y hy => ?_⟩
        rw [List.mem_singleton.mp hy]
        intro q
        obtain ⟨⟨_, c0, xs0, t0, r0', _, h1, _⟩, _⟩ := hps x hx
        rw [q] at h1
        rw [e4 _ _ h1] at hd
        cases hd
      · rcases List.mem_append.mp hp with hp | hp
        · exact ⟨((hps p hp).1.ex (e4.trans e5)).upd, (hps p hp).2⟩
        · rw [List.mem_singleton.mp hp]
          exact ⟨StmL.upd ⟨ndl, c', z1 ++ z2, 97 * (i : Int), r, nc'l, hd5, hc5, by rw [List.length_append]; omega, by rw [List.length_append]; omega, by omega, by omega, r0⟩, fresh_back (ex.trans e4) hd⟩
    · obtain ⟨ex, hcx, ps, o3, o4, rfl, hlx, hnd, hpl, hps⟩ := p
      refine s_ret (ev_var rfl) fun H3 e3 => ?_
      exact kk l ps H3 (ex.trans e3) (e3 _ _ hlx) hnd (by omega) fun p hp => ⟨(hps p hp).1.ex e3, (hps p hp).2⟩
end
end M14

set_option maxHeartbeats 4000000
namespace M14
open PySem PySem.Spec PyProof.Rows L2 Evl TL Gd
section
variable {K : PySem.W.Frag} {σ : L2.St} {H : Hp} {te tm tl t1 t2 t3 : TE} {D : Ends} {tz tu : TS} {E : XK} {CS : Addr → Prop} {C : Addr} {p : Addr} {b k : Nat} {u v : Plan} {s : Str}
theorem cost_le : ∀ n ≤ 5, cost n ≤ 188 := by decide
theorem ds_plan2 {i : Nat} (hσ : σ[i]? = some (some (.ref p))) (hm : Ds p tm σ H b k (fun v _ => ∃ n : Nat, v = .int (n : Int) ∧ n < 6)) (hb : b + k + 188 ≤ 1000000000) : Ds p (tCall (spPlan 6) [] E (tCons (tVar i) (tCons tm tNil))) σ H b (k + 188) (IsPl 5) := fun H1 x Q q =>
  ⟨.ref p, hσ, hm H1 x _ fun v H2 e2 s2 ⟨n, ev, hn⟩ => by
    subst ev
    have cl := cost_le n (by omega)
    exact ⟨p, n, b + k, rfl, hn, s2, by omega, fun a pl H3 h1 h2 h3 e3 => q _ H3 (wo_trans e2 e3) (h3.up (by omega)) ⟨a, pl, rfl, planOk_mono h1 (by omega), h2⟩⟩⟩
theorem s_rightD (h : Ds p te σ H b k (IsPl 5)) (kk : ∀ H2, Ex (wo p H) H2 → Stm p (b + k) H2 → D.nx σ H2) : tIfS (tNot (tB (tCall spRt [] E (tCons te tNil)))) tu tNext D σ H :=
  h H (Ex.refl H) _ fun v H2 e2 s2 ⟨a, pl, ev, ok, pr⟩ => by
    subst ev
    exact ⟨a, pl, rfl, pr, ok, fun H3 e3 => ⟨true, rfl, kk H3 (e2.trans e3) (s2.ex e3)⟩⟩
theorem q_forPA {j : Nat} {PL : Addr → List V → Hp → Prop} (h : EvP tl σ H (fun v H1 => ∃ a xs, v = .ref a ∧ H1 a = some (.lst xs) ∧ PL a xs H1))
    (k : ∀ a xs H1, Ex H H1 → H1 a = some (.lst xs) → PL a xs H1 → ∃ Pv : Nat → L2.St → Hp → Prop, Pv 0 σ H1 ∧ (∀ i σ' H', i ≤ xs.length → Pv i σ' H' → SqL K H' a xs) ∧
      (∀ i x σ' H', xs[i]? = some x → Pv i σ' H' → tu { D with nx := Pv (i + 1), ct := Pv (i + 1), bk := tz D } (σ'.set j (some x)) H') ∧ (∀ σ' H', Pv xs.length σ' H' → tz D σ' H')) : tSeq (tFor (iList K tl) (gName j) tu) tz D σ H :=
  h H (Ex.refl H) _ fun v H1 e ⟨a, xs, ev, ha, pl⟩ => by
    subst ev
    obtain ⟨Pv, h0, hl, hs, hd⟩ := k a xs H1 e ha pl
    exact ⟨a, rfl, ⟨xs, sq_of ha⟩, for_list (D := { D with nx := tz D }) Pv h0 hl hs hd⟩
theorem tr_var {i : Nat} {a : Addr} {t : Tr} (hσ : σ[i]? = some (some (.ref a))) (h : TRep CS H a t) : EvP (tVar i) σ H (IsTr CS t) := fun H1 e Q k => ⟨_, hσ, k _ H1 (Ex.refl H1) ⟨a, rfl, h.ext e⟩⟩
theorem mkJ (h1 : EvP t1 σ H (IsTr CS (trOf u))) (h2 : Ev t2 σ H (.str s)) (h3 : EvP t3 σ H (IsTr CS (trOf v))) (ok : PlanOk 5 (.joi u s v)) : EvP (tMake C (spMade CS C (okJoi CS)) [] E0 (tCons t1 (tCons t2 (tCons t3 tNil)))) σ H (IsTr CS (trOf (.joi u s v))) :=
  evp_make (eap_cons h1 IsTr.ex (eap_cons (evp_ev h2) (fun _ _ _ _ h => h) (eap_cons h3 IsTr.ex eap_nil))) (fun us H4 _ h => by
    obtain ⟨w1, r1, rfl, ⟨a1, rfl, x1⟩, w2, r2, rfl, rfl, w3, r3, rfl, ⟨a3, rfl, x3⟩, rfl⟩ := h
    exact ⟨s, a1, a3, trOf u, trOf v, rfl, ok.1, x1, x3, rfl, tr_ok5 ok (by decide)⟩) okJoi_up
theorem mkS (h1 : Ev t1 σ H (.str s)) (h2 : EvP t2 σ H (IsTr CS (trOf u))) (ok : PlanOk 5 (.mrk s u)) : EvP (tMake C (spMade CS C (okSig CS)) [] E0 (tCons t1 (tCons t2 tNil))) σ H (IsTr CS (trOf (.mrk s u))) :=
  evp_make (eap_cons (evp_ev h1) (fun _ _ _ _ h => h) (eap_cons h2 IsTr.ex eap_nil)) (fun us H4 _ h => by
    obtain ⟨w1, r1, rfl, rfl, w2, r2, rfl, ⟨a2, rfl, x2⟩, rfl⟩ := h
    exact ⟨s, a2, trOf u, rfl, ok.1, x2, rfl, tr_ok5 ok (by decide)⟩) okSig_up
end
section
variable {P : Program} {w : World} {K : PySem.W.Frag} {mg : Str → Option Value} {base : Heap} {CT gT gU fL fS : Addr}
abbrev s_law : Stmt := top 48
theorem sc_law : FnScope ["_law_script", "_law_stream", "_law_turn", "_law_one", "_law_other"] ["_law_script"] (defScope s_law) := ⟨rfl, rfl, rfl, by decide +kernel, rfl, by decide +kernel, by decide +kernel⟩
def spLaw (K : PySem.W.Frag) : Sp := fun vs H Q _ => ∃ (a : Addr) (ns : List Int), vs = [.ref a] ∧ Scr K H a ns ∧ ns.length ≤ 63 ∧ ∀ H', Q (.bl true) H'
def pA : Plan := .nam "a"
def p2 : Plan := .num 2
def q1 : Plan := .joi (.joi pA "<" p2) "==" (.joi pA "<" p2)
def q2 : Plan := .mrk "-" (.mrk "-" (.joi pA "mod" (.mrk "!" p2)))
def q3 : Plan := .joi (.joi pA "-" p2) "-" (.joi pA "-" p2)
def q4 : Plan := .joi (.joi pA "*" p2) "+" (.joi pA "/" p2)
theorem x1 : (!decide (V.str (trOf q1).text = V.str ("(a < 2) == (a < 2)" : Str))) = false := by decide +kernel
theorem x2 : (!decide (V.str (trOf q2).text = V.str ("--(a mod !2)" : Str))) = false := by decide +kernel
theorem x3 : (!decide (V.str (trOf q3).text = V.str ("a - 2 - (a - 2)" : Str))) = false := by decide +kernel
theorem x4 : (!decide (V.str (trOf q4).text = V.str ("a * 2 + a / 2" : Str))) = false := by decide +kernel
theorem inA : ("a" : Str) ∈ PATHS := by decide +kernel
theorem in2 : 2 ∈ NUMS := by decide
theorem oLt : ("<" : Str) ∈ OPS := by decide +kernel
theorem oEq : ("==" : Str) ∈ OPS := by decide +kernel
theorem oMod : ("mod" : Str) ∈ OPS := by decide +kernel
theorem oSub : ("-" : Str) ∈ OPS := by decide +kernel
theorem oMul : ("*" : Str) ∈ OPS := by decide +kernel
theorem oAdd : ("+" : Str) ∈ OPS := by decide +kernel
theorem oDiv : ("/" : Str) ∈ OPS := by decide +kernel
theorem gNeg : ("-" : Str) ∈ SGS := by decide +kernel
theorem gNot : ("!" : Str) ∈ SGS := by decide +kernel
theorem ok_law {C1 C2 C3 C4 : Addr} {f : Addr} {fd fdX : FuncData} (F : Fun K "law" "law" s_law f fd) (T : Tx K mg) (D_law_streams : Df P w K mg base CX0 1 "_law_streams" ["_law_script"] (spStr K)) (D_law_next : Df P w K mg base CX0 1 "_law_next" ["_law_stream", "_law_many"] spNext)
    (D_law_plan : Df P w K mg base CX0 8 "_law_plan" ["_law_stream", "_law_deep"] (spPlan 6)) (D_law_right : Df P w K mg base CX0 16 "_law_right" ["_law_plan_here"] spRt) (D_law_pairs_right : Df P w K mg base CX0 17 "_law_pairs_right" [] spTrue)
    (FX : FnOk P w K mg base CX0 1 gT fdX ["self"] (spFld (CS K CT gT gU fL fS) "_text")) (BX : L2.Binds K fdX ["self"] [])
    (M1 : Made P w K mg base (CS K CT gT gU fL fS) 5 "Number" C1 ["self", "number"] okNum) (M2 : Made P w K mg base (CS K CT gT gU fL fS) 6 "Named" C2 ["self", "name"] okNam)
    (M3 : Made P w K mg base (CS K CT gT gU fL fS) 5 "Signed" C3 ["self", "sign", "inner"] (okSig (CS K CT gT gU fL fS))) (M4 : Made P w K mg base (CS K CT gT gU fL fS) 5 "Joined" C4 ["self", "left", "sign", "right"] (okJoi (CS K CT gT gU fL fS))) :
    FnOk P w K mg base CX0 18 f fd ["_law_script"] (spLaw K) := by
  refine F.ok sc_law (fun vs H Q E h => ?_) (fun cdv A outer s H vs Q E hr h => ?_)
  · obtain ⟨a, ns, rfl, _⟩ := h
    rfl
  · obtain ⟨a, ns, rfl, hS, hn, kk⟩ := h
    obtain ⟨fN, fdN, M_Number, FI_Number, BI_Number, g_Number⟩ := M1.ex
    obtain ⟨fA, fdA, M_Named, FI_Named, BI_Named, g_Named⟩ := M2.ex
    obtain ⟨fG, fdG, M_Signed, FI_Signed, BI_Signed, g_Signed⟩ := M3.ex
    obtain ⟨fJ, fdJ, M_Joined, FI_Joined, BI_Joined, g_Joined⟩ := M4.ex
    refine ⟨_, (pss_cons (ps_for PassesOwn.never rfl (pi_list (pe_df D_law_streams (hr.mono (by decide)) rfl (pa_cons (pv 0) pa_nil))) (pg_name (i := 1) sc_law.nd rfl (Or.inl rfl))
    (pss_one (ps_for PassesOwn.never rfl (pi_range1 rfl T.b_range (pa_cons pe_int pa_nil)) (pg_name (i := 2) sc_law.nd rfl (Or.inl rfl))
        (pss_one (ps_if (pt_not (pt_val (pe_df D_law_right (hr.mono (by decide)) rfl (pa_cons (pe_df D_law_plan (hr.mono (by decide)) rfl (pa_cons (pv 1) (pa_cons (pe_df D_law_next (hr.mono (by decide)) rfl (pa_cons (pv 1) (pa_cons pe_int pa_nil))) pa_nil))) pa_nil))))
            (pss_one (ps_ret pe_bl))
            pss_nil)))))
  (pss_cons (ps_par (i := 3) (j := 4) (by rfl) sc_law.nd rfl rfl (by decide) rfl rfl (pa_cons (pe_make M_Named FI_Named (hr.mono (by decide)) rfl g_Named BI_Named .nil pass0 (pa_cons pe_str pa_nil)) (pa_cons (pe_make M_Number FI_Number (hr.mono (by decide)) rfl g_Number BI_Number .nil pass0 (pa_cons pe_int pa_nil)) pa_nil)) (by rfl))
  (pss_cons (ps_if (pt_cmpR op_ne (pe_propIn (CS := CS K CT gT gU fL fS) (fun C hC => ⟨hC.cls, hC.pT⟩) FX (hr.mono (by decide)) BX (pe_make M_Joined FI_Joined (hr.mono (by decide)) rfl g_Joined BI_Joined .nil pass0 (pa_cons (pe_make M_Joined FI_Joined (hr.mono (by decide)) rfl g_Joined BI_Joined .nil pass0 (pa_cons (pv 3) (pa_cons pe_str (pa_cons (pv 4) pa_nil)))) (pa_cons pe_str (pa_cons (pe_make M_Joined FI_Joined (hr.mono (by decide)) rfl g_Joined BI_Joined .nil pass0 (pa_cons (pv 3) (pa_cons pe_str (pa_cons (pv 4) pa_nil)))) pa_nil))))) pe_str (nomark _))
    (pss_one (ps_ret pe_bl))
    pss_nil)
  (pss_cons (ps_if (pt_cmpR op_ne (pe_propIn (CS := CS K CT gT gU fL fS) (fun C hC => ⟨hC.cls, hC.pT⟩) FX (hr.mono (by decide)) BX (pe_make M_Signed FI_Signed (hr.mono (by decide)) rfl g_Signed BI_Signed .nil pass0 (pa_cons pe_str (pa_cons (pe_make M_Signed FI_Signed (hr.mono (by decide)) rfl g_Signed BI_Signed .nil pass0 (pa_cons pe_str (pa_cons (pe_make M_Joined FI_Joined (hr.mono (by decide)) rfl g_Joined BI_Joined .nil pass0 (pa_cons (pv 3) (pa_cons pe_str (pa_cons (pe_make M_Signed FI_Signed (hr.mono (by decide)) rfl g_Signed BI_Signed .nil pass0 (pa_cons pe_str (pa_cons (pv 4) pa_nil))) pa_nil)))) pa_nil))) pa_nil)))) pe_str (nomark _))
    (pss_one (ps_ret pe_bl))
    pss_nil)
  (pss_cons (ps_if (pt_cmpR op_ne (pe_propIn (CS := CS K CT gT gU fL fS) (fun C hC => ⟨hC.cls, hC.pT⟩) FX (hr.mono (by decide)) BX (pe_make M_Joined FI_Joined (hr.mono (by decide)) rfl g_Joined BI_Joined .nil pass0 (pa_cons (pe_make M_Joined FI_Joined (hr.mono (by decide)) rfl g_Joined BI_Joined .nil pass0 (pa_cons (pv 3) (pa_cons pe_str (pa_cons (pv 4) pa_nil)))) (pa_cons pe_str (pa_cons (pe_make M_Joined FI_Joined (hr.mono (by decide)) rfl g_Joined BI_Joined .nil pass0 (pa_cons (pv 3) (pa_cons pe_str (pa_cons (pv 4) pa_nil)))) pa_nil))))) pe_str (nomark _))
    (pss_one (ps_ret pe_bl))
    pss_nil)
  (pss_cons (ps_if (pt_cmpR op_ne (pe_propIn (CS := CS K CT gT gU fL fS) (fun C hC => ⟨hC.cls, hC.pT⟩) FX (hr.mono (by decide)) BX (pe_make M_Joined FI_Joined (hr.mono (by decide)) rfl g_Joined BI_Joined .nil pass0 (pa_cons (pe_make M_Joined FI_Joined (hr.mono (by decide)) rfl g_Joined BI_Joined .nil pass0 (pa_cons (pv 3) (pa_cons pe_str (pa_cons (pv 4) pa_nil)))) (pa_cons pe_str (pa_cons (pe_make M_Joined FI_Joined (hr.mono (by decide)) rfl g_Joined BI_Joined .nil pass0 (pa_cons (pv 3) (pa_cons pe_str (pa_cons (pv 4) pa_nil)))) pa_nil))))) pe_str (nomark _))
    (pss_one (ps_ret pe_bl))
    pss_nil)
  (pss_one (ps_ret (pe_df0 D_law_pairs_right (hr.mono (by decide)) rfl))))))))), ?_⟩
    refine q_forPA (PL := fun l xs H1 => ∃ ps : List Addr, xs = ps.map V.ref ∧ ps.Nodup ∧ ps.length ≤ 3 ∧ ∀ p ∈ ps, StmL l p H1 ∧ H p = none) (fun H1 e1 Q q => ⟨.ref a, rfl, a, ns, rfl, hS.ex e1, hn, fun l ps H2 e2 h1 h2 h3 h4 => q _ H2 e2 ⟨l, _, rfl, h1, ps, rfl, h2, h3, fun p hp => ⟨(h4 p hp).1, fresh_back e1 (h4 p hp).2⟩⟩⟩) fun l xs H1 e1 hl hPL => ?_
    obtain ⟨ps, rfl, hnd, hp3, hps⟩ := hPL
    refine ⟨fun i σ' H' => Ex H H' ∧ H' l = some (.lst (ps.map V.ref)) ∧ (∃ o1 o2, σ' = [some (.ref a), o1, o2, none, none]) ∧ ∀ j p, i ≤ j → ps[j]? = some p → StmL l p H', ⟨e1, hl, ⟨none, none, rfl⟩, fun j p _ hp => (hps p (List.mem_of_getElem? hp)).1⟩, fun i σ' H' _ p => sq_of p.2.1, fun i x σ' H' hx p => ?_, fun σ' H' p => ?_⟩
    · obtain ⟨ex, hl', ⟨o1, o2, rfl⟩, hst⟩ := p
      rw [List.getElem?_map] at hx
      cases hy : ps[i]? with
      | none => rw [hy] at hx; cases hx
      | some p =>
        rw [hy] at hx
        cases hx
        have hpm := List.mem_of_getElem? hy
        have hpN := (hps p hpm).2
        have hs0 := hst i p (Nat.le_refl _) hy
        have npl : p ≠ l := hs0.1
        have other : ∀ {j : Nat} {q : Addr}, i + 1 ≤ j → ps[j]? = some q → q ≠ p := fun {j q} hj hq z => by
          rw [z] at hq
          have h1 := (List.getElem?_eq_some_iff.mp hy)
          have h2 := (List.getElem?_eq_some_iff.mp hq)
          obtain ⟨h1a, h1b⟩ := h1
          obtain ⟨h2a, h2b⟩ := h2
          exact (List.pairwise_iff_getElem.mp hnd) i j h1a h2a (by omega) (h1b.trans h2b.symm)
        refine s_forR1 (n := 10) (ea_cons ev_c ea_nil) (by decide) (fun t σ2 H2 => Ex H H2 ∧ Ex (wo p H') H2 ∧ (∃ o2, σ2 = [some (.ref a), some (.ref p), o2, none, none]) ∧ Stm p (194 + t * 189) H2) (fun H3 e3 => ⟨ex.trans e3, wo_ex.trans e3, ⟨o2, rfl⟩, (hs0.stm.ex e3).up (by omega)⟩) (fun t σ2 H2 ht p2 => ?_) (fun σ2 H2 p2 => ?_)
        · obtain ⟨exA, exB, ⟨o2', rfl⟩, st⟩ := p2
          have ht' : t < 10 := by omega
          refine s_rightD (b := 194 + t * 189) (k := 1 + 188) (ds_plan2 rfl (ds_next (m := 6) rfl ev_c (by decide) (by decide) st (by omega)) (by omega)) fun H3 e3 s3 => ?_
          exact ⟨wo_go hpN exA e3, wo_trans exB e3, ⟨_, rfl⟩, s3.up (by omega)⟩
        · obtain ⟨exA, exB, ⟨o2', rfl⟩, st⟩ := p2
          refine ⟨exA, exB _ _ (by rw [wo_ne (Ne.symm npl)]; exact hl'), ⟨_, _, rfl⟩, fun j q hj hq => ?_⟩
          have nqp := other hj hq
          obtain ⟨nql, c, ys, t, r, hcl, h1, h2, h3⟩ := hst j q (by omega) hq
          have ncp : c ≠ p := ne_dk hs0.stm h2 fun _ z => by cases z
          exact ⟨nql, c, ys, t, r, hcl, exB _ _ (by rw [wo_ne nqp]; exact h1), exB _ _ (by rw [wo_ne ncp]; exact h2), h3⟩
    · obtain ⟨ex, _, ⟨o1, o2, rfl⟩, _⟩ := p
      refine q_parP (eap_cons (evp_make (CS := CS K CT gT gU fL fS) (C := C2) (ok := okNam) (t := trOf pA) (R := fun us _ => us = [.str "a"]) (fun H2 e2 Q q => ea_cons ev_c ea_nil H2 e2 _ fun H3 e3 => q _ H3 e3 rfl) (fun us H2 _ h => ⟨"a", h, path_used inA, path_mod inA, Nat.le_trans (path_len inA) (by decide), path_lay inA, rfl, tr_ok5 (e := 5) (show PlanOk 5 pA from inA) (by decide)⟩) (fun _ _ _ _ h => h)) IsTr.ex
        (eap_cons (evp_make (CS := CS K CT gT gU fL fS) (C := C1) (ok := okNum) (t := trOf p2) (R := fun us _ => us = [.int ((2 : Nat) : Int)]) (fun H2 e2 Q q => ea_cons ev_c ea_nil H2 e2 _ fun H3 e3 => q _ H3 e3 rfl) (fun us H2 _ h => ⟨2, h, by decide, rfl, tr_ok5 (e := 5) (show PlanOk 5 p2 from in2) (by decide)⟩) (fun _ _ _ _ h => h)) IsTr.ex eap_nil))
        (fun vs H1 ⟨v, r, h1, _, w', r2, h2, _, h3⟩ => ⟨v, w', by rw [h1, h2, h3]⟩) fun v w' H2 e2 hv => ?_
      obtain ⟨v0, r0, hvr, ⟨aA, ha0, trA'⟩, w0, r1, hr1, ⟨a2, ha2, tr2⟩, hr2⟩ := hv
      subst hr2
      subst hr1
      obtain ⟨rfl, h2⟩ := List.cons.inj hvr
      obtain ⟨rfl, _⟩ := List.cons.inj h2
      subst ha0
      subst ha2
      refine q_when (b := false) (et_B (ev_kNe (ev_textPP' (t := trOf q1) (mkJ (mkJ (u := pA) (v := p2) (tr_var rfl trA') ev_c (tr_var rfl tr2) ⟨oLt, inA, in2⟩) ev_c (mkJ (u := pA) (v := p2) (tr_var rfl trA') ev_c (tr_var rfl tr2) ⟨oLt, inA, in2⟩) ⟨oEq, ⟨oLt, inA, in2⟩, oLt, inA, in2⟩)) x1)) (fun hb => by cases hb) (fun _ H3 e3 => ?_)
      have tA3 := trA'.ext e3
      have t23 := tr2.ext e3
      refine q_when (b := false) (et_B (ev_kNe (ev_textPP' (t := trOf q2) (mkS ev_c (mkS ev_c (mkJ (u := pA) (v := .mrk "!" p2) (tr_var rfl tA3) ev_c (mkS (u := p2) ev_c (tr_var rfl t23) ⟨gNot, in2⟩) ⟨oMod, inA, gNot, in2⟩) ⟨gNeg, oMod, inA, gNot, in2⟩) ⟨gNeg, gNeg, oMod, inA, gNot, in2⟩)) x2)) (fun hb => by cases hb) (fun _ H4 e4 => ?_)
      have tA4 := tA3.ext e4
      have t24 := t23.ext e4
      refine q_when (b := false) (et_B (ev_kNe (ev_textPP' (t := trOf q3) (mkJ (mkJ (u := pA) (v := p2) (tr_var rfl tA4) ev_c (tr_var rfl t24) ⟨oSub, inA, in2⟩) ev_c (mkJ (u := pA) (v := p2) (tr_var rfl tA4) ev_c (tr_var rfl t24) ⟨oSub, inA, in2⟩) ⟨oSub, ⟨oSub, inA, in2⟩, oSub, inA, in2⟩)) x3)) (fun hb => by cases hb) (fun _ H5 e5 => ?_)
      have tA5 := tA4.ext e5
      have t25 := t24.ext e5
      refine q_when (b := false) (et_B (ev_kNe (ev_textPP' (t := trOf q4) (mkJ (mkJ (u := pA) (v := p2) (tr_var rfl tA5) ev_c (tr_var rfl t25) ⟨oMul, inA, in2⟩) ev_c (mkJ (u := pA) (v := p2) (tr_var rfl tA5) ev_c (tr_var rfl t25) ⟨oDiv, inA, in2⟩) ⟨oAdd, ⟨oMul, inA, in2⟩, oDiv, inA, in2⟩)) x4)) (fun hb => by cases hb) (fun _ H6 e6 => ?_)
      exact ⟨rfl, fun H7 e7 => kk H7⟩
end
end M14

set_option maxHeartbeats 4000000
namespace M14
open PySem PySem.Spec PyProof.Rows L2 Evl TL Gd
/-! The facts of the written part as Bools. -/
def propB (K : PySem.W.Frag) (C : Addr) (f : Str) (p g : Addr) : Bool :=
  decide (PySem.W.findIn K (.ref C) f = some (some (.ref p))) && (decide (PySem.W.specialIn K (.ref p) "__get__" = some (some (.builtin "property.__get__"))) && (decide (PySem.W.takesIn K (.ref p) = some true) && decide ((PySem.W.recIn K p "property").bind List.head? = some (.ref g))))
theorem propB_ok {K : PySem.W.Frag} {C : Addr} {f : Str} {p g : Addr} (h : propB K C f p g = true) : PropOf K C f p g := by
  obtain ⟨h1, h⟩ := Bool.and_eq_true_iff.mp h
  obtain ⟨h2, h⟩ := Bool.and_eq_true_iff.mp h
  obtain ⟨h3, h4⟩ := Bool.and_eq_true_iff.mp h
  refine ⟨of_decide_eq_true h1, of_decide_eq_true h2, of_decide_eq_true h3, ?_⟩
  have h5 := of_decide_eq_true h4
  cases e : PySem.W.recIn K p "property" with
  | none => rw [e] at h5; cases h5
  | some l =>
    rw [e] at h5
    cases l with
    | nil => cases h5
    | cons x r =>
      cases h5
      exact ⟨r, rfl⟩
def treeB (K : PySem.W.Frag) (CT C pT pU gT gU fL fS : Addr) : Bool :=
  (PySem.W.plainGet K C Str.empty && (PySem.W.hasDictIn K C && (PySem.W.plainOver K C && decide (PySem.W.findIn K (.ref C) "__setattr__" = some (some (.builtin "object.__setattr__")))))) && (propB K C "text" pT gT && (propB K C "used" pU gU &&
  (decide (PySem.W.findIn K (.ref C) "__len__" = some (some (.ref fL))) && ((decide (PySem.W.findIn K (.ref C) "_in_brackets" = some (some (.ref fS))) && (PySem.W.isFn K (.ref fS) && PySem.W.keepIn K (.ref fS))) && (FLD.all (fun f => decide (PySem.W.findIn K (.ref C) f = some none)) &&
  (decide (PySem.W.kitOne K (.ref C) (.ref CT) = some true) && (decide (PySem.W.findIn K (.ref C) "__class__" = some (some (.builtin "object.__class__"))) && decide (PySem.W.mroIn K C (.type "object") = some true))))))))
theorem treeB_ok {K : PySem.W.Frag} {CT C pT pU gT gU fL fS : Addr} (h : treeB K CT C pT pU gT gU fL fS = true) : TreeC K CT gT gU fL fS C := by
  obtain ⟨h0, h⟩ := Bool.and_eq_true_iff.mp h
  obtain ⟨a1, h0⟩ := Bool.and_eq_true_iff.mp h0
  obtain ⟨a2, h0⟩ := Bool.and_eq_true_iff.mp h0
  obtain ⟨a3, a4⟩ := Bool.and_eq_true_iff.mp h0
  obtain ⟨b1, h⟩ := Bool.and_eq_true_iff.mp h
  obtain ⟨b2, h⟩ := Bool.and_eq_true_iff.mp h
  obtain ⟨b3, h⟩ := Bool.and_eq_true_iff.mp h
  obtain ⟨b4, h⟩ := Bool.and_eq_true_iff.mp h
  obtain ⟨b5, h⟩ := Bool.and_eq_true_iff.mp h
  obtain ⟨b6, h⟩ := Bool.and_eq_true_iff.mp h
  obtain ⟨b7, b8⟩ := Bool.and_eq_true_iff.mp h
  obtain ⟨c1, b4⟩ := Bool.and_eq_true_iff.mp b4
  obtain ⟨c2, c3⟩ := Bool.and_eq_true_iff.mp b4
  exact ⟨⟨a1, a2, a3, of_decide_eq_true a4⟩, ⟨pT, propB_ok b1⟩, ⟨pU, propB_ok b2⟩, of_decide_eq_true b3, ⟨of_decide_eq_true c1, c2, c3⟩, fun f hf => show PySem.W.findIn K (.ref C) f = some none from of_decide_eq_true (List.all_eq_true.mp b5 f hf), of_decide_eq_true b6, of_decide_eq_true b7, of_decide_eq_true b8⟩
def mkB (K : PySem.W.Frag) (C fI : Addr) : Bool := PySem.W.makesIn K C && (decide (PySem.W.findIn K (.ref C) "__init__" = some (some (.ref fI))) && (PySem.W.isFn K (.ref fI) && PySem.W.keepIn K (.ref C)))
theorem mkB_ok {K : PySem.W.Frag} {C fI : Addr} (h : mkB K C fI = true) : Mk K C fI := by
  obtain ⟨h1, h⟩ := Bool.and_eq_true_iff.mp h
  obtain ⟨h2, h⟩ := Bool.and_eq_true_iff.mp h
  obtain ⟨h3, h4⟩ := Bool.and_eq_true_iff.mp h
  exact ⟨h1, of_decide_eq_true h2, h3, h4⟩
def supB (K : PySem.W.Frag) (C fT : Addr) : Bool := (PySem.W.clsIn K C).isSome && (decide (PySem.W.mroIn K C (.ref C) = some true) && (decide (PySem.W.nsIn K cStatics "thirdparty.any" = some none) && (decide (PySem.W.ks_superIn K C C "__init__" = some (some (.ref fT))) &&
  (decide (PySem.W.typeIn K (.ref fT) = some (.type "function")) && PySem.W.fnIn K fT))))
theorem supB_ok {P : Program} {K : PySem.W.Frag} {mg : Str → Option Value} {C fT f cda cc : Addr} {qual : Str} {st : Stmt} {fd : FuncData} {ccl : Value} {cdd : Option Addr} {vs : Array Value} {ccs : Array (Option Value)} {file : Str} {tf : Tok}
    (F : FunS K "__init__" qual st f fd cda cc C) (hself : ∃ ar, ((defArgs st).posonlyargs ++ (defArgs st).args).head? = some ar ∧ ar.arg = ("self" : Str)) (lcd : K.lookup cda = some ⟨ccl, cdd, .fields vs, ccs⟩) (fv : vs[2]? = some (.str file tf)) (fe : ((P.main.file : Str) == file) = true)
    (top : (P.main.scope.names.lookup ("super" : Str)).isSome = false) (hs : mg "super" = none) (h : supB K C fT = true) : SupAt P K mg f cda cc C C fT "self" "__init__" := by
  obtain ⟨h1, h⟩ := Bool.and_eq_true_iff.mp h
  obtain ⟨h2, h⟩ := Bool.and_eq_true_iff.mp h
  obtain ⟨h3, h⟩ := Bool.and_eq_true_iff.mp h
  obtain ⟨h4, h⟩ := Bool.and_eq_true_iff.mp h
  obtain ⟨h5, h6⟩ := Bool.and_eq_true_iff.mp h
  obtain ⟨oc, od, kV, doc, pm, an, ct, osl, cl, cld, csl, rfl, lk, hcd, hcc⟩ := F.ex
  obtain ⟨ar, e1, e2⟩ := hself
  exact ⟨⟨oc, od, _, osl, ar, lk, e1, e2⟩, ⟨ccl, cdd, vs, ccs, file, tf, lcd, fv, fe⟩, ⟨cl, cld, csl, hcc⟩, Option.isSome_iff_exists.mp h1, of_decide_eq_true h2, hs, top, of_decide_eq_true h3, of_decide_eq_true h4, of_decide_eq_true h5, h6⟩
def tcB (K : PySem.W.Frag) (fL : Addr) : Bool := decide (PySem.W.specialIn K (.builtin "object.__class__") "__get__" = some (some (.builtin "getset_descriptor.__get__"))) && (decide (PySem.W.takesIn K (.builtin "object.__class__") = some true) && decide (PySem.W.typeIn K (.ref fL) = some (.type "function")))
theorem tcB_ok {K : PySem.W.Frag} {fL : Addr} (h : tcB K fL = true) : TcOk K fL := by
  obtain ⟨h1, h⟩ := Bool.and_eq_true_iff.mp h
  obtain ⟨h2, h3⟩ := Bool.and_eq_true_iff.mp h
  exact ⟨of_decide_eq_true h1, of_decide_eq_true h2, of_decide_eq_true h3⟩
def isLev (o : Option (Option Value)) (n : Nat) : Bool := match o with
  | some (some (.int i _)) => decide (i = (n : Int))
  | _ => false
def levB (K : PySem.W.Frag) (d : Addr) : Bool := OPS.all fun s => isLev (PySem.W.nsIn K d s) (lev s)
theorem levB_ok {K : PySem.W.Frag} {d : Addr} (h : levB K d = true) {s : Str} (hs : s ∈ OPS) : ∃ u, PySem.W.nsIn K d s = some (some u) ∧ RelV (.int (lev s : Int)) u := by
  have h1 := List.all_eq_true.mp h s hs
  unfold isLev at h1
  split at h1
  · rename_i i t e
    exact ⟨_, e, t, by rw [of_decide_eq_true h1]⟩
  · cases h1
/-- a def's binding by its statement -/
theorem _root_.M14.FunS.binds {K : PySem.W.Frag} {x qual : Str} {st : Stmt} {f : Addr} {fd : FuncData} {cda cc D : Addr} {ps : List Str} (F : FunS K x qual st f fd cda cc D)
    (h : ∀ (kV doc pm : Value) (an : Option Addr) (ct : Value) (us : List Value), us.length = ps.length → bindArgs (PySem.W.ksFn x qual (defArgs st) (defBody st) (defScope st) .none kV doc pm an (.ref cda) ct cc) ⟨us, []⟩ = pure (ps.zip us)) : L2.Binds K fd ps [] := by
  obtain ⟨oc, od, kV, doc, pm, an, ct, osl, cl, cld, csl, rfl, lk, hcd, hcc⟩ := F.ex
  exact L2.Binds.all fun us hl => h kV doc pm an ct us hl
end M14

set_option maxHeartbeats 8000000
namespace M14
open PySem PySem.Spec PyProof.Rows L2 Evl TL Gd
theorem all_mk {l : PySem.W.OpenLaw} {w : World} {K : PySem.W.Frag} {h : Heap} {mg : Str → Option Value} {fa f0 f1 f2 f3 f4 f5 f6 f7 f8 f9 f10 f11 f12 f13 f14 f15 f16 f17 f18 f19 : Addr} (X : K.In h) (G : h.Ns mainGlobals mg) (hfa : mg "law" = some (.ref fa))
    {od0 od1 od2 od3 od4 od5 od6 od7 od8 od9 od10 od11 od12 od13 od14 od15 od16 od17 od18 od19 an0 an1 an2 an3 an4 an5 an6 an7 an8 an9 an10 an11 an12 an13 an14 an15 an16 an17 an18 an19 : Option Addr} {sl0 sl1 sl2 sl3 sl4 sl5 sl6 sl7 sl8 sl9 sl10 sl11 sl12 sl13 sl14 sl15 sl16 sl17 sl18 sl19 : Array (Option Value)} {oc0 oc1 oc2 oc3 oc4 oc5 oc6 oc7 oc8 oc9 oc10 oc11 oc12 oc13 oc14 oc15 oc16 oc17 oc18 oc19 kV0 kV1 kV2 kV3 kV4 kV5 kV6 kV7 kV8 kV9 kV10 kV11 kV12 kV13 kV14 kV15 kV16 kV17 kV18 kV19 dc0 dc1 dc2 dc3 dc4 dc5 dc6 dc7 dc8 dc9 dc10 dc11 dc12 dc13 dc14 dc15 dc16 dc17 dc18 dc19 pm0 pm1 pm2 pm3 pm4 pm5 pm6 pm7 pm8 pm9 pm10 pm11 pm12 pm13 pm14 pm15 pm16 pm17 pm18 pm19 cd0 cd1 cd2 cd3 cd4 cd5 cd6 cd7 cd8 cd9 cd10 cd11 cd12 cd13 cd14 cd15 cd16 cd17 cd18 cd19 ct0 ct1 ct2 ct3 ct4 ct5 ct6 ct7 ct8 ct9 ct10 ct11 ct12 ct13 ct14 ct15 ct16 ct17 ct18 ct19 : Value}
    (a0 : PySem.W.nsIn K mainGlobals "row_end" = some (some (.ref f0))) (l0 : K.lookup f0 = some ⟨oc0, od0, .func (PySem.W.fnOf "row_end" "row_end" (defArgs s_row_end) (defBody s_row_end) (defScope s_row_end) .none kV0 dc0 pm0 an0 cd0 ct0), sl0⟩) (c0 : PySem.W.codeIn K cd0 "row_end" = true) (k0 : PySem.W.keepIn K (.ref f0) = true)
    (a1 : PySem.W.nsIn K mainGlobals "is_number" = some (some (.ref f1))) (l1 : K.lookup f1 = some ⟨oc1, od1, .func (PySem.W.fnOf "is_number" "is_number" (defArgs s_is_number) (defBody s_is_number) (defScope s_is_number) .none kV1 dc1 pm1 an1 cd1 ct1), sl1⟩) (c1 : PySem.W.codeIn K cd1 "is_number" = true) (k1 : PySem.W.keepIn K (.ref f1) = true)
    (a2 : PySem.W.nsIn K mainGlobals "is_value" = some (some (.ref f2))) (l2 : K.lookup f2 = some ⟨oc2, od2, .func (PySem.W.fnOf "is_value" "is_value" (defArgs s_is_value) (defBody s_is_value) (defScope s_is_value) .none kV2 dc2 pm2 an2 cd2 ct2), sl2⟩) (c2 : PySem.W.codeIn K cd2 "is_value" = true) (k2 : PySem.W.keepIn K (.ref f2) = true)
    (a3 : PySem.W.nsIn K mainGlobals "is_name" = some (some (.ref f3))) (l3 : K.lookup f3 = some ⟨oc3, od3, .func (PySem.W.fnOf "is_name" "is_name" (defArgs s_is_name) (defBody s_is_name) (defScope s_is_name) .none kV3 dc3 pm3 an3 cd3 ct3), sl3⟩) (c3 : PySem.W.codeIn K cd3 "is_name" = true) (k3 : PySem.W.keepIn K (.ref f3) = true)
    (a4 : PySem.W.nsIn K mainGlobals "is_used" = some (some (.ref f4))) (l4 : K.lookup f4 = some ⟨oc4, od4, .func (PySem.W.fnOf "is_used" "is_used" (defArgs s_is_used) (defBody s_is_used) (defScope s_is_used) .none kV4 dc4 pm4 an4 cd4 ct4), sl4⟩) (c4 : PySem.W.codeIn K cd4 "is_used" = true) (k4 : PySem.W.keepIn K (.ref f4) = true)
    (a5 : PySem.W.nsIn K mainGlobals "_is_part" = some (some (.ref f5))) (l5 : K.lookup f5 = some ⟨oc5, od5, .func (PySem.W.fnOf "_is_part" "_is_part" (defArgs s_is_part) (defBody s_is_part) (defScope s_is_part) .none kV5 dc5 pm5 an5 cd5 ct5), sl5⟩) (c5 : PySem.W.codeIn K cd5 "_is_part" = true) (k5 : PySem.W.keepIn K (.ref f5) = true)
    (a6 : PySem.W.nsIn K mainGlobals "_used_by_both" = some (some (.ref f6))) (l6 : K.lookup f6 = some ⟨oc6, od6, .func (PySem.W.fnOf "_used_by_both" "_used_by_both" (defArgs s_used_by_both) (defBody s_used_by_both) (defScope s_used_by_both) .none kV6 dc6 pm6 an6 cd6 ct6), sl6⟩) (c6 : PySem.W.codeIn K cd6 "_used_by_both" = true) (k6 : PySem.W.keepIn K (.ref f6) = true)
    (a7 : PySem.W.nsIn K mainGlobals "_law_streams" = some (some (.ref f7))) (l7 : K.lookup f7 = some ⟨oc7, od7, .func (PySem.W.fnOf "_law_streams" "_law_streams" (defArgs s_law_streams) (defBody s_law_streams) (defScope s_law_streams) .none kV7 dc7 pm7 an7 cd7 ct7), sl7⟩) (c7 : PySem.W.codeIn K cd7 "_law_streams" = true) (k7 : PySem.W.keepIn K (.ref f7) = true)
    (a8 : PySem.W.nsIn K mainGlobals "_law_next" = some (some (.ref f8))) (l8 : K.lookup f8 = some ⟨oc8, od8, .func (PySem.W.fnOf "_law_next" "_law_next" (defArgs s_law_next) (defBody s_law_next) (defScope s_law_next) .none kV8 dc8 pm8 an8 cd8 ct8), sl8⟩) (c8 : PySem.W.codeIn K cd8 "_law_next" = true) (k8 : PySem.W.keepIn K (.ref f8) = true)
    (a9 : PySem.W.nsIn K mainGlobals "_law_paths" = some (some (.ref f9))) (l9 : K.lookup f9 = some ⟨oc9, od9, .func (PySem.W.fnOf "_law_paths" "_law_paths" (defArgs s_law_paths) (defBody s_law_paths) (defScope s_law_paths) .none kV9 dc9 pm9 an9 cd9 ct9), sl9⟩) (c9 : PySem.W.codeIn K cd9 "_law_paths" = true) (k9 : PySem.W.keepIn K (.ref f9) = true)
    (a10 : PySem.W.nsIn K mainGlobals "_law_operators" = some (some (.ref f10))) (l10 : K.lookup f10 = some ⟨oc10, od10, .func (PySem.W.fnOf "_law_operators" "_law_operators" (defArgs s_law_operators) (defBody s_law_operators) (defScope s_law_operators) .none kV10 dc10 pm10 an10 cd10 ct10), sl10⟩) (c10 : PySem.W.codeIn K cd10 "_law_operators" = true) (k10 : PySem.W.keepIn K (.ref f10) = true)
    (a11 : PySem.W.nsIn K mainGlobals "_law_plan" = some (some (.ref f11))) (l11 : K.lookup f11 = some ⟨oc11, od11, .func (PySem.W.fnOf "_law_plan" "_law_plan" (defArgs s_law_plan) (defBody s_law_plan) (defScope s_law_plan) .none kV11 dc11 pm11 an11 cd11 ct11), sl11⟩) (c11 : PySem.W.codeIn K cd11 "_law_plan" = true) (k11 : PySem.W.keepIn K (.ref f11) = true)
    (a12 : PySem.W.nsIn K mainGlobals "_law_made" = some (some (.ref f12))) (l12 : K.lookup f12 = some ⟨oc12, od12, .func (PySem.W.fnOf "_law_made" "_law_made" (defArgs s_law_made) (defBody s_law_made) (defScope s_law_made) .none kV12 dc12 pm12 an12 cd12 ct12), sl12⟩) (c12 : PySem.W.codeIn K cd12 "_law_made" = true) (k12 : PySem.W.keepIn K (.ref f12) = true)
    (a13 : PySem.W.nsIn K mainGlobals "_law_level" = some (some (.ref f13))) (l13 : K.lookup f13 = some ⟨oc13, od13, .func (PySem.W.fnOf "_law_level" "_law_level" (defArgs s_law_level) (defBody s_law_level) (defScope s_law_level) .none kV13 dc13 pm13 an13 cd13 ct13), sl13⟩) (c13 : PySem.W.codeIn K cd13 "_law_level" = true) (k13 : PySem.W.keepIn K (.ref f13) = true)
    (a14 : PySem.W.nsIn K mainGlobals "_law_text" = some (some (.ref f14))) (l14 : K.lookup f14 = some ⟨oc14, od14, .func (PySem.W.fnOf "_law_text" "_law_text" (defArgs s_law_text) (defBody s_law_text) (defScope s_law_text) .none kV14 dc14 pm14 an14 cd14 ct14), sl14⟩) (c14 : PySem.W.codeIn K cd14 "_law_text" = true) (k14 : PySem.W.keepIn K (.ref f14) = true)
    (a15 : PySem.W.nsIn K mainGlobals "_law_inside" = some (some (.ref f15))) (l15 : K.lookup f15 = some ⟨oc15, od15, .func (PySem.W.fnOf "_law_inside" "_law_inside" (defArgs s_law_inside) (defBody s_law_inside) (defScope s_law_inside) .none kV15 dc15 pm15 an15 cd15 ct15), sl15⟩) (c15 : PySem.W.codeIn K cd15 "_law_inside" = true) (k15 : PySem.W.keepIn K (.ref f15) = true)
    (a16 : PySem.W.nsIn K mainGlobals "_law_count" = some (some (.ref f16))) (l16 : K.lookup f16 = some ⟨oc16, od16, .func (PySem.W.fnOf "_law_count" "_law_count" (defArgs s_law_count) (defBody s_law_count) (defScope s_law_count) .none kV16 dc16 pm16 an16 cd16 ct16), sl16⟩) (c16 : PySem.W.codeIn K cd16 "_law_count" = true) (k16 : PySem.W.keepIn K (.ref f16) = true)
    (a17 : PySem.W.nsIn K mainGlobals "_law_right" = some (some (.ref f17))) (l17 : K.lookup f17 = some ⟨oc17, od17, .func (PySem.W.fnOf "_law_right" "_law_right" (defArgs s_law_right) (defBody s_law_right) (defScope s_law_right) .none kV17 dc17 pm17 an17 cd17 ct17), sl17⟩) (c17 : PySem.W.codeIn K cd17 "_law_right" = true) (k17 : PySem.W.keepIn K (.ref f17) = true)
    (a18 : PySem.W.nsIn K mainGlobals "_law_pairs_right" = some (some (.ref f18))) (l18 : K.lookup f18 = some ⟨oc18, od18, .func (PySem.W.fnOf "_law_pairs_right" "_law_pairs_right" (defArgs s_law_pairs_right) (defBody s_law_pairs_right) (defScope s_law_pairs_right) .none kV18 dc18 pm18 an18 cd18 ct18), sl18⟩) (c18 : PySem.W.codeIn K cd18 "_law_pairs_right" = true) (k18 : PySem.W.keepIn K (.ref f18) = true)
    (a19 : PySem.W.nsIn K mainGlobals "law" = some (some (.ref f19))) (l19 : K.lookup f19 = some ⟨oc19, od19, .func (PySem.W.fnOf "law" "law" (defArgs s_law) (defBody s_law) (defScope s_law) .none kV19 dc19 pm19 an19 cd19 ct19), sl19⟩) (c19 : PySem.W.codeIn K cd19 "law" = true) (k19 : PySem.W.keepIn K (.ref f19) = true)
    {tk_DIGITS tk_MOST_IN_NAME tk_MOST_IN_MADE tk_MOST_IN_PATH tk_LARGEST tk_COMPARING tk_UNJOINED tk_MOST_TOKENS tk_MOST_DEPTH : Tok}
    (g_DIGITS : PySem.W.nsIn K mainGlobals "DIGITS" = some (some (.str DIG tk_DIGITS)))
    (g_MOST_IN_NAME : PySem.W.nsIn K mainGlobals "MOST_IN_NAME" = some (some (.int 40 tk_MOST_IN_NAME)))
    (g_MOST_IN_MADE : PySem.W.nsIn K mainGlobals "MOST_IN_MADE" = some (some (.int 9 tk_MOST_IN_MADE)))
    (g_MOST_IN_PATH : PySem.W.nsIn K mainGlobals "MOST_IN_PATH" = some (some (.int 8 tk_MOST_IN_PATH)))
    (g_LARGEST : PySem.W.nsIn K mainGlobals "LARGEST" = some (some (.int 18446744073709551616 tk_LARGEST)))
    (g_COMPARING : PySem.W.nsIn K mainGlobals "COMPARING" = some (some (.int 3 tk_COMPARING)))
    (g_UNJOINED : PySem.W.nsIn K mainGlobals "UNJOINED" = some (some (.int 10 tk_UNJOINED)))
    (g_MOST_TOKENS : PySem.W.nsIn K mainGlobals "MOST_TOKENS" = some (some (.int 200 tk_MOST_TOKENS)))
    (g_MOST_DEPTH : PySem.W.nsIn K mainGlobals "MOST_DEPTH" = some (some (.int 20 tk_MOST_DEPTH)))
    {A_SIGNS : Addr} {odT_SIGNS : Option Addr} {nT_SIGNS : Nat} {slT_SIGNS : Array (Option Value)} {u0_SIGNS u1_SIGNS u2_SIGNS : Tok} (g_SIGNS : PySem.W.nsIn K mainGlobals "SIGNS" = some (some (.ref A_SIGNS)))
    (lT_SIGNS : K.lookup A_SIGNS = some ⟨.type "tuple", odT_SIGNS, .seq #[.str "-" u0_SIGNS, .str "~" u1_SIGNS, .str "!" u2_SIGNS] nT_SIGNS, slT_SIGNS⟩)
    (b_len : PySem.W.nsIn K mainGlobals "len" = some none)
    (b_isinstance : PySem.W.nsIn K mainGlobals "isinstance" = some none)
    (b_str : PySem.W.nsIn K mainGlobals "str" = some none)
    (b_all : PySem.W.nsIn K mainGlobals "all" = some none)
    (b_int : PySem.W.nsIn K mainGlobals "int" = some none)
    (b_bool : PySem.W.nsIn K mainGlobals "bool" = some none)
    (b_max : PySem.W.nsIn K mainGlobals "max" = some none)
    (b_min : PySem.W.nsIn K mainGlobals "min" = some none)
    (b_tuple : PySem.W.nsIn K mainGlobals "tuple" = some none)
    (b_list : PySem.W.nsIn K mainGlobals "list" = some none)
    (b_range : PySem.W.nsIn K mainGlobals "range" = some none)
    (b_enumerate : PySem.W.nsIn K mainGlobals "enumerate" = some none)
    {C_Tree pT pU dL fm_T fm_G fm_U fm_L fm_S C_Number fi_Number cda_Number cc_Number C_Named fi_Named cda_Named cc_Named C_Signed fi_Signed cda_Signed cc_Signed C_Joined fi_Joined cda_Joined cc_Joined : Addr} {rT rU : List Value}
    {ocm_T kVm_T dcm_T pmm_T cdm_T ctm_T ocm_G kVm_G dcm_G pmm_G cdm_G ctm_G ocm_U kVm_U dcm_U pmm_U cdm_U ctm_U ocm_L kVm_L dcm_L pmm_L cdm_L ctm_L ocm_S kVm_S dcm_S pmm_S cdm_S ctm_S : Value} {odm_T anm_T odm_G anm_G odm_U anm_U odm_L anm_L odm_S anm_S : Option Addr} {slm_T slm_G slm_U slm_L slm_S : Array (Option Value)}
    {oci_Number kVi_Number dci_Number pmi_Number cti_Number cl_Number ccl_Number oci_Named kVi_Named dci_Named pmi_Named cti_Named cl_Named ccl_Named oci_Signed kVi_Signed dci_Signed pmi_Signed cti_Signed cl_Signed ccl_Signed oci_Joined kVi_Joined dci_Joined pmi_Joined cti_Joined cl_Joined ccl_Joined : Value} {odi_Number ani_Number cld_Number cdd_Number odi_Named ani_Named cld_Named cdd_Named odi_Signed ani_Signed cld_Signed cdd_Signed odi_Joined ani_Joined cld_Joined cdd_Joined : Option Addr} {sli_Number csl_Number ccs_Number sli_Named csl_Named ccs_Named sli_Signed csl_Signed ccs_Signed sli_Joined csl_Joined ccs_Joined : Array (Option Value)} {vs_Number vs_Named vs_Signed vs_Joined : Array Value} {fl_Number fl_Named fl_Signed fl_Joined : Str} {tf_Number tf_Named tf_Signed tf_Joined : Tok}
    (b_super : PySem.W.nsIn K mainGlobals "super" = some none)
    (a_Tree : PySem.W.nsIn K mainGlobals "Tree" = some (some (.ref C_Tree)))
    (a_Number : PySem.W.nsIn K mainGlobals "Number" = some (some (.ref C_Number)))
    (a_Named : PySem.W.nsIn K mainGlobals "Named" = some (some (.ref C_Named)))
    (a_Signed : PySem.W.nsIn K mainGlobals "Signed" = some (some (.ref C_Signed)))
    (a_Joined : PySem.W.nsIn K mainGlobals "Joined" = some (some (.ref C_Joined)))
    (a_LEVELS : PySem.W.nsIn K mainGlobals "LEVELS" = some (some (.ref dL)))
    (it_T : PySem.W.findIn K (.ref C_Tree) "__init__" = some (some (.ref fm_T)))
    (fp_T : PySem.W.findIn K (.ref C_Number) "text" = some (some (.ref pT)))
    (rc_T : PySem.W.recIn K pT "property" = some (.ref fm_G :: rT))
    (fp_U : PySem.W.findIn K (.ref C_Number) "used" = some (some (.ref pU)))
    (rc_U : PySem.W.recIn K pU "property" = some (.ref fm_U :: rU))
    (fp_L : PySem.W.findIn K (.ref C_Number) "__len__" = some (some (.ref fm_L)))
    (fp_S : PySem.W.findIn K (.ref C_Number) "_in_brackets" = some (some (.ref fm_S)))
    (lm_T : K.lookup fm_T = some ⟨ocm_T, odm_T, .func (PySem.W.fnOf "__init__" "Tree.__init__" (defArgs s_Tree___init) (defBody s_Tree___init) (defScope s_Tree___init) .none kVm_T dcm_T pmm_T anm_T cdm_T ctm_T), slm_T⟩)
    (cm_T : PySem.W.codeIn K cdm_T "Tree.__init__" = true)
    (km_T : PySem.W.keepIn K (.ref fm_T) = true)
    (lm_G : K.lookup fm_G = some ⟨ocm_G, odm_G, .func (PySem.W.fnOf "text" "Tree.text" (defArgs s_Tree_text) (defBody s_Tree_text) (defScope s_Tree_text) .none kVm_G dcm_G pmm_G anm_G cdm_G ctm_G), slm_G⟩)
    (cm_G : PySem.W.codeIn K cdm_G "Tree.text" = true)
    (km_G : PySem.W.keepIn K (.ref fm_G) = true)
    (lm_U : K.lookup fm_U = some ⟨ocm_U, odm_U, .func (PySem.W.fnOf "used" "Tree.used" (defArgs s_Tree_used) (defBody s_Tree_used) (defScope s_Tree_used) .none kVm_U dcm_U pmm_U anm_U cdm_U ctm_U), slm_U⟩)
    (cm_U : PySem.W.codeIn K cdm_U "Tree.used" = true)
    (km_U : PySem.W.keepIn K (.ref fm_U) = true)
    (lm_L : K.lookup fm_L = some ⟨ocm_L, odm_L, .func (PySem.W.fnOf "__len__" "Tree.__len__" (defArgs s_Tree___len) (defBody s_Tree___len) (defScope s_Tree___len) .none kVm_L dcm_L pmm_L anm_L cdm_L ctm_L), slm_L⟩)
    (cm_L : PySem.W.codeIn K cdm_L "Tree.__len__" = true)
    (km_L : PySem.W.keepIn K (.ref fm_L) = true)
    (lm_S : K.lookup fm_S = some ⟨ocm_S, odm_S, .func (PySem.W.fnOf "_in_brackets" "Tree._in_brackets" (defArgs s_Tree__in_brackets) (defBody s_Tree__in_brackets) (defScope s_Tree__in_brackets) .none kVm_S dcm_S pmm_S anm_S cdm_S ctm_S), slm_S⟩)
    (cm_S : PySem.W.codeIn K cdm_S "Tree._in_brackets" = true)
    (km_S : PySem.W.keepIn K (.ref fm_S) = true)
    (ic_Number : PySem.W.findIn K (.ref C_Number) "__init__" = some (some (.ref fi_Number)))
    (li_Number : K.lookup fi_Number = some ⟨oci_Number, odi_Number, .func (PySem.W.ksFn "__init__" "Number.__init__" (defArgs s_Number___init) (defBody s_Number___init) (defScope s_Number___init) .none kVi_Number dci_Number pmi_Number ani_Number (.ref cda_Number) cti_Number cc_Number), sli_Number⟩)
    (ci_Number : PySem.W.codeIn K (.ref cda_Number) "Number.__init__" = true)
    (lcc_Number : K.lookup cc_Number = some ⟨cl_Number, cld_Number, .cell (some (.ref C_Number)), csl_Number⟩)
    (lcd_Number : K.lookup cda_Number = some ⟨ccl_Number, cdd_Number, .fields vs_Number, ccs_Number⟩)
    (fv_Number : vs_Number[2]? = some (.str fl_Number tf_Number))
    (fe_Number : ((l.prog.main.file : Str) == fl_Number) = true)
    (tb_Number : treeB K C_Tree C_Number pT pU fm_G fm_U fm_L fm_S = true)
    (mb_Number : mkB K C_Number fi_Number = true)
    (sb_Number : supB K C_Number fm_T = true)
    (ic_Named : PySem.W.findIn K (.ref C_Named) "__init__" = some (some (.ref fi_Named)))
    (li_Named : K.lookup fi_Named = some ⟨oci_Named, odi_Named, .func (PySem.W.ksFn "__init__" "Named.__init__" (defArgs s_Named___init) (defBody s_Named___init) (defScope s_Named___init) .none kVi_Named dci_Named pmi_Named ani_Named (.ref cda_Named) cti_Named cc_Named), sli_Named⟩)
    (ci_Named : PySem.W.codeIn K (.ref cda_Named) "Named.__init__" = true)
    (lcc_Named : K.lookup cc_Named = some ⟨cl_Named, cld_Named, .cell (some (.ref C_Named)), csl_Named⟩)
    (lcd_Named : K.lookup cda_Named = some ⟨ccl_Named, cdd_Named, .fields vs_Named, ccs_Named⟩)
    (fv_Named : vs_Named[2]? = some (.str fl_Named tf_Named))
    (fe_Named : ((l.prog.main.file : Str) == fl_Named) = true)
    (tb_Named : treeB K C_Tree C_Named pT pU fm_G fm_U fm_L fm_S = true)
    (mb_Named : mkB K C_Named fi_Named = true)
    (sb_Named : supB K C_Named fm_T = true)
    (ic_Signed : PySem.W.findIn K (.ref C_Signed) "__init__" = some (some (.ref fi_Signed)))
    (li_Signed : K.lookup fi_Signed = some ⟨oci_Signed, odi_Signed, .func (PySem.W.ksFn "__init__" "Signed.__init__" (defArgs s_Signed___init) (defBody s_Signed___init) (defScope s_Signed___init) .none kVi_Signed dci_Signed pmi_Signed ani_Signed (.ref cda_Signed) cti_Signed cc_Signed), sli_Signed⟩)
    (ci_Signed : PySem.W.codeIn K (.ref cda_Signed) "Signed.__init__" = true)
    (lcc_Signed : K.lookup cc_Signed = some ⟨cl_Signed, cld_Signed, .cell (some (.ref C_Signed)), csl_Signed⟩)
    (lcd_Signed : K.lookup cda_Signed = some ⟨ccl_Signed, cdd_Signed, .fields vs_Signed, ccs_Signed⟩)
    (fv_Signed : vs_Signed[2]? = some (.str fl_Signed tf_Signed))
    (fe_Signed : ((l.prog.main.file : Str) == fl_Signed) = true)
    (tb_Signed : treeB K C_Tree C_Signed pT pU fm_G fm_U fm_L fm_S = true)
    (mb_Signed : mkB K C_Signed fi_Signed = true)
    (sb_Signed : supB K C_Signed fm_T = true)
    (ic_Joined : PySem.W.findIn K (.ref C_Joined) "__init__" = some (some (.ref fi_Joined)))
    (li_Joined : K.lookup fi_Joined = some ⟨oci_Joined, odi_Joined, .func (PySem.W.ksFn "__init__" "Joined.__init__" (defArgs s_Joined___init) (defBody s_Joined___init) (defScope s_Joined___init) .none kVi_Joined dci_Joined pmi_Joined ani_Joined (.ref cda_Joined) cti_Joined cc_Joined), sli_Joined⟩)
    (ci_Joined : PySem.W.codeIn K (.ref cda_Joined) "Joined.__init__" = true)
    (lcc_Joined : K.lookup cc_Joined = some ⟨cl_Joined, cld_Joined, .cell (some (.ref C_Joined)), csl_Joined⟩)
    (lcd_Joined : K.lookup cda_Joined = some ⟨ccl_Joined, cdd_Joined, .fields vs_Joined, ccs_Joined⟩)
    (fv_Joined : vs_Joined[2]? = some (.str fl_Joined tf_Joined))
    (fe_Joined : ((l.prog.main.file : Str) == fl_Joined) = true)
    (tb_Joined : treeB K C_Tree C_Joined pT pU fm_G fm_U fm_L fm_S = true)
    (mb_Joined : mkB K C_Joined fi_Joined = true)
    (sb_Joined : supB K C_Joined fm_T = true)
    (tcb : tcB K fm_L = true)
    (top : (l.prog.main.scope.names.lookup ("super" : Str)).isSome = false)
    (dw : He.dicW K dL = some (He.keysIn w.params OPS))
    (lb : levB K dL = true)
    : ∃ fd : FuncData, (∀ (s : Shared) (v : Value), BindsTo s fd ⟨[v], []⟩ [("_law_script", v)]) ∧ ∀ base : Heap, K.In base → base.Ns mainGlobals mg → GOk l.prog w K mg base CX0 18 fa fd ["_law_script"] (spLaw K) := by
  have e := hfa.symm.trans (PySem.W.mg_of X G a19)
  cases e
  have T : Tx K mg := {
    b_len := PySem.W.mg_none_of X G b_len,
    b_isinstance := PySem.W.mg_none_of X G b_isinstance,
    b_str := PySem.W.mg_none_of X G b_str,
    b_all := PySem.W.mg_none_of X G b_all,
    b_int := PySem.W.mg_none_of X G b_int,
    b_bool := PySem.W.mg_none_of X G b_bool,
    b_max := PySem.W.mg_none_of X G b_max,
    b_min := PySem.W.mg_none_of X G b_min,
    b_tuple := PySem.W.mg_none_of X G b_tuple,
    b_list := PySem.W.mg_none_of X G b_list,
    b_range := PySem.W.mg_none_of X G b_range,
    b_enumerate := PySem.W.mg_none_of X G b_enumerate,
    g_DIGITS := ⟨_, PySem.W.mg_of X G g_DIGITS⟩,
    g_MOST_IN_NAME := ⟨_, PySem.W.mg_of X G g_MOST_IN_NAME⟩,
    g_MOST_IN_MADE := ⟨_, PySem.W.mg_of X G g_MOST_IN_MADE⟩,
    g_MOST_IN_PATH := ⟨_, PySem.W.mg_of X G g_MOST_IN_PATH⟩,
    g_LARGEST := ⟨_, PySem.W.mg_of X G g_LARGEST⟩,
    g_COMPARING := ⟨_, PySem.W.mg_of X G g_COMPARING⟩,
    g_UNJOINED := ⟨_, PySem.W.mg_of X G g_UNJOINED⟩,
    g_MOST_TOKENS := ⟨_, PySem.W.mg_of X G g_MOST_TOKENS⟩,
    g_MOST_DEPTH := ⟨_, PySem.W.mg_of X G g_MOST_DEPTH⟩,
    g_SIGNS := ⟨A_SIGNS, PySem.W.mg_of X G g_SIGNS, fun H => Or.inr ⟨_, _, _, lT_SIGNS, rfl, rfl, by show 3 ≤ sizeLine; decide, (.cons ⟨_, rfl⟩ (.cons ⟨_, rfl⟩ (.cons ⟨_, rfl⟩ .nil)))⟩⟩ }
  have TL : TLv w K mg := ⟨⟨dL, PySem.W.mg_of X G a_LEVELS, He.dicW_ok dw, fun s hs => levB_ok lb hs⟩, ⟨C_Tree, PySem.W.mg_of X G a_Tree⟩⟩
  have F0 := fun_mk (st := s_row_end) l0 c0 k0
  have B0 := F0.binds (ps := ["line", "at", "signs", "most"]) fun _ _ _ _ _ _ us hl => match us, hl with | [_, _, _, _], _ => rfl
  have F1 := fun_mk (st := s_is_number) l1 c1 k1
  have B1 := F1.binds (ps := ["value"]) fun _ _ _ _ _ _ us hl => match us, hl with | [_], _ => rfl
  have F2 := fun_mk (st := s_is_value) l2 c2 k2
  have B2 := F2.binds (ps := ["value"]) fun _ _ _ _ _ _ us hl => match us, hl with | [_], _ => rfl
  have F3 := fun_mk (st := s_is_name) l3 c3 k3
  have B3 := F3.binds (ps := ["value"]) fun _ _ _ _ _ _ us hl => match us, hl with | [_], _ => rfl
  have F4 := fun_mk (st := s_is_used) l4 c4 k4
  have B4 := F4.binds (ps := ["value"]) fun _ _ _ _ _ _ us hl => match us, hl with | [_], _ => rfl
  have F5 := fun_mk (st := s_is_part) l5 c5 k5
  have B5 := F5.binds (ps := ["text"]) fun _ _ _ _ _ _ us hl => match us, hl with | [_], _ => rfl
  have F6 := fun_mk (st := s_used_by_both) l6 c6 k6
  have B6 := F6.binds (ps := ["names", "others"]) fun _ _ _ _ _ _ us hl => match us, hl with | [_, _], _ => rfl
  have F7 := fun_mk (st := s_law_streams) l7 c7 k7
  have B7 := F7.binds (ps := ["_law_script"]) fun _ _ _ _ _ _ us hl => match us, hl with | [_], _ => rfl
  have F8 := fun_mk (st := s_law_next) l8 c8 k8
  have B8 := F8.binds (ps := ["_law_stream", "_law_many"]) fun _ _ _ _ _ _ us hl => match us, hl with | [_, _], _ => rfl
  have F9 := fun_mk (st := s_law_paths) l9 c9 k9
  have B9 := F9.binds (ps := []) fun _ _ _ _ _ _ us hl => match us, hl with | [], _ => rfl
  have F10 := fun_mk (st := s_law_operators) l10 c10 k10
  have B10 := F10.binds (ps := []) fun _ _ _ _ _ _ us hl => match us, hl with | [], _ => rfl
  have F11 := fun_mk (st := s_law_plan) l11 c11 k11
  have B11 := F11.binds (ps := ["_law_stream", "_law_deep"]) fun _ _ _ _ _ _ us hl => match us, hl with | [_, _], _ => rfl
  have F12 := fun_mk (st := s_law_made) l12 c12 k12
  have B12 := F12.binds (ps := ["_law_plan_here"]) fun _ _ _ _ _ _ us hl => match us, hl with | [_], _ => rfl
  have F13 := fun_mk (st := s_law_level) l13 c13 k13
  have B13 := F13.binds (ps := ["_law_plan_here"]) fun _ _ _ _ _ _ us hl => match us, hl with | [_], _ => rfl
  have F14 := fun_mk (st := s_law_text) l14 c14 k14
  have B14 := F14.binds (ps := ["_law_plan_here"]) fun _ _ _ _ _ _ us hl => match us, hl with | [_], _ => rfl
  have F15 := fun_mk (st := s_law_inside) l15 c15 k15
  have B15 := F15.binds (ps := ["_law_plan_here", "_law_is_bracketed"]) fun _ _ _ _ _ _ us hl => match us, hl with | [_, _], _ => rfl
  have F16 := fun_mk (st := s_law_count) l16 c16 k16
  have B16 := F16.binds (ps := ["_law_plan_here"]) fun _ _ _ _ _ _ us hl => match us, hl with | [_], _ => rfl
  have F17 := fun_mk (st := s_law_right) l17 c17 k17
  have B17 := F17.binds (ps := ["_law_plan_here"]) fun _ _ _ _ _ _ us hl => match us, hl with | [_], _ => rfl
  have F18 := fun_mk (st := s_law_pairs_right) l18 c18 k18
  have B18 := F18.binds (ps := []) fun _ _ _ _ _ _ us hl => match us, hl with | [], _ => rfl
  have F19 := fun_mk (st := s_law) l19 c19 k19
  refine ⟨PySem.W.fnOf "law" "law" (defArgs s_law) (defBody s_law) (defScope s_law) .none kV19 dc19 pm19 an19 cd19 ct19, fun s v => .of_eq rfl, fun base _ _ => ?_⟩
  have FFT := fun_mk (st := s_Tree___init) lm_T cm_T km_T
  have BBT := FFT.binds (ps := ["self", "shown", "branches", "level", "used"]) fun _ _ _ _ _ _ us hl => match us, hl with | [_, _, _, _, _], _ => rfl
  have FFG := fun_mk (st := s_Tree_text) lm_G cm_G km_G
  have BBG := FFG.binds (ps := ["self"]) fun _ _ _ _ _ _ us hl => match us, hl with | [_], _ => rfl
  have FFU := fun_mk (st := s_Tree_used) lm_U cm_U km_U
  have BBU := FFU.binds (ps := ["self"]) fun _ _ _ _ _ _ us hl => match us, hl with | [_], _ => rfl
  have FFL := fun_mk (st := s_Tree___len) lm_L cm_L km_L
  have BBL := FFL.binds (ps := ["self"]) fun _ _ _ _ _ _ us hl => match us, hl with | [_], _ => rfl
  have FFS := fun_mk (st := s_Tree__in_brackets) lm_S cm_S km_S
  have BBS := FFS.binds (ps := ["self"]) fun _ _ _ _ _ _ us hl => match us, hl with | [_], _ => rfl
  have D_row_end : Df l.prog w K mg base CX0 _ _ _ _ := ⟨_, _, ok_row_end F0 T, B0, k0, PySem.W.mg_of X G a0⟩
  have D_is_number : Df l.prog w K mg base CX0 _ _ _ _ := ⟨_, _, ok_is_number F1 T, B1, k1, PySem.W.mg_of X G a1⟩
  have D_is_value : Df l.prog w K mg base CX0 _ _ _ _ := ⟨_, _, ok_is_value F2 T D_is_number, B2, k2, PySem.W.mg_of X G a2⟩
  have D_is_name : Df l.prog w K mg base CX0 _ _ _ _ := ⟨_, _, ok_is_name F3 T, B3, k3, PySem.W.mg_of X G a3⟩
  have D_is_part : Df l.prog w K mg base CX0 _ _ _ _ := ⟨_, _, ok_is_part F5 T D_row_end D_is_name, B5, k5, PySem.W.mg_of X G a5⟩
  have D_is_used : Df l.prog w K mg base CX0 _ _ _ _ := ⟨_, _, ok_is_used F4 T D_is_name D_is_part, B4, k4, PySem.W.mg_of X G a4⟩
  have TC : TcOk K fm_L := tcB_ok tcb
  have gT := PySem.W.mg_of X G a_Tree
  have HC0 : TreeC K C_Tree fm_G fm_U fm_L fm_S C_Number := treeB_ok tb_Number
  have HC1 : TreeC K C_Tree fm_G fm_U fm_L fm_S C_Named := treeB_ok tb_Named
  have HC2 : TreeC K C_Tree fm_G fm_U fm_L fm_S C_Signed := treeB_ok tb_Signed
  have HC3 : TreeC K C_Tree fm_G fm_U fm_L fm_S C_Joined := treeB_ok tb_Joined
  have OU : FnOk l.prog w K mg base CX0 1 fm_U _ ["self"] (spFld (CS K C_Tree fm_G fm_U fm_L fm_S) "_used") := ok_Tree_used FFU
  have OG : FnOk l.prog w K mg base CX0 1 fm_G _ ["self"] (spFld (CS K C_Tree fm_G fm_U fm_L fm_S) "_text") := ok_Tree_text FFG
  have OL : FnOk l.prog w K mg base CX0 1 fm_L _ ["self"] (spLenT (CS K C_Tree fm_G fm_U fm_L fm_S)) := ok_Tree_len FFL T
  have OS : FnOk l.prog w K mg base CX0 1 fm_S _ ["self"] (spBr (CS K C_Tree fm_G fm_U fm_L fm_S)) := ok_brackets FFS
  have D_used_by_both : Df l.prog w K mg base CX0 _ _ _ _ := ⟨_, _, ok_used_by_both F6 T, B6, k6, PySem.W.mg_of X G a6⟩
  have OT : FnOk l.prog w K mg base CX0 4 fm_T _ PsT (spTreeI (CS K C_Tree fm_G fm_U fm_L fm_S)) := ok_Tree_init FFT T
  have FI0 : FunS K "__init__" "Number.__init__" s_Number___init fi_Number _ cda_Number cc_Number C_Number := ⟨_, _, _, _, _, _, _, _, _, _, _, rfl, li_Number, ci_Number, lcc_Number⟩
  have BI0 := FI0.binds (ps := ["self", "number"]) fun _ _ _ _ _ us hl => match us, hl with | [_, _], _ => rfl
  have SA0 := supB_ok (P := l.prog) (mg := mg) FI0 ⟨_, rfl, rfl⟩ lcd_Number fv_Number fe_Number top (PySem.W.mg_none_of X G b_super) sb_Number
  have M1 : Made l.prog w K mg base (CS K C_Tree fm_G fm_U fm_L fm_S) 5 "Number" C_Number ["self", "number"] okNum := ⟨_, _, mkB_ok mb_Number, ok_Number_init FI0 T D_is_value OT BBT SA0 HC0, BI0, PySem.W.mg_of X G a_Number⟩
  have FI1 : FunS K "__init__" "Named.__init__" s_Named___init fi_Named _ cda_Named cc_Named C_Named := ⟨_, _, _, _, _, _, _, _, _, _, _, rfl, li_Named, ci_Named, lcc_Named⟩
  have BI1 := FI1.binds (ps := ["self", "name"]) fun _ _ _ _ _ us hl => match us, hl with | [_, _], _ => rfl
  have SA1 := supB_ok (P := l.prog) (mg := mg) FI1 ⟨_, rfl, rfl⟩ lcd_Named fv_Named fe_Named top (PySem.W.mg_none_of X G b_super) sb_Named
  have M2 : Made l.prog w K mg base (CS K C_Tree fm_G fm_U fm_L fm_S) 6 "Named" C_Named ["self", "name"] okNam := ⟨_, _, mkB_ok mb_Named, ok_Named_init FI1 T D_is_used OT BBT SA1 HC1, BI1, PySem.W.mg_of X G a_Named⟩
  have FI2 : FunS K "__init__" "Signed.__init__" s_Signed___init fi_Signed _ cda_Signed cc_Signed C_Signed := ⟨_, _, _, _, _, _, _, _, _, _, _, rfl, li_Signed, ci_Signed, lcc_Signed⟩
  have BI2 := FI2.binds (ps := ["self", "sign", "inner"]) fun _ _ _ _ _ us hl => match us, hl with | [_, _, _], _ => rfl
  have SA2 := supB_ok (P := l.prog) (mg := mg) FI2 ⟨_, rfl, rfl⟩ lcd_Signed fv_Signed fe_Signed top (PySem.W.mg_none_of X G b_super) sb_Signed
  have M3 : Made l.prog w K mg base (CS K C_Tree fm_G fm_U fm_L fm_S) 5 "Signed" C_Signed ["self", "sign", "inner"] (okSig (CS K C_Tree fm_G fm_U fm_L fm_S)) := ⟨_, _, mkB_ok mb_Signed, ok_Signed_init FI2 T gT TC OT BBT SA2 HC2 OS BBS, BI2, PySem.W.mg_of X G a_Signed⟩
  have FI3 : FunS K "__init__" "Joined.__init__" s_Joined___init fi_Joined _ cda_Joined cc_Joined C_Joined := ⟨_, _, _, _, _, _, _, _, _, _, _, rfl, li_Joined, ci_Joined, lcc_Joined⟩
  have BI3 := FI3.binds (ps := ["self", "left", "sign", "right"]) fun _ _ _ _ _ us hl => match us, hl with | [_, _, _, _], _ => rfl
  have SA3 := supB_ok (P := l.prog) (mg := mg) FI3 ⟨_, rfl, rfl⟩ lcd_Joined fv_Joined fe_Joined top (PySem.W.mg_none_of X G b_super) sb_Joined
  have M4 : Made l.prog w K mg base (CS K C_Tree fm_G fm_U fm_L fm_S) 5 "Joined" C_Joined ["self", "left", "sign", "right"] (okJoi (CS K C_Tree fm_G fm_U fm_L fm_S)) := ⟨_, _, mkB_ok mb_Joined, ok_Joined_init FI3 T TL gT TC OT BBT SA3 HC3 OS BBS D_used_by_both, BI3, PySem.W.mg_of X G a_Joined⟩
  have D_law_streams : Df l.prog w K mg base CX0 _ _ _ _ := ⟨_, _, ok_law_streams F7 T, B7, k7, PySem.W.mg_of X G a7⟩
  have D_law_next : Df l.prog w K mg base CX0 _ _ _ _ := ⟨_, _, ok_law_next F8 T, B8, k8, PySem.W.mg_of X G a8⟩
  have D_law_paths : Df l.prog w K mg base CX0 _ _ _ _ := ⟨_, _, ok_law_paths F9, B9, k9, PySem.W.mg_of X G a9⟩
  have D_law_operators : Df l.prog w K mg base CX0 _ _ _ _ := ⟨_, _, ok_law_operators F10, B10, k10, PySem.W.mg_of X G a10⟩
  have D_law_plan : Df l.prog w K mg base CX0 _ _ _ _ := ⟨_, _, plan_all F11 T D_law_next D_law_paths D_law_operators B11 k11 (PySem.W.mg_of X G a11) 6, B11, k11, PySem.W.mg_of X G a11⟩
  have D_law_made : Df l.prog w K mg base CX0 _ _ _ _ := ⟨_, _, made_all F12 M1 M2 M3 M4 B12 k12 (PySem.W.mg_of X G a12) 6, B12, k12, PySem.W.mg_of X G a12⟩
  have D_law_level : Df l.prog w K mg base CX0 _ _ _ _ := ⟨_, _, ok_law_level F13 T D_law_operators, B13, k13, PySem.W.mg_of X G a13⟩
  have D_law_text : Df l.prog w K mg base CX0 _ _ _ _ := ⟨_, _, text_all F14 F15 T D_law_level B14 k14 (PySem.W.mg_of X G a14) B15 k15 (PySem.W.mg_of X G a15) 6, B14, k14, PySem.W.mg_of X G a14⟩
  have D_law_count : Df l.prog w K mg base CX0 _ _ _ _ := ⟨_, _, count_all F16 T D_law_level B16 k16 (PySem.W.mg_of X G a16) 6, B16, k16, PySem.W.mg_of X G a16⟩
  have D_law_right : Df l.prog w K mg base CX0 _ _ _ _ := ⟨_, _, ok_law_right F17 T TC D_law_made D_law_text D_law_count OG BBG OL BBL, B17, k17, PySem.W.mg_of X G a17⟩
  have D_law_pairs_right : Df l.prog w K mg base CX0 _ _ _ _ := ⟨_, _, ok_law_pairs_right F18 D_law_operators D_law_right, B18, k18, PySem.W.mg_of X G a18⟩
  exact GOk.of (ok_law F19 T D_law_streams D_law_next D_law_plan D_law_right D_law_pairs_right OG BBG M1 M2 M3 M4)
end M14
open PySem PySem.W PyProof.Rows
set_option maxRecDepth 100000 in
set_option maxHeartbeats 0 in
theorem PySem.Challenge.cw_macroasm_k14_texts_of_trees_holds : PySem.Challenge.rw_macroasm_k14_texts_of_trees.Holds := by
  w_on; o_law; k_head; (case hw => w_witness2)
  k_fill
  refine Gd.walk_calm (l := PySem.Challenge.rw_macroasm_k14_texts_of_trees) (n := 63) (k := 18) (x := "_law_script") (CX := fun _ => L2.CX0) (sp := fun w => M14.spLaw _) rfl (by decide) rfl ⟨rfl, by decide, by decide⟩ (fun w h Y => PySem.W.kIn_of Y) ?F (fun _ _ a ns hl _ hS => ⟨a, ns, rfl, hS, hl, fun _ => rfl⟩) (fun _ _ _ _ _ h => h)
  case F =>
    intro w mg fa h KX G hmg
    refine' M14.all_mk KX G hmg ?a0 ?l0 ?c0 ?k0 ?a1 ?l1 ?c1 ?k1 ?a2 ?l2 ?c2 ?k2 ?a3 ?l3 ?c3 ?k3 ?a4 ?l4 ?c4 ?k4 ?a5 ?l5 ?c5 ?k5 ?a6 ?l6 ?c6 ?k6 ?a7 ?l7 ?c7 ?k7 ?a8 ?l8 ?c8 ?k8 ?a9 ?l9 ?c9 ?k9 ?a10 ?l10 ?c10 ?k10 ?a11 ?l11 ?c11 ?k11 ?a12 ?l12 ?c12 ?k12 ?a13 ?l13 ?c13 ?k13 ?a14 ?l14 ?c14 ?k14 ?a15 ?l15 ?c15 ?k15 ?a16 ?l16 ?c16 ?k16 ?a17 ?l17 ?c17 ?k17 ?a18 ?l18 ?c18 ?k18 ?a19 ?l19 ?c19 ?k19 ?g_DIGITS ?g_MOST_IN_NAME ?g_MOST_IN_MADE ?g_MOST_IN_PATH ?g_LARGEST ?g_COMPARING ?g_UNJOINED ?g_MOST_TOKENS ?g_MOST_DEPTH ?g_SIGNS ?lT_SIGNS ?b_len ?b_isinstance ?b_str ?b_all ?b_int ?b_bool ?b_max ?b_min ?b_tuple ?b_list ?b_range ?b_enumerate ?b_super ?a_Tree ?a_Number ?a_Named ?a_Signed ?a_Joined ?a_LEVELS ?it_T ?fp_T ?rc_T ?fp_U ?rc_U ?fp_L ?fp_S ?lm_T ?cm_T ?km_T ?lm_G ?cm_G ?km_G ?lm_U ?cm_U ?km_U ?lm_L ?cm_L ?km_L ?lm_S ?cm_S ?km_S ?ic_Number ?li_Number ?ci_Number ?lcc_Number ?lcd_Number ?fv_Number ?fe_Number ?tb_Number ?mb_Number ?sb_Number ?ic_Named ?li_Named ?ci_Named ?lcc_Named ?lcd_Named ?fv_Named ?fe_Named ?tb_Named ?mb_Named ?sb_Named ?ic_Signed ?li_Signed ?ci_Signed ?lcc_Signed ?lcd_Signed ?fv_Signed ?fe_Signed ?tb_Signed ?mb_Signed ?sb_Signed ?ic_Joined ?li_Joined ?ci_Joined ?lcc_Joined ?lcd_Joined ?fv_Joined ?fe_Joined ?tb_Joined ?mb_Joined ?sb_Joined ?tcb ?top ?dw ?lb
    (case a0 => k_is); (case l0 => k_is); (case c0 => k_is); (case k0 => k_is); (case a1 => k_is); (case l1 => k_is); (case c1 => k_is); (case k1 => k_is); (case a2 => k_is); (case l2 => k_is); (case c2 => k_is); (case k2 => k_is); (case a3 => k_is); (case l3 => k_is); (case c3 => k_is); (case k3 => k_is); (case a4 => k_is); (case l4 => k_is); (case c4 => k_is); (case k4 => k_is); (case a5 => k_is); (case l5 => k_is); (case c5 => k_is); (case k5 => k_is); (case a6 => k_is); (case l6 => k_is); (case c6 => k_is); (case k6 => k_is); (case a7 => k_is); (case l7 => k_is); (case c7 => k_is); (case k7 => k_is); (case a8 => k_is); (case l8 => k_is); (case c8 => k_is); (case k8 => k_is); (case a9 => k_is); (case l9 => k_is); (case c9 => k_is); (case k9 => k_is); (case a10 => k_is); (case l10 => k_is); (case c10 => k_is); (case k10 => k_is); (case a11 => k_is); (case l11 => k_is); (case c11 => k_is); (case k11 => k_is); (case a12 => k_is); (case l12 => k_is); (case c12 => k_is); (case k12 => k_is); (case a13 => k_is); (case l13 => k_is); (case c13 => k_is); (case k13 => k_is); (case a14 => k_is); (case l14 => k_is); (case c14 => k_is); (case k14 => k_is); (case a15 => k_is); (case l15 => k_is); (case c15 => k_is); (case k15 => k_is); (case a16 => k_is); (case l16 => k_is); (case c16 => k_is); (case k16 => k_is); (case a17 => k_is); (case l17 => k_is); (case c17 => k_is); (case k17 => k_is); (case a18 => k_is); (case l18 => k_is); (case c18 => k_is); (case k18 => k_is); (case a19 => k_is); (case l19 => k_is); (case c19 => k_is); (case k19 => k_is); (case g_DIGITS => k_is); (case g_MOST_IN_NAME => k_is); (case g_MOST_IN_MADE => k_is); (case g_MOST_IN_PATH => k_is); (case g_LARGEST => k_is); (case g_COMPARING => k_is); (case g_UNJOINED => k_is); (case g_MOST_TOKENS => k_is); (case g_MOST_DEPTH => k_is); (case g_SIGNS => k_is); (case lT_SIGNS => k_is); (case b_len => k_is); (case b_isinstance => k_is); (case b_str => k_is); (case b_all => k_is); (case b_int => k_is); (case b_bool => k_is); (case b_max => k_is); (case b_min => k_is); (case b_tuple => k_is); (case b_list => k_is); (case b_range => k_is); (case b_enumerate => k_is)
    (case b_super => k_is)
    (case a_Tree => k_is)
    (case a_Number => k_is)
    (case a_Named => k_is)
    (case a_Signed => k_is)
    (case a_Joined => k_is)
    (case a_LEVELS => k_is)
    (case it_T => k_is)
    (case fp_T => k_is)
    (case rc_T => k_is)
    (case fp_U => k_is)
    (case rc_U => k_is)
    (case fp_L => k_is)
    (case fp_S => k_is)
    (case lm_T => k_is)
    (case cm_T => k_is)
    (case km_T => k_is)
    (case lm_G => k_is)
    (case cm_G => k_is)
    (case km_G => k_is)
    (case lm_U => k_is)
    (case cm_U => k_is)
    (case km_U => k_is)
    (case lm_L => k_is)
    (case cm_L => k_is)
    (case km_L => k_is)
    (case lm_S => k_is)
    (case cm_S => k_is)
    (case km_S => k_is)
    (case ic_Number => k_is)
    (case li_Number => k_is)
    (case ci_Number => k_is)
    (case lcc_Number => k_is)
    (case lcd_Number => k_is)
    (case fv_Number => rfl)
    (case fe_Number => rfl)
    (case tb_Number => kernel_rfl)
    (case mb_Number => kernel_rfl)
    (case sb_Number => kernel_rfl)
    (case ic_Named => k_is)
    (case li_Named => k_is)
    (case ci_Named => k_is)
    (case lcc_Named => k_is)
    (case lcd_Named => k_is)
    (case fv_Named => rfl)
    (case fe_Named => rfl)
    (case tb_Named => kernel_rfl)
    (case mb_Named => kernel_rfl)
    (case sb_Named => kernel_rfl)
    (case ic_Signed => k_is)
    (case li_Signed => k_is)
    (case ci_Signed => k_is)
    (case lcc_Signed => k_is)
    (case lcd_Signed => k_is)
    (case fv_Signed => rfl)
    (case fe_Signed => rfl)
    (case tb_Signed => kernel_rfl)
    (case mb_Signed => kernel_rfl)
    (case sb_Signed => kernel_rfl)
    (case ic_Joined => k_is)
    (case li_Joined => k_is)
    (case ci_Joined => k_is)
    (case lcc_Joined => k_is)
    (case lcd_Joined => k_is)
    (case fv_Joined => rfl)
    (case fe_Joined => rfl)
    (case tb_Joined => kernel_rfl)
    (case mb_Joined => kernel_rfl)
    (case sb_Joined => kernel_rfl)
    (case tcb => kernel_rfl)
    (case top => rfl)
    (case dw => kernel_rfl)
    (case lb => kernel_rfl)
#print axioms PySem.Challenge.cw_macroasm_k14_texts_of_trees_holds

