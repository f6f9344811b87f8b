import PyProof.Rows.All
import Wide.All
import OpenK.AllK
import Wide.FinOn
import HandS.ForMost
import HandS.Evl
import HandS.IsInst
import HandS.MakeKwOnly
import HandS.StrMore
import PyProof.Rows.StrCut
import HandS.Codes
import HandS.Walk
import PySem.Challenge.RW_macroasm_k02_names
set_option Elab.async false
set_option linter.all false
set_option autoImplicit false
set_option maxRecDepth 100000
set_option maxHeartbeats 4000000
/-! The hand layer where it is known that no repr is under way: promises GOk beside FnOk, calls of them, the end of a law. -/
namespace Gd
open PySem PySem.Spec PyProof.Rows L2

/-- no loop of a repr is under way -/
def Calm (A : Around) : Prop := A.guards = some []
theorem calm_deeper {A : Around} {env : Env} (h : Calm A) : Calm (A.deeper env) := by
  first
  | exact h
  | (unfold Calm at *; simp [Around.deeper, h])

structure GOk (pr : Program) (wo : World) (K : PySem.W.Frag) (mg : Str → Option Value) (base : Heap) (CX : CXT) (k : Nat) (f : Addr) (fd : FuncData) (ps : List Str) (sp : Sp) : Prop where
  many : ∀ vs H Q E, sp vs H Q E → vs.length = ps.length
  goes : ∀ (A : Around) (out : List Env) (s : Shared) (H : Hp) (args : Args) (us : List Value) (vs : List V) (Q : VK) (E : XK),
    Calm A → Room k A → Env0 pr wo K mg base A out s H → BindsTo s fd args (ps.zip us) → Vals vs us → sp vs H Q E →
      codeAny (model pr wo) A (.call (.ref f) args) (CR CX out pr wo H s Q E) s

section
variable {pr : Program} {wo : World} {K : PySem.W.Frag} {mg : Str → Option Value} {base : Heap} {CX : CXT}
theorem GOk.of {k : Nat} {f : Addr} {fd : FuncData} {ps : List Str} {sp : Sp} (F : FnOk pr wo K mg base CX k f fd ps sp) : GOk pr wo K mg base CX k f fd ps sp :=
  ⟨F.len, fun A out s H args us vs Q E _ => F.run A out s H args us vs Q E⟩

/-- a def's body keeps its promise, no repr being under way -/
theorem ok_of {x qual : Str} {st : Stmt} {f : Addr} {fd : FuncData} {N ps : List Str} {k : Nat} {sp : Sp} (F : Fun K x qual st f fd) (S : FnScope N ps (defScope st)) (len : ∀ vs H Q E, sp vs H Q E → vs.length = ps.length)
    (body : ∀ (cdv : Value) (A : Around) (out : List Env) (s : Shared) (H : Hp) (vs : List V) (Q : VK) (E : XK),
      Calm (A.deeper (envOfC qual (defScope st) s.heap.objs.size f cdv)) → Room k (A.deeper (envOfC qual (defScope st) s.heap.objs.size f cdv)) → sp vs H Q E →
        ∃ t, PSs (cxOf CX pr wo K mg base N qual (defScope st) f cdv A out s H E) (defBody st) t ∧
          t { nx := fun _ H' => Q .non H', rt := Q } (start N vs) H) : GOk pr wo K mg base CX (k + 1) f fd ps sp := by
  obtain ⟨oc, od, kV, doc, pm, an, cdv, ct, osl, rfl, lk, hcd⟩ := F.ex
  constructor
  · exact len
  intro A out s H args us vs Q E ca hr e0 hb r hs
  have KX : K.In s.heap := e0.mod.kin.keeps (fun b o e => (e0.bs b o e).left)
  have lim : s.heap.NoLimit := e0.mod.nolimit.keeps (fun b o e => (e0.bs b o e).left)
  refine codeAny_call_function hr.depth (KX _ _ lk) rfl S.co S.gen rfl (PySem.W.codeRec_of KX hcd) (hb _ _ _ _ ?_)
  have kinds : ∀ y ∈ ps.zip us, (defScope st).names.lookup y.1 = some .local ∨
      ((defScope st).names.lookup y.1 = some .cell ∧ ((cellsFrom (s.heap.objs.size + 1) (defScope st).names []).lookup y.1).isSome = true) := by
    rintro ⟨n, v⟩ hy
    cases S.par n (List.of_mem_zip hy).1 with
    | inl q => exact Or.inl q
    | inr q => exact Or.inr ⟨q, PySem.W.cellsFrom_some _ _ _ (Or.inl q)⟩
  refine wpAny_newFunctionEnv_cells S.kind kinds (fun env he s1 xx => ?_)
  cases he
  refine ⟨lim.keeps xx.toInCall.keep, codeAny_func ?_⟩
  obtain ⟨t, ht, hq⟩ := body cdv A out s H vs Q E (calm_deeper ca) (hr.deeper _) hs
  have I := inv_start (CX := CX) (E := E) S hr.hd e0 (len _ _ _ _ hs) r xx
  refine wpAny_mono (ht.run [] s1 (start N vs) H _ I hq) ?_ (fun e s' he => he)
  intro fl s' hfl
  have fin : ∀ {σ2 : L2.St} {H2 : Hp} {v : V} {u : Value}, Inv (cxOf CX pr wo K mg base N qual (defScope st) f cdv A out s H E) [] σ2 H2 s' → RelV v u → Q v H2 → CE out pr wo H s Q u s' := by
    intro σ2 H2 v u J rv q
    exact ⟨v, H2, J.os, J.bare, J.base, J.hok, rv, q⟩
  match fl, hfl with
  | .ret u, ⟨v, σ2, H2, J, rv, q⟩ => exact fin J rv q
  | .next, ⟨σ2, H2, J, q⟩ => exact fin (v := .non) (u := .none) J rfl q
  | .brk, ⟨_, _, _, q⟩ => exact q.elim
  | .cont, ⟨_, _, _, q⟩ => exact q.elim
/-- the same where nothing that is raised leaves the def -/
theorem ok_of0 {x qual : Str} {st : Stmt} {f : Addr} {fd : FuncData} {N ps : List Str} {k : Nat} {sp : Sp} (F : Fun K x qual st f fd) (S : FnScope N ps (defScope st)) (len : ∀ vs H Q E, sp vs H Q E → vs.length = ps.length)
    (body : ∀ (cdv : Value) (A : Around) (out : List Env) (s : Shared) (H : Hp) (vs : List V) (Q : VK) (E : XK),
      Calm (A.deeper (envOfC qual (defScope st) s.heap.objs.size f cdv)) → Room k (A.deeper (envOfC qual (defScope st) s.heap.objs.size f cdv)) → sp vs H Q E →
        ∃ t, PSs (cxOf CX0 pr wo K mg base N qual (defScope st) f cdv A out s H E).nox (defBody st) t ∧
          t { nx := fun _ H' => Q .non H', rt := Q } (start N vs) H) : GOk pr wo K mg base CX0 (k + 1) f fd ps sp :=
  ok_of F S len fun cdv A out s H vs Q E ca hr hs => by
    obtain ⟨t, ht, q⟩ := body cdv A out s H vs Q E ca hr hs
    exact ⟨t, ht.nox, q⟩
end

section
variable {X : Cx} {CX : CXT} {k : Nat} {f : Addr} {fd : FuncData} {ps ks : List Str} {sp : Sp} {E : XK} {x : Str} {p pos : Pos} {e : Expr} {es : List Expr} {ds : List Value} {dvs : List V} {t : TA}
theorem goes_fn {pins : List (Addr × Obj)} {σ : L2.St} {H : Hp} {s : Shared} {Q : VK} {us : List Value} {vs : List V} (F : GOk X.prog X.w X.K X.mg X.base CX k f fd ps sp) (ca : Calm X.A) (hr : Room k X.A)
    (hb : Binds X.K fd ps ds) (hd : Vals dvs ds) (hx : Passes CX X E) (I : Inv X pins σ H s) (r : Vals vs us) (h : sp (vs ++ dvs) H Q E) :
    wpAny (model X.prog X.w) X.A (call (.ref f) us) (EP X pins σ Q) X.xe s := by
  have rr : Vals (vs ++ dvs) (us ++ ds) := r.append hd
  have hl : (us ++ ds).length = ps.length := rr.length ▸ F.many _ _ _ _ h
  have go := F.goes X.A X.stack s H ⟨us, []⟩ (us ++ ds) (vs ++ dvs) Q E ca hr I.env0 (hb s us I.kIn hl) rr h
  refine wpAny_call (codeAny_mono go ?_)
  intro z s' hz
  match z, hz with
  | .error e, hz => exact hx pins σ H s e s' I hz
  | .ok (.ret u), hz => exact I.after hz
  | .ok .next, hz => exact False.elim hz
  | .ok .brk, hz => exact False.elim hz
  | .ok .cont, hz => exact False.elim hz
theorem pe_callG (F : GOk X.prog X.w X.K X.mg X.base CX k f fd ps sp) (ca : Calm X.A) (hr : Room k X.A) (hg : Gl X x) (hm : X.mg x = some (.ref f)) (hk : PySem.W.keepIn X.K (.ref f) = true) (hb : Binds X.K fd ps ds) (hd : Vals dvs ds)
    (hx : Passes CX X E) (ha : PA X (e :: es) t) (hdb : (x == ("__debug__" : Str)) = false := by decide)
    (he : starEach (e :: es) X.env = (false, eval e X.env) :: starEach es X.env := by rfl) (hpl : (backTo pos (starEach es X.env)).any (·.1) = false := by rfl) :
    PE X (.Call (.Name x p) (e :: es) [] pos) (tCall sp dvs E t) := by
  constructor
  intro pins s σ H Q I h
  refine wpAny_Call_Name_kw (ld_glob I hg hm ?_ hdb)
  have go := thn (ha.run pos pins s σ H _ I h) (fun us s1 (hq : AP X pins σ (fun vs H1 => sp (vs ++ dvs) H1 Q E) us s1) => by
    obtain ⟨vs, H1, I1, r, q⟩ := hq
    exact (⟨I1.kIn, goes_fn F ca hr hb hd hx I1 r q⟩ : X.K.In s1.heap ∧ wpAny (model X.prog X.w) X.A (call (.ref f) us) (EP X pins σ Q) X.xe s1))
  exact PySem.W.callWith_K (h₀ := X.base) I.ok.mod.kin hk go he hpl
end
end Gd

set_option maxHeartbeats 4000000
namespace Gd
open PySem PySem.Spec PyProof.Rows L2

/-- the script: it may be read, and it is a bare list -/
def Scr (K : PySem.W.Frag) (H : Hp) (a : Addr) (ns : List Int) : Prop :=
  Rd H a (.lst (ns.map V.int)) ∨ ∃ vs : List Value, K.lookup a = some { cls := .type "list", data := .seq vs.toArray } ∧ vs.length ≤ sizeLine ∧ Vals (ns.map V.int) vs
theorem Scr.sq {K : PySem.W.Frag} {H : Hp} {a : Addr} {ns : List Int} (h : Scr K H a ns) : SqL K H a (ns.map V.int) := by
  cases h with
  | inl h => exact Or.inl h
  | inr h =>
    obtain ⟨vs, h1, h2, h3⟩ := h
    exact Or.inr ⟨_, vs.toArray, _, h1, rfl, rfl, rfl, (by rw [List.size_toArray]; exact h2), (by simpa using h3)⟩

/-- the law's call from the outermost caller, under whom no repr runs -/
theorem outermost {pr : Program} {wo : World} {K : PySem.W.Frag} {mg mb : Str → Option Value} {CX : CXT} {k : Nat} {fa a : Addr} {fd : FuncData} {x : Str} {sp : Sp} {s : Shared} {vs : List Value} {ns : List Int}
    (KX : K.In s.heap) (n1 : s.heap.Ns mainGlobals mg) (n2 : s.heap.Ns builtinsNs mb) (bb : ∀ z : Str, z ≠ "__name__" → mb z = bootBuiltins z) (lim : s.heap.NoLimit) (gn : s.gens = #[])
    (ha : s.heap.get? a = some { cls := .type "list", data := .seq vs.toArray }) (hi : IntsAre vs ns) (hl : ns.length ≤ sizeLine) (room : Room k callerA)
    (F : ∀ base : Heap, K.In base → base.Ns mainGlobals mg → GOk pr wo K mg base CX k fa fd [x] sp) (bind : ∀ (z : Shared) (u : Value), BindsTo z fd ⟨[u], []⟩ [(x, u)])
    (good : ∀ H : Hp, Only H → Scr K H a ns → sp [.ref a] H (fun v _ => v = .bl true) (fun _ _ _ => False))
    (noX : ∀ H e z, CX [] H s (fun _ _ _ => False) e z → False) :
    codeAny (model pr wo) callerA (.call (.ref fa) ⟨[.ref a], []⟩) (fun r z => r = .ok (.ret (.bool true)) ∧ OldK s.heap z.heap ∧ z.os = s.os ∧ AllBare z.gens) s := by
  have rv : Vals (ns.map V.int) vs := vals_ints hi
  have lv := hi.length
  have main : ∀ H : Hp, Only H → Scr K H a ns → HOk pr wo H s.heap → (∀ b, H b ≠ none → b = a) → (H a ≠ none → K.lookup a = none) →
      codeAny (model pr wo) callerA (.call (.ref fa) ⟨[.ref a], []⟩) (fun r z => r = .ok (.ret (.bool true)) ∧ OldK s.heap z.heap ∧ z.os = s.os ∧ AllBare z.gens) s := by
    intro H only sq ok just away
    -- what is tracked is the script alone, which is no dict and nothing of K's
    have nodict : ∀ {b : Addr} {o : Obj} {es : Array DictEntry} {ep : Nat}, s.heap.get? b = some o → o.data = .dict es ep → H b = none := by
      intro b o es ep e d
      match q : H b with
      | none => rfl
      | some u =>
        cases just b (by rw [q]; exact Option.some_ne_none u)
        rw [ha] at e
        cases e
        exact absurd (show Data.seq vs.toArray _ = Data.dict es ep from d) (by intro z; cases z)
    have stays : ∀ {b : Addr} {m : Str → Option Value}, s.heap.Ns b m → (hidT s.heap H).Ns b m := by
      rintro b m ⟨o, es, ep, e, d, r⟩
      exact ⟨o, es, ep, hidT_get e (nodict e d), d, r⟩
    have kin : K.In (hidT s.heap H) := by
      intro b o e
      refine hidT_get (KX b o e) ?_
      match q : H b with
      | none => rfl
      | some u =>
        have some_ne : H b ≠ none := by rw [q]; exact Option.some_ne_none u
        cases just b some_ne
        exact absurd (away some_ne) (by rw [e]; exact Option.some_ne_none o)
    have lim2 : (hidT s.heap H).NoLimit := by
      obtain ⟨mc, h1, h2⟩ := lim
      exact ⟨mc, stays h1, h2⟩
    have at0 : Env0 pr wo K mg (hidT s.heap H) callerA [] s H := {
      frames := rfl, mod := ⟨kin, stays n1, ⟨mb, stays n2, bb⟩, lim2⟩, bs := fun b o e => of_hidT e, bsz := Nat.le_of_eq (hidT_size _ _),
      funs := trivial, frf := (fun b hb => by cases (show b ∈ ([] : List Addr) from hb)), hok := ok, bare := .of_eq gn }
    have go := (F _ kin (stays n1)).goes callerA [] s H ⟨[.ref a], []⟩ [.ref a] [.ref a] _ _ rfl room at0 (bind s (.ref a)) (.cons rfl .nil) (good H only sq)
    refine codeAny_mono go ?_
    intro r z h
    match r, h with
    | .error e, h => exact (noX H e z h).elim
    | .ok .next, h => exact False.elim h
    | .ok .brk, h => exact False.elim h
    | .ok .cont, h => exact False.elim h
    | .ok (.ret u), ⟨v, H2, os, bare, un, ok2, ru, q⟩ =>
      cases (show v = V.bl true from q)
      cases (show u = Value.bool true from ru)
      refine ⟨rfl, OldK.of_keep ?_, os, bare⟩
      intro b o e
      match q : H b with
      | none => exact un.keep b o e q (fun z => by cases (show b ∈ ([] : List Addr) from z)) (fun z => by cases z)
      | some u =>
        cases only b with
        | inl z => rw [q] at z; cases z
        | inr z =>
          obtain ⟨ob, xs, z⟩ := z
          have e1 := (ok b _ z).left
          have e2 := (ok2 b _ (un.frzs b ob _ z)).left
          rw [e] at e1
          cases e1
          exact e2
  match hk : K.lookup a with
  | some o =>
    have e := KX a o hk
    rw [ha] at e
    cases e
    refine main (fun _ => none) (fun _ => Or.inl rfl) (Or.inr ⟨vs, hk, (by rw [lv]; exact hl), rv⟩) ?_ (fun b z => absurd rfl z) (fun z => absurd rfl z)
    intro b u z
    cases (show (none : Option HO) = some u from z)
  | none =>
    have at_a : ∀ b, b = a → (fun b => if b = a then some (HO.frz { cls := .type "list", data := .seq vs.toArray } (.lst (ns.map V.int))) else none) b = some (HO.frz { cls := .type "list", data := .seq vs.toArray } (.lst (ns.map V.int))) := fun b h => if_pos h
    have off_a : ∀ b, ¬ b = a → (fun b => if b = a then some (HO.frz { cls := .type "list", data := .seq vs.toArray } (.lst (ns.map V.int))) else none) b = none := fun b h => if_neg h
    refine main (fun b => if b = a then some (HO.frz { cls := .type "list", data := .seq vs.toArray } (.lst (ns.map V.int))) else none) ?_ (Or.inl (Or.inr ⟨_, at_a a rfl⟩)) ?_ ?_ (fun _ => hk)
    · intro b
      by_cases h : b = a
      · exact Or.inr ⟨_, _, at_a b h⟩
      · exact Or.inl (off_a b h)
    · intro b u z
      by_cases h : b = a
      · have zz := (at_a b h).symm.trans z
        cases zz
        cases h
        exact ⟨ha, (by rw [List.length_map]; exact hl), vs, _, rv, ha⟩
      · have zz := (off_a b h).symm.trans z
        cases zz
    · intro b z
      by_cases h : b = a
      · exact h
      · exact absurd (off_a b h) z

theorem walk_calm {l : PySem.W.OpenLaw} {n k : Nat} {q : Program} {loose : List Str} {XP : (Str → Option Value) → Heap → Prop} {YP : World → Heap → Prop} {d : DefRec} {K : Params → PySem.W.Frag} {CX : World → CXT} {sp : World → Sp} {x : Str}
    (hn : l.most = some n) (hn2 : n ≤ sizeLine) (hdf : d.params.defaults = []) (room : Room k callerA) (hY : ∀ (w : World) (h : Heap), YP w h → (K w.params).In h)
    (F : ∀ (w : World) (mg : Str → Option Value) (fa : Addr) (h : Heap), (K w.params).In h → h.Ns mainGlobals mg → mg d.name = some (.ref fa) → ∃ fd : FuncData,
      (∀ (z : Shared) (u : Value), BindsTo z fd ⟨[u], []⟩ [(x, u)]) ∧ ∀ base : Heap, (K w.params).In base → base.Ns mainGlobals mg → GOk l.prog w (K w.params) mg base (CX w) k fa fd [x] (sp w))
    (good : ∀ (w : World) (H : Hp) (a : Addr) (ns : List Int), ns.length ≤ n → Only H → Scr (K w.params) H a ns → sp w [.ref a] H (fun v _ => v = .bl true) (fun _ _ _ => False))
    (noX : ∀ (w : World) (H : Hp) (s : Shared) (e : Value) (z : Shared), CX w [] H s (fun _ _ _ => False) e z → False) :
    PySem.W.WalkO q loose XP YP l.row.toRowW d [] (fun f vs => PySem.call f vs) := by
  refine Att.attach_call hn hdf ?_
  intro w s0 s1 mg mb fa o pm cd doc a vs ns G Y ho hd hcd hmg hobj hints hlen hg
  obtain ⟨fd, hb, hF⟩ := F w mg fa _ (hY w _ Y) G.T.g hmg
  refine outermost (hY w _ Y) G.T.g G.T.b G.T.builtins G.T.nolimit hg hobj hints (Nat.le_trans hlen hn2) room hF hb ?_ ?_
  · intro H only sq
    exact good w H a ns hlen only sq
  · intro H e z
    exact noX w H s1 e z

/-! ### repr of data -/
section
variable {X : Cx}
/-- repr of lists and tuples that hold data: the text is that of the data alone -/
def rRepr (K : PySem.W.Frag) : List V → Hp → VK → Prop := fun xs H Q => ∃ a d, xs = [.ref a] ∧ Dp K H (.ref a) d ∧ PyData.showable d = true ∧ PyData.hasDict d = false ∧ d.depth ≤ 100 ∧ d.shown.length ≤ sizeLine ∧ Q (.str d.shown) H
theorem call_repr {k : Nat} (ca : Calm X.A) (hr : Room k X.A) : CallR X (.builtin "repr") (rRepr X.K) := by
  intro pins s σ H xs us Q I r h
  obtain ⟨a, d, rfl, hd, h1, h2, h3, h4, q⟩ := h
  obtain ⟨u, rfl, ru⟩ := vals1 r
  cases (show u = Value.ref a from ru)
  obtain ⟨as, hR⟩ := Dp.reads I d _ _ hd rfl
  have hun := hr.un
  refine repr_of_reads' hR h1 (fun z => by rw [h2] at z; cases z) ca (by omega) (fun _ _ e => e) (fun h' u tk keep => ?_) h4
  exact ⟨.str d.shown, H, I.kept keep, ⟨_, rfl⟩, q⟩
end
end Gd

set_option maxHeartbeats 4000000
namespace Gd
open PySem PySem.Spec PyProof.Rows L2 Evl

/-- a def of the module by its name, with its promise -/
structure Df (pr : Program) (wo : World) (K : PySem.W.Frag) (mg : Str → Option Value) (base : Heap) (CX : CXT) (k : Nat) (x : Str) (ps : List Str) (sp : Sp) : Prop where
  ex : ∃ (f : Addr) (fd : FuncData), FnOk pr wo K mg base CX k f fd ps sp ∧ Binds K fd ps [] ∧ PySem.W.keepIn K (.ref f) = true ∧ mg x = some (.ref f)
structure DfG (pr : Program) (wo : World) (K : PySem.W.Frag) (mg : Str → Option Value) (base : Heap) (CX : CXT) (k : Nat) (x : Str) (ps : List Str) (sp : Sp) : Prop where
  ex : ∃ (f : Addr) (fd : FuncData), GOk pr wo K mg base CX k f fd ps sp ∧ Binds K fd ps [] ∧ PySem.W.keepIn K (.ref f) = true ∧ mg x = some (.ref f)
/-- the same, to be called with all its parameters by keywords in their order -/
structure DfK (pr : Program) (wo : World) (K : PySem.W.Frag) (mg : Str → Option Value) (base : Heap) (CX : CXT) (k : Nat) (x : Str) (ps : List Str) (sp : Sp) : Prop where
  ex : ∃ (f : Addr) (fd : FuncData), FnOk pr wo K mg base CX k f fd ps sp ∧ (∀ (s : Shared) (ws : List Value), K.In s.heap → ws.length = ps.length → BindsTo s fd ⟨[], ps.zip ws⟩ (ps.zip ws)) ∧ PySem.W.keepIn K (.ref f) = true ∧ mg x = some (.ref f)
theorem _root_.L2.Fun.kbinds {K : PySem.W.Frag} {x qual : Str} {st : Stmt} {f : Addr} {fd : FuncData} {ps : List Str} (F : Fun K x qual st f fd)
    (h : ∀ (kV doc pm : Value) (an : Option Addr) (cdv ct : Value) (ws : List Value), ws.length = ps.length → bindArgs (PySem.W.fnOf x qual (defArgs st) (defBody st) (defScope st) .none kV doc pm an cdv ct) ⟨[], ps.zip ws⟩ = pure (ps.zip ws))
    (s : Shared) (ws : List Value) (hK : K.In s.heap) (hl : ws.length = ps.length) : BindsTo s fd ⟨[], ps.zip ws⟩ (ps.zip ws) := by
  obtain ⟨oc, od, kV, doc, pm, an, cdv, ct, osl, rfl, lk, hcd⟩ := F.ex
  exact .of_eq (h kV doc pm an cdv ct ws hl)
section
variable {X : Cx} {CX : CXT} {k : Nat} {ps : List Str} {sp : Sp} {E : XK} {x : Str} {p pos : Pos} {e : Expr} {es : List Expr} {t tk : TA} {kws : List Keyword}
theorem pe_df (D : Df X.prog X.w X.K X.mg X.base CX k x ps sp) (hr : Room k X.A) (hg : Gl X x) (ha : PA X (e :: es) t) (hx : Passes CX X E := by exact pass0) (hdb : (x == ("__debug__" : Str)) = false := by decide)
    (he : starEach (e :: es) X.env = (false, eval e X.env) :: starEach es X.env := by rfl) (hpl : (backTo pos (starEach es X.env)).any (·.1) = false := by rfl) :
    PE X (.Call (.Name x p) (e :: es) [] pos) (tCall sp [] E t) := by
  obtain ⟨f, fd, F, b, kp, m⟩ := D.ex
  exact pe_call F hr hg m kp b .nil hx ha hdb he hpl
theorem pe_df0 (D : Df X.prog X.w X.K X.mg X.base CX k x ps sp) (hr : Room k X.A) (hg : Gl X x) (hx : Passes CX X E := by exact pass0) (hdb : (x == ("__debug__" : Str)) = false := by decide) :
    PE X (.Call (.Name x p) [] [] pos) (tCall sp [] E tNil) := by
  obtain ⟨f, fd, F, b, kp, m⟩ := D.ex
  exact pe_call0 F hr hg m kp b .nil hx hdb
theorem pe_dfG (D : DfG X.prog X.w X.K X.mg X.base CX k x ps sp) (ca : Calm X.A) (hr : Room k X.A) (hg : Gl X x) (ha : PA X (e :: es) t) (hx : Passes CX X E := by exact pass0) (hdb : (x == ("__debug__" : Str)) = false := by decide)
    (he : starEach (e :: es) X.env = (false, eval e X.env) :: starEach es X.env := by rfl) (hpl : (backTo pos (starEach es X.env)).any (·.1) = false := by rfl) :
    PE X (.Call (.Name x p) (e :: es) [] pos) (tCall sp [] E t) := by
  obtain ⟨f, fd, F, b, kp, m⟩ := D.ex
  exact pe_callG F ca hr hg m kp b .nil hx ha hdb he hpl
def tCallKw (sp : Sp) (n : Nat) (E : XK) (tk : TA) : TE := fun σ H Q => tk σ H fun zs H2 => zs.length = n ∧ sp zs H2 Q E
theorem pe_dfK (D : DfK X.prog X.w X.K X.mg X.base CX k x ps sp) (hr : Room k X.A) (hg : Gl X x) (hkw : PK X kws tk) (hx : Passes CX X E := by exact pass0)
    (hall : (backToKw pos (keywordEach kws X.env)).all (·.1.isSome) = true := by rfl) (hks : (backToKw pos (keywordEach kws X.env)).filterMap (·.1) = ps := by rfl) (hdb : (x == ("__debug__" : Str)) = false := by decide)
    (hpl : ((backTo pos (starEach [] X.env)).any (·.1) || (backToKw pos (keywordEach kws X.env)).any (·.1.isNone)) = false := by rfl) :
    PE X (.Call (.Name x p) [] kws pos) (tCallKw sp ps.length E tk) := by
  obtain ⟨f, fd, F, b, kp, m⟩ := D.ex
  constructor
  intro pins s σ H Q I h
  refine wpAny_Call_Name_kw (ld_glob I hg m ?_ hdb)
  refine PySem.W.callWith_KW0 (h₀ := X.base) I.ok.mod.kin kp hall ?_ hpl
  refine thn (hkw.run pos pins s σ H _ I h) (fun ws s2 hq => ?_)
  obtain ⟨zs, H2, I2, rz, l2, q2⟩ := hq
  refine ⟨I2.kIn, ?_⟩
  rw [hks]
  have lw : ws.length = ps.length := rz.length.symm.trans l2
  refine wpAny_call (codeAny_mono (F.run X.A X.stack s2 H2 ⟨[], ps.zip ws⟩ ws zs Q E hr I2.env0 (b s2 ws I2.kIn lw) rz q2) ?_)
  intro z s' hz
  match z, hz with
  | .error e, hz => exact hx pins σ H2 s2 e s' I2 hz
  | .ok (.ret u), hz => exact I2.after hz
  | .ok .next, hz => exact False.elim hz
  | .ok .brk, hz => exact False.elim hz
  | .ok .cont, hz => exact False.elim hz
end

/-! ### the module's constants and the built-in classes as values -/
section
variable {X : Cx} {x : Str} {pos : Pos}
theorem pe_gS {z : Str} {t : Tok} (hg : Gl X x) (hm : X.mg x = some (.str z t)) (hd : (x == ("__debug__" : Str)) = false := by decide) : PE X (.Name x pos) (tC (.str z)) := pe_glob hg hm ⟨t, rfl⟩ hd
theorem pe_gI {i : Int} {t : Tok} (hg : Gl X x) (hm : X.mg x = some (.int i t)) (hd : (x == ("__debug__" : Str)) = false := by decide) : PE X (.Name x pos) (tC (.int i)) := pe_glob hg hm ⟨t, rfl⟩ hd
theorem pe_gR {a : Addr} (hg : Gl X x) (hm : X.mg x = some (.ref a)) (hd : (x == ("__debug__" : Str)) = false := by decide) : PE X (.Name x pos) (tC (.ref a)) := pe_glob (v := .ref a) hg hm rfl hd
theorem pe_bT {T : String} (hg : Gl X x) (hm : X.mg x = none) (hv : bootBuiltins x = some (.type T)) (hn : x ≠ "__name__" := by decide) (hd : (x == ("__debug__" : Str)) = false := by decide) : PE X (.Name x pos) (tC (.ty T)) :=
  pe_bltn (v := .ty T) hg hm hv rfl hn hd
end

/-! ### what evaluates to what: texts, tuples, calls -/
section
variable {K : PySem.W.Frag} {σ : L2.St} {H H' : Hp} {ta tb te : TE} {t u : TT} {x y z v : V}
/-- a def's call that hands back a value and lays at most new things -/
def SpIs (sp : Sp) (vs : List V) (H : Hp) (z : V) : Prop := ∀ H1, Ex H H1 → ∀ Q : VK, (∀ H2, Ex H1 H2 → Q z H2) → ∀ E : XK, sp vs H1 Q E
theorem ev_df {sp : Sp} {vs : List V} {E : XK} {tx : TA} (h : EvA tx σ H vs) (hs : SpIs sp vs H z) : Ev (tCall sp [] E tx) σ H z :=
  ev_call h (by rw [List.append_nil]; exact hs)
theorem ev_dfK {sp : Sp} {vs : List V} {E : XK} {tx : TA} {n : Nat} (h : EvA tx σ H vs) (hn : vs.length = n) (hs : SpIs sp vs H z) : Ev (tCallKw sp n E tx) σ H z := fun H1 e Q q =>
  h H1 e _ fun H2 e2 => ⟨hn, hs H2 (e.trans e2) Q (fun H3 e3 => q H3 (e2.trans e3)) E⟩
theorem ev_slS {tl th : TO} {z : Str} {lo hi : Option Int} (h : Ev te σ H (.str z)) (h1 : EvO tl σ H lo) (h2 : EvO th σ H hi) (hz : z.length ≤ 100000) : Ev (tSl rSlS te tl th) σ H (.str (cutS z lo hi)) := fun H1 e Q q =>
  h H1 e _ fun H2 e2 => h1 H2 (e.trans e2) _ fun H3 e3 => h2 H3 ((e.trans e2).trans e3) _ fun H4 e4 => ⟨z, rfl, sz_of hz, q H4 ((e2.trans e3).trans e4)⟩
def rLenStr : List V → Hp → VK → Prop := fun xs H Q => ∃ z, xs = [.str z] ∧ z.length ≤ sizeLine ∧ Q (.int z.length) H
theorem ev_lenS {z : Str} (h : Ev te σ H (.str z)) (hz : z.length ≤ 100000) : Ev (tCB rLenStr (tCons te tNil)) σ H (.int (z.length : Int)) :=
  ev_cb (ea_cons h ea_nil) fun H1 e Q q => ⟨z, rfl, sz_of hz, q H1 (Ex.refl H1)⟩
def rAddS : R2 := fun x y H Q => ∃ i j, x = .str i ∧ y = .str j ∧ i.length + j.length ≤ sizeLine ∧ Q (.str (i ++ j)) H
theorem rv_addS {a b : Str} (h : a.length + b.length ≤ 100000) : RV rAddS (.str a) (.str b) H (.str (a ++ b)) := fun H1 _ Q q => ⟨a, b, rfl, rfl, sz_of h, q H1 (Ex.refl H1)⟩
def rInSg : R2 := fun x y H Q => ∃ (c : Nat) (z : Str), x = .str ⟨#[c]⟩ ∧ y = .str z ∧ Q (.bl (decide (c ∈ z.cps.toList))) H
theorem rv_inSg {c : Nat} {z : Str} : RV rInSg (.str ⟨#[c]⟩) (.str z) H (.bl (decide (c ∈ z.cps.toList))) := fun H1 _ Q q => ⟨c, z, rfl, rfl, q H1 (Ex.refl H1)⟩
end
end Gd

set_option maxHeartbeats 4000000
namespace Gd
open PySem PySem.Spec PyProof.Rows L2 Evl TL

/-! ### the kinds of values that isinstance(x, str) tells apart -/
inductive NotS (K : PySem.W.Frag) (H : Hp) : V → Prop where
  | non : NotS K H .non
  | bl (b : Bool) : NotS K H (.bl b)
  | int (i : Int) : NotS K H (.int i)
  | lst {a : Addr} {xs : List V} (h : H a = some (.lst xs)) : NotS K H (.ref a)
  | tup {a : Addr} {xs : List V} (h : H a = some (.tup xs)) : NotS K H (.ref a)
  | dic {a : Addr} {kvs : List (Key × V)} (h : H a = some (.dK kvs)) : NotS K H (.ref a)
theorem NotS.ex {K : PySem.W.Frag} {H H' : Hp} {v : V} (n : NotS K H v) (e : Ex H H') : NotS K H' v := by
  cases n with
  | non => exact .non
  | bl b => exact .bl b
  | int i => exact .int i
  | lst h => exact .lst (e _ _ h)
  | tup h => exact .tup (e _ _ h)
  | dic h => exact .dic (e _ _ h)
theorem NotS.no {K : PySem.W.Frag} {H : Hp} {v : V} (n : NotS K H v) : ∃ t, TyX K H v (.type t) ∧ kitB t "str" = some false := by
  cases n with
  | non => exact ⟨_, .base .non, by decide +kernel⟩
  | bl b => exact ⟨_, .base (.bl b), by decide +kernel⟩
  | int i => exact ⟨_, .base (.int i), by decide +kernel⟩
  | lst h => exact ⟨_, .base (.lst h), by decide +kernel⟩
  | tup h => exact ⟨_, .base (.tup h), by decide +kernel⟩
  | dic h => exact ⟨_, .base (.dK h), by decide +kernel⟩
section
variable {K : PySem.W.Frag} {σ : L2.St} {H H' : Hp} {ta tb te : TE} {t u : TT} {x y z v : V}
theorem ev_isiS {w : Str} (h : Ev te σ H (.str w)) : Ev (tCB (rIsi K) (tCons te (tCons (tC (.ty "str")) tNil))) σ H (.bl true) :=
  ev_cb (ea_cons h (ea_cons ev_c ea_nil)) fun H1 e Q q => ⟨.str w, .ty "str", _, _, true, rfl, .ty _, .base (.str w), kit_ty (by decide +kernel), q H1 (Ex.refl H1)⟩
theorem ev_isiN (h : Ev te σ H v) (n : NotS K H v) : Ev (tCB (rIsi K) (tCons te (tCons (tC (.ty "str")) tNil))) σ H (.bl false) :=
  ev_cb (ea_cons h (ea_cons ev_c ea_nil)) fun H1 e Q q => by
    obtain ⟨t, h1, h2⟩ := (n.ex e).no
    exact ⟨v, .ty "str", _, _, false, rfl, .ty _, h1, kit_ty h2, q H1 (Ex.refl H1)⟩
/-! ### comprehensions over a text's signs -/
theorem lc_signs {x : Str} {g : TG} {tt : TT} {te : TE} {vs : List Nat} {σ : L2.St} {H1 : Hp} {D : Addr} {Qd : Hp → Prop} (Pv : Nat → Hp → Prop) (h0 : Pv 0 (upd H1 D (.lst [])))
    (hs : ∀ i c H, (tl x)[i]? = some c → Pv i H → g (.str ⟨#[c]⟩) (wipe σ vs) H fun σ2 H2 => wipe σ2 vs = wipe σ vs ∧ tt σ2 H2 fun b H3 =>
      if b = true then te σ2 H3 fun y H4 => ∃ acc, H4 D = some (.lst acc) ∧ acc.length < sizeLine ∧ Pv (i + 1) (upd H4 D (.lst (acc ++ [y]))) else Pv (i + 1) H3) (hd : ∀ H, Pv (tl x).length H → Qd H) :
    ∃ W : Nat → Nat → Hp → Prop, (∃ m, W 0 m (upd H1 D (.lst []))) ∧ ∀ i m H, W i m H →
      ((Its x).stop i H ∧ Qd H) ∨ ((Its x).go i H ∧ ∃ Nx : Hp → Prop, (∀ H', Nx H' → ∃ m', m' < m ∧ W (i + 1) m' H') ∧ ∀ v H', (Its x).yld i H v H' → g v (wipe σ vs) H' fun σ2 H2 => wipe σ2 vs = wipe σ vs ∧ tt σ2 H2 fun b H3 =>
        if b = true then te σ2 H3 fun y H4 => ∃ acc, H4 D = some (.lst acc) ∧ acc.length < sizeLine ∧ Nx (upd H4 D (.lst (acc ++ [y]))) else Nx H3) := by
  have en : x.cps.size = (tl x).length := by simp [tl]
  refine ⟨fun i m H => m + i = (tl x).length ∧ Pv i H, ⟨(tl x).length, rfl, h0⟩, ?_⟩
  intro i m H hw
  obtain ⟨hm, p⟩ := hw
  cases m with
  | zero =>
    have ei : i = (tl x).length := by omega
    refine Or.inl ⟨?_, ?_⟩
    · show x.cps.size ≤ i
      omega
    · rw [ei] at p
      exact hd H p
  | succ m =>
    refine Or.inr ⟨?_, Pv (i + 1), fun H' p' => ⟨m, Nat.lt_succ_self m, by omega, p'⟩, fun v H' yv => ?_⟩
    · show i < x.cps.size
      omega
    · obtain ⟨rfl, c, hc, rfl⟩ := yv
      exact hs i c _ (by rw [← hc]; exact Array.getElem?_toList) p
theorem el_lcS {te0 : TE} {z : Str} {j : Nat} {vs : List Nat} (f : Nat → Bool) (v : Nat → V) (h : Ev te0 σ H (.str z)) (hz : z.length ≤ 40000) (hw : ∀ x, wipe ((wipe σ vs).set j (some x)) vs = wipe σ vs)
    (ht : ∀ (i c : Nat) H1, Ex H H1 → (tl z)[i]? = some c → EvT t ((wipe σ vs).set j (some (.str ⟨#[c]⟩))) H1 (f i)) (he : ∀ (i c : Nat) H1, Ex H H1 → (tl z)[i]? = some c → f i = true → Ev te ((wipe σ vs).set j (some (.str ⟨#[c]⟩))) H1 (v i)) :
    EvL (tLc (iStr te0) (gName j) t te vs) σ H (given (tl z).length f v) := fun H0 e Q q => h H0 e _ fun H1 e1 => ⟨z, rfl, fun Dl hD =>
  lc_signs (x := z) (Cw H1 f v Dl) ⟨hD, Ex.new hD, upd_same⟩ (fun i c H' hi p => ⟨hw _, cw_turn p (by have := (List.getElem?_eq_some_iff.mp hi).1; have e2 := len_tl z; omega) (ht i c H1 (e.trans e1) hi) (fun hf => he i c H1 (e.trans e1) hi hf)⟩)
    (fun H' p => q Dl H' (fresh_back e1 p.1) (e1.trans p.2.1) p.2.2)⟩
/-- how many signs a comprehension keeps -/
theorem given_count (l : List Nat) (p : Nat → Bool) (f : Nat → Bool) (v : Nat → V) (hf : ∀ i c, l[i]? = some c → f i = p c) : (given l.length f v).length = (l.filter p).length := by
  unfold given
  rw [List.length_map]
  have key : ∀ n, n ≤ l.length → ((List.range n).filter f).length = ((l.take n).filter p).length := by
    intro n
    induction n with
    | zero => intro _; rfl
    | succ n ih =>
      intro hn
      have hn' : n < l.length := by omega
      rw [List.range_succ, List.filter_append, List.length_append, ih (by omega), List.take_add_one, List.filter_append, List.length_append]
      rw [List.getElem?_eq_getElem hn']
      have e := hf n l[n] (List.getElem?_eq_getElem hn')
      rw [Option.toList_some, List.filter_cons, List.filter_cons, e]
      cases p l[n] <;> rfl
  have h := key l.length (Nat.le_refl _)
  rw [List.take_length] at h
  exact h
theorem filter_all (l : List Nat) (p : Nat → Bool) : (l.filter p).length = l.length ↔ ∀ c ∈ l, p c = true := List.length_filter_eq_length_iff

/-! ### parts -/
def rParts : V → List V → Hp → VK → Prop := fun x xs H Q => ∃ a b, x = .str a ∧ xs = [.str b] ∧ (b.length == 0) = false ∧ a.length ≤ sizeLine ∧
    ∀ p, H p = none → Q (.ref p) (upd H p (.tup [.str (Txt.partition a b).1, .str (Txt.partition a b).2.1, .str (Txt.partition a b).2.2]))
theorem eu_partition {a b : Str} (h : Ev ta σ H (.str a)) (h2 : Ev tb σ H (.str b)) (hb : (b.length == 0) = false) (ha : a.length ≤ 100000) :
    EvU (tM1 rParts ta tb) σ H [.str (Txt.partition a b).1, .str (Txt.partition a b).2.1, .str (Txt.partition a b).2.2] := fun H1 e Q q =>
  h H1 e _ fun H2 e2 => ⟨⟨a, rfl⟩, h2 H2 (e.trans e2) _ fun H3 e3 => ⟨a, b, rfl, rfl, hb, sz_of ha, fun p hp => q p _ (fresh_back (e2.trans e3) hp) ((e2.trans e3).trans (Ex.new hp)) upd_same⟩⟩
def rSplit : V → List V → Hp → VK → Prop := fun x xs H Q => ∃ a b, x = .str a ∧ xs = [.str b] ∧ (b.length == 0) = false ∧ a.length + 2 ≤ sizeLine ∧ rNewStrs (Txt.split a b) H Q
theorem el_split {a b : Str} (h : Ev ta σ H (.str a)) (h2 : Ev tb σ H (.str b)) (hb : (b.length == 0) = false) (ha : a.length ≤ 90000) :
    EvL (tM1 rSplit ta tb) σ H ((Txt.split a b).map V.str) := fun H1 e Q q =>
  h H1 e _ fun H2 e2 => ⟨⟨a, rfl⟩, h2 H2 (e.trans e2) _ fun H3 e3 => ⟨a, b, rfl, rfl, hb, sz_of (by omega), fun p hp => q p _ (fresh_back (e2.trans e3) hp) ((e2.trans e3).trans (Ex.new hp)) upd_same⟩⟩
def rStarts : V → List V → Hp → VK → Prop := fun x xs H Q => ∃ a b, x = .str a ∧ xs = [.str b] ∧ Q (.bl (Txt.startswith a b)) H
theorem ev_starts {a b : Str} (h : Ev ta σ H (.str a)) (h2 : Ev tb σ H (.str b)) : Ev (tM1 rStarts ta tb) σ H (.bl (Txt.startswith a b)) := fun H1 e Q q =>
  h H1 e _ fun H2 e2 => ⟨⟨a, rfl⟩, h2 H2 (e.trans e2) _ fun H3 e3 => ⟨a, b, rfl, rfl, q H3 (e2.trans e3)⟩⟩
theorem ev_allL {bs : List Bool} (h : EvL te σ H (bs.map V.bl)) : Ev (tCB (rAll K) (tCons te tNil)) σ H (.bl (bs.all id)) := fun H1 e Q q =>
  h H1 e _ fun p H2 hp e2 h2 => ⟨p, bs, rfl, sq_of h2, q H2 e2⟩
/-- a, b, c = a new tuple -/
theorem q_unpack3 {D : Ends} {tz : TS} {i j k : Nat} {a b c : V} (h : EvU te σ H [a, b, c]) (kk : ∀ H1, Ex H H1 → tz D (((σ.set i (some a)).set j (some b)).set k (some c)) H1) :
    tSeq (tAsg te (gTup K 3 (gCons (gName i) (gCons (gName j) (gCons (gName k) gNil))))) tz D σ H := h H (Ex.refl H) _ fun p H1 hp e h1 =>
  ⟨p, [a, b, c], rfl, st_of h1, rfl, a, [b, c], rfl, b, [c], rfl, c, [], rfl, rfl, kk H1 e⟩
theorem spl_len (S : List Nat) : ∀ (l : List Nat) (k : Nat) (acc : List Nat), ∀ y ∈ spl S k acc l, y.length ≤ acc.length + l.length
  | [], k, acc, y, hy => by
    rw [spl_nil] at hy
    cases List.mem_singleton.mp hy
    exact Nat.le_add_right _ _
  | c :: r, 0, acc, y, hy => by
    rw [List.length_cons]
    cases q : pre S (c :: r) with
    | true =>
      rw [spl_hit q] at hy
      cases List.mem_cons.mp hy with
      | inl e => rw [e]; omega
      | inr hy =>
        have := spl_len S r _ [] y hy
        rw [List.length_nil] at this
        omega
    | false =>
      rw [spl_miss q] at hy
      have := spl_len S r 0 _ y hy
      rw [List.length_append, List.length_singleton] at this
      omega
  | c :: r, k + 1, acc, y, hy => by
    have := spl_len S r k acc y hy
    rw [List.length_cons]
    omega
theorem split_len {x y p : Str} (hy : tl y ≠ []) (hk : y.cps.all (· < 256) = true) (h : p ∈ Txt.split x y) : p.length ≤ x.length := by
  have h1 := split_spl x y hy (kind_ok hk)
  have h2 : tl p ∈ (Txt.split x y).map tl := List.mem_map_of_mem h
  rw [h1] at h2
  have h3 := spl_len _ _ _ _ _ h2
  rw [List.length_nil, Nat.zero_add] at h3
  rw [len_tl, len_tl]
  exact h3
theorem par_len (S : List Nat) : ∀ (l acc a b : List Nat), par S acc l = some (a, b) → a.length + b.length ≤ acc.length + l.length
  | [], acc, a, b, h => by cases h
  | c :: r, acc, a, b, h => by
    cases q : pre S (c :: r) with
    | true =>
      rw [par_hit q] at h
      cases h
      rw [List.length_drop]
      omega
    | false =>
      rw [par_miss q] at h
      have := par_len S r _ a b h
      rw [List.length_append, List.length_singleton] at this
      rw [List.length_cons]
      omega
theorem part_facts (x y : Str) (hy : tl y ≠ []) : (Txt.partition x y).1.length + (Txt.partition x y).2.2.length ≤ x.length ∧ ((Txt.partition x y).2.1 = Str.empty → (Txt.partition x y).1 = x) := by
  rw [partition_par x y hy]
  cases q : par (tl y) [] (tl x) with
  | none => exact ⟨by show x.length + Str.empty.length ≤ x.length; exact Nat.le_refl _, fun _ => rfl⟩
  | some ab =>
    obtain ⟨a, b⟩ := ab
    have h := par_len _ _ _ _ _ q
    rw [List.length_nil, Nat.zero_add, ← len_tl] at h
    refine ⟨?_, fun e => ?_⟩
    · show (⟨a.toArray⟩ : Str).length + (⟨b.toArray⟩ : Str).length ≤ x.length
      rw [len_tl, len_tl]
      exact h
    · have e2 : y = Str.empty := e
      exact absurd (by rw [e2]; rfl) hy
/-! ### chains, sums of lists, texts many times -/
theorem ev_chain {r r' : R2} {tc : TE} {z' : V} {a b : Bool} (ha : Ev ta σ H x) (hb : Ev tb σ H y) (hr : RV r x y H (.bl a)) (hc : a = true → Ev tc σ H z') (hr' : a = true → RV r' y z' H (.bl b)) : Ev (tChain r r' ta tb tc) σ H (.bl (a && b)) := fun H1 e Q q =>
  ha H1 e _ fun H2 e2 => hb H2 (e.trans e2) _ fun H3 e3 => hr H3 ((e.trans e2).trans e3) _ fun H4 e4 => ⟨a, rfl, by
    cases a with
    | true =>
      show tc σ H4 fun w' H5 => r' y w' H5 Q
      exact hc rfl H4 (((e.trans e2).trans e3).trans e4) _ fun H5 e5 => hr' rfl H5 ((((e.trans e2).trans e3).trans e4).trans e5) Q fun H6 e6 => q H6 ((((e2.trans e3).trans e4).trans e5).trans e6)
    | false =>
      show Q (.bl false) H4
      exact q H4 ((e2.trans e3).trans e4)⟩
theorem el_cat {xs ys : List V} (ha : EvL ta σ H xs) (hb : EvL tb σ H ys) (hz : xs.length + ys.length ≤ 100000) : EvL (tOp rCat ta tb) σ H (xs ++ ys) := fun H1 e Q q =>
  ha H1 e _ fun p H2 hp e2 h2 => hb H2 (e.trans e2) _ fun p' H3 hp' e3 h3 => ⟨p, p', xs, ys, rfl, rfl, e3 p _ h2, h3, sz_of hz, fun r hr => q r _ (fresh_back (e2.trans e3) hr) ((e2.trans e3).trans (Ex.new hr)) upd_same⟩
theorem el_cat1 {l : Addr} {xs ys : List V} (ha : Ev ta σ H (.ref l)) (hl : H l = some (.lst xs)) (hb : EvL tb σ H ys) (hz : xs.length + ys.length ≤ 100000) : EvL (tOp rCat ta tb) σ H (xs ++ ys) := fun H1 e Q q =>
  ha H1 e _ fun H2 e2 => hb H2 (e.trans e2) _ fun p' H3 hp' e3 h3 => ⟨l, p', xs, ys, rfl, rfl, ((e.trans e2).trans e3) l _ hl, h3, sz_of hz, fun r hr => q r _ (fresh_back (e2.trans e3) hr) ((e2.trans e3).trans (Ex.new hr)) upd_same⟩
theorem el_rep {xs : List V} {k : Nat} (ha : EvL ta σ H xs) (hb : Ev tb σ H (.int (k : Int))) (hz : xs.length * k ≤ 100000) (hk : k ≤ 100000) : EvL (tOp rRep ta tb) σ H (List.replicate k xs).flatten := fun H1 e Q q =>
  ha H1 e _ fun p H2 hp e2 h2 => hb H2 (e.trans e2) _ fun H3 e3 => ⟨p, (k : Int), xs, rfl, rfl, e3 p _ h2, by omega, by omega, by rw [Int.toNat_natCast]; exact sz_of hz, fun r hr => by
    rw [Int.toNat_natCast]
    exact q r _ (fresh_back (e2.trans e3) hr) ((e2.trans e3).trans (Ex.new hr)) upd_same⟩
end
section
variable {X : Cx}
/-- the script and a new list, joined -/
def rCatS (K : PySem.W.Frag) : R2 := fun x y H Q => ∃ l b ns zs, x = .ref l ∧ y = .ref b ∧ Scr K H l ns ∧ H b = some (.lst zs) ∧ ns.length + zs.length ≤ sizeLine ∧ ∀ p, H p = none → Q (.ref p) (upd H p (.lst (ns.map V.int ++ zs)))
theorem op_catS : OpR X (binaryOp .Add) (rCatS X.K) := by
  intro pins s σ H x y v u Q I rx ry h
  obtain ⟨l, b, ns, zs, rfl, rfl, hS, hB, hz, q⟩ := h
  cases rx
  cases ry
  obtain ⟨z2, its2, n2, r2, hl2, e2⟩ := I.lstM hB
  have key : ∃ (its : List Value) (n : Nat), Vals (ns.map V.int) its ∧ s.heap.get? l = some { cls := .type "list", data := .seq its.toArray n } := by
    cases hS with
    | inl h =>
      obtain ⟨_, its, n, r, e⟩ := h.ok I.hok
      exact ⟨its, n, r, e⟩
    | inr h =>
      obtain ⟨vs, h1, h2, h3⟩ := h
      exact ⟨vs, _, h3, I.kIn l _ h1⟩
  obtain ⟨its, n, r, e⟩ := key
  have hn : its.length = ns.length := by rw [← r.length, List.length_map]
  refine PySem.P.add_list e e2 ?_ (by rw [List.size_toArray, List.size_toArray]; omega)
  have ea : its.toArray ++ its2.toArray = (its ++ its2).toArray := by simp
  rw [ea]
  exact ⟨.ref _, _, I.lnew (t' := s.toks) (r.append r2) (by rw [List.length_append, List.length_map]; omega), rfl, q _ I.fresh⟩
/-- a text so many times -/
def rMulS : R2 := fun x y H Q => ∃ z k, x = .str z ∧ y = .int k ∧ MulOk z k ∧ Q (.str (Txt.mul z k)) H
theorem op_mulS : OpR X (binaryOp .Mult) rMulS := by
  intro pins s σ H x y v u Q I rx ry h
  obtain ⟨z, k, rfl, rfl, hz, q⟩ := h
  obtain ⟨t, rfl⟩ := rx
  obtain ⟨t', rfl⟩ := ry
  exact PySem.SB.mul hz fun t2 k2 => ⟨.str (Txt.mul z k), H, I.tok _, ⟨_, rfl⟩, q⟩
end
section
variable {K : PySem.W.Frag} {σ : L2.St} {H : Hp} {ta tb : TE}
theorem rv_mulS {z : Str} {k : Int} (h : MulOk z k) : RV rMulS (.str z) (.int k) H (.str (Txt.mul z k)) := fun H1 _ Q q => ⟨z, k, rfl, rfl, h, q H1 (Ex.refl H1)⟩
theorem Scr.ex {H1 : Hp} {a : Addr} {ns : List Int} (h : Scr K H a ns) (e : Ex H H1) : Scr K H1 a ns := by
  cases h with
  | inl h => exact Or.inl (ex_rd e h)
  | inr h => exact Or.inr h
theorem el_catS {l : Addr} {ns : List Int} {ys : List V} (ha : Ev ta σ H (.ref l)) (hS : Scr K H l ns) (hb : EvL tb σ H ys) (hz : ns.length + ys.length ≤ 100000) : EvL (tOp (rCatS K) ta tb) σ H (ns.map V.int ++ ys) := fun H1 e Q q =>
  ha H1 e _ fun H2 e2 => hb H2 (e.trans e2) _ fun p' H3 hp' e3 h3 => ⟨l, p', ns, ys, rfl, rfl, hS.ex ((e.trans e2).trans e3), h3, sz_of hz, fun r hr => q r _ (fresh_back (e2.trans e3) hr) ((e2.trans e3).trans (Ex.new hr)) upd_same⟩
end
end Gd

set_option maxHeartbeats 4000000
namespace Gd
open PySem PySem.Spec PyProof.Rows L2 Evl TL
/-! ### list(a text) -/
section
variable {X : Cx}
def signV (c : Nat) : V := .str ⟨#[c]⟩
def rSigns : List V → Hp → VK → Prop := fun xs H Q => ∃ z, xs = [.str z] ∧ z.length ≤ sizeLine ∧ ∀ l, H l = none → Q (.ref l) (upd H l (.lst ((tl z).map signV)))
theorem vals_signs : ∀ {l : List Value} {m : List Nat}, l.length = m.length → (∀ (i : Nat) (v : Value), l[i]? = some v → ∃ (c : Nat) (t : Tok), m[i]? = some c ∧ v = Value.str ⟨#[c]⟩ t) → Vals (m.map signV) l
  | [], [], _, _ => .nil
  | v :: l, c :: m, hl, h => by
    obtain ⟨c', t, h1, h2⟩ := h 0 v rfl
    cases h1
    exact .cons ⟨t, h2⟩ (vals_signs (by simpa using hl) fun i v hv => h (i + 1) v hv)
  | [], _ :: _, hl, _ => by simp at hl
  | _ :: _, [], hl, _ => by simp at hl
theorem call_list_signs (hc : X.calm = true) : CallR X (.type "list") rSigns := by
  intro pins s σ H xs us Q I r h
  obtain ⟨z, rfl, hz, q⟩ := h
  obtain ⟨u, rfl, t, rfl⟩ := vals1 r
  have e0 : z.cps.size = (tl z).length := by simp [tl]
  refine PySem.call_list_str (I.ok.hd hc) z t (fun h' tk acc c keep hS hi => ?_) (by rw [e0, ← len_tl]; exact hz)
  have hv : Vals ((tl z).map signV) acc.toList := by
    refine vals_signs (by rw [← e0, Array.length_toList]; exact hi.1) fun i v hv => ?_
    obtain ⟨c, t, h1, h2⟩ := hi.2 i v (by rw [← hv]; exact Array.getElem?_toList.symm)
    exact ⟨c, t, by rw [← h1]; exact Array.getElem?_toList, h2⟩
  refine ⟨.ref _, _, I.laid (o := .lst ((tl z).map signV)) keep (Nat.le_refl _) ⟨by rw [List.length_map, ← len_tl]; exact hz, acc.toList, c, hv, by simpa using hS⟩, rfl, q _ I.fresh⟩
end
theorem el_signs {σ : L2.St} {H : Hp} {te : TE} {z : Str} (h : Ev te σ H (.str z)) (hz : z.length ≤ 100000) : EvL (tCB rSigns (tCons te tNil)) σ H ((tl z).map signV) :=
  el_cb (ea_cons h ea_nil) fun H1 e Q q => ⟨z, rfl, sz_of hz, fun l hl => q l _ hl (Ex.new hl) upd_same⟩
/-- int(n) of an int -/
def rInt1 : List V → Hp → VK → Prop := fun xs H Q => (∃ i, xs = [.int i] ∧ Q (.int i) H) ∨ ∃ k, xs = [.bl k] ∧ Q (.int (if k then 1 else 0)) H
theorem ev_int1 {σ : L2.St} {H : Hp} {te : TE} {i : Int} (h : Ev te σ H (.int i)) : Ev (tCB rInt1 (tCons te tNil)) σ H (.int i) :=
  ev_cb (ea_cons h ea_nil) fun H1 e Q q => Or.inl ⟨i, rfl, q H1 (Ex.refl H1)⟩

/-! ### a stream of draws: the list of three ints at p -/
def Sx (p : Addr) (b : Int) (H : Hp) : Prop := ∃ a c : Int, H p = some (.lst [.int a, .int b, .int c])
/-- a heap without what stands at p -/
def wo (p : Addr) (H : Hp) : Hp := fun a => if a = p then none else H a
theorem wo_at {p : Addr} {H : Hp} : wo p H p = none := if_pos rfl
theorem wo_ne {p a : Addr} {H : Hp} (h : a ≠ p) : wo p H a = H a := if_neg h
theorem wo_ex {p : Addr} {H : Hp} : Ex (wo p H) H := fun a o h => by
  by_cases e : a = p
  · rw [e, wo_at] at h
    cases h
  · rw [wo_ne e] at h
    exact h
theorem wo_mono {p : Addr} {H H' : Hp} (e : Ex H H') : Ex (wo p H) (wo p H') := fun a o h => by
  by_cases q : a = p
  · rw [q, wo_at] at h
    cases h
  · rw [wo_ne q] at h ⊢
    exact e a o h
theorem wo_upd {p : Addr} {H : Hp} {o : HO} : Ex (wo p H) (upd H p o) := fun a u h => by
  by_cases q : a = p
  · rw [q, wo_at] at h
    cases h
  · rw [wo_ne q] at h
    rw [upd_ne q]
    exact h
theorem wo_trans {p : Addr} {H H1 H2 : Hp} (e : Ex (wo p H) H1) (e2 : Ex (wo p H1) H2) : Ex (wo p H) H2 := fun a u h => by
  by_cases q : a = p
  · rw [q, wo_at] at h
    cases h
  · exact e2 a u (by rw [wo_ne q]; exact e a u h)
theorem wo_go {p : Addr} {G H1 H2 : Hp} (hg : G p = none) (e : Ex G H1) (e2 : Ex (wo p H1) H2) : Ex G H2 := fun a u h => by
  have q : a ≠ p := ne_of_none h hg
  exact e2 a u (by rw [wo_ne q]; exact e a u h)
theorem sq_wo {K : PySem.W.Frag} {p l : Addr} {H : Hp} {xs : List V} (np : l ≠ p) (h : SqL K H l xs) : SqL K (wo p H) l xs := by
  rcases h with (h | ⟨o, h⟩) | h
  · exact Or.inl (Or.inl (by rw [wo_ne np]; exact h))
  · exact Or.inl (Or.inr ⟨o, by rw [wo_ne np]; exact h⟩)
  · exact Or.inr h
theorem Sx.ex {p : Addr} {b : Int} {H H' : Hp} (s : Sx p b H) (e : Ex H H') : Sx p b H' := by
  obtain ⟨a, c, h⟩ := s
  exact ⟨a, c, e _ _ h⟩
/-- what follows a number of draws, at most k: the value, the heap, the draws so far -/
def Cn (p : Addr) (H1 : Hp) (b : Int) (k : Nat) (R : V → Hp → Prop) (Q : VK) : Prop := ∀ v H2 b', b ≤ b' → b' ≤ b + k → Sx p b' H2 → Ex (wo p H1) H2 → R v H2 → Q v H2
/-- an expression that draws at most k times; G: what stands besides -/
def Dv (p : Addr) (te : TE) (σ : L2.St) (G : Hp) (k : Nat) (R : V → Prop) : Prop :=
  ∀ H1, Ex G H1 → ∀ b : Int, 0 ≤ b → b + k ≤ 1000000000 → Sx p b H1 → ∀ Q : VK, Cn p H1 b k (fun v _ => R v) Q → te σ H1 Q
/-- the same, a new list comes -/
def DvL (p : Addr) (te : TE) (σ : L2.St) (G : Hp) (k : Nat) (R : List V → Prop) : Prop :=
  ∀ H1, Ex G H1 → ∀ b : Int, 0 ≤ b → b + k ≤ 1000000000 → Sx p b H1 → ∀ Q : VK, Cn p H1 b k (fun v H2 => ∃ l ys, v = .ref l ∧ l ≠ p ∧ H1 l = none ∧ H2 l = some (.lst ys) ∧ R ys) Q → te σ H1 Q
def DvA (p : Addr) (ta : TA) (σ : L2.St) (G : Hp) (k : Nat) (R : List V → Prop) : Prop :=
  ∀ H1, Ex G H1 → ∀ b : Int, 0 ≤ b → b + k ≤ 1000000000 → Sx p b H1 → ∀ Q : List V → Hp → Prop, (∀ vs H2 b', b ≤ b' → b' ≤ b + k → Sx p b' H2 → Ex (wo p H1) H2 → R vs → Q vs H2) → ta σ H1 Q
section
variable {K : PySem.W.Frag} {p : Addr} {σ : L2.St} {G : Hp} {te ta tb : TE} {k j : Nat} {R : V → Prop} {v : V}
theorem dv_ev (h : Ev te σ G v) : Dv p te σ G 0 (fun x => x = v) := fun H1 e b hb hk s Q q =>
  h H1 e _ fun H2 e2 => q v H2 b (Int.le_refl _) (by omega) (s.ex e2) (fun a o z => e2 a o (wo_ex a o z)) rfl
theorem dv_imp {R' : V → Prop} (h : Dv p te σ G k R) (hi : ∀ x, R x → R' x) (hj : k ≤ j) : Dv p te σ G j R' := fun H1 e b hb hk s Q q =>
  h H1 e b hb (by omega) s Q fun v H2 b' h1 h2 h3 h4 h5 => q v H2 b' h1 (by omega) h3 h4 (hi v h5)
theorem dvl_imp {R R' : List V → Prop} (h : DvL p te σ G k R) (hi : ∀ x, R x → R' x) (hj : k ≤ j) : DvL p te σ G j R' := fun H1 e b hb hk s Q q =>
  h H1 e b hb (by omega) s Q fun v H2 b' h1 h2 h3 h4 h5 => q v H2 b' h1 (by omega) h3 h4 (by obtain ⟨l, ys, a1, a2, a3, a4, a5⟩ := h5; exact ⟨l, ys, a1, a2, a3, a4, hi ys a5⟩)
theorem dvl_ev {xs : List V} (h : EvL te σ G xs) : DvL p te σ G 0 (fun x => x = xs) := fun H1 e b hb hk s Q q =>
  h H1 e _ fun l H2 hl e2 h2 => q (.ref l) H2 b (Int.le_refl _) (by omega) (s.ex e2) (fun a o z => e2 a o (wo_ex a o z)) ⟨l, xs, rfl, by
    obtain ⟨a, c, hp⟩ := s
    exact (ne_of_none hp hl).symm, hl, h2, rfl⟩
theorem dva_nil : DvA p tNil σ G 0 (fun vs => vs = []) := fun H1 e b hb hk s Q q => q [] H1 b (Int.le_refl _) (by omega) s wo_ex rfl
theorem dva_cons {tr : TA} {Rs : List V → Prop} (hg : G p = none) (h : Dv p te σ G k R) (hr : DvA p tr σ G j Rs) : DvA p (tCons te tr) σ G (k + j) (fun vs => ∃ v r, vs = v :: r ∧ R v ∧ Rs r) := fun H1 e b hb hk s Q q =>
  h H1 e b hb (by omega) s _ fun v H2 b2 h1 h2 h3 h4 h5 => hr H2 (wo_go hg e h4) b2 (by omega) (by omega) h3 _ fun vs H3 b3 g1 g2 g3 g4 g5 =>
    q (v :: vs) H3 b3 (by omega) (by omega) g3 (wo_trans h4 g4) ⟨v, vs, rfl, h5, g5⟩
theorem dvl_lst {ta : TA} {Rs : List V → Prop} (h : DvA p ta σ G k Rs) (hl : ∀ vs, Rs vs → vs.length ≤ 100000) : DvL p (tLst ta) σ G k Rs := fun H1 e b hb hk s Q q =>
  h H1 e b hb hk s _ fun vs H2 b2 h1 h2 h3 h4 h5 => ⟨sz_of (hl vs h5), fun l nl => by
    obtain ⟨a, c, hp⟩ := h3
    have np : l ≠ p := (ne_of_none hp nl).symm
    have hl1 : H1 l = none := by
      cases z : H1 l with
      | none => rfl
      | some o =>
        rw [h4 l o (by rw [wo_ne np]; exact z)] at nl
        cases nl
    exact q (.ref l) _ b2 h1 h2 ⟨a, c, by rw [upd_ne np.symm]; exact hp⟩ (fun x o z => Ex.new nl x o (h4 x o z)) ⟨l, vs, rfl, np, hl1, upd_same, h5⟩⟩
/-- two operands, the result a value by r -/
theorem dv_op {r : R2} {Ra Rb Rz : V → Prop} (hg : G p = none) (ha : Dv p ta σ G k Ra) (hb : Dv p tb σ G j Rb) (hr : ∀ x y, Ra x → Rb y → ∃ z, (∀ H : Hp, RV r x y H z) ∧ Rz z) : Dv p (tOp r ta tb) σ G (k + j) Rz := fun H1 e b hb0 hk s Q q =>
  ha H1 e b hb0 (by omega) s _ fun x H2 b2 h1 h2 h3 h4 h5 => hb H2 (wo_go hg e h4) b2 (by omega) (by omega) h3 _ fun y H3 b3 g1 g2 g3 g4 g5 => by
    obtain ⟨z, hz, rz⟩ := hr x y h5 g5
    exact hz H3 H3 (Ex.refl H3) Q fun H4 e4 => q z H4 b3 (by omega) (by omega) (g3.ex e4) (fun a o w => e4 a o (wo_trans h4 g4 a o w)) rz
/-! ### the statements over draws -/
variable {D : Ends} {tz : TS} {H : Hp} {b : Int}
theorem q_dv {i : Nat} (h : Dv p te σ G k R) (hg : G p = none) (e : Ex G H) (hb : 0 ≤ b) (hk : b + k ≤ 1000000000) (s : Sx p b H)
    (kk : ∀ v H2 b', b ≤ b' → b' ≤ b + k → Sx p b' H2 → Ex G H2 → R v → tz D (σ.set i (some v)) H2) : tSeq (tAsg te (gName i)) tz D σ H :=
  h H e b hb hk s _ fun v H2 b' h1 h2 h3 h4 h5 => kk v H2 b' h1 h2 h3 (wo_go hg e h4) h5
theorem s_dv {i : Nat} (h : Dv p te σ G k R) (hg : G p = none) (e : Ex G H) (hb : 0 ≤ b) (hk : b + k ≤ 1000000000) (s : Sx p b H)
    (kk : ∀ v H2 b', b ≤ b' → b' ≤ b + k → Sx p b' H2 → Ex G H2 → R v → D.nx (σ.set i (some v)) H2) : tAsg te (gName i) D σ H :=
  h H e b hb hk s _ fun v H2 b' h1 h2 h3 h4 h5 => kk v H2 b' h1 h2 h3 (wo_go hg e h4) h5
theorem s_dvRet (h : Dv p te σ G k R) (hg : G p = none) (e : Ex G H) (hb : 0 ≤ b) (hk : b + k ≤ 1000000000) (s : Sx p b H)
    (kk : ∀ v H2 b', b ≤ b' → b' ≤ b + k → Sx p b' H2 → Ex G H2 → R v → D.rt v H2) : tRet te D σ H :=
  h H e b hb hk s _ fun v H2 b' h1 h2 h3 h4 h5 => kk v H2 b' h1 h2 h3 (wo_go hg e h4) h5
/-! ### the promises of the law's draws -/
def mixed (n k : Int) : Int := (((n % 2147483647 + 7919 * k * k + 31 * k) * 48271) % 2147483647 * (69621 + 2 * k)) % 2147483629
theorem mixed_range (n k : Int) : 0 ≤ mixed n k ∧ mixed n k < 2147483629 := ⟨Int.emod_nonneg _ (by decide), Int.emod_lt_of_pos _ (by decide)⟩
def spMixed : Sp := fun vs H Q _ => ∃ n k : Int, vs = [.int n, .int k] ∧ 0 ≤ k ∧ k ≤ 2000000000 ∧ RetV (.int (mixed n k)) H Q
theorem is_mixed {n k : Int} (h0 : 0 ≤ k) (h1 : k ≤ 2000000000) : SpIs spMixed [.int n, .int k] H (.int (mixed n k)) := fun H1 _ Q q E => ⟨n, k, rfl, h0, h1, fun H2 e => q H2 e⟩
def spStream : Sp := fun vs H Q _ => ∃ n k : Int, vs = [.int n, .int k] ∧ 0 ≤ k ∧ k ≤ 2000000000 ∧ ∀ p H2, H p = none → Ex H H2 → Sx p 0 H2 → Q (.ref p) H2
def spDraw : Sp := fun vs H Q _ => ∃ (p : Addr) (b top : Int), vs = [.ref p, .int top] ∧ 0 ≤ b ∧ b + 1 ≤ 1000000000 ∧ Sx p b H ∧ 0 < top ∧ top ≤ 1000000 ∧
  ∀ (n : Int) H2, 0 ≤ n → n < top → Sx p (b + 1) H2 → Ex (wo p H) H2 → Q (.int n) H2
def spPick (K : PySem.W.Frag) : Sp := fun vs H Q _ => ∃ (p l : Addr) (b : Int) (xs : List V), vs = [.ref p, .ref l] ∧ 0 ≤ b ∧ b + 1 ≤ 1000000000 ∧ Sx p b H ∧ l ≠ p ∧ SqL K H l xs ∧ 0 < xs.length ∧ xs.length ≤ 100000 ∧
  ∀ v H2 b', v ∈ xs → b ≤ b' → b' ≤ b + 1 → Sx p b' H2 → Ex (wo p H) H2 → Q v H2
def InR (lo hi : Int) (v : V) : Prop := ∃ n : Int, v = .int n ∧ lo ≤ n ∧ n < hi
def IsS (n : Nat) (v : V) : Prop := ∃ z, v = .str z ∧ z.length ≤ n
/-- draw(stream, top) with a known top -/
theorem dv_draw {i : Nat} {E : XK} {top : Int} (hp : σ[i]? = some (some (.ref p))) (ht : Ev te σ G (.int top)) (h0 : 0 < top) (h1 : top ≤ 1000000) :
    Dv p (tCall spDraw [] E (tCons (tVar i) (tCons te tNil))) σ G 1 (InR 0 top) := fun H1 e b hb hk s Q q =>
  ⟨.ref p, hp, ht H1 e _ fun H2 e2 => by
    refine ⟨p, b, top, rfl, hb, by omega, s.ex e2, h0, h1, fun n H3 n0 n1 s3 e3 => q (.int n) H3 (b + 1) (by omega) (by omega) s3 (fun a o z => e3 a o (wo_mono e2 a o z)) ⟨n, rfl, n0, n1⟩⟩⟩
theorem dv_pick {i : Nat} {E : XK} {Rs : List V → Prop} (hg : G p = none) (hp : σ[i]? = some (some (.ref p))) (h : DvL p te σ G k Rs) (hn : ∀ ys, Rs ys → 0 < ys.length ∧ ys.length ≤ 100000) :
    Dv p (tCall (spPick K) [] E (tCons (tVar i) (tCons te tNil))) σ G (k + 1) (fun v => ∃ ys, Rs ys ∧ v ∈ ys) := fun H1 e b hb hk s Q q =>
  ⟨.ref p, hp, h H1 e b hb (by omega) s _ fun v H2 b2 h1 h2 h3 h4 h5 => by
    obtain ⟨l, ys, rfl, np, nl, hl, ry⟩ := h5
    refine ⟨p, l, b2, ys, rfl, by omega, by omega, h3, np, sq_of hl, (hn ys ry).1, (hn ys ry).2, fun v H3 b3 hv g1 g2 s3 e3 => q v H3 b3 (by omega) (by omega) s3 (wo_trans h4 e3) ⟨ys, ry, hv⟩⟩⟩
theorem dv_pickV {i : Nat} {E : XK} {l : Addr} {ys : List V} (hp : σ[i]? = some (some (.ref p))) (h : Ev te σ G (.ref l)) (np : l ≠ p) (hl : SqL K G l ys) (h0 : 0 < ys.length) (h1 : ys.length ≤ 100000) :
    Dv p (tCall (spPick K) [] E (tCons (tVar i) (tCons te tNil))) σ G 1 (fun v => v ∈ ys) := fun H1 e b hb hk s Q q =>
  ⟨.ref p, hp, h H1 e _ fun H2 e2 => by
    refine ⟨p, l, b, ys, rfl, hb, by omega, s.ex e2, np, ex_l (e.trans e2) hl, h0, h1, fun v H3 b3 hv g1 g2 s3 e3 => q v H3 b3 (by omega) (by omega) s3 (fun a o z => e3 a o (wo_mono e2 a o z)) hv⟩⟩
theorem t_dv {b : Int} {H : Hp} {Q : Bool → Hp → Prop} (h : Dv p te σ G k R) (hR : ∀ v, R v → ∃ c, v = V.bl c) (hg : G p = none) (e : Ex G H) (hb : 0 ≤ b) (hk : b + k ≤ 1000000000) (s : Sx p b H)
    (kk : ∀ c H2 b', b ≤ b' → b' ≤ b + k → Sx p b' H2 → Ex G H2 → Q c H2) : tTest te σ H Q :=
  h H e b hb hk s _ fun v H2 b' h1 h2 h3 h4 h5 => by
    obtain ⟨c, rfl⟩ := hR v h5
    exact ⟨c, rfl, kk c H2 b' h1 h2 h3 (wo_go hg e h4)⟩
theorem t_ev {t : TT} {b : Int} {H : Hp} {c : Bool} {Q : Bool → Hp → Prop} (h : EvT t σ G c) (e : Ex G H) (s : Sx p b H) (kk : ∀ H2, Sx p b H2 → Ex G H2 → Q c H2) : t σ H Q :=
  h H e Q fun H2 e2 => kk H2 (s.ex e2) (e.trans e2)
/-- draws: a comparison with a written number -/
theorem dv_cmp {f : Int → Int → Bool} {top m : Int} {ta : TE} {i : Nat} {E : XK} (hg : G p = none) (hp : σ[i]? = some (some (.ref p))) (ht : Ev ta σ G (.int top)) (h0 : 0 < top) (h1 : top ≤ 1000000) :
    Dv p (tOp (rI0 fun a b => .bl (f a b)) (tCall spDraw [] E (tCons (tVar i) (tCons ta tNil))) (tC (.int m))) σ G 1 (fun v => ∃ c, v = V.bl c) :=
  dv_imp (dv_op (Rz := fun v => ∃ c, v = V.bl c) hg (dv_draw hp ht h0 h1) (dv_ev ev_c) fun x y hx hy => by
    obtain ⟨n, rfl, _⟩ := hx
    cases hy
    exact ⟨_, fun H => rv_I0, _, rfl⟩) (fun _ h => h) (by omega)
theorem dv_eqZ {top m : Int} {ta : TE} {i : Nat} {E : XK} (hg : G p = none) (hp : σ[i]? = some (some (.ref p))) (ht : Ev ta σ G (.int top)) (h0 : 0 < top) (h1 : top ≤ 1000000) :
    Dv p (tOp rEq (tCall spDraw [] E (tCons (tVar i) (tCons ta tNil))) (tC (.int m))) σ G 1 (fun v => ∃ c, v = V.bl c) :=
  dv_imp (dv_op (Rz := fun v => ∃ c, v = V.bl c) hg (dv_draw hp ht h0 h1) (dv_ev ev_c) fun x y hx hy => by
    obtain ⟨n, rfl, _⟩ := hx
    cases hy
    exact ⟨_, fun H => rv_eq rfl, _, rfl⟩) (fun _ h => h) (by omega)
theorem dv_str {z : Str} {m : Nat} (h : Ev te σ G (.str z)) (hz : z.length ≤ m) : Dv p te σ G 0 (IsS m) := dv_imp (dv_ev h) (fun x e => ⟨z, e, hz⟩) (Nat.le_refl _)
theorem dv_addS {m n : Nat} (hg : G p = none) (ha : Dv p ta σ G k (IsS m)) (hb : Dv p tb σ G j (IsS n)) (hz : m + n ≤ 100000) : Dv p (tOp rAddS ta tb) σ G (k + j) (IsS (m + n)) :=
  dv_op hg ha hb fun x y hx hy => by
    obtain ⟨a, rfl, h1⟩ := hx
    obtain ⟨b, rfl, h2⟩ := hy
    exact ⟨_, fun H => rv_addS (by omega), _, rfl, by rw [Str.length_append]; omega⟩
/-! ### comprehensions that draw; joins -/
theorem dvl_lcR {tc : TA} {jj : Nat} {vs : List Nat} {n : Nat} (hg : G p = none) (h : EvA tc σ G [.int (n : Int)]) (hn : n ≤ 1000) (hw : ∀ x, wipe ((wipe σ vs).set jj (some x)) vs = wipe σ vs)
    (he : ∀ i : Nat, i < n → Dv p te ((wipe σ vs).set jj (some (.int (i : Int)))) G k R) : DvL p (tLc (iRng1 tc) (gName jj) tYes te vs) σ G (n * k) (fun ys => ys.length = n ∧ ∀ y ∈ ys, R y) := fun H1 e b hb hk s Q q =>
  h H1 e _ fun H2 e2 => ⟨(n : Int), rfl, by omega, by omega, fun Dl hD => by
    have np : Dl ≠ p := by
      obtain ⟨a, c, hp⟩ := s.ex e2
      exact (ne_of_none hp hD).symm
    refine lc_range (lo := 0) (n := ((n : Int)).toNat) (fun i H3 => ∃ (b3 : Int) (acc : List V), b ≤ b3 ∧ b3 ≤ b + (i * k : Nat) ∧ Sx p b3 H3 ∧ Ex (wo p H2) H3 ∧ H3 Dl = some (.lst acc) ∧ acc.length = i ∧ ∀ y ∈ acc, R y)
      ⟨b, [], Int.le_refl _, by omega, ?_, fun a o z => Ex.new hD a o (wo_ex a o z), upd_same, rfl, fun y hy => by cases hy⟩ ?_ ?_
    · obtain ⟨a, c, hp⟩ := s.ex e2
      exact ⟨a, c, by rw [upd_ne np.symm]; exact hp⟩
    · rintro i H3 hi ⟨b3, acc, h1, h2, h3, h4, h5, h6, h7⟩
      have hi' : i < n := by omega
      have e0 : (0 : Int) + (i : Int) = (i : Int) := Int.zero_add _
      have hkk : (i + 1) * k ≤ n * k := Nat.mul_le_mul_right k hi'
      have hk1 : (i + 1) * k = i * k + k := by rw [Nat.add_mul, Nat.one_mul]
      show wipe ((wipe σ vs).set jj (some (.int ((0 : Int) + (i : Int))))) vs = wipe σ vs ∧ _
      rw [e0]
      refine ⟨hw _, ?_⟩
      show te ((wipe σ vs).set jj (some (.int (i : Int)))) H3 _
      refine he i hi' H3 (fun a o z => h4 a o (by rw [wo_ne (ne_of_none z hg)]; exact (e.trans e2) a o z)) b3 (by omega) (by omega) h3 _ fun v H4 b4 g1 g2 g3 g4 g5 => ?_
      have h5' : H4 Dl = some (.lst acc) := g4 _ _ (by rw [wo_ne np]; exact h5)
      refine ⟨acc, h5', sz_lt (by omega), b4, acc ++ [v], by omega, by omega, ?_, ?_, upd_same, by rw [List.length_append, h6]; rfl, fun y hy => ?_⟩
      · obtain ⟨a, c, hp⟩ := g3
        exact ⟨a, c, by rw [upd_ne np.symm]; exact hp⟩
      · exact fun a o z => by
          have na : a ≠ Dl := by
            intro q2
            rw [q2, wo_ne np, hD] at z
            cases z
          rw [upd_ne na]
          exact wo_trans h4 g4 a o z
      · cases List.mem_append.mp hy with
        | inl hy => exact h7 y hy
        | inr hy => rw [List.mem_singleton.mp hy]; exact g5
    · rintro H3 ⟨b3, acc, h1, h2, h3, h4, h5, h6, h7⟩
      have en : ((n : Int)).toNat = n := Int.toNat_natCast n
      rw [en] at h2 h6
      have hl1 : H1 Dl = none := fresh_back e2 hD
      exact q (.ref Dl) H3 b3 h1 h2 h3 (fun a o z => h4 a o (wo_mono e2 a o z)) ⟨Dl, acc, rfl, np, hl1, h5, h6, h7⟩⟩
/-- the same over range(n), n itself drawn, below m -/
theorem dvl_lcRD {td : TE} {jj : Nat} {vs : List Nat} {m k0 : Nat} (hg : G p = none) (h : Dv p td σ G k0 (InR 1 m)) (hn : m ≤ 1000) (hw : ∀ x, wipe ((wipe σ vs).set jj (some x)) vs = wipe σ vs)
    (he : ∀ i : Nat, i < m → Dv p te ((wipe σ vs).set jj (some (.int (i : Int)))) G k R) : DvL p (tLc (iRng1 (tCons td tNil)) (gName jj) tYes te vs) σ G (k0 + m * k) (fun ys => 0 < ys.length ∧ ys.length < m ∧ ∀ y ∈ ys, R y) := fun H1 e b hb hk s Q q =>
  h H1 e b hb (by omega) s _ fun v H2 b2 h1 h2 h3 h4 h5 => by
    obtain ⟨n0, rfl, n1, n2⟩ := h5
    obtain ⟨n, rfl⟩ : ∃ n : Nat, n0 = (n : Int) := ⟨n0.toNat, by omega⟩
    have hkk : n * k ≤ m * k := Nat.mul_le_mul_right k (by omega)
    have e2 : Ex (wo p H1) H2 := h4
    refine dvl_lcR (G := wo p H2) (σ := σ) (n := n) (k := k) (R := R) (te := te) (jj := jj) (vs := vs) (tc := tCons (tC (.int (n : Int))) tNil) wo_at (ea_cons ev_c ea_nil) (by omega) hw (fun i hi H3 e3 => he i (by omega) H3 (fun a o z => e3 a o (by
      have q2 : a ≠ p := ne_of_none z hg
      rw [wo_ne q2]
      exact h4 a o (by rw [wo_ne q2]; exact e a o z)))) H2 wo_ex b2 (by omega) (by omega) h3 Q fun v3 H3 b3 g1 g2 g3 g4 g5 => ?_
    obtain ⟨l, ys, rfl, np, nl, hl, hn3, hy⟩ := g5
    refine q (.ref l) H3 b3 (by omega) (by omega) g3 (wo_trans h4 g4) ⟨l, ys, rfl, np, ?_, hl, by omega, by omega, hy⟩
    cases z : H1 l with
    | none => rfl
    | some o =>
      rw [h4 l o (by rw [wo_ne np]; exact z)] at nl
      cases nl
theorem q_dvL {D : Ends} {tz : TS} {H : Hp} {b : Int} {i : Nat} {Rs : List V → Prop} (h : DvL p te σ G k Rs) (hg : G p = none) (e : Ex G H) (hb : 0 ≤ b) (hk : b + k ≤ 1000000000) (s : Sx p b H)
    (kk : ∀ l ys H2 b', b ≤ b' → b' ≤ b + k → Sx p b' H2 → Ex G H2 → l ≠ p → H2 l = some (.lst ys) → Rs ys → tz D (σ.set i (some (.ref l))) H2) : tSeq (tAsg te (gName i)) tz D σ H :=
  h H e b hb hk s _ fun v H2 b' h1 h2 h3 h4 h5 => by
    obtain ⟨l, ys, rfl, np, nl, hl, ry⟩ := h5
    exact kk l ys H2 b' h1 h2 h3 (wo_go hg e h4) np hl ry
/-! ### lists of things that are no texts -/
def EvN (K : PySem.W.Frag) (te : TE) (σ : L2.St) (H : Hp) : Prop := ∀ H1, Ex H H1 → ∀ Q : VK, (∀ v H2, Ex H1 H2 → NotS K H2 v → Q v H2) → te σ H1 Q
def EvAN (K : PySem.W.Frag) (ta : TA) (σ : L2.St) (H : Hp) (n : Nat) : Prop := ∀ H1, Ex H H1 → ∀ Q : List V → Hp → Prop, (∀ vs H2, Ex H1 H2 → vs.length = n → (∀ v ∈ vs, NotS K H2 v) → Q vs H2) → ta σ H1 Q
theorem en_ev {H : Hp} (h : Ev te σ H v) (n : ∀ H1 : Hp, NotS K H1 v) : EvN K te σ H := fun H1 e Q q => h H1 e Q fun H2 e2 => q v H2 e2 (n H2)
theorem en_tup {H : Hp} {xs : List V} (h : EvU te σ H xs) : EvN K te σ H := fun H1 e Q q => h H1 e Q fun a H2 ha e2 h2 => q _ H2 e2 (.tup h2)
theorem en_lst {H : Hp} {xs : List V} (h : EvL te σ H xs) : EvN K te σ H := fun H1 e Q q => h H1 e Q fun a H2 ha e2 h2 => q _ H2 e2 (.lst h2)
theorem ean_nil {H : Hp} : EvAN K tNil σ H 0 := fun H1 e Q q => q [] H1 (Ex.refl H1) rfl fun v hv => by cases hv
theorem ean_cons {H : Hp} {tr : TA} {n : Nat} (h : EvN K te σ H) (hr : EvAN K tr σ H n) : EvAN K (tCons te tr) σ H (n + 1) := fun H1 e Q q =>
  h H1 e _ fun v H2 e2 nv => hr H2 (e.trans e2) _ fun vs H3 e3 hl hv => q (v :: vs) H3 (e2.trans e3) (by rw [List.length_cons, hl]) fun y hy => by
    cases List.mem_cons.mp hy with
    | inl e => rw [e]; exact nv.ex e3
    | inr hy => exact hv y hy
theorem en_dict1 {H : Hp} {kx : Str} {y : V} {tk tv : TE} (hk : Ev tk σ H (.str kx)) (hv : Ev tv σ H y) : EvN K (tDisp [(tk, tv)]) σ H := fun H1 e Q q =>
  fun d hd => by
    have e1 : Ex H (upd H1 d (.dK [])) := e.trans (Ex.new hd)
    refine hk _ e1 _ fun H2 e2 => hv H2 (e1.trans e2) _ fun H3 e3 => ?_
    have hd3 : H3 d = some (.dK []) := e3 _ _ (e2 _ _ upd_same)
    refine ⟨hd3, [(Sum.inr kx, y)], rfl, by show 1 ≤ 15; decide, q (.ref d) _ (fun a o z => ?_) (.dic upd_same)⟩
    have na : a ≠ d := ne_of_none z hd
    rw [upd_ne na]
    exact e3 a o (e2 a o (by rw [upd_ne na]; exact z))
theorem NotS.wo {H H' : Hp} {b : Int} (n : NotS K H v) (e : Ex (Gd.wo p H) H') (s : Sx p b H') : NotS K H' v := by
  have at_p : ∀ {a : Addr} {o : HO}, H a = some o → a = p ∨ H' a = some o := fun {a o} h => by
    by_cases q : a = p
    · exact Or.inl q
    · exact Or.inr (e a o (by rw [wo_ne q]; exact h))
  obtain ⟨a0, c0, hp⟩ := s
  cases n with
  | non => exact .non
  | bl b => exact .bl b
  | int i => exact .int i
  | lst h => cases at_p h with | inl q => rw [q]; exact .lst hp | inr h => exact .lst h
  | tup h => cases at_p h with | inl q => rw [q]; exact .lst hp | inr h => exact .tup h
  | dic h => cases at_p h with | inl q => rw [q]; exact .lst hp | inr h => exact .dic h
def rJoin (K : PySem.W.Frag) : V → List V → Hp → VK → Prop := fun x xs H Q => ∃ a p, ∃ ys : List Str, x = .str a ∧ xs = [.ref p] ∧ (SqL K H p (ys.map V.str) ∨ SqT K H p (ys.map V.str)) ∧
      (ys.map (·.length)).sum + ys.length * a.length ≤ 16777216 ∧ Q (.str (Txt.join a ys)) H
theorem texts_of {m : Nat} : ∀ {ys : List V}, (∀ y ∈ ys, IsS m y) → ∃ zs : List Str, ys = zs.map V.str ∧ (zs.map (·.length)).sum ≤ zs.length * m ∧ zs.length = ys.length
  | [], _ => ⟨[], rfl, Nat.zero_le _, rfl⟩
  | y :: ys, h => by
    obtain ⟨z, rfl, hz⟩ := h y List.mem_cons_self
    obtain ⟨zs, e, hs, hl⟩ := texts_of fun x hx => h x (List.mem_cons_of_mem _ hx)
    refine ⟨z :: zs, by rw [e]; rfl, ?_, by rw [List.length_cons, List.length_cons, hl]⟩
    rw [List.map_cons, List.sum_cons, List.length_cons, Nat.add_mul, Nat.one_mul]
    omega
theorem join_le (a : Str) (zs : List Str) : (Txt.join a zs).length ≤ (zs.map (·.length)).sum + zs.length * a.length := by
  rw [join_eq]
  exact PySem.StrLaws.join_length_le a zs
theorem dv_join {z0 : Str} {m n : Nat} (h : DvL p te σ G k (fun ys => ys.length ≤ n ∧ ∀ y ∈ ys, IsS m y)) (hz : n * (m + z0.length) ≤ 100000) : Dv p (tM1 (rJoin K) (tC (.str z0)) te) σ G k (IsS (n * (m + z0.length))) := fun H1 e b hb hk s Q q =>
  ⟨⟨z0, rfl⟩, h H1 e b hb hk s _ fun v H2 b' h1 h2 h3 h4 h5 => by
    obtain ⟨l, ys, rfl, np, nl, hl, hn, hy⟩ := h5
    obtain ⟨zs, e1, hs, hlen⟩ := texts_of hy
    have e2 : zs.length * m + zs.length * z0.length = zs.length * (m + z0.length) := (Nat.mul_add _ _ _).symm
    have e3 : zs.length * (m + z0.length) ≤ n * (m + z0.length) := Nat.mul_le_mul_right _ (by omega)
    have hj := join_le z0 zs
    exact ⟨z0, l, zs, rfl, rfl, Or.inl (sq_of (by rw [← e1]; exact hl)), by omega, q _ H2 b' h1 h2 h3 h4 ⟨_, rfl, by omega⟩⟩⟩
theorem ev_join {H : Hp} {z0 : Str} {zs : List Str} {l : Addr} (h : Ev te σ H (.ref l)) (hl : H l = some (.lst (zs.map V.str))) (hz : (zs.map (·.length)).sum + zs.length * z0.length ≤ 16777216) : Ev (tM1 (rJoin K) (tC (.str z0)) te) σ H (.str (Txt.join z0 zs)) := fun H1 e Q q =>
  ⟨⟨z0, rfl⟩, h H1 e _ fun H2 e2 => ⟨z0, l, zs, rfl, rfl, Or.inl (sq_of ((e.trans e2) _ _ hl)), hz, q H2 e2⟩⟩
theorem ev_joinL {H : Hp} {z0 : Str} {zs : List Str} (h : EvL te σ H (zs.map V.str)) (hz : (zs.map (·.length)).sum + zs.length * z0.length ≤ 16777216) : Ev (tM1 (rJoin K) (tC (.str z0)) te) σ H (.str (Txt.join z0 zs)) := fun H1 e Q q =>
  ⟨⟨z0, rfl⟩, h H1 e _ fun l H2 hl e2 h2 => ⟨z0, l, zs, rfl, rfl, Or.inl (sq_of h2), hz, q H2 e2⟩⟩
def rUpper : V → List V → Hp → VK → Prop := fun x xs H Q => ∃ a, x = .str a ∧ xs = [] ∧ a.length ≤ 5592405 ∧ Q (.str (Txt.upper a)) H
theorem ev_upper {H : Hp} {z : Str} (h : Ev te σ H (.str z)) (hz : z.length ≤ 100000) : Ev (tM0 rUpper te) σ H (.str (Txt.upper z)) := fun H1 e Q q =>
  h H1 e _ fun H2 e2 => ⟨⟨z, rfl⟩, z, rfl, rfl, by omega, q H2 e2⟩
theorem mulOk_of {z : Str} {n : Nat} (hz : z.length ≤ 100) (hn : n ≤ 10000) : MulOk z (n : Int) := by
  refine ⟨?_, fun h1 _ => ?_, fun _ _ => ?_⟩
  · rw [decide_eq_false (by omega), decide_eq_false (by omega)] <;> rfl
  · have h3 : (100 : Int) ≤ ((2 : Int) ^ 63 - 1) / (n : Int) := Int.le_ediv_of_mul_le (by omega) (by omega)
    omega
  · have h4 : z.length * ((n : Int)).toNat ≤ 100 * 10000 := Nat.mul_le_mul hz (by rw [Int.toNat_natCast]; exact hn)
    exact decide_eq_false (by have : (100 * 10000 : Nat) ≤ sizeLine := by decide
                              omega)
theorem mul_len (z : Str) (n : Nat) : (Txt.mul z (n : Int)).length ≤ z.length * n := by
  have fl : ∀ (m : Nat) (acc : Array Nat), ((List.replicate m z.cps).foldl (fun (x1 x2 : Array Nat) => x1 ++ x2) acc).size = acc.size + m * z.cps.size := by
    intro m
    induction m with
    | zero => intro acc; simp
    | succ m ih =>
      intro acc
      rw [List.replicate_succ, List.foldl_cons, ih, Array.size_append, Nat.add_mul, Nat.one_mul]
      omega
  unfold Txt.mul
  split
  · exact Nat.zero_le _
  · split
    · next h1 h2 =>
      have : 1 ≤ n := by omega
      exact Nat.le_mul_of_pos_right _ this
    · show ((List.replicate ((n : Int)).toNat z.cps).foldl (fun (x1 x2 : Array Nat) => x1 ++ x2) #[]).size ≤ _
      rw [fl, Int.toNat_natCast]
      show 0 + n * z.length ≤ z.length * n
      rw [Nat.mul_comm]
      omega
theorem el_slN {H : Hp} {tl th : TO} {xs : List V} {lo hi : Option Int} (h : EvL te σ H xs) (h1 : EvO tl σ H lo) (h2 : EvO th σ H hi) : EvL (tSl (rSlL K) te tl th) σ H (cutV xs lo hi) := fun H1 e Q q =>
  h H1 e _ fun a H2 ha e2 hx => h1 H2 (e.trans e2) _ fun H3 e3 => h2 H3 ((e.trans e2).trans e3) _ fun H4 e4 =>
    ⟨a, xs, rfl, sq_of (e4 _ _ (e3 _ _ hx)), fun p hp => q p _ (fresh_back ((e2.trans e3).trans e4) hp) (((e2.trans e3).trans e4).trans (Ex.new hp)) upd_same⟩
theorem mulOkZ {z : Str} {k : Int} (hz : z.length ≤ 100) (h0 : 0 ≤ k) (h1 : k ≤ 10000) : MulOk z k := by
  obtain ⟨n, rfl⟩ : ∃ n : Nat, k = (n : Int) := ⟨k.toNat, by omega⟩
  exact mulOk_of hz (by omega)
theorem mul_lenZ {z : Str} {k : Int} (h0 : 0 ≤ k) : (Txt.mul z k).length ≤ z.length * k.toNat := by
  obtain ⟨n, rfl⟩ : ∃ n : Nat, k = (n : Int) := ⟨k.toNat, by omega⟩
  rw [Int.toNat_natCast]
  exact mul_len z n
/-- a for over a new tuple -/
theorem s_forNT {D : Ends} {tu : TS} {H : Hp} {xs : List V} {tl : TE} {jj : Nat} (h : EvU tl σ H xs) (Pv : Hp → Nat → L2.St → Hp → Prop) (h0 : ∀ H1, Ex H H1 → Pv H1 0 σ H1) (hx : ∀ H1 i σ' H', Pv H1 i σ' H' → Ex H1 H')
    (hs : ∀ H1, Ex H H1 → ∀ (i : Nat) (x : V) σ' H', xs[i]? = some x → Pv H1 i σ' H' → tu { D with nx := Pv H1 (i + 1), ct := Pv H1 (i + 1), bk := D.nx } (σ'.set jj (some x)) H') (hd : ∀ H1 σ' H', Ex H H1 → Pv H1 xs.length σ' H' → D.nx σ' H') : tFor (iTup K tl) (gName jj) tu D σ H :=
  h H (Ex.refl H) _ fun a H1 ha e1 h1 => ⟨a, rfl, ⟨xs, st_of h1⟩, for_tup (Pv H1) (h0 H1 e1) (fun i σ' H' hi p => st_of (hx H1 i σ' H' p a _ h1)) (hs H1 e1) (fun σ' H' p => hd H1 σ' H' e1 p)⟩
/-- one of some things that are no texts -/
theorem q_pickN {D : Ends} {tz : TS} {H : Hp} {b : Int} {i jj n : Nat} {E : XK} {ta : TA} (hp : σ[i]? = some (some (.ref p))) (h : EvAN K ta σ H n) (h0 : 0 < n) (h1 : n ≤ 100) (hb : 0 ≤ b) (hk : b + 1 ≤ 1000000000) (s : Sx p b H)
    (kk : ∀ v H2 b', b ≤ b' → b' ≤ b + 1 → Sx p b' H2 → Ex (Gd.wo p H) H2 → NotS K H2 v → tz D (σ.set jj (some v)) H2) : tSeq (tAsg (tCall (spPick K) [] E (tCons (tVar i) (tCons (tLst ta) tNil))) (gName jj)) tz D σ H :=
  ⟨.ref p, hp, h H (Ex.refl H) _ fun vs H6 e6 hl hv => ⟨sz_of (by omega), fun l hl6 => by
    have s6 := s.ex e6
    have np : l ≠ p := by
      obtain ⟨_, _, hpp⟩ := s6
      exact (ne_of_none hpp hl6).symm
    refine ⟨p, l, b, vs, rfl, hb, hk, s6.ex (Ex.new hl6), np, sq_of upd_same, by omega, by omega, fun v H7 b7 hv7 b70 b71 s7 e7 => ?_⟩
    exact kk v H7 b7 b70 b71 s7 (fun x o z => e7 x o (wo_mono (e6.trans (Ex.new hl6)) x o z)) (((hv v hv7).ex (Ex.new hl6)).wo e7 s7)⟩⟩
/-- a def that draws and hands back a text -/
def spGive (kk m : Nat) : Sp := fun vs H Q _ => ∃ (p : Addr) (b : Int), vs = [.ref p] ∧ 0 ≤ b ∧ b + kk ≤ 1000000000 ∧ Sx p b H ∧ Cn p H b kk (fun v _ => IsS m v) Q
theorem dv_give {i kk m : Nat} {E : XK} (hp : σ[i]? = some (some (.ref p))) : Dv p (tCall (spGive kk m) [] E (tCons (tVar i) tNil)) σ G kk (IsS m) := fun H1 e b hb hk s Q q =>
  ⟨.ref p, hp, p, b, rfl, hb, hk, s, q⟩
end
end Gd

set_option maxHeartbeats 4000000
namespace M2
open PySem PySem.Spec PyProof.Rows L2 Evl TL Gd

def top (i : Nat) : Stmt := PySem.Challenge.pw_macroasm_k02_names.main.body.getD i (.Pass ⟨0, 0, 0, 0⟩)

def LET : Str := "abcdefghijklmnopqrstuvwxyzABCDEFGHIJKLMNOPQRSTUVWXYZ_"
def DIG : Str := "0123456789"
def SGN : Str := "abcdefghijklmnopqrstuvwxyzABCDEFGHIJKLMNOPQRSTUVWXYZ_0123456789"
def RES : List Str := ["mod", "macro", "endmacro", "repeat", "endrepeat", "if", "ifsame", "else", "endif", "set", "section", "byte", "word", "long", "text", "space", "align", "scope", "endscope", "export", "import"]
structure Tx (K : PySem.W.Frag) (mg : Str → Option Value) : Prop where
  b_len : mg "len" = none
  b_isinstance : mg "isinstance" = none
  b_str : mg "str" = none
  b_min : mg "min" = none
  b_all : mg "all" = none
  b_int : mg "int" = none
  b_list : mg "list" = none
  b_range : mg "range" = none
  b_repr : mg "repr" = none
  b_enumerate : mg "enumerate" = none
  g_DIGITS : ∃ t, mg "DIGITS" = some (.str DIG t)
  g_MOST_IN_NAME : ∃ t, mg "MOST_IN_NAME" = some (.int 40 t)
  g_MOST_IN_MADE : ∃ t, mg "MOST_IN_MADE" = some (.int 9 t)
  g_MOST_IN_PATH : ∃ t, mg "MOST_IN_PATH" = some (.int 8 t)
  g_RESERVED : ∃ a, mg "RESERVED" = some (.ref a) ∧ ∀ H : Hp, SqT K H a (RES.map V.str)
/-! ### rows of signs -/
theorem row_step {α : Type} (p : α → Bool) : ∀ (L : List α) (j : Nat), j ≤ (L.takeWhile p).length →
    (j < (L.takeWhile p).length ↔ ∃ c, L[j]? = some c ∧ p c = true)
  | [], j, h => by simp
  | a :: L, 0, h => by
    by_cases q : p a = true
    · simp [List.takeWhile_cons, q]
    · simp [List.takeWhile_cons, q]
  | a :: L, j + 1, h => by
    by_cases q : p a = true
    · rw [List.takeWhile_cons, if_pos q, List.length_cons] at h ⊢
      have ih := row_step p L j (by omega)
      rw [List.getElem?_cons_succ]
      constructor
      · intro hh
        exact ih.mp (by omega)
      · intro hh
        have := ih.mpr hh
        omega
    · rw [List.takeWhile_cons, if_neg q] at h
      simp at h
def rowLen (l : List Nat) (at' : Nat) (S : List Nat) (most : Nat) : Nat := (((l.drop at').take most).takeWhile (fun c => decide (c ∈ S))).length
def rowEnd (l : List Nat) (at' : Nat) (S : List Nat) (most : Nat) : Nat := at' + rowLen l at' S most
theorem rowLen_step {l : List Nat} {a : Nat} {S : List Nat} {most j : Nat} (h : j ≤ rowLen l a S most) :
    (decide (a + j < l.length) && (decide (j < most) && decide (l.getD (a + j) 0 ∈ S))) = decide (j < rowLen l a S most) := by
  have key := row_step (fun c => decide (c ∈ S)) ((l.drop a).take most) j h
  have gt : ((l.drop a).take most)[j]? = if j < most then l[a + j]? else none := by
    rw [List.getElem?_take]
    split
    · rw [List.getElem?_drop]
    · rfl
  rw [gt] at key
  apply Bool.eq_iff_iff.mpr
  rw [decide_eq_true_iff, Bool.and_eq_true, Bool.and_eq_true, decide_eq_true_iff, decide_eq_true_iff, decide_eq_true_iff]
  unfold rowLen
  rw [key]
  constructor
  · rintro ⟨h1, h2, h3⟩
    refine ⟨l.getD (a + j) 0, ?_, by simpa using h3⟩
    rw [if_pos h2, List.getD_eq_getElem?_getD, List.getElem?_eq_getElem h1]
    rfl
  · rintro ⟨c, h1, h2⟩
    split at h1
    · next hm =>
      have hl : a + j < l.length := by
        rw [List.getElem?_eq_some_iff] at h1
        exact h1.1
      refine ⟨hl, hm, ?_⟩
      rw [List.getD_eq_getElem?_getD, h1]
      simpa using h2
    · cases h1
theorem rowLen_le {l : List Nat} {a : Nat} {S : List Nat} {most : Nat} : rowLen l a S most ≤ most := by
  unfold rowLen
  have h1 := (List.takeWhile_prefix (fun c => decide (c ∈ S)) (l := (l.drop a).take most)).length_le
  have h2 : ((l.drop a).take most).length ≤ most := by rw [List.length_take]; exact Nat.min_le_left _ _
  exact Nat.le_trans h1 h2

def nameEnd (l : List Nat) (a : Nat) : Nat := if rowEnd l a (tl LET) 1 = a then a else rowEnd l a (tl SGN) 40
def nameB (z : Str) : Bool := !decide (V.str z = V.str "") && decide (V.int (nameEnd (tl z) 0 : Nat) = V.int (z.length : Int))

theorem rowLen_step2 {l : List Nat} {a : Nat} {S : List Nat} {most j : Nat} (h : j ≤ rowLen l a S most) :
    (decide (a + j < (if a + most < l.length then a + most else l.length)) && decide (l.getD (a + j) 0 ∈ S)) = decide (j < rowLen l a S most) := by
  rw [← rowLen_step h, ← Bool.and_assoc]
  congr 1
  rw [← Bool.decide_and]
  refine decide_eq_decide.mpr ?_
  split <;> omega
/-! ### is_name as the text asks it -/
theorem start_ascii : ∀ c < 128, Unicode.isNameStart c = decide (c ∈ tl LET) := by decide +kernel
theorem cont_ascii : ∀ c < 128, Unicode.isNameContinue c = decide (c ∈ tl SGN) := by decide +kernel
theorem let_sgn : ∀ c ∈ tl LET, c ∈ tl SGN := by decide +kernel
theorem sgn_ascii : ∀ c ∈ tl SGN, c < 128 := by decide +kernel
theorem takeWhile_all {α : Type} (p : α → Bool) : ∀ l : List α, (l.takeWhile p).length = l.length ↔ ∀ x ∈ l, p x = true
  | [] => by simp
  | x :: l => by
    have ih := takeWhile_all p l
    by_cases h : p x = true
    · rw [List.takeWhile_cons, if_pos h, List.length_cons, List.length_cons]
      constructor
      · intro e y hy
        rcases List.mem_cons.mp hy with z | hy
        · rw [z]; exact h
        · exact ih.mp (by omega) y hy
      · intro e
        have := ih.mpr fun y hy => e y (List.mem_cons_of_mem _ hy)
        omega
    · rw [List.takeWhile_cons, if_neg h]
      constructor
      · intro e; simp at e
      · intro e; exact absurd (e x List.mem_cons_self) h
theorem rowEnd_all (l S : List Nat) (m : Nat) : rowEnd l 0 S m = l.length ↔ (l.length ≤ m ∧ ∀ c ∈ l, c ∈ S) := by
  unfold rowEnd rowLen
  rw [Nat.zero_add, List.drop_zero]
  constructor
  · intro e
    have h1 := (List.takeWhile_prefix (fun c => decide (c ∈ S)) (l := l.take m)).length_le
    have h2 : (l.take m).length ≤ m := by rw [List.length_take]; exact Nat.min_le_left _ _
    have h3 : (l.take m).length ≤ l.length := by rw [List.length_take]; exact Nat.min_le_right _ _
    have lm : l.length ≤ m := by omega
    have tk : l.take m = l := List.take_of_length_le lm
    rw [tk] at e
    exact ⟨lm, fun c hc => of_decide_eq_true ((takeWhile_all _ l).mp e c hc)⟩
  · rintro ⟨lm, h⟩
    rw [List.take_of_length_le lm]
    exact (takeWhile_all _ l).mpr fun c hc => decide_eq_true (h c hc)
theorem rowEnd_one (c : Nat) (l S : List Nat) : rowEnd (c :: l) 0 S 1 = 0 ↔ c ∉ S := by
  unfold rowEnd rowLen
  rw [Nat.zero_add, List.drop_zero]
  show ((([c] : List Nat).takeWhile (fun c => decide (c ∈ S))).length = 0) ↔ _
  by_cases h : c ∈ S
  · simp [List.takeWhile_cons, h]
  · simp [List.takeWhile_cons, h]
def askB (z : Str) : Bool := Txt.isascii z && (Txt.isidentifier z && decide ((z.length : Int) ≤ 40))
theorem askB_eq (z : Str) : askB z = nameB z := by
  unfold askB nameB
  have zl : (tl z).length = z.length := by simp [tl, Str.length]
  apply Bool.eq_iff_iff.mpr
  simp only [Bool.and_eq_true, Bool.not_eq_true', decide_eq_true_eq, decide_eq_false_iff_not]
  have asc : Txt.isascii z = true ↔ ∀ c ∈ tl z, c < 128 := by
    unfold Txt.isascii
    rw [Array.all_eq_true_iff_forall_mem]
    constructor
    · intro h c hc
      exact of_decide_eq_true (h c (Array.mem_toList_iff.mp hc))
    · intro h c hc
      exact decide_eq_true (h c (Array.mem_toList_iff.mpr hc))
  rw [asc]
  unfold Txt.isidentifier
  cases hz : z.cps.toList with
  | nil =>
    have e : z = "" := by
      obtain ⟨arr⟩ := z
      obtain ⟨l⟩ := arr
      have hl : l = [] := hz
      rw [hl]
      rfl
    constructor
    · rintro ⟨_, h, _⟩
      cases h
    · rintro ⟨h, _⟩
      exact absurd (by rw [e]) h
  | cons c l =>
    have tz : tl z = c :: l := hz
    have ne : V.str z ≠ V.str "" := fun h => by
      injection h with h
      rw [h] at hz
      cases hz
    rw [tz]
    have key : nameEnd (c :: l) 0 = z.length ↔ (c ∈ tl LET ∧ (c :: l).length ≤ 40 ∧ ∀ d ∈ c :: l, d ∈ tl SGN) := by
      unfold nameEnd
      have zl' : z.length = (c :: l).length := by rw [← zl, tz]
      by_cases h : c ∈ tl LET
      · rw [if_neg (fun q => (rowEnd_one c l (tl LET)).mp q h), zl', rowEnd_all]
        exact ⟨fun q => ⟨h, q⟩, fun q => q.2⟩
      · rw [if_pos ((rowEnd_one c l (tl LET)).mpr h), zl']
        constructor
        · intro q; simp at q
        · intro q; exact absurd q.1 h
    constructor
    · rintro ⟨h1, h2, h3⟩
      obtain ⟨h2a, h2b⟩ := Bool.and_eq_true_iff.mp h2
      refine ⟨ne, ?_⟩
      have e : nameEnd (c :: l) 0 = z.length := key.mpr ⟨of_decide_eq_true ((start_ascii c (h1 c List.mem_cons_self)).symm.trans h2a), by rw [← tz, zl]; omega, fun d hd => by
        rcases List.mem_cons.mp hd with q | hd
        · rw [q]
          exact let_sgn c (of_decide_eq_true ((start_ascii c (h1 c List.mem_cons_self)).symm.trans h2a))
        · exact of_decide_eq_true ((cont_ascii d (h1 d (List.mem_cons_of_mem _ hd))).symm.trans (List.all_eq_true.mp h2b d hd))⟩
      rw [e]
    · rintro ⟨_, h2⟩
      have e : nameEnd (c :: l) 0 = z.length := by
        injection h2 with h2
        omega
      obtain ⟨k1, k2, k3⟩ := key.mp e
      have a128 : ∀ d ∈ c :: l, d < 128 := fun d hd => sgn_ascii d (k3 d hd)
      refine ⟨a128, ?_, by rw [← tz, zl] at k2; omega⟩
      refine Bool.and_eq_true_iff.mpr ⟨(start_ascii c (a128 c List.mem_cons_self)).trans (decide_eq_true k1), List.all_eq_true.mpr fun d hd => (cont_ascii d (a128 d (List.mem_cons_of_mem _ hd))).trans (decide_eq_true (k3 d (List.mem_cons_of_mem _ hd)))⟩
theorem mt_isidentifier {X : Cx} : MtR X "str.isidentifier" (fun x xs H Q => ∃ a, x = .str a ∧ xs = [] ∧ True ∧ Q (.bl (Txt.isidentifier a)) H) :=
  mt0 (C := fun _ => True) (g := fun a => .bl (Txt.isidentifier a)) fun _ _ s _ _ h => PySem.SC.isidentifier (h _ s.toks rfl)
def rAsk (g : Str → Bool) : V → List V → Hp → VK → Prop := fun x xs H Q => ∃ a, x = .str a ∧ xs = [] ∧ True ∧ Q (.bl (g a)) H
theorem ev_ask0 {g : Str → Bool} {σ : L2.St} {H : Hp} {te : TE} {z : Str} (h : Ev te σ H (.str z)) : Ev (tM0 (rAsk g) te) σ H (.bl (g z)) := fun H1 e Q q =>
  h H1 e _ fun H2 e2 => ⟨⟨z, rfl⟩, z, rfl, rfl, trivial, q H2 e2⟩
section
variable {P : Program} {w : World} {K : PySem.W.Frag} {mg : Str → Option Value} {base : Heap}
abbrev s_row_end : Stmt := top 5
theorem sc_row_end : FnScope ["line", "at", "signs", "most", "row"] ["line", "at", "signs", "most"] (defScope s_row_end) := ⟨rfl, rfl, rfl, by decide +kernel, rfl, by decide +kernel, by decide +kernel⟩
theorem lstrip_len (x y : Str) : (Txt.lstripChars x y).length = x.length - ((tl x).takeWhile (fun c => decide (c ∈ tl y))).length := by
  unfold Txt.lstripChars
  rw [PyProof.Rows.stripBy_eq]
  have e : stripHi y.cps.contains false x (stripLo y.cps.contains true x) = x.length := rfl
  rw [e, size_strSub _ _ _ (Nat.le_refl _)]
  have e2 : stripLo y.cps.contains true x = ((tl x).takeWhile (fun c => decide (c ∈ tl y))).length := by
    show ((tl x).takeWhile y.cps.contains).length = _
    have : y.cps.contains = fun c => decide (c ∈ tl y) := funext fun c => by
      rw [Bool.eq_iff_iff, Array.contains_iff, decide_eq_true_iff]
      exact Array.mem_def
    rw [this]
  rw [e2]
theorem tl_cutN (z : Str) (a m : Nat) : tl (cutS z (some (a : Int)) (some ((a : Int) + (m : Int)))) = ((tl z).drop a).take m := by
  unfold cutS
  have h1 : HT.sIx z.length 0 (some (a : Int)) = min a z.length := HT.sIx_nat _ _ a
  have h2 : HT.sIx z.length z.length (some ((a : Int) + (m : Int))) = min (a + m) z.length := HT.sIx_nat _ _ (a + m)
  rw [h1, h2]
  show ((tl z).drop (min a z.length)).take (min (a + m) z.length - min a z.length) = _
  have zl : (tl z).length = z.length := by simp [Str.length, tl]
  by_cases h : a ≤ z.length
  · rw [Nat.min_eq_left h]
    by_cases h2 : a + m ≤ z.length
    · rw [Nat.min_eq_left h2, Nat.add_sub_cancel_left]
    · rw [Nat.min_eq_right (by omega), List.take_of_length_le (by rw [List.length_drop]; omega), List.take_of_length_le (by rw [List.length_drop]; omega)]
  · rw [List.drop_eq_nil_of_le (by omega : (tl z).length ≤ min a z.length), List.drop_eq_nil_of_le (by omega : (tl z).length ≤ a)]
    simp
def rLstrip : V → List V → Hp → VK → Prop := fun x xs H Q => ∃ a b, x = .str a ∧ xs = [.str b] ∧ a.length ≤ sizeLine ∧ Q (.str (Txt.lstripChars a b)) H
theorem ev_lstrip {σ : L2.St} {H : Hp} {ta tb : TE} {a b : Str} (h : Ev ta σ H (.str a)) (h2 : Ev tb σ H (.str b)) (hl : a.length ≤ 100000) : Ev (tM1 rLstrip ta tb) σ H (.str (Txt.lstripChars a b)) := fun H1 e Q q =>
  h H1 e _ fun H2 e2 => ⟨⟨a, rfl⟩, h2 H2 (e.trans e2) _ fun H3 e3 => ⟨a, b, rfl, rfl, sz_of hl, q H3 (e2.trans e3)⟩⟩
def spRowEnd : Sp := fun vs H Q _ => ∃ (z : Str) (a : Nat) (S : Str) (most : Nat), vs = [.str z, .int (a : Int), .str S, .int (most : Int)] ∧ z.length ≤ 100000 ∧
  RetV (.int (rowEnd z.cps.toList a S.cps.toList most : Nat)) H Q
theorem is_row {z S : Str} {a most : Nat} {H : Hp} (hz : z.length ≤ 100000) : SpIs spRowEnd [.str z, .int (a : Int), .str S, .int (most : Int)] H (.int (rowEnd (tl z) a (tl S) most : Nat)) :=
  fun H1 _ Q q E => ⟨z, a, S, most, rfl, hz, fun H2 e => q H2 e⟩
theorem ok_row_end {f : Addr} {fd : FuncData} (F : Fun K "row_end" "row_end" s_row_end f fd) (T : Tx K mg) : FnOk P w K mg base CX0 1 f fd ["line", "at", "signs", "most"] spRowEnd := by
  refine F.ok sc_row_end (fun vs H Q E h => ?_) (fun cdv A outer s H vs Q E hr h => ?_)
  · obtain ⟨z, a, S, most, rfl, _⟩ := h
    rfl
  · obtain ⟨z, a, S, most, rfl, hz, k⟩ := h
    refine ⟨_, (pss_cons (ps_set (i := 4) sc_row_end.nd rfl (Or.inl rfl) (pe_slice sl_str (pv 0) (po_some (pv 1)) (po_some (pe_op op_add (pv 1) (pv 3)))))
  (pss_one (ps_ret (pe_op op_sub (pe_op op_add (pv 1) (pe_callB call_len_str (by rfl) T.b_len (by decide +kernel) (pa_cons (pv 4) pa_nil))) (pe_callB call_len_str (by rfl) T.b_len (by decide +kernel) (pa_cons (pe_m1 PySem.F.slot_str_lstrip PySem.F.type_str_lstrip mt_lstripChars (pv 4) (pv 2)) pa_nil)))))), ?_⟩
    have cl : (cutS z (some (a : Int)) (some ((a : Int) + (most : Int)))).length ≤ z.length := cutS_length _ _ _
    have ll := PyProof.Rows.len_lstripChars (cutS z (some (a : Int)) (some ((a : Int) + (most : Int)))) S
    refine q_asg (v := .str (cutS z (some (a : Int)) (some ((a : Int) + (most : Int))))) (ev_slS (ev_var rfl) (eo_some (ev_var rfl)) (eo_some (ev_op (ev_var rfl) (ev_var rfl) rv_I0)) hz) fun H1 e1 => ?_
    refine s_ret (ev_op (ev_op (ev_var rfl) (ev_lenS (ev_var rfl) (by omega)) rv_I0) (ev_lenS (ev_lstrip (ev_var rfl) (ev_var rfl) (by omega)) (by omega)) rv_I0) fun H2 e2 => ?_
    have e := lstrip_len (cutS z (some (a : Int)) (some ((a : Int) + (most : Int)))) S
    rw [tl_cutN] at e
    have le : (((tl z).drop a).take most |>.takeWhile (fun c => decide (c ∈ tl S))).length ≤ (cutS z (some (a : Int)) (some ((a : Int) + (most : Int)))).length := by
      have h1 := (List.takeWhile_prefix (fun c => decide (c ∈ tl S)) (l := ((tl z).drop a).take most)).length_le
      rw [← tl_cutN] at h1
      have h2 : (tl (cutS z (some (a : Int)) (some ((a : Int) + (most : Int))))).length = (cutS z (some (a : Int)) (some ((a : Int) + (most : Int)))).length := by simp [Str.length, tl]
      rw [tl_cutN] at h1 h2
      omega
    have k2 := k H2 (e1.trans e2)
    unfold rowEnd rowLen at k2
    have fin : ((a : Int) + ((cutS z (some (a : Int)) (some ((a : Int) + (most : Int)))).length : Int) - ((Txt.lstripChars (cutS z (some (a : Int)) (some ((a : Int) + (most : Int)))) S).length : Int)) = ((a + (((tl z).drop a).take most |>.takeWhile (fun c => decide (c ∈ tl S))).length : Nat) : Int) := by
      rw [e]
      omega
    rw [fin]
    exact k2
abbrev s_is_name : Stmt := top 8
theorem sc_is_name : FnScope ["value"] ["value"] (defScope s_is_name) := ⟨rfl, rfl, rfl, by decide +kernel, rfl, by decide +kernel, by decide +kernel⟩
/-- a question about a value: g for texts, False for other kinds -/
def spAsk (K : PySem.W.Frag) (g : Str → Bool) : Sp := fun vs H Q _ => ∃ v, vs = [v] ∧ ((∃ z, v = .str z ∧ z.length ≤ 30000 ∧ RetV (.bl (g z)) H Q) ∨ (NotS K H v ∧ RetV (.bl false) H Q))
theorem is_askS {K : PySem.W.Frag} {g : Str → Bool} {z : Str} {H : Hp} (hz : z.length ≤ 30000) : SpIs (spAsk K g) [.str z] H (.bl (g z)) := fun H1 _ Q q E => ⟨_, rfl, Or.inl ⟨z, rfl, hz, fun H2 e => q H2 e⟩⟩
theorem is_askN {K : PySem.W.Frag} {g : Str → Bool} {v : V} {H : Hp} (n : NotS K H v) : SpIs (spAsk K g) [v] H (.bl false) := fun H1 e Q q E => ⟨_, rfl, Or.inr ⟨n.ex e, fun H2 e => q H2 e⟩⟩
theorem ok_is_name {f : Addr} {fd : FuncData} (F : Fun K "is_name" "is_name" s_is_name f fd) (T : Tx K mg) : FnOk P w K mg base CX0 3 f fd ["value"] (spAsk K nameB) := by
  refine F.ok sc_is_name (fun vs H Q E h => ?_) (fun cdv A outer s H vs Q E hr h => ?_)
  · obtain ⟨v, rfl, _⟩ := h
    rfl
  · obtain ⟨v, rfl, h⟩ := h
    obtain ⟨_, g_MOST_IN_NAME⟩ := T.g_MOST_IN_NAME
    refine ⟨_, (pss_one (ps_ret (pe_and (pe_callB call_isi (by rfl) T.b_isinstance (by decide +kernel) (pa_cons (pv 0) (pa_cons (pe_bT (T := "str") (by rfl) T.b_str (by decide +kernel)) pa_nil))) (pe_and (pe_m0 PySem.F.slot_str_isascii PySem.F.type_str_isascii mt_isascii (pv 0)) (pe_and (pe_m0 PySem.F.slot_str_isidentifier PySem.F.type_str_isidentifier mt_isidentifier (pv 0)) (pe_one (pe_cmpR op_le (pe_callB call_len_str (by rfl) T.b_len (by decide +kernel) (pa_cons (pv 0) pa_nil)) (pe_gI rfl g_MOST_IN_NAME) (nomark _)))))))), ?_⟩
    rcases h with ⟨z, rfl, hz, k⟩ | ⟨n, k⟩
    · refine s_ret (v := .bl (true && askB z)) (ev_andV (ev_isiS (ev_var rfl)) fun _ => ev_andV (ev_ask0 (g := Txt.isascii) (ev_var rfl)) fun _ => ev_andV (ev_ask0 (g := Txt.isidentifier) (ev_var rfl)) fun _ => ev_op (ev_lenS (ev_var rfl) (by omega)) ev_c rv_I0) fun H2 e2 => ?_
      have := k H2 e2
      rw [← askB_eq] at this
      exact this
    · refine s_ret (ev_andV (ev_isiN (ev_var rfl) n) fun hh => (by cases hh)) (v := .bl (false && false)) fun H2 e2 => ?_
      exact k H2 e2
end
section
variable {P : Program} {w : World} {K : PySem.W.Frag} {mg : Str → Option Value} {base : Heap}
/-! ### _is_part -/
def numB (d : Str) : Bool := !decide (V.str d = V.str "") && decide (V.int (rowEnd (tl d) 0 (tl DIG) 9 : Nat) = V.int (d.length : Int))
def sign0 (d : Str) : Str := ⟨#[(tl d).getD 0 0]⟩
def partB (z : Str) : Bool := bif decide (V.str (Txt.partition z "@").2.1 = V.str "") then nameB (Txt.partition z "@").1
  else nameB (Txt.partition z "@").1 && (numB (Txt.partition z "@").2.2 && !decide (V.str (sign0 (Txt.partition z "@").2.2) = V.str "0"))
abbrev s_is_part : Stmt := top 11
theorem sc_is_part : FnScope ["text", "name", "sign", "digits", "is_number"] ["text"] (defScope s_is_part) := ⟨rfl, rfl, rfl, by decide +kernel, rfl, by decide +kernel, by decide +kernel⟩
def spPart (g : Str → Bool) : Sp := fun vs H Q _ => ∃ z, vs = [.str z] ∧ z.length ≤ 30000 ∧ RetV (.bl (g z)) H Q
theorem is_part {g : Str → Bool} {z : Str} {H : Hp} (hz : z.length ≤ 30000) : SpIs (spPart g) [.str z] H (.bl (g z)) := fun H1 _ Q q E => ⟨z, rfl, hz, fun H2 e => q H2 e⟩
theorem at_ne : tl ("@" : Str) ≠ [] := by decide +kernel
theorem at_len : (("@" : Str).length == 0) = false := by decide +kernel
theorem ne_empty {d : Str} (h : (!decide (V.str d = V.str "")) = true) : 0 < (tl d).length := by
  have h1 : ¬ (V.str d = V.str "") := by simpa using h
  cases e : tl d with
  | nil => exact absurd (congrArg V.str (ext_tl (x := d) (y := "") (by rw [e]; rfl))) h1
  | cons a r => exact Nat.succ_pos _
theorem ok_is_part {f : Addr} {fd : FuncData} (F : Fun K "_is_part" "_is_part" s_is_part f fd) (T : Tx K mg) (D_row_end : Df P w K mg base CX0 1 "row_end" ["line", "at", "signs", "most"] spRowEnd)
    (D_is_name : Df P w K mg base CX0 3 "is_name" ["value"] (spAsk K nameB)) : FnOk P w K mg base CX0 4 f fd ["text"] (spPart partB) := by
  refine F.ok sc_is_part (fun vs H Q E h => ?_) (fun cdv A outer s H vs Q E hr h => ?_)
  · obtain ⟨v, rfl, _⟩ := h
    rfl
  · obtain ⟨z, rfl, hz, k⟩ := h
    obtain ⟨_, g_DIGITS⟩ := T.g_DIGITS
    obtain ⟨_, g_MOST_IN_MADE⟩ := T.g_MOST_IN_MADE
    refine ⟨_, (pss_cons (ps_asg (pe_partition (pv 0) pe_str) (pg_tup rfl (pgs_cons (pg_name (i := 1) sc_is_part.nd rfl (Or.inl rfl)) (pgs_cons (pg_name (i := 2) sc_is_part.nd rfl (Or.inl rfl)) (pgs_cons (pg_name (i := 3) sc_is_part.nd rfl (Or.inl rfl)) pgs_nil)))))
  (pss_cons (ps_if (pt_cmpR op_eq (pv 2) pe_str (nomark _))
    (pss_one (ps_ret (pe_df D_is_name (hr.mono (by decide)) rfl (pa_cons (pv 1) pa_nil))))
    pss_nil)
  (pss_cons (ps_set (i := 4) sc_is_part.nd rfl (Or.inl rfl) (pe_and (pe_cmpR op_ne (pv 3) pe_str (nomark _)) (pe_one (pe_cmpR op_eq (pe_df D_row_end (hr.mono (by decide)) rfl (pa_cons (pv 3) (pa_cons pe_int (pa_cons (pe_gS rfl g_DIGITS) (pa_cons (pe_gI rfl g_MOST_IN_MADE) pa_nil))))) (pe_callB call_len_str (by rfl) T.b_len (by decide +kernel) (pa_cons (pv 3) pa_nil)) (nomark _)))))
  (pss_one (ps_ret (pe_and (pe_df D_is_name (hr.mono (by decide)) rfl (pa_cons (pv 1) pa_nil)) (pe_and (pv 4) (pe_one (pe_cmpR op_ne (pe_ix ix_str (pv 3) pe_int (fun _ _ => rfl)) pe_str (nomark _)))))))))), ?_⟩
    have hp := part_facts z "@" at_ne
    have h1 : (Txt.partition z "@").1.length ≤ 30000 := by omega
    have h2 : (Txt.partition z "@").2.2.length ≤ 30000 := by omega
    refine q_unpack3 (eu_partition (ev_var rfl) ev_c at_len (by omega)) fun H1 e1 => ?_
    refine q_when (et_test (ev_op (ev_var rfl) ev_c (rv_eq rfl))) (fun hb H2 e2 => ?_) (fun hb H2 e2 => ?_)
    · refine s_ret (ev_df (ea_cons (ev_var rfl) ea_nil) (is_askS h1)) fun H3 e3 => ?_
      have := k H3 ((e1.trans e2).trans e3)
      unfold partB at this
      rw [hb] at this
      exact this
    · refine q_asg (ev_andV (ev_op (ev_var rfl) ev_c (rv_ne rfl)) fun _ => ev_op (ev_df (ea_cons (ev_var rfl) (ea_cons (ev_c (v := .int ((0 : Nat) : Int))) (ea_cons ev_c (ea_cons (ev_c (v := .int ((9 : Nat) : Int))) ea_nil)))) (is_row (by omega))) (ev_lenS (ev_var rfl) (by omega)) (rv_eq rfl)) fun H3 e3 => ?_
      refine s_ret (ev_andV (ev_df (ea_cons (ev_var rfl) ea_nil) (is_askS h1)) fun _ => ev_andV (ev_var rfl) fun hn => ev_op (ev_op (ev_var rfl) (ev_c (v := .int ((0 : Nat) : Int))) (rv_ixS (c := (tl (Txt.partition z "@").2.2).getD 0 0) (by omega) ?_)) ev_c (rv_ne rfl)) fun H4 e4 => ?_
      · have hpos := ne_empty (Bool.and_eq_true_iff.mp hn).1
        refine atI_nat ?_
        rw [List.getD_eq_getElem?_getD, List.getElem?_eq_getElem hpos]
        rfl
      · have := k H4 (((e1.trans e2).trans e3).trans e4)
        unfold partB at this
        rw [hb] at this
        exact this
/-! ### is_used -/
def usedB0 (z : Str) : Bool := bif Txt.startswith z "." then nameB (cutS z (some 1) none) else (decide (((Txt.split z ".").length : Int) ≤ 8) && ((Txt.split z ".").map partB).all id)
def usedB (z : Str) : Bool := bif nameB z then true else usedB0 z
abbrev s_is_used : Stmt := top 10
abbrev N_is_used : List Str := ["value", "parts", "part"]
theorem sc_is_used : FnScope N_is_used ["value"] (defScope s_is_used) := ⟨rfl, rfl, rfl, by decide +kernel, rfl, by decide +kernel, by decide +kernel⟩
theorem dot_ne : tl ("." : Str) ≠ [] := by decide +kernel
theorem dot_len : (("." : Str).length == 0) = false := by decide +kernel
theorem given_map {α : Type} (l : List α) (g : α → V) (d : α) : given l.length (fun _ => true) (fun i => g (l.getD i d)) = l.map g := by
  have e : given l.length (fun _ => true) (fun i => g (l.getD i d)) = (List.range l.length).map (fun i => g (l.getD i d)) := by
    unfold given
    rw [List.filter_eq_self.mpr (fun _ _ => rfl)]
  rw [e]
  refine List.ext_getElem (by rw [List.length_map, List.length_map, List.length_range]) fun i h1 h2 => ?_
  rw [List.getElem_map, List.getElem_map, List.getElem_range, List.getD_eq_getElem?_getD, List.getElem?_eq_getElem (by simpa using h2)]
  rfl
theorem ok_is_used {f : Addr} {fd : FuncData} (F : Fun K "is_used" "is_used" s_is_used f fd) (T : Tx K mg) 
    (D_is_name : Df P w K mg base CX0 3 "is_name" ["value"] (spAsk K nameB)) (D_is_part : Df P w K mg base CX0 4 "_is_part" ["text"] (spPart partB)) : FnOk P w K mg base CX0 5 f fd ["value"] (spAsk K usedB) := by
  refine F.ok sc_is_used (fun vs H Q E h => ?_) (fun cdv A outer s H vs Q E hr h => ?_)
  · obtain ⟨v, rfl, _⟩ := h
    rfl
  · obtain ⟨v, rfl, h⟩ := h
    obtain ⟨_, g_MOST_IN_PATH⟩ := T.g_MOST_IN_PATH
    refine ⟨_, (pss_cons (ps_if (pt_not (pt_val (pe_callB call_isi (by rfl) T.b_isinstance (by decide +kernel) (pa_cons (pv 0) (pa_cons (pe_bT (T := "str") (by rfl) T.b_str (by decide +kernel)) pa_nil)))))
    (pss_one (ps_ret pe_bl))
    pss_nil)
  (pss_cons (ps_if (pt_val (pe_df D_is_name (hr.mono (by decide)) rfl (pa_cons (pv 0) pa_nil)))
    (pss_one (ps_ret pe_bl))
    pss_nil)
  (pss_cons (ps_if (pt_val (pe_m1 PySem.F.slot_str_startswith PySem.F.type_str_startswith mt_startswith (pv 0) pe_str))
    (pss_one (ps_ret (pe_df D_is_name (hr.mono (by decide)) rfl (pa_cons (pe_slice sl_str (pv 0) (po_some pe_int) po_none) pa_nil))))
    pss_nil)
  (pss_cons (ps_set (i := 1) sc_is_used.nd rfl (Or.inl rfl) (pe_split (pv 0) pe_str))
  (pss_one (ps_ret (pe_and (pe_cmpR op_le (pe_callB call_len_seq (by rfl) T.b_len (by decide +kernel) (pa_cons (pv 1) pa_nil)) (pe_gI rfl g_MOST_IN_PATH) (nomark _)) (pe_one (pe_callB (cr_all rfl) (by rfl) T.b_all (by decide +kernel) (pa_cons (pe_lc (own := [("part", 2)]) (g := gName 2) (tt := tYes) rfl sc_is_used.nd (pi_list (pv 1)) (blkOk_by (N := N_is_used) (sc := defScope s_is_used) (by decide +kernel)) (fun _ _ _ _ _ => pg_name (i := 2) sc_is_used.nd rfl (Or.inl rfl)) (fun _ _ _ _ _ => pts_nil) (fun _ _ _ _ _ => (pe_df D_is_part (hr.mono (by decide)) rfl (pa_cons (pv 2) pa_nil)))) pa_nil)))))))))), ?_⟩
    rcases h with ⟨z, rfl, hz, k⟩ | ⟨n, k⟩
    · refine q_when (et_not (et_B (ev_isiS (ev_var rfl)))) (fun hb => by cases hb) (fun _ H0 e0 => ?_)
      refine q_when (b := nameB z) (et_B (ev_df (ea_cons (ev_var rfl) ea_nil) (is_askS hz))) (fun hb H1 e1 => s_ret ev_c fun H2 e2 => by
        have := k H2 ((e0.trans e1).trans e2)
        unfold usedB at this
        rw [hb] at this
        exact this) (fun hn H1 e1' => ?_)
      have e1 := e0.trans e1'
      refine q_when (et_B (ev_starts (ev_var rfl) ev_c)) (fun hb H2 e2 => ?_) (fun hb H2 e2 => ?_)
      · refine s_ret (ev_df (ea_cons (ev_slS (ev_var rfl) (eo_some (i := 1) ev_c) eo_none (by omega)) ea_nil) (is_askS (Nat.le_trans (cutS_length _ _ _) hz))) fun H3 e3 => ?_
        have := k H3 ((e1.trans e2).trans e3)
        unfold usedB usedB0 at this
        rw [hn, hb] at this
        exact this
      · refine q_asgL (el_split (ev_var rfl) ev_c dot_len (by omega)) fun p H3 hp e3 h3 => ?_
        have hL : ((Txt.split z ".").map V.str).length ≤ 40000 := by
          rw [List.length_map]
          have := PyProof.Rows.split_le z "."
          omega
        have ee : given ((Txt.split z ".").map V.str).length (fun _ => true) (fun i => V.bl (partB ((Txt.split z ".").getD i ""))) = ((Txt.split z ".").map partB).map V.bl := by
          rw [List.length_map, given_map (Txt.split z ".") (fun y => V.bl (partB y)) "", List.map_map]
          rfl
        refine s_ret (ev_andV (ev_op (ev_len (ev_var rfl) (sq_of h3)) ev_c rv_I0) fun _ => ev_allL (bs := (Txt.split z ".").map partB) (ee ▸ el_lcL (fun _ => true) (fun i => V.bl (partB ((Txt.split z ".").getD i ""))) (ev_var rfl) (sq_of h3) hL (fun _ => rfl) (fun _ _ _ _ _ => fun H _ Q q => q H (Ex.refl H)) (fun i x H4 e4 hx _ => ?_))) fun H4 e4 => ?_
        · rw [List.getElem?_map] at hx
          cases hy : (Txt.split z ".")[i]? with
          | none => rw [hy] at hx; cases hx
          | some y =>
            rw [hy] at hx
            cases hx
            have hm : y ∈ Txt.split z "." := List.mem_of_getElem? hy
            have hl := split_len dot_ne (by decide +kernel) hm
            rw [List.getD_eq_getElem?_getD, hy]
            exact ev_df (ea_cons (ev_var rfl) ea_nil) (is_part (by omega))
        · have := k H4 (((e1.trans e2).trans e3).trans e4)
          unfold usedB usedB0 at this
          rw [hn, hb] at this
          rw [List.length_map]
          exact this
    · refine q_when (et_not (et_B (ev_isiN (ev_var rfl) n))) (fun _ H1 e1 => s_ret ev_c fun H2 e2 => k H2 (e1.trans e2)) (fun hb => by cases hb)
end
end M2

set_option maxHeartbeats 4000000
namespace M2
open PySem PySem.Spec PyProof.Rows L2 Evl TL Gd
section
variable {P : Program} {w : World} {K : PySem.W.Frag} {mg : Str → Option Value} {base : Heap}
/-! ### name_end -/
/-! ### is_reserved -/
def resB (z : Str) : Bool := inV (.str z) (RES.map V.str)
abbrev s_is_reserved : Stmt := top 9
theorem sc_is_reserved : FnScope ["value"] ["value"] (defScope s_is_reserved) := ⟨rfl, rfl, rfl, by decide +kernel, rfl, by decide +kernel, by decide +kernel⟩
theorem flat_strs (l : List Str) : (l.map V.str).all flatV = true := by
  rw [List.all_map]
  exact List.all_eq_true.mpr fun _ _ => rfl
theorem ok_is_reserved {f : Addr} {fd : FuncData} (F : Fun K "is_reserved" "is_reserved" s_is_reserved f fd) (T : Tx K mg) : FnOk P w K mg base CX0 3 f fd ["value"] (spAsk K resB) := by
  refine F.ok sc_is_reserved (fun vs H Q E h => ?_) (fun cdv A outer s H vs Q E hr h => ?_)
  · obtain ⟨v, rfl, _⟩ := h
    rfl
  · obtain ⟨v, rfl, h⟩ := h
    obtain ⟨aR, g_RESERVED, hR⟩ := T.g_RESERVED
    refine ⟨_, (pss_one (ps_ret (pe_and (pe_callB call_isi (by rfl) T.b_isinstance (by decide +kernel) (pa_cons (pv 0) (pa_cons (pe_bT (T := "str") (by rfl) T.b_str (by decide +kernel)) pa_nil))) (pe_one (pe_cmpR op_in_seq (pv 0) (pe_gR rfl g_RESERVED) rfl))))), ?_⟩
    rcases h with ⟨z, rfl, hz, k⟩ | ⟨n, k⟩
    · refine s_ret (ev_andV (ev_isiS (ev_var rfl)) fun _ => ev_op (ev_var rfl) ev_c (rv_isT (hR _) rfl (flat_strs RES))) fun H2 e2 => ?_
      exact k H2 e2
    · refine s_ret (ev_andV (ev_isiN (ev_var rfl) n) fun hh => (by cases hh)) (v := .bl (false && false)) fun H2 e2 => ?_
      exact k H2 e2
end
end M2

set_option maxHeartbeats 4000000
namespace M2
open PySem PySem.Spec PyProof.Rows L2 Evl TL Gd
section
variable {P : Program} {w : World} {K : PySem.W.Frag} {mg : Str → Option Value} {base : Heap}
/-! ### the law's own looks at names -/
def LLET : Str := "ABCDEFGHIJKLMNOPQRSTUVWXYZabcdefghijklmnopqrstuvwxyz_"
abbrev s_law_letters : Stmt := top 17
theorem sc_law_letters : FnScope [] [] (defScope s_law_letters) := ⟨rfl, rfl, rfl, by decide +kernel, rfl, by decide +kernel, by decide +kernel⟩
def spText (z : Str) : Sp := fun vs H Q _ => vs = [] ∧ RetV (.str z) H Q
theorem is_text {z : Str} {H : Hp} : SpIs (spText z) [] H (.str z) := fun H1 _ Q q E => ⟨rfl, fun H2 e => q H2 e⟩
theorem ok_law_letters {f : Addr} {fd : FuncData} (F : Fun K "_law_letters" "_law_letters" s_law_letters f fd) : FnOk P w K mg base CX0 1 f fd [] (spText LLET) := by
  refine F.ok sc_law_letters (fun vs H Q E h => ?_) (fun cdv A outer s H vs Q E hr h => ?_)
  · obtain ⟨rfl, _⟩ := h
    rfl
  · obtain ⟨rfl, k⟩ := h
    exact ⟨_, (pss_one (ps_ret pe_str)), s_ret ev_c fun H2 e2 => k H2 e2⟩
def spList (l : List V) : Sp := fun vs H Q _ => vs = [] ∧ RetL l H Q
abbrev s_law_reserved : Stmt := top 21
theorem sc_law_reserved : FnScope ["_law_found"] [] (defScope s_law_reserved) := ⟨rfl, rfl, rfl, by decide +kernel, rfl, by decide +kernel, by decide +kernel⟩
/-- written texts, as they stand in a display -/
theorem ea_strs {σ : L2.St} {H : Hp} : EvA tNil σ H (([] : List Str).map V.str) := ea_nil
theorem ea_str {σ : L2.St} {H : Hp} {z : Str} {l : List Str} {t : TA} (h : EvA t σ H (l.map V.str)) : EvA (tCons (tC (.str z)) t) σ H ((z :: l).map V.str) := ea_cons ev_c h
theorem ok_law_reserved {f : Addr} {fd : FuncData} (F : Fun K "_law_reserved" "_law_reserved" s_law_reserved f fd) : FnOk P w K mg base CX0 1 f fd [] (spList (RES.map V.str)) := by
  refine F.ok sc_law_reserved (fun vs H Q E h => ?_) (fun cdv A outer s H vs Q E hr h => ?_)
  · obtain ⟨rfl, _⟩ := h
    rfl
  · obtain ⟨rfl, k⟩ := h
    refine ⟨_, (pss_cons (ps_set (i := 0) sc_law_reserved.nd rfl (Or.inl rfl) (pe_lst (pa_cons pe_str (pa_cons pe_str (pa_cons pe_str (pa_cons pe_str (pa_cons pe_str (pa_cons pe_str (pa_cons pe_str (pa_cons pe_str (pa_cons pe_str (pa_cons pe_str (pa_cons pe_str pa_nil)))))))))))))
  (pss_one (ps_ret (pe_op op_cat (pv 0) (pe_lst (pa_cons pe_str (pa_cons pe_str (pa_cons pe_str (pa_cons pe_str (pa_cons pe_str (pa_cons pe_str (pa_cons pe_str (pa_cons pe_str (pa_cons pe_str (pa_cons pe_str pa_nil))))))))))))))), ?_⟩
    refine q_asgL (el_lst (ea_str (ea_str (ea_str (ea_str (ea_str (ea_str (ea_str (ea_str (ea_str (ea_str (ea_str ea_strs))))))))))) (by decide)) fun p H1 hp e1 h1 => ?_
    refine s_retL (el_cat1 (ev_var rfl) h1 (el_lst (ea_str (ea_str (ea_str (ea_str (ea_str (ea_str (ea_str (ea_str (ea_str (ea_str ea_strs)))))))))) (by decide)) (by decide)) fun p2 H2 hp2 e2 h2 => ?_
    exact k p2 H2 (fresh_back e1 hp2) (e1.trans e2) h2
def okSign (c : Nat) : Bool := decide (c ∈ tl (LLET ++ "0123456789"))
def lawNameB (z : Str) : Bool := (decide ((1 : Int) ≤ (z.length : Int)) && decide ((z.length : Int) ≤ 40)) && (decide (V.int ((((tl z).filter okSign).length : Nat) : Int) = V.int (z.length : Int)) && decide ((tl z).getD 0 0 ∈ tl LLET))
abbrev s_law_is_name : Stmt := top 18
abbrev N_law_is_name : List Str := ["_law_word_here", "_law_fit", "_law_one"]
theorem sc_law_is_name : FnScope N_law_is_name ["_law_word_here"] (defScope s_law_is_name) := ⟨rfl, rfl, rfl, by decide +kernel, rfl, by decide +kernel, by decide +kernel⟩
theorem llet_len : LLET.length + ("0123456789" : Str).length ≤ 100000 := by decide +kernel
theorem ok_law_is_name {f : Addr} {fd : FuncData} (F : Fun K "_law_is_name" "_law_is_name" s_law_is_name f fd) (T : Tx K mg) (D_law_letters : Df P w K mg base CX0 1 "_law_letters" [] (spText LLET)) : FnOk P w K mg base CX0 2 f fd ["_law_word_here"] (spPart lawNameB) := by
  refine F.ok sc_law_is_name (fun vs H Q E h => ?_) (fun cdv A outer s H vs Q E hr h => ?_)
  · obtain ⟨v, rfl, _⟩ := h
    rfl
  · obtain ⟨z, rfl, hz, k⟩ := h
    refine ⟨_, (pss_cons (ps_setLc (i := 1) (own := [("_law_one", 2)]) (g := gName 2) rfl sc_law_is_name.nd rfl rfl (sw_true rfl rfl rfl (by decide +kernel)) (pi_str (pv 0)) (blkOk_by (N := N_law_is_name) (sc := defScope s_law_is_name) (by decide +kernel)) (fun _ _ _ _ _ => pg_name (i := 2) sc_law_is_name.nd rfl (Or.inl rfl)) (fun _ _ _ _ _ => pts_one (pt_cmpR op_in_sign (pv 2) (pe_op op_add_str (pe_df0 D_law_letters (hr.mono (by decide)) rfl) pe_str) rfl)) (fun _ _ _ _ _ => (pv 2)))
  (pss_one (ps_ret (pe_and (pe_chain op_le op_le pe_int (pe_callB call_len_str (by rfl) T.b_len (by decide +kernel) (pa_cons (pv 0) pa_nil)) pe_int) (pe_and (pe_cmpR op_eq (pe_callB call_len_seq (by rfl) T.b_len (by decide +kernel) (pa_cons (pv 1) pa_nil)) (pe_callB call_len_str (by rfl) T.b_len (by decide +kernel) (pa_cons (pv 0) pa_nil)) (nomark _)) (pe_one (pe_cmpR op_in_sign (pe_ix ix_str (pv 0) pe_int (fun _ _ => rfl)) (pe_df0 D_law_letters (hr.mono (by decide)) rfl) rfl))))))), ?_⟩
    refine q_asgL (el_lcS (fun i => okSign ((tl z).getD i 0)) (fun i => .str ⟨#[(tl z).getD i 0]⟩) (ev_var rfl) (by omega) (fun _ => rfl)
      (fun i c H1 e1 hc => ?_) (fun i c H1 e1 hc _ => ?_)) fun p H1 hp e1 h1 => ?_
    · rw [List.getD_eq_getElem?_getD, hc]
      exact et_test (ev_op (ev_var rfl) (ev_op (ev_df ea_nil is_text) ev_c (rv_addS llet_len)) rv_inSg)
    · rw [List.getD_eq_getElem?_getD, hc]
      exact ev_var rfl
    have ec := given_count (tl z) okSign (fun i => okSign ((tl z).getD i 0)) (fun i => .str ⟨#[(tl z).getD i 0]⟩) (fun i c hc => by rw [List.getD_eq_getElem?_getD, hc]; rfl)
    refine s_ret (ev_andV (ev_chain ev_c (ev_lenS (ev_var rfl) (by omega)) rv_I0 (fun _ => ev_c) (fun _ => rv_I0)) fun hl => ev_andV (ev_op (ev_len (ev_var rfl) (sq_of h1)) (ev_lenS (ev_var rfl) (by omega)) (rv_eq rfl)) fun _ =>
      ev_op (ev_op (ev_var rfl) (ev_c (v := .int ((0 : Nat) : Int))) (rv_ixS (c := (tl z).getD 0 0) (by omega) ?_)) (ev_df ea_nil is_text) rv_inSg) fun H2 e2 => ?_
    · have h2 := of_decide_eq_true (Bool.and_eq_true_iff.mp hl).1
      have h3 : 0 < (tl z).length := by
        rw [← len_tl]
        omega
      refine atI_nat ?_
      rw [List.getD_eq_getElem?_getD, List.getElem?_eq_getElem h3]
      rfl
    · rw [ec]
      exact k H2 (e1.trans e2)
/-! ### _law_is_part -/
def okDig (c : Nat) : Bool := decide (c ∈ tl ("0123456789" : Str))
def lawNumB (d : Str) : Bool := (decide ((1 : Int) ≤ (d.length : Int)) && decide ((d.length : Int) ≤ 9)) && (decide (V.int ((((tl d).filter okDig).length : Nat) : Int) = V.int (d.length : Int)) && !decide (V.str (sign0 d) = V.str "0"))
def lawPartB (z : Str) : Bool := bif decide (V.str (Txt.partition z "@").2.1 = V.str "") then lawNameB z else lawNameB (Txt.partition z "@").1 && lawNumB (Txt.partition z "@").2.2
abbrev s_law_is_part : Stmt := top 19
abbrev N_law_is_part : List Str := ["_law_word_here", "_law_front", "_law_mark", "_law_count", "_law_digits", "_law_one"]
theorem sc_law_is_part : FnScope N_law_is_part ["_law_word_here"] (defScope s_law_is_part) := ⟨rfl, rfl, rfl, by decide +kernel, rfl, by decide +kernel, by decide +kernel⟩
theorem ok_law_is_part {f : Addr} {fd : FuncData} (F : Fun K "_law_is_part" "_law_is_part" s_law_is_part f fd) (T : Tx K mg) (D_law_is_name : Df P w K mg base CX0 2 "_law_is_name" ["_law_word_here"] (spPart lawNameB)) : FnOk P w K mg base CX0 3 f fd ["_law_word_here"] (spPart lawPartB) := by
  refine F.ok sc_law_is_part (fun vs H Q E h => ?_) (fun cdv A outer s H vs Q E hr h => ?_)
  · obtain ⟨v, rfl, _⟩ := h
    rfl
  · obtain ⟨z, rfl, hz, k⟩ := h
    refine ⟨_, (pss_cons (ps_asg (pe_partition (pv 0) pe_str) (pg_tup rfl (pgs_cons (pg_name (i := 1) sc_law_is_part.nd rfl (Or.inl rfl)) (pgs_cons (pg_name (i := 2) sc_law_is_part.nd rfl (Or.inl rfl)) (pgs_cons (pg_name (i := 3) sc_law_is_part.nd rfl (Or.inl rfl)) pgs_nil)))))
  (pss_cons (ps_if (pt_cmpR op_eq (pv 2) pe_str (nomark _))
    (pss_one (ps_ret (pe_df D_law_is_name (hr.mono (by decide)) rfl (pa_cons (pv 0) pa_nil))))
    pss_nil)
  (pss_cons (ps_setLc (i := 4) (own := [("_law_one", 5)]) (g := gName 5) rfl sc_law_is_part.nd rfl rfl (sw_true rfl rfl rfl (by decide +kernel)) (pi_str (pv 3)) (blkOk_by (N := N_law_is_part) (sc := defScope s_law_is_part) (by decide +kernel)) (fun _ _ _ _ _ => pg_name (i := 5) sc_law_is_part.nd rfl (Or.inl rfl)) (fun _ _ _ _ _ => pts_one (pt_cmpR op_in_sign (pv 5) pe_str rfl)) (fun _ _ _ _ _ => (pv 5)))
  (pss_one (ps_ret (pe_and (pe_df D_law_is_name (hr.mono (by decide)) rfl (pa_cons (pv 1) pa_nil)) (pe_and (pe_chain op_le op_le pe_int (pe_callB call_len_str (by rfl) T.b_len (by decide +kernel) (pa_cons (pv 3) pa_nil)) pe_int) (pe_and (pe_cmpR op_eq (pe_callB call_len_seq (by rfl) T.b_len (by decide +kernel) (pa_cons (pv 4) pa_nil)) (pe_callB call_len_str (by rfl) T.b_len (by decide +kernel) (pa_cons (pv 3) pa_nil)) (nomark _)) (pe_one (pe_cmpR op_ne (pe_ix ix_str (pv 3) pe_int (fun _ _ => rfl)) pe_str (nomark _))))))))))), ?_⟩
    have hp := part_facts z "@" at_ne
    have h1 : (Txt.partition z "@").1.length ≤ 30000 := by omega
    have h2 : (Txt.partition z "@").2.2.length ≤ 30000 := by omega
    refine q_unpack3 (eu_partition (ev_var rfl) ev_c at_len (by omega)) fun H1 e1 => ?_
    refine q_when (et_test (ev_op (ev_var rfl) ev_c (rv_eq rfl))) (fun hb H2 e2 => ?_) (fun hb H2 e2 => ?_)
    · refine s_ret (ev_df (ea_cons (ev_var rfl) ea_nil) (is_part hz)) fun H3 e3 => ?_
      have := k H3 ((e1.trans e2).trans e3)
      unfold lawPartB at this
      rw [hb] at this
      exact this
    · generalize hd : (Txt.partition z "@").2.2 = d at h2
      refine q_asgL (el_lcS (z := d) (fun i => okDig ((tl d).getD i 0)) (fun i => .str ⟨#[(tl d).getD i 0]⟩) (ev_var (by rw [← hd]; rfl)) (by omega) (fun _ => rfl)
        (fun i c H1 e1 hc => ?_) (fun i c H1 e1 hc _ => ?_)) fun p H3 hp e3 h3 => ?_
      · rw [List.getD_eq_getElem?_getD, hc]
        exact et_test (ev_op (ev_var rfl) ev_c rv_inSg)
      · rw [List.getD_eq_getElem?_getD, hc]
        exact ev_var rfl
      have ec := given_count (tl d) okDig (fun i => okDig ((tl d).getD i 0)) (fun i => .str ⟨#[(tl d).getD i 0]⟩) (fun i c hc => by rw [List.getD_eq_getElem?_getD, hc]; rfl)
      refine s_ret (ev_andV (ev_df (ea_cons (ev_var rfl) ea_nil) (is_part h1)) fun _ => ev_andV (ev_chain ev_c (ev_lenS (z := d) (ev_var (by rw [← hd]; rfl)) (by omega)) rv_I0 (fun _ => ev_c) (fun _ => rv_I0)) fun hl =>
        ev_andV (ev_op (ev_len (ev_var rfl) (sq_of h3)) (ev_lenS (z := d) (ev_var (by rw [← hd]; rfl)) (by omega)) (rv_eq rfl)) fun _ =>
        ev_op (ev_op (ev_var (v := .str d) (by rw [← hd]; rfl)) (ev_c (v := .int ((0 : Nat) : Int))) (rv_ixS (c := (tl d).getD 0 0) (by omega) ?_)) ev_c (rv_ne rfl)) fun H4 e4 => ?_
      · have h2 := of_decide_eq_true (Bool.and_eq_true_iff.mp hl).1
        have h3 : 0 < (tl d).length := by
          rw [← len_tl]
          omega
        refine atI_nat ?_
        rw [List.getD_eq_getElem?_getD, List.getElem?_eq_getElem h3]
        rfl
      · have := k H4 (((e1.trans e2).trans e3).trans e4)
        unfold lawPartB at this
        rw [hb, hd] at this
        rw [ec]
        exact this
end
end M2

set_option maxHeartbeats 4000000
namespace M2
open PySem PySem.Spec PyProof.Rows L2 Evl TL Gd
/-! ### both looks at names agree -/
theorem same_of {a b : List Nat} (h1 : a.all (fun c => decide (c ∈ b)) = true) (h2 : b.all (fun c => decide (c ∈ a)) = true) (c : Nat) : c ∈ a ↔ c ∈ b :=
  ⟨fun h => of_decide_eq_true (List.all_eq_true.mp h1 c h), fun h => of_decide_eq_true (List.all_eq_true.mp h2 c h)⟩
theorem let_same (c : Nat) : c ∈ tl LET ↔ c ∈ tl LLET := same_of (by decide +kernel) (by decide +kernel) c
theorem sgn_same (c : Nat) : c ∈ tl SGN ↔ c ∈ tl (LLET ++ "0123456789") := same_of (by decide +kernel) (by decide +kernel) c
theorem dig_same (c : Nat) : c ∈ tl DIG ↔ c ∈ tl ("0123456789" : Str) := same_of (by decide +kernel) (by decide +kernel) c
theorem let_sgn2 (c : Nat) (h : c ∈ tl LET) : c ∈ tl SGN := of_decide_eq_true (List.all_eq_true.mp (show (tl LET).all (fun c => decide (c ∈ tl SGN)) = true by decide +kernel) c h)
theorem take_yes (p : Nat → Bool) : ∀ (l : List Nat) (c : Nat), c ∈ l.takeWhile p → p c = true
  | [], c, h => by simp at h
  | a :: r, c, h => by
    rw [List.takeWhile_cons] at h
    split at h
    · next ha =>
      cases List.mem_cons.mp h with
      | inl e => rw [e]; exact ha
      | inr h => exact take_yes p r c h
    · simp at h
theorem take_whole (p : Nat → Bool) : ∀ (l : List Nat), (∀ c ∈ l, p c = true) → l.takeWhile p = l
  | [], _ => rfl
  | a :: r, h => by
    rw [List.takeWhile_cons, if_pos (h a List.mem_cons_self), take_whole p r fun c hc => h c (List.mem_cons_of_mem _ hc)]
theorem row_full (l S : List Nat) (most : Nat) : rowLen l 0 S most = l.length ↔ l.length ≤ most ∧ ∀ c ∈ l, c ∈ S := by
  unfold rowLen
  rw [List.drop_zero]
  constructor
  · intro h
    have h1 := (List.takeWhile_prefix (fun c => decide (c ∈ S)) (l := l.take most)).length_le
    rw [h, List.length_take] at h1
    have hm : l.length ≤ most := by omega
    refine ⟨hm, fun c hc => ?_⟩
    rw [List.take_of_length_le hm] at h
    have h2 := (List.takeWhile_prefix (fun c => decide (c ∈ S)) (l := l)).eq_of_length h
    rw [← h2] at hc
    exact of_decide_eq_true (take_yes _ l c hc)
  · rintro ⟨h1, h2⟩
    rw [List.take_of_length_le h1, take_whole _ l (fun c hc => decide_eq_true (h2 c hc))]
theorem row_one (l S : List Nat) : rowEnd l 0 S 1 = 0 ↔ ∀ c, l.head? = some c → c ∉ S := by
  unfold rowEnd rowLen
  rw [List.drop_zero, Nat.zero_add]
  cases l with
  | nil => simp
  | cons a r =>
    simp only [List.take_succ_cons, List.take_zero, List.head?_cons, Option.some.injEq, forall_eq']
    by_cases h : a ∈ S
    · simp [List.takeWhile_cons, h]
    · simp [List.takeWhile_cons, h]
theorem empty_iff (z : Str) : V.str z = V.str "" ↔ tl z = [] := ⟨fun h => by rw [V.str.inj h]; rfl, fun h => congrArg V.str (ext_tl (by rw [h]; rfl))⟩
theorem name_char (z : Str) : nameB z = true ↔ (1 ≤ (tl z).length ∧ (tl z).length ≤ 40) ∧ (∀ c ∈ tl z, c ∈ tl SGN) ∧ (tl z).getD 0 0 ∈ tl LET := by
  unfold nameB
  rw [Bool.and_eq_true, Bool.not_eq_true', decide_eq_false_iff_not, decide_eq_true_iff, empty_iff, V.int.injEq, len_tl]
  unfold nameEnd
  cases hl : tl z with
  | nil => simp
  | cons a r =>
    have hg : (a :: r).getD 0 0 = a := rfl
    rw [hg]
    by_cases ha : a ∈ tl LET
    · have h1 : ¬ (rowEnd (a :: r) 0 (tl LET) 1 = 0) := fun h => (row_one _ _).mp h a rfl ha
      rw [if_neg h1]
      have h2 := row_full (a :: r) (tl SGN) 40
      unfold rowEnd
      rw [Nat.zero_add]
      constructor
      · rintro ⟨_, h⟩
        have h3 := h2.mp (Int.ofNat.inj h)
        exact ⟨⟨Nat.succ_pos _, h3.1⟩, h3.2, ha⟩
      · rintro ⟨⟨_, h4⟩, h5, _⟩
        exact ⟨by simp, by rw [h2.mpr ⟨h4, h5⟩]⟩
    · have h1 : rowEnd (a :: r) 0 (tl LET) 1 = 0 := (row_one _ _).mpr fun c hc => by cases hc; exact ha
      rw [if_pos h1]
      constructor
      · rintro ⟨_, h⟩
        rw [List.length_cons] at h
        omega
      · rintro ⟨_, _, h⟩
        exact absurd h ha
theorem lawName_char (z : Str) : lawNameB z = true ↔ (1 ≤ (tl z).length ∧ (tl z).length ≤ 40) ∧ (∀ c ∈ tl z, c ∈ tl SGN) ∧ (tl z).getD 0 0 ∈ tl LET := by
  unfold lawNameB
  rw [Bool.and_eq_true, Bool.and_eq_true, Bool.and_eq_true, decide_eq_true_iff, decide_eq_true_iff, decide_eq_true_iff, decide_eq_true_iff, V.int.injEq, len_tl, ← let_same]
  have e : ((((tl z).filter okSign).length : Nat) : Int) = (((tl z).length : Nat) : Int) ↔ ∀ c ∈ tl z, c ∈ tl SGN := by
    rw [Int.ofNat_inj, Gd.filter_all]
    constructor
    · intro h c hc
      exact (sgn_same c).mpr (of_decide_eq_true (h c hc))
    · intro h c hc
      exact decide_eq_true ((sgn_same c).mp (h c hc))
  rw [e]
  constructor
  · rintro ⟨⟨h1, h2⟩, h3, h4⟩
    exact ⟨⟨by omega, by omega⟩, h3, h4⟩
  · rintro ⟨⟨h1, h2⟩, h3, h4⟩
    exact ⟨⟨by omega, by omega⟩, h3, h4⟩
theorem name_eq (z : Str) : nameB z = lawNameB z := Bool.eq_iff_iff.mpr ((name_char z).trans (lawName_char z).symm)
theorem num_eq (d : Str) : (numB d && !decide (V.str (sign0 d) = V.str "0")) = lawNumB d := by
  unfold numB lawNumB
  have e1 : (!decide (V.str d = V.str "") && decide (V.int (rowEnd (tl d) 0 (tl DIG) 9 : Nat) = V.int (d.length : Int))) = ((decide ((1 : Int) ≤ (d.length : Int)) && decide ((d.length : Int) ≤ 9)) && decide (V.int ((((tl d).filter okDig).length : Nat) : Int) = V.int (d.length : Int))) := by
    apply Bool.eq_iff_iff.mpr
    rw [Bool.and_eq_true, Bool.and_eq_true, Bool.and_eq_true, Bool.not_eq_true', decide_eq_false_iff_not, decide_eq_true_iff, decide_eq_true_iff, decide_eq_true_iff, decide_eq_true_iff, empty_iff, V.int.injEq, V.int.injEq, len_tl, Int.ofNat_inj, Int.ofNat_inj, Gd.filter_all]
    unfold rowEnd
    rw [Nat.zero_add, row_full]
    constructor
    · rintro ⟨h1, h2, h3⟩
      have : 0 < (tl d).length := List.length_pos_iff.mpr h1
      exact ⟨⟨by omega, by omega⟩, fun c hc => decide_eq_true ((dig_same c).mp (h3 c hc))⟩
    · rintro ⟨⟨h1, h2⟩, h3⟩
      exact ⟨fun e => by rw [e] at h1; simp at h1, by omega, fun c hc => (dig_same c).mpr (of_decide_eq_true (h3 c hc))⟩
  rw [e1, Bool.and_assoc]
theorem part_eq (z : Str) : partB z = lawPartB z := by
  unfold partB lawPartB
  cases h : decide (V.str (Txt.partition z "@").2.1 = V.str "") with
  | true =>
    have h1 : (Txt.partition z "@").2.1 = Str.empty := (V.str.inj (of_decide_eq_true h)).trans (ext_tl rfl)
    rw [(part_facts z "@" at_ne).2 h1]
    exact name_eq z
  | false =>
    show (nameB _ && _) = (lawNameB _ && _)
    rw [name_eq, num_eq]
def lawUsedB (z : Str) : Bool := bif decide (V.str (cutS z none (some 1)) = V.str ".") then lawNameB (cutS z (some 1) none) else (decide (((Txt.split z ".").length : Int) ≤ 8) && ((Txt.split z ".").map lawPartB).all id)
theorem starts_eq (z : Str) : Txt.startswith z "." = decide (V.str (cutS z none (some 1)) = V.str ".") := by
  have e1 : V.str (cutS z none (some 1)) = V.str "." ↔ pre (tl ".") ((tl z).drop 0) = true := by
    rw [V.str.injEq]
    have ht : tl (cutS z none (some 1)) = (tl z).take 1 := by
      unfold cutS
      rw [HT.sIx_none]
      have h1 : HT.sIx z.length z.length (some 1) = min 1 z.length := HT.sIx_nat _ _ 1
      rw [h1]
      show ((tl z).drop 0).take (min 1 z.length - 0) = _
      rw [List.drop_zero, Nat.sub_zero, len_tl]
      cases h : tl z with
      | nil => rfl
      | cons a r => rw [List.length_cons, show min 1 (r.length + 1) = 1 by omega]
    constructor
    · intro h
      rw [List.drop_zero]
      show ((tl z).take (tl ".").length == tl ".") = true
      rw [show (tl ".").length = 1 from rfl, ← ht, h]
      exact beq_self_eq_true _
    · intro h
      rw [List.drop_zero] at h
      have h2 : (tl z).take 1 = tl "." := eq_of_beq h
      exact ext_tl (ht.trans h2)
  have e2 := at_iff (x := z) dot_ne 0
  apply Bool.eq_iff_iff.mpr
  rw [decide_eq_true_iff, e1, ← e2]
  unfold Txt.startswith
  rw [Bool.and_eq_true, decide_eq_true_iff]
  exact Iff.rfl
theorem sgn_no : (46 : Nat) ∉ tl SGN ∧ (64 : Nat) ∉ tl SGN := by decide +kernel
theorem let_sgn46 : (46 : Nat) ∉ tl LET := by decide +kernel
theorem name_sgn {z : Str} (h : nameB z = true) : ∀ c ∈ tl z, c ∈ tl SGN := ((name_char z).mp h).2.1
theorem name_used {z : Str} (h : nameB z = true) : usedB0 z = true := by
  have hs := name_sgn h
  have n46 : (46 : Nat) ∉ tl z := fun q => sgn_no.1 (hs _ q)
  have n64 : (64 : Nat) ∉ tl z := fun q => sgn_no.2 (hs _ q)
  have hz : z = SX.S (tl z) := (SX.S_tl z).symm
  have e1 : Txt.startswith z "." = false := by
    have e2 := at_iff (x := z) dot_ne 0
    cases q : Txt.startswith z "." with
    | false => rfl
    | true =>
      exfalso
      have q1 : PySem.StrLaws.At z "." z.length 0 := by
        unfold Txt.startswith at q
        rw [Bool.and_eq_true, decide_eq_true_iff] at q
        exact q
      have h2 := e2.mp q1
      rw [List.drop_zero] at h2
      have h3 : (tl z).take 1 = tl "." := eq_of_beq h2
      exact n46 (List.mem_of_mem_take (by rw [h3]; decide +kernel : (46 : Nat) ∈ (tl z).take 1))
  have e2 : Txt.split z "." = [z] := by
    have hj : TL.joinL ([46] : List Nat) [tl z] = tl z := rfl
    have h1 := SX.split_S (a := tl z) (b := [46]) (List.cons_ne_nil _ _) (by decide)
    have h2 := SX.spl_join (c := 46) (sep := []) (parts := [tl z]) (List.cons_ne_nil _ _) (fun p hp => by rw [List.mem_singleton.mp hp]; exact n46)
    rw [hj] at h2
    rw [h2] at h1
    have e46 : SX.S [46] = ("." : Str) := by decide +kernel
    rw [e46, ← hz] at h1
    rw [h1, List.map_cons, List.map_nil, ← hz]
  have e3 : Txt.partition z "@" = (z, SX.S [], SX.S []) := by
    have h1 := SX.partition_none (a := tl z) (b := [64]) (List.cons_ne_nil _ _) (SX.par_head_none n64)
    have e64 : SX.S [64] = ("@" : Str) := by decide +kernel
    rw [e64, ← hz] at h1
    exact h1
  have e4 : partB z = true := by
    unfold partB
    rw [e3]
    have : decide (V.str (SX.S []) = V.str "") = true := by decide +kernel
    rw [this]
    exact h
  unfold usedB0
  rw [e1, e2]
  show (decide ((1 : Int) ≤ 8) && ([partB z]).all id) = true
  rw [List.all_cons, e4]
  rfl
theorem used0_eq (z : Str) : usedB0 z = lawUsedB z := by
  unfold usedB0 lawUsedB
  rw [starts_eq, name_eq, show partB = lawPartB from funext part_eq]
theorem used_eq (z : Str) : usedB z = lawUsedB z := by
  unfold usedB
  cases h : nameB z with
  | true => rw [← used0_eq, name_used h]; rfl
  | false => exact used0_eq z
end M2

set_option maxHeartbeats 4000000
namespace M2
open PySem PySem.Spec PyProof.Rows L2 Evl TL Gd
section
variable {P : Program} {w : World} {K : PySem.W.Frag} {mg : Str → Option Value} {base : Heap}
abbrev s_law_is_used : Stmt := top 20
abbrev N_law_is_used : List Str := ["_law_word_here", "_law_parts", "_law_part_here"]
theorem sc_law_is_used : FnScope N_law_is_used ["_law_word_here"] (defScope s_law_is_used) := ⟨rfl, rfl, rfl, by decide +kernel, rfl, by decide +kernel, by decide +kernel⟩
theorem ok_law_is_used {f : Addr} {fd : FuncData} (F : Fun K "_law_is_used" "_law_is_used" s_law_is_used f fd) (T : Tx K mg) (D_law_is_name : Df P w K mg base CX0 2 "_law_is_name" ["_law_word_here"] (spPart lawNameB))
    (D_law_is_part : Df P w K mg base CX0 3 "_law_is_part" ["_law_word_here"] (spPart lawPartB)) : FnOk P w K mg base CX0 4 f fd ["_law_word_here"] (spPart lawUsedB) := by
  refine F.ok sc_law_is_used (fun vs H Q E h => ?_) (fun cdv A outer s H vs Q E hr h => ?_)
  · obtain ⟨v, rfl, _⟩ := h
    rfl
  · obtain ⟨z, rfl, hz, k⟩ := h
    refine ⟨_, (pss_cons (ps_if (pt_cmpR op_eq (pe_slice sl_str (pv 0) po_none (po_some pe_int)) pe_str (nomark _))
    (pss_one (ps_ret (pe_df D_law_is_name (hr.mono (by decide)) rfl (pa_cons (pe_slice sl_str (pv 0) (po_some pe_int) po_none) pa_nil))))
    pss_nil)
  (pss_cons (ps_set (i := 1) sc_law_is_used.nd rfl (Or.inl rfl) (pe_split (pv 0) pe_str))
  (pss_one (ps_ret (pe_and (pe_cmpR op_le (pe_callB call_len_seq (by rfl) T.b_len (by decide +kernel) (pa_cons (pv 1) pa_nil)) pe_int (nomark _)) (pe_one (pe_callB (cr_all rfl) (by rfl) T.b_all (by decide +kernel) (pa_cons (pe_lc (own := [("_law_part_here", 2)]) (g := gName 2) (tt := tYes) rfl sc_law_is_used.nd (pi_list (pv 1)) (blkOk_by (N := N_law_is_used) (sc := defScope s_law_is_used) (by decide +kernel)) (fun _ _ _ _ _ => pg_name (i := 2) sc_law_is_used.nd rfl (Or.inl rfl)) (fun _ _ _ _ _ => pts_nil) (fun _ _ _ _ _ => (pe_df D_law_is_part (hr.mono (by decide)) rfl (pa_cons (pv 2) pa_nil)))) pa_nil)))))))), ?_⟩
    refine q_when (et_test (ev_op (ev_slS (ev_var rfl) eo_none (eo_some (i := 1) ev_c) (by omega)) ev_c (rv_eq rfl))) (fun hb H2 e2 => ?_) (fun hb H2 e2 => ?_)
    · refine s_ret (ev_df (ea_cons (ev_slS (ev_var rfl) (eo_some (i := 1) ev_c) eo_none (by omega)) ea_nil) (is_part (Nat.le_trans (cutS_length _ _ _) hz))) fun H3 e3 => ?_
      have := k H3 (e2.trans e3)
      unfold lawUsedB at this
      rw [hb] at this
      exact this
    · refine q_asgL (el_split (ev_var rfl) ev_c dot_len (by omega)) fun p H3 hp e3 h3 => ?_
      have hL : ((Txt.split z ".").map V.str).length ≤ 40000 := by
        rw [List.length_map]
        have := PyProof.Rows.split_le z "."
        omega
      have ee : given ((Txt.split z ".").map V.str).length (fun _ => true) (fun i => V.bl (lawPartB ((Txt.split z ".").getD i ""))) = ((Txt.split z ".").map lawPartB).map V.bl := by
        rw [List.length_map, given_map (Txt.split z ".") (fun y => V.bl (lawPartB y)) "", List.map_map]
        rfl
      refine s_ret (ev_andV (ev_op (ev_len (ev_var rfl) (sq_of h3)) ev_c rv_I0) fun _ => ev_allL (bs := (Txt.split z ".").map lawPartB) (ee ▸ el_lcL (fun _ => true) (fun i => V.bl (lawPartB ((Txt.split z ".").getD i ""))) (ev_var rfl) (sq_of h3) hL (fun _ => rfl) (fun _ _ _ _ _ => fun H _ Q q => q H (Ex.refl H)) (fun i x H4 e4 hx _ => ?_))) fun H4 e4 => ?_
      · rw [List.getElem?_map] at hx
        cases hy : (Txt.split z ".")[i]? with
        | none => rw [hy] at hx; cases hx
        | some y =>
          rw [hy] at hx
          cases hx
          have hm : y ∈ Txt.split z "." := List.mem_of_getElem? hy
          have hl := split_len dot_ne (by decide +kernel) hm
          rw [List.getD_eq_getElem?_getD, hy]
          exact ev_df (ea_cons (ev_var rfl) ea_nil) (is_part (by omega))
      · have := k H4 ((e2.trans e3).trans e4)
        unfold lawUsedB at this
        rw [hb] at this
        rw [List.length_map]
        exact this
/-! ### _law_right -/
abbrev s_law_right : Stmt := top 24
theorem sc_law_right : FnScope ["_law_word_here", "_law_due", "_law_told", "_law_named"] ["_law_word_here"] (defScope s_law_right) := ⟨rfl, rfl, rfl, by decide +kernel, rfl, by decide +kernel, by decide +kernel⟩
def spRight : Sp := fun vs H Q _ => ∃ z, vs = [.str z] ∧ z.length ≤ 30000 ∧ RetV (.bl true) H Q
theorem is_list {l : List V} {H : Hp} : SpL (spList l) [] H l := fun H1 _ Q q E => ⟨rfl, fun p H2 h1 h2 h3 => q p H2 h1 h2 h3⟩
theorem el_df {K : PySem.W.Frag} {σ : L2.St} {H : Hp} {sp : Sp} {vs xs : List V} {E : XK} {tx : TA} (h : EvA tx σ H vs) (hs : SpL sp vs H xs) : EvL (tCall sp [] E tx) σ H xs :=
  el_call h (by rw [List.append_nil]; exact hs)
/-- repr of three truths -/
theorem ev_repr3 {K : PySem.W.Frag} {σ : L2.St} {H : Hp} {te : TE} {a : Addr} {b1 b2 b3 : Bool} (h : Ev te σ H (.ref a)) (ha : H a = some (.lst [.bl b1, .bl b2, .bl b3])) :
    Ev (tCB (rRepr K) (tCons te tNil)) σ H (.str (PyData.list [.bool b1, .bool b2, .bool b3]).shown) :=
  ev_cb (ea_cons h ea_nil) fun H1 e Q q => ⟨a, _, rfl, .lst (sq_of (e a _ ha)) (.cons (.bl b1) (.cons (.bl b2) (.cons (.bl b3) .nil))), by cases b1 <;> cases b2 <;> cases b3 <;> decide +kernel, by cases b1 <;> cases b2 <;> cases b3 <;> decide +kernel,
    by cases b1 <;> cases b2 <;> cases b3 <;> decide +kernel, by cases b1 <;> cases b2 <;> cases b3 <;> decide +kernel, q H1 (Ex.refl H1)⟩
theorem ok_law_right {f : Addr} {fd : FuncData} (F : Fun K "_law_right" "_law_right" s_law_right f fd) (T : Tx K mg) (D_law_is_name : Df P w K mg base CX0 2 "_law_is_name" ["_law_word_here"] (spPart lawNameB)) (D_law_reserved : Df P w K mg base CX0 1 "_law_reserved" [] (spList (RES.map V.str)))
    (D_law_is_used : Df P w K mg base CX0 4 "_law_is_used" ["_law_word_here"] (spPart lawUsedB)) (D_is_name : Df P w K mg base CX0 3 "is_name" ["value"] (spAsk K nameB)) (D_is_reserved : Df P w K mg base CX0 3 "is_reserved" ["value"] (spAsk K resB))
    (D_is_used : Df P w K mg base CX0 5 "is_used" ["value"] (spAsk K usedB)) (K_is_name : DfK P w K mg base CX0 3 "is_name" ["value"] (spAsk K nameB)) (K_is_reserved : DfK P w K mg base CX0 3 "is_reserved" ["value"] (spAsk K resB))
    (K_is_used : DfK P w K mg base CX0 5 "is_used" ["value"] (spAsk K usedB)) : GOk P w K mg base CX0 6 f fd ["_law_word_here"] spRight := by
  refine ok_of0 F sc_law_right (fun vs H Q E h => ?_) (fun cdv A outer s H vs Q E ca hr h => ?_)
  · obtain ⟨v, rfl, _⟩ := h
    rfl
  · obtain ⟨z, rfl, hz, k⟩ := h
    refine ⟨_, (pss_cons (ps_set (i := 1) sc_law_right.nd rfl (Or.inl rfl) (pe_lst (pa_cons (pe_df D_law_is_name (hr.mono (by decide)) rfl (pa_cons (pv 0) pa_nil)) (pa_cons (pe_cmpR op_in_seq (pv 0) (pe_df0 D_law_reserved (hr.mono (by decide)) rfl) rfl) (pa_cons (pe_df D_law_is_used (hr.mono (by decide)) rfl (pa_cons (pv 0) pa_nil)) pa_nil)))))
  (pss_cons (ps_set (i := 2) sc_law_right.nd rfl (Or.inl rfl) (pe_lst (pa_cons (pe_df D_is_name (hr.mono (by decide)) rfl (pa_cons (pv 0) pa_nil)) (pa_cons (pe_df D_is_reserved (hr.mono (by decide)) rfl (pa_cons (pv 0) pa_nil)) (pa_cons (pe_df D_is_used (hr.mono (by decide)) rfl (pa_cons (pv 0) pa_nil)) pa_nil)))))
  (pss_cons (ps_set (i := 3) sc_law_right.nd rfl (Or.inl rfl) (pe_lst (pa_cons (pe_dfK K_is_name (hr.mono (by decide)) rfl (pk_cons (pv 0) pk_nil)) (pa_cons (pe_dfK K_is_reserved (hr.mono (by decide)) rfl (pk_cons (pv 0) pk_nil)) (pa_cons (pe_dfK K_is_used (hr.mono (by decide)) rfl (pk_cons (pv 0) pk_nil)) pa_nil)))))
  (pss_one (ps_ret (pe_and (pe_cmpR op_eq (pe_callB (call_repr ca hr) (by rfl) T.b_repr (by decide +kernel) (pa_cons (pv 2) pa_nil)) (pe_callB (call_repr ca hr) (by rfl) T.b_repr (by decide +kernel) (pa_cons (pv 1) pa_nil)) (nomark _)) (pe_one (pe_cmpR op_eq (pe_callB (call_repr ca hr) (by rfl) T.b_repr (by decide +kernel) (pa_cons (pv 3) pa_nil)) (pe_callB (call_repr ca hr) (by rfl) T.b_repr (by decide +kernel) (pa_cons (pv 1) pa_nil)) (nomark _))))))))), ?_⟩
    refine q_asgL (el_lst (ea_cons (ev_df (ea_cons (ev_var rfl) ea_nil) (is_part hz)) (ea_cons (ev_opL (ev_var rfl) (el_df (K := K) ea_nil is_list) fun p H1 h1 _ => rv_isL (sq_of h1) rfl (flat_strs RES)) (ea_cons (ev_df (ea_cons (ev_var rfl) ea_nil) (is_part hz)) ea_nil))) (by show 3 ≤ 100000; decide)) fun p1 H1 hp1 e1 h1 => ?_
    refine q_asgL (el_lst (ea_cons (ev_df (ea_cons (ev_var rfl) ea_nil) (is_askS hz)) (ea_cons (ev_df (ea_cons (ev_var rfl) ea_nil) (is_askS hz)) (ea_cons (ev_df (ea_cons (ev_var rfl) ea_nil) (is_askS hz)) ea_nil))) (by show 3 ≤ 100000; decide)) fun p2 H2 hp2 e2 h2 => ?_
    refine q_asgL (el_lst (ea_cons (ev_dfK (ea_cons (ev_var rfl) ea_nil) rfl (is_askS hz)) (ea_cons (ev_dfK (ea_cons (ev_var rfl) ea_nil) rfl (is_askS hz)) (ea_cons (ev_dfK (ea_cons (ev_var rfl) ea_nil) rfl (is_askS hz)) ea_nil))) (by show 3 ≤ 100000; decide)) fun p3 H3 hp3 e3 h3 => ?_
    have g1 := e3 _ _ (e2 _ _ h1)
    have g2 := e3 _ _ h2
    have en := name_eq z
    have eu := used_eq z
    refine s_ret (ev_andV (ev_op (ev_repr3 (ev_var rfl) g2) (ev_repr3 (ev_var rfl) g1) (rv_eq rfl)) fun _ => ev_op (ev_repr3 (ev_var rfl) h3) (ev_repr3 (ev_var rfl) g1) (rv_eq rfl)) fun H4 e4 => ?_
    have er : inV (.str z) (RES.map V.str) = resB z := rfl
    rw [en, eu, er, decide_eq_true rfl]
    exact k H4 (((e1.trans e2).trans e3).trans e4)
end
end M2

set_option maxHeartbeats 4000000
namespace M2
open PySem PySem.Spec PyProof.Rows L2 Evl TL Gd
section
variable {P : Program} {w : World} {K : PySem.W.Frag} {mg : Str → Option Value} {base : Heap}
abbrev s_law_mixed : Stmt := top 13
theorem sc_law_mixed : FnScope ["_law_number", "_law_k"] ["_law_number", "_law_k"] (defScope s_law_mixed) := ⟨rfl, rfl, rfl, by decide +kernel, rfl, by decide +kernel, by decide +kernel⟩
theorem ok_law_mixed {f : Addr} {fd : FuncData} (F : Fun K "_law_mixed" "_law_mixed" s_law_mixed f fd) (T : Tx K mg) : FnOk P w K mg base CX0 1 f fd ["_law_number", "_law_k"] spMixed := by
  refine F.ok sc_law_mixed (fun vs H Q E h => ?_) (fun cdv A outer s H vs Q E hr h => ?_)
  · obtain ⟨n, k, rfl, _⟩ := h
    rfl
  · obtain ⟨n, k, rfl, h0, h1, kk⟩ := h
    refine ⟨_, (pss_cons (ps_set (i := 0) sc_law_mixed.nd rfl (Or.inl rfl) (pe_op op_mod (pe_callTy call_int1 (by rfl) T.b_int (by decide +kernel) (pa_cons (pe_op op_mul (pe_op op_add (pe_op op_add (pe_op op_mod (pe_callTy call_int1 (by rfl) T.b_int (by decide +kernel) (pa_cons (pv 0) pa_nil)) pe_int) (pe_op op_mul (pe_op op_mul pe_int (pv 1)) (pv 1))) (pe_op op_mul pe_int (pv 1))) pe_int) pa_nil)) pe_int))
  (pss_one (ps_ret (pe_op op_mod (pe_callTy call_int1 (by rfl) T.b_int (by decide +kernel) (pa_cons (pe_op op_mul (pv 0) (pe_op op_add pe_int (pe_op op_mul pe_int (pv 1)))) pa_nil)) pe_int)))), ?_⟩
    refine q_asg (ev_op (ev_int1 (ev_op (ev_op (ev_op (ev_op (ev_int1 (ev_var rfl)) ev_c (rv_I (by decide))) (ev_op (ev_op ev_c (ev_var rfl) (rv_I (Or.inl (by decide)))) (ev_var rfl) (rv_I (Or.inr ⟨by omega, by omega⟩))) rv_I0) (ev_op ev_c (ev_var rfl) (rv_I (Or.inl (by decide)))) rv_I0) ev_c (rv_I (Or.inr (by decide))))) ev_c (rv_I (by decide))) fun H1 e1 => ?_
    have hm : 0 ≤ ((n % 2147483647 + 7919 * k * k + 31 * k) * 48271) % 2147483647 ∧ ((n % 2147483647 + 7919 * k * k + 31 * k) * 48271) % 2147483647 < 2147483647 := ⟨Int.emod_nonneg _ (by decide), Int.emod_lt_of_pos _ (by decide)⟩
    refine s_ret (ev_op (ev_int1 (ev_op (ev_var rfl) (ev_op ev_c (ev_op ev_c (ev_var rfl) (rv_I (Or.inl (by decide)))) rv_I0) (rv_I (Or.inl ⟨by omega, by omega⟩)))) ev_c (rv_I (by decide))) fun H2 e2 => ?_
    exact kk H2 (e1.trans e2)
abbrev s_law_stream : Stmt := top 14
theorem sc_law_stream : FnScope ["_law_item", "_law_k"] ["_law_item", "_law_k"] (defScope s_law_stream) := ⟨rfl, rfl, rfl, by decide +kernel, rfl, by decide +kernel, by decide +kernel⟩
theorem ok_law_stream {f : Addr} {fd : FuncData} (F : Fun K "_law_stream" "_law_stream" s_law_stream f fd) (T : Tx K mg) (D_law_mixed : Df P w K mg base CX0 1 "_law_mixed" ["_law_number", "_law_k"] spMixed) : FnOk P w K mg base CX0 2 f fd ["_law_item", "_law_k"] spStream := by
  refine F.ok sc_law_stream (fun vs H Q E h => ?_) (fun cdv A outer s H vs Q E hr h => ?_)
  · obtain ⟨n, k, rfl, _⟩ := h
    rfl
  · obtain ⟨n, k, rfl, h0, h1, kk⟩ := h
    refine ⟨_, (pss_one (ps_ret (pe_lst (pa_cons (pe_ifExp (pt_cmpR op_ge (pv 0) (pe_op op_pow pe_int pe_int) (nomark _)) (pv 0) pe_int) (pa_cons pe_int (pa_cons (pe_df D_law_mixed (hr.mono (by decide)) rfl (pa_cons (pv 0) (pa_cons (pv 1) pa_nil))) pa_nil)))))), ?_⟩
    by_cases hn : (10 : Int) ^ (18 : Int).toNat ≤ n
    · refine s_retL (el_lst (ea_cons (ev_if (v := .int n) (et_test (ev_op (ev_var rfl) (ev_op ev_c ev_c (rv_I ⟨by decide, by decide, by decide⟩)) rv_I0)) (fun _ => ev_var rfl) (fun h => absurd hn (of_decide_eq_false h))) (ea_cons ev_c (ea_cons (ev_df (ea_cons (ev_var rfl) (ea_cons (ev_var rfl) ea_nil)) (is_mixed h0 h1)) ea_nil))) (by show 3 ≤ 100000; decide)) fun p H2 hp e2 h2 => ?_
      exact kk p H2 hp e2 ⟨_, _, h2⟩
    · refine s_retL (el_lst (ea_cons (ev_if (v := .int 0) (et_test (ev_op (ev_var rfl) (ev_op ev_c ev_c (rv_I ⟨by decide, by decide, by decide⟩)) rv_I0)) (fun h => absurd (of_decide_eq_true h) hn) (fun _ => ev_c)) (ea_cons ev_c (ea_cons (ev_df (ea_cons (ev_var rfl) (ea_cons (ev_var rfl) ea_nil)) (is_mixed h0 h1)) ea_nil))) (by show 3 ≤ 100000; decide)) fun p H2 hp e2 h2 => ?_
      exact kk p H2 hp e2 ⟨_, _, h2⟩
abbrev s_law_draw : Stmt := top 15
theorem sc_law_draw : FnScope ["_law_stream_here", "_law_top", "_law_number"] ["_law_stream_here", "_law_top"] (defScope s_law_draw) := ⟨rfl, rfl, rfl, by decide +kernel, rfl, by decide +kernel, by decide +kernel⟩
theorem ok_law_draw {f : Addr} {fd : FuncData} (F : Fun K "_law_draw" "_law_draw" s_law_draw f fd) (T : Tx K mg) (D_law_mixed : Df P w K mg base CX0 1 "_law_mixed" ["_law_number", "_law_k"] spMixed) : FnOk P w K mg base CX0 2 f fd ["_law_stream_here", "_law_top"] spDraw := by
  refine F.ok sc_law_draw (fun vs H Q E h => ?_) (fun cdv A outer s H vs Q E hr h => ?_)
  · obtain ⟨p, b, top, rfl, _⟩ := h
    rfl
  · obtain ⟨p, b, top, rfl, h0, h1, ⟨a, c, hs⟩, t0, t1, kk⟩ := h
    refine ⟨_, (pss_cons (ps_asg (pe_op op_add (pe_ix ix_list (pv 0) pe_int (fun _ _ => rfl)) pe_int) (pg_sub (pv 0) pe_int set_list))
  (pss_cons (ps_if (pt_cmpR op_eq (pe_ix ix_list (pv 0) pe_int (fun _ _ => rfl)) pe_int (nomark _))
    (pss_one (ps_ret (pe_op op_modN (pe_callTy call_int1 (by rfl) T.b_int (by decide +kernel) (pa_cons (pe_df D_law_mixed (hr.mono (by decide)) rfl (pa_cons (pe_df D_law_mixed (hr.mono (by decide)) rfl (pa_cons (pe_ix ix_list (pv 0) pe_int (fun _ _ => rfl)) (pa_cons (pe_ix ix_list (pv 0) pe_int (fun _ _ => rfl)) pa_nil))) (pa_cons pe_int pa_nil))) pa_nil)) (pv 1))))
    pss_nil)
  (pss_cons (ps_set (i := 2) sc_law_draw.nd rfl (Or.inl rfl) (pe_op op_modN (pe_callTy call_int1 (by rfl) T.b_int (by decide +kernel) (pa_cons (pe_ix ix_list (pv 0) pe_int (fun _ _ => rfl)) pa_nil)) (pv 1)))
  (pss_cons (ps_asg (pe_op op_fdivN (pe_ix ix_list (pv 0) pe_int (fun _ _ => rfl)) (pv 1)) (pg_sub (pv 0) pe_int set_list))
  (pss_one (ps_ret (pv 2))))))), ?_⟩
    have ix : ∀ {σ' : L2.St} {H' : Hp} {a b c : Int} {j : Nat} {v : V}, σ'[0]? = some (some (.ref p)) → H' p = some (.lst [.int a, .int b, .int c]) → [V.int a, V.int b, V.int c][j]? = some v → Ev (tOp (rIxL K) (tVar 0) (tC (.int ((j : Nat) : Int)))) σ' H' v :=
      fun h0 h1 h2 => ev_op (ev_var h0) ev_c (rv_ixL (sq_of h1) (atI_nat h2))
    have tp : top.fmod top = 0 := Int.fmod_self
    refine q_setL (j := 1) (v := .int (b + 1)) hs (ev_op (ix (j := 1) rfl hs rfl) ev_c rv_I0) (ev_var rfl) (ev_c (v := .int ((1 : Nat) : Int))) (by show 1 < 3; decide) fun H1 e1 => ?_
    have g1 : (upd H1 p (.lst ([V.int a, V.int b, V.int c].set 1 (.int (b + 1))))) p = some (.lst [.int a, .int (b + 1), .int c]) := upd_same
    generalize hK : upd H1 p (.lst ([V.int a, V.int b, V.int c].set 1 (.int (b + 1)))) = H2 at g1
    have ew : Ex (wo p H) H2 := by rw [← hK]; exact wo_trans (fun x o z => e1 x o (wo_ex x o z)) wo_upd
    refine q_when (et_test (ev_op (ix (j := 0) rfl g1 rfl) ev_c (rv_eq rfl))) (fun hb H3 e3 => ?_) (fun hb H3 e3 => ?_)
    · have g3 := e3 _ _ g1
      have mr := mixed_range c (b + 1)
      refine s_ret (ev_op (ev_int1 (ev_df (ea_cons (ev_df (ea_cons (ix (j := 2) rfl g3 rfl) (ea_cons (ix (j := 1) rfl g3 rfl) ea_nil)) (is_mixed (by omega) (by omega))) (ea_cons ev_c ea_nil)) (is_mixed (by decide) (by decide)))) (ev_var rfl) (rv_I (by omega))) fun H4 e4 => ?_
      exact kk _ H4 (Int.fmod_nonneg_of_pos _ t0) (Int.fmod_lt_of_pos _ t0) ⟨_, _, e4 _ _ g3⟩ (fun x o z => e4 x o (e3 x o (ew x o z)))
    · refine q_asg (ev_op (ev_int1 (ix (j := 0) rfl (e3 _ _ g1) rfl)) (ev_var rfl) (rv_I (by omega))) fun H4 e4 => ?_
      have g4 := e4 _ _ (e3 _ _ g1)
      refine q_setL (j := 0) (v := .int (a.fdiv top)) g4 (ev_op (ix (j := 0) rfl g4 rfl) (ev_var rfl) (rv_I ⟨by omega, by omega⟩)) (ev_var rfl) (ev_c (v := .int ((0 : Nat) : Int))) (by show 0 < 3; decide) fun H5 e5 => ?_
      refine s_ret (ev_var rfl) fun H6 e6 => ?_
      exact kk _ H6 (Int.fmod_nonneg_of_pos _ t0) (Int.fmod_lt_of_pos _ t0) ⟨_, _, e6 _ _ upd_same⟩ (fun x o z => e6 x o (wo_trans (H1 := H5) (fun x o z => e5 x o (e4 x o (e3 x o (ew x o z)))) wo_upd x o z))
abbrev s_law_pick : Stmt := top 16
theorem sc_law_pick : FnScope ["_law_stream_here", "_law_some"] ["_law_stream_here", "_law_some"] (defScope s_law_pick) := ⟨rfl, rfl, rfl, by decide +kernel, rfl, by decide +kernel, by decide +kernel⟩
theorem ok_law_pick {f : Addr} {fd : FuncData} (F : Fun K "_law_pick" "_law_pick" s_law_pick f fd) (T : Tx K mg) (D_law_draw : Df P w K mg base CX0 2 "_law_draw" ["_law_stream_here", "_law_top"] spDraw) : FnOk P w K mg base CX0 3 f fd ["_law_stream_here", "_law_some"] (spPick K) := by
  refine F.ok sc_law_pick (fun vs H Q E h => ?_) (fun cdv A outer s H vs Q E hr h => ?_)
  · obtain ⟨p, l, b, xs, rfl, _⟩ := h
    rfl
  · obtain ⟨p, l, b, xs, rfl, h0, h1, hs, np, hl, l0, l1, kk⟩ := h
    refine ⟨_, (pss_one (ps_ret (pe_ix ix_list (pv 1) (pe_df D_law_draw (hr.mono (by decide)) rfl (pa_cons (pv 0) (pa_cons (pe_callB call_len_seq (by rfl) T.b_len (by decide +kernel) (pa_cons (pv 1) pa_nil)) pa_nil))) (fun _ _ => rfl)))), ?_⟩
    refine ⟨.ref l, rfl, ?_⟩
    refine dv_draw (p := p) (G := H) (top := (xs.length : Int)) rfl (ev_len (ev_var rfl) hl) (by omega) (by omega) H (Ex.refl H) b h0 h1 hs _ fun v H2 b' b0 b1 s2 e2 hv => ?_
    obtain ⟨n, rfl, n0, n1⟩ := hv
    have hl2 : SqL K H2 l xs := ex_l e2 (sq_wo np hl)
    have hn : n.toNat < xs.length := by omega
    have en : n = ((n.toNat : Nat) : Int) := by omega
    have gx : xs[n.toNat]? = some xs[n.toNat] := List.getElem?_eq_getElem hn
    refine rv_ixL (K := K) (H := H2) hl2 (by rw [en]; exact atI_nat gx) H2 (Ex.refl H2) _ fun H3 e3 => ?_
    exact kk _ H3 b' (List.getElem_mem hn) b0 (by omega) (s2.ex e3) (fun x o z => e3 x o (e2 x o z))
end
end M2

set_option maxHeartbeats 4000000
namespace M2
open PySem PySem.Spec PyProof.Rows L2 Evl TL Gd
section
variable {P : Program} {w : World} {K : PySem.W.Frag} {mg : Str → Option Value} {base : Heap}
abbrev s_law_word : Stmt := top 22
abbrev N_law_word : List Str := ["_law_stream_here", "_law_size", "_law_word_here", "_law_at", "_law_turn"]
theorem sc_law_word : FnScope N_law_word ["_law_stream_here"] (defScope s_law_word) := ⟨rfl, rfl, rfl, by decide +kernel, rfl, by decide +kernel, by decide +kernel⟩
theorem slen1 {z : Str} (h : (tl z).length ≤ 1) {n : Nat} (hn : 1 ≤ n) : z.length ≤ n := by rw [len_tl]; omega
theorem str_le {z : Str} {n : Nat} (h : decide (z.length ≤ n) = true) : z.length ≤ n := of_decide_eq_true h
theorem ok_law_word {f : Addr} {fd : FuncData} (F : Fun K "_law_word" "_law_word" s_law_word f fd) (T : Tx K mg) (D_law_draw : Df P w K mg base CX0 2 "_law_draw" ["_law_stream_here", "_law_top"] spDraw)
    (D_law_pick : Df P w K mg base CX0 3 "_law_pick" ["_law_stream_here", "_law_some"] (spPick K)) : FnOk P w K mg base CX0 4 f fd ["_law_stream_here"] (spGive 60 100) := by
  refine F.ok sc_law_word (fun vs H Q E h => ?_) (fun cdv A outer s H vs Q E hr h => ?_)
  · obtain ⟨p, b, rfl, _⟩ := h
    rfl
  · obtain ⟨p, b, rfl, hb, hk, hs, kk⟩ := h
    refine ⟨_, (pss_cons (ps_set (i := 1) sc_law_word.nd rfl (Or.inl rfl) (pe_df D_law_pick (hr.mono (by decide)) rfl (pa_cons (pv 0) (pa_cons (pe_lst (pa_cons pe_int (pa_cons pe_int (pa_cons pe_int (pa_cons pe_int (pa_cons pe_int (pa_cons pe_int (pa_cons pe_int (pa_cons (pe_op op_add pe_int (pe_df D_law_draw (hr.mono (by decide)) rfl (pa_cons (pv 0) (pa_cons pe_int pa_nil)))) pa_nil))))))))) pa_nil))))
  (pss_cons (ps_set (i := 2) sc_law_word.nd rfl (Or.inl rfl) (pe_join pe_str (pe_lc (own := [("_law_turn", 4)]) (g := gName 4) (tt := tYes) rfl sc_law_word.nd (pi_range1 rfl T.b_range (pa_cons (pv 1) pa_nil)) (blkOk_by (N := N_law_word) (sc := defScope s_law_word) (by decide +kernel)) (fun _ _ _ _ _ => pg_name (i := 4) sc_law_word.nd rfl (Or.inl rfl)) (fun _ _ _ _ _ => pts_nil) (fun _ _ _ _ _ => (pe_df D_law_pick (hr.mono (by decide)) rfl (pa_cons (pv 0) (pa_cons (pe_callTy (call_list_signs rfl) (by rfl) T.b_list (by decide +kernel) (pa_cons pe_str pa_nil)) pa_nil)))))))
  (Evl.pss_cut (ps_if (PW.pt (pw_and (pt_cmpR op_gt (pe_df D_law_draw (hr.mono (by decide)) rfl (pa_cons (pv 0) (pa_cons pe_int pa_nil))) pe_int (nomark _)) (pw_and1 (pt_cmpR op_in_seq (pe_slice sl_str (pv 2) po_none (po_some pe_int)) (pe_tup (pa_cons pe_str (pa_cons pe_str pa_nil))) rfl))))
    (pss_one (ps_set (i := 2) sc_law_word.nd rfl (Or.inl rfl) (pe_op op_add_str pe_str (pe_slice sl_str (pv 2) (po_some pe_int) po_none))))
    pss_nil)
  (Evl.pss_cut (ps_if (pt_cmpR op_eq (pe_df D_law_draw (hr.mono (by decide)) rfl (pa_cons (pv 0) (pa_cons pe_int pa_nil))) pe_int (nomark _))
    (pss_cons (ps_set (i := 3) sc_law_word.nd rfl (Or.inl rfl) (pe_df D_law_draw (hr.mono (by decide)) rfl (pa_cons (pv 0) (pa_cons (pe_op op_add (pe_callB call_len_str (by rfl) T.b_len (by decide +kernel) (pa_cons (pv 2) pa_nil)) pe_int) pa_nil))))
      (pss_one (ps_set (i := 2) sc_law_word.nd rfl (Or.inl rfl) (pe_op op_add_str (pe_op op_add_str (pe_slice sl_str (pv 2) po_none (po_some (pv 3))) (pe_df D_law_pick (hr.mono (by decide)) rfl (pa_cons (pv 0) (pa_cons (pe_lst (pa_cons pe_str (pa_cons pe_str (pa_cons pe_str (pa_cons pe_str (pa_cons pe_str (pa_cons pe_str (pa_cons pe_str (pa_cons pe_str pa_nil))))))))) pa_nil)))) (pe_slice sl_str (pv 2) (po_some (pv 3)) po_none)))))
    pss_nil)
  (pss_one (ps_ret (pv 2))))))), ?_⟩
    have hg : wo p H p = none := wo_at
    -- _law_size
    have dsz : Dv p _ [some (V.ref p), none, none, none, none] (wo p H) 2 (InR 1 44) := dv_imp (dv_pick (K := K) (E := E0) (i := 0) hg rfl (dvl_lst (dva_cons hg (dv_ev (ev_c (v := .int 1))) (dva_cons hg (dv_ev (ev_c (v := .int 2))) (dva_cons hg (dv_ev (ev_c (v := .int 3))) (dva_cons hg (dv_ev (ev_c (v := .int 4))) (dva_cons hg (dv_ev (ev_c (v := .int 39))) (dva_cons hg (dv_ev (ev_c (v := .int 40))) (dva_cons hg (dv_ev (ev_c (v := .int 41)))
      (dva_cons hg (dv_op (r := rI0 fun i j => .int (i + j)) (Rz := InR 1 44) hg (dv_ev (ev_c (v := .int 1))) (dv_draw (E := E0) (i := 0) (top := 43) rfl (ev_c (v := .int 43)) (by decide) (by decide)) (fun x y hx hy => by
        obtain ⟨n, rfl, n0, n1⟩ := hy
        cases hx
        exact ⟨_, fun H => rv_I0, _, rfl, by omega, by omega⟩)) dva_nil))))))))
        (fun vs h => by obtain ⟨_, _, rfl, _, _, _, rfl, _, _, _, rfl, _, _, _, rfl, _, _, _, rfl, _, _, _, rfl, _, _, _, rfl, _, _, _, rfl, _, rfl⟩ := h; show 8 ≤ 100000; decide))
        (fun vs h => by obtain ⟨_, _, rfl, _, _, _, rfl, _, _, _, rfl, _, _, _, rfl, _, _, _, rfl, _, _, _, rfl, _, _, _, rfl, _, _, _, rfl, _, rfl⟩ := h; exact ⟨by show 0 < 8; decide, by show 8 ≤ 100000; decide⟩))
        (fun v h => by
          obtain ⟨ys, ⟨_, _, rfl, rfl, _, _, rfl, rfl, _, _, rfl, rfl, _, _, rfl, rfl, _, _, rfl, rfl, _, _, rfl, rfl, _, _, rfl, rfl, _, _, rfl, h8, rfl⟩, hv⟩ := h
          simp only [List.mem_cons, List.not_mem_nil, or_false] at hv
          rcases hv with rfl | rfl | rfl | rfl | rfl | rfl | rfl | rfl
          · exact ⟨_, rfl, by decide, by decide⟩
          · exact ⟨_, rfl, by decide, by decide⟩
          · exact ⟨_, rfl, by decide, by decide⟩
          · exact ⟨_, rfl, by decide, by decide⟩
          · exact ⟨_, rfl, by decide, by decide⟩
          · exact ⟨_, rfl, by decide, by decide⟩
          · exact ⟨_, rfl, by decide, by decide⟩
          · exact h8) (by omega)
    refine q_dv dsz hg wo_ex hb (by omega) hs fun v1 H1 b1 h1 h1' s1 e1 r1 => ?_
    obtain ⟨n, rfl, n0, n1⟩ := r1
    obtain ⟨m, rfl⟩ : ∃ m : Nat, n = (m : Int) := ⟨n.toNat, by omega⟩
    -- the letters
    refine q_dv (k := 43) (R := IsS 43) (dv_imp (dv_join (K := K) (z0 := "") (m := 1) (n := 43) (k := m * 1) (dvl_imp (dvl_lcR (n := m) (k := 1) (R := IsS 1) hg (ea_cons (ev_var rfl) ea_nil) (by omega) (fun _ => rfl)
      (fun i hi => dv_imp (dv_pick (K := K) (k := 0) hg rfl (dvl_ev (el_signs ev_c (str_le (by decide +kernel)))) (fun ys h => by rw [h]; exact ⟨by decide +kernel, by decide +kernel⟩))
        (fun v h => by
          obtain ⟨ys, rfl, hv⟩ := h
          obtain ⟨c, _, rfl⟩ := List.mem_map.mp hv
          exact ⟨_, rfl, Nat.le_refl 1⟩) (by omega))) (fun ys h => ⟨by omega, h.2⟩) (by omega)) (by decide +kernel)) (fun v h => by
          obtain ⟨z, e, hz⟩ := h
          exact ⟨z, e, Nat.le_trans hz (by decide +kernel)⟩) (by omega)) hg e1 (by omega) (by omega) s1 fun v2 H2 b2 h2 h2' s2 e2 r2 => ?_
    obtain ⟨z, rfl, hz⟩ := r2
    refine ⟨fun σ' H' => ∃ z' b', σ' = [some (V.ref p), some (V.int (m : Int)), some (V.str z'), none, none] ∧ z'.length ≤ 44 ∧ b ≤ b' ∧ b' ≤ b + 46 ∧ Sx p b' H' ∧ Ex (wo p H) H', ?_, ?_⟩
    · refine t_dv (dv_cmp (top := 3) hg rfl ev_c (by decide) (by decide)) (fun v h => h) hg e2 (by omega) (by omega) s2 fun c H3 b3 h3 h3' s3 e3 => ?_
      cases c with
      | false => exact ⟨z, b3, rfl, by omega, by omega, by omega, s3, e3⟩
      | true =>
        refine t_ev (et_test (ev_inU (K := K) (ev_slS (ev_var rfl) eo_none (eo_some (i := 1) ev_c) (by omega)) (eu_tup (ea_cons ev_c (ea_cons ev_c ea_nil)) (by show 2 ≤ 100000; decide)) rfl (by rfl))) e3 s3 fun H4 s4 e4 => ?_
        cases inV (.str (cutS z none (some 1))) [V.str "0", V.str "9"] with
        | false => exact ⟨z, b3, rfl, by omega, by omega, by omega, s4, e4⟩
        | true =>
          have hc := cutS_length z (some 1) none
          refine s_asg (ev_op ev_c (ev_slS (ev_var rfl) (eo_some (i := 1) ev_c) eo_none (by omega)) (rv_addS (by rw [show ("k" : Str).length = 1 from by decide +kernel]; omega))) fun H5 e5 => ?_
          exact ⟨_, b3, rfl, by rw [Str.length_append, show ("k" : Str).length = 1 from by decide +kernel]; omega, by omega, by omega, s4.ex e5, e4.trans e5⟩
    · rintro σ3 H3 ⟨z3, b3, rfl, hz3, h3, h3', s3, e3⟩
      refine ⟨fun σ' H' => ∃ v3 z' b', σ' = [some (V.ref p), some (V.int (m : Int)), some (V.str z'), v3, none] ∧ z'.length ≤ 100 ∧ b ≤ b' ∧ b' ≤ b + 50 ∧ Sx p b' H' ∧ Ex (wo p H) H', ?_, ?_⟩
      · refine t_dv (dv_eqZ (top := 4) hg rfl ev_c (by decide) (by decide)) (fun v h => h) hg e3 (by omega) (by omega) s3 fun c H4 b4 h4 h4' s4 e4 => ?_
        cases c with
        | false => exact ⟨none, z3, b4, rfl, by omega, by omega, by omega, s4, e4⟩
        | true =>
          refine q_dv (dv_draw (top := (z3.length : Int) + 1) rfl (ev_op (ev_lenS (ev_var rfl) (by omega)) ev_c rv_I0) (by omega) (by omega)) hg e4 (by omega) (by omega) s4 fun v5 H5 b5 h5 h5' s5 e5 r5 => ?_
          obtain ⟨a5, rfl, _, _⟩ := r5
          have c1 := cutS_length z3 none (some a5)
          have c2 := cutS_length z3 (some a5) none
          refine s_dv (k := 1) (R := IsS 100) (dv_imp (dv_addS (m := 45) (n := 44) hg (dv_addS (m := 44) (n := 1) hg (dv_str (ev_slS (ev_var rfl) eo_none (eo_some (ev_var rfl)) (by omega)) (by omega))
            (dv_imp (dv_pick (K := K) (k := 0) hg rfl (dvl_ev (el_lst (ea_str (ea_str (ea_str (ea_str (ea_str (ea_str (ea_str (ea_str ea_strs)))))))) (by show 8 ≤ 100000; decide))) (fun ys h => by rw [h]; exact ⟨by show 0 < 8; decide, by show 8 ≤ 100000; decide⟩)) (fun v h => by
              obtain ⟨ys, rfl, hv⟩ := h
              obtain ⟨y, hy, rfl⟩ := List.mem_map.mp hv
              exact ⟨y, rfl, of_decide_eq_true (List.all_eq_true.mp (show ([" ", "-", "@", "$", "\n", ".", "~", "["] : List Str).all (fun y => decide (y.length ≤ 1)) = true by decide +kernel) y hy)⟩) (Nat.le_refl 1)) (by decide))
            (dv_str (ev_slS (ev_var rfl) (eo_some (ev_var rfl)) eo_none (by omega)) (by omega)) (by decide)) (fun v h => by
              obtain ⟨z, e, hz⟩ := h
              exact ⟨z, e, by omega⟩) (by omega)) hg e5 (by omega) (by omega) s5 fun v6 H6 b6 h6 h6' s6 e6 r6 => ?_
          obtain ⟨z6, rfl, hz6⟩ := r6
          exact ⟨_, z6, b6, rfl, hz6, by omega, by omega, s6, e6⟩
      · rintro σ4 H4 ⟨v3, z4, b4, rfl, hz4, h4, h4', s4, e4⟩
        refine s_ret (ev_var rfl) fun H5 e5 => ?_
        exact kk _ H5 b4 h4 (by omega) (s4.ex e5) (e4.trans e5) ⟨z4, rfl, hz4⟩
end
end M2

set_option maxHeartbeats 4000000
namespace M2
open PySem PySem.Spec PyProof.Rows L2 Evl TL Gd
section
variable {P : Program} {w : World} {K : PySem.W.Frag} {mg : Str → Option Value} {base : Heap}
abbrev s_law_part : Stmt := top 23
theorem sc_law_part : FnScope ["_law_stream_here", "_law_word_here", "_law_some"] ["_law_stream_here"] (defScope s_law_part) := ⟨rfl, rfl, rfl, by decide +kernel, rfl, by decide +kernel, by decide +kernel⟩
theorem texts_in {l : List Str} {n : Nat} (h : l.all (fun y => decide (y.length ≤ n)) = true) {v : V} (hv : v ∈ l.map V.str) : IsS n v := by
  obtain ⟨y, hy, rfl⟩ := List.mem_map.mp hv
  exact ⟨y, rfl, of_decide_eq_true (List.all_eq_true.mp h y hy)⟩
theorem ok_law_part {f : Addr} {fd : FuncData} (F : Fun K "_law_part" "_law_part" s_law_part f fd) (T : Tx K mg) (D_law_draw : Df P w K mg base CX0 2 "_law_draw" ["_law_stream_here", "_law_top"] spDraw)
    (D_law_pick : Df P w K mg base CX0 3 "_law_pick" ["_law_stream_here", "_law_some"] (spPick K)) (D_law_word : Df P w K mg base CX0 4 "_law_word" ["_law_stream_here"] (spGive 60 100)) : FnOk P w K mg base CX0 5 f fd ["_law_stream_here"] (spGive 70 120) := by
  refine F.ok sc_law_part (fun vs H Q E h => ?_) (fun cdv A outer s H vs Q E hr h => ?_)
  · obtain ⟨p, b, rfl, _⟩ := h
    rfl
  · obtain ⟨p, b, rfl, hb, hk, hs, kk⟩ := h
    refine ⟨_, (pss_cons (ps_set (i := 1) sc_law_part.nd rfl (Or.inl rfl) (pe_df D_law_pick (hr.mono (by decide)) rfl (pa_cons (pv 0) (pa_cons (pe_lst (pa_cons pe_str (pa_cons pe_str (pa_cons pe_str (pa_cons pe_str (pa_cons pe_str (pa_cons pe_str pa_nil))))))) pa_nil))))
  (Evl.pss_cut (ps_if (pt_cmpR op_eq (pe_df D_law_draw (hr.mono (by decide)) rfl (pa_cons (pv 0) (pa_cons pe_int pa_nil))) pe_int (nomark _))
    (pss_one (ps_set (i := 1) sc_law_part.nd rfl (Or.inl rfl) (pe_df D_law_word (hr.mono (by decide)) rfl (pa_cons (pv 0) pa_nil))))
    pss_nil)
  (pss_cons (ps_if (pt_cmpR op_gt (pe_df D_law_draw (hr.mono (by decide)) rfl (pa_cons (pv 0) (pa_cons pe_int pa_nil))) pe_int (nomark _))
    (pss_one (ps_ret (pv 1)))
    pss_nil)
  (pss_cons (ps_set (i := 2) sc_law_part.nd rfl (Or.inl rfl) (pe_lst (pa_cons pe_str (pa_cons pe_str (pa_cons pe_str (pa_cons pe_str (pa_cons pe_str (pa_cons pe_str (pa_cons pe_str (pa_cons pe_str (pa_cons pe_str (pa_cons pe_str (pa_cons pe_str pa_nil)))))))))))))
  (pss_one (ps_ret (pe_op op_add_str (pe_op op_add_str (pv 1) pe_str) (pe_df D_law_pick (hr.mono (by decide)) rfl (pa_cons (pv 0) (pa_cons (pv 2) pa_nil)))))))))), ?_⟩
    have hg : wo p H p = none := wo_at
    refine q_dv (k := 1) (R := IsS 100) (dv_imp (dv_pick (K := K) (k := 0) hg rfl (dvl_ev (el_lst (ea_str (ea_str (ea_str (ea_str (ea_str (ea_str ea_strs)))))) (by show 6 ≤ 100000; decide))) (fun ys h => by rw [h]; exact ⟨by show 0 < 6; decide, by show 6 ≤ 100000; decide⟩)) (fun v h => by
        obtain ⟨ys, rfl, hv⟩ := h
        exact texts_in (by decide +kernel) hv) (Nat.le_refl 1)) hg wo_ex hb (by omega) hs fun v1 H1 b1 h1 h1' s1 e1 r1 => ?_
    obtain ⟨z1, rfl, hz1⟩ := r1
    refine ⟨fun σ' H' => ∃ z' b', σ' = [some (V.ref p), some (V.str z'), none] ∧ z'.length ≤ 100 ∧ b ≤ b' ∧ b' ≤ b + 62 ∧ Sx p b' H' ∧ Ex (wo p H) H', ?_, ?_⟩
    · refine t_dv (dv_eqZ (top := 3) hg rfl ev_c (by decide) (by decide)) (fun v h => h) hg e1 (by omega) (by omega) s1 fun c H2 b2 h2 h2' s2 e2 => ?_
      cases c with
      | false => exact ⟨z1, b2, rfl, hz1, by omega, by omega, s2, e2⟩
      | true =>
        refine s_dv (dv_give (kk := 60) (m := 100) rfl) hg e2 (by omega) (by omega) s2 fun v3 H3 b3 h3 h3' s3 e3 r3 => ?_
        obtain ⟨z3, rfl, hz3⟩ := r3
        exact ⟨z3, b3, rfl, hz3, by omega, by omega, s3, e3⟩
    · rintro σ2 H2 ⟨z2, b2, rfl, hz2, h2, h2', s2, e2⟩
      refine t_dv (dv_cmp (top := 3) hg rfl ev_c (by decide) (by decide)) (fun v h => h) hg e2 (by omega) (by omega) s2 fun c H3 b3 h3 h3' s3 e3 => ?_
      cases c with
      | true =>
        refine s_ret (ev_var rfl) fun H4 e4 => ?_
        exact kk _ H4 b3 (by omega) (by omega) (s3.ex e4) (e3.trans e4) ⟨z2, rfl, by omega⟩
      | false =>
        refine q_asgL (el_lst (ea_str (ea_str (ea_str (ea_str (ea_str (ea_str (ea_str (ea_str (ea_str (ea_str (ea_str ea_strs))))))))))) (by show 11 ≤ 100000; decide)) fun l H4 hl e4 g4 => ?_
        have s4 := s3.ex e4
        have np : l ≠ p := by
          obtain ⟨a, c, hp⟩ := s3
          exact (ne_of_none hp hl).symm
        refine s_dvRet (G := wo p H4) (k := 1) (R := IsS 120) (dv_imp (dv_addS (m := 101) (n := 10) wo_at (dv_addS (m := 100) (n := 1) wo_at (dv_str (ev_var rfl) hz2) (dv_str ev_c (str_le (by decide +kernel))) (by decide))
          (dv_imp (dv_pickV (K := K) rfl (ev_var rfl) np (sq_wo np (sq_of g4)) (by show 0 < 11; decide) (by show 11 ≤ 100000; decide)) (fun v hv => texts_in (n := 10) (by decide +kernel) hv) (Nat.le_refl 1)) (by decide)) (fun v h => by
            obtain ⟨z, e, hz⟩ := h
            exact ⟨z, e, by omega⟩) (by omega)) wo_at wo_ex (by omega) (by omega) s4 fun v5 H5 b5 h5 h5' s5 e5 r5 => ?_
        exact kk _ H5 b5 (by omega) (by omega) s5 (wo_trans (H1 := H4) (e3.trans e4) e5) r5
end
end M2

set_option maxHeartbeats 2000000
namespace M2
open PySem PySem.Spec PyProof.Rows L2 Evl TL Gd
theorem ea_s {σ : L2.St} {H : Hp} {z : Str} {l : List Str} {te : TE} {t : TA} (h0 : Ev te σ H (.str z)) (h : EvA t σ H (l.map V.str)) : EvA (tCons te t) σ H ((z :: l).map V.str) := ea_cons h0 h
theorem len_a : ("a" : Str).length = 1 := by decide +kernel
theorem len_9 : ("9" : Str).length = 1 := by decide +kernel
theorem len_1 : ("1" : Str).length = 1 := by decide +kernel
def m40 : Str := Txt.mul "a" 40
def m41 : Str := Txt.mul "a" 41
def n9 : Str := Txt.mul "9" 9
def o5 : Str := Txt.mul "1" 5000
def n5 : Str := Txt.mul "9" 5000
theorem l40 : m40.length ≤ 40 := by have h := mul_lenZ (z := "a") (k := 40) (by decide); rw [len_a] at h; exact h
theorem l41 : m41.length ≤ 41 := by have h := mul_lenZ (z := "a") (k := 41) (by decide); rw [len_a] at h; exact h
theorem l9 : n9.length ≤ 9 := by have h := mul_lenZ (z := "9") (k := 9) (by decide); rw [len_9] at h; exact h
theorem l5 : o5.length ≤ 5000 := by have h := mul_lenZ (z := "1") (k := 5000) (by decide); rw [len_1] at h; exact h
theorem l59 : n5.length ≤ 5000 := by have h := mul_lenZ (z := "9") (k := 5000) (by decide); rw [len_9] at h; exact h
section
variable {σ : L2.St} {H : Hp} {K : PySem.W.Frag}
theorem e40 : Ev (tOp rMulS (tC (.str "a")) (tC (.int 40))) σ H (.str m40) := ev_op ev_c ev_c (rv_mulS (mulOkZ (by rw [len_a]; decide) (by decide) (by decide)))
theorem e41 : Ev (tOp rMulS (tC (.str "a")) (tC (.int 41))) σ H (.str m41) := ev_op ev_c ev_c (rv_mulS (mulOkZ (by rw [len_a]; decide) (by decide) (by decide)))
theorem e9 : Ev (tOp rMulS (tC (.str "9")) (tC (.int 9))) σ H (.str n9) := ev_op ev_c ev_c (rv_mulS (mulOkZ (by rw [len_9]; decide) (by decide) (by decide)))
theorem e5 : Ev (tOp rMulS (tC (.str "1")) (tC (.int 5000))) σ H (.str o5) := ev_op ev_c ev_c (rv_mulS (mulOkZ (by rw [len_1]; decide) (by decide) (by decide)))
theorem e59 : Ev (tOp rMulS (tC (.str "9")) (tC (.int 5000))) σ H (.str n5) := ev_op ev_c ev_c (rv_mulS (mulOkZ (by rw [len_9]; decide) (by decide) (by decide)))
def as8 : List Str := List.replicate 8 "a"
def as9 : List Str := List.replicate 9 "a"
theorem r8 : EvL (tOp rRep (tLst (tCons (tC (.str "a")) tNil)) (tC (.int 8))) σ H (as8.map V.str) := el_rep (k := 8) (el_lst (ea_cons ev_c ea_nil) (by show 1 ≤ 100000; decide)) ev_c (by show 1 * 8 ≤ 100000; decide) (by decide)
theorem r9 : EvL (tOp rRep (tLst (tCons (tC (.str "a")) tNil)) (tC (.int 9))) σ H (as9.map V.str) := el_rep (k := 9) (el_lst (ea_cons ev_c ea_nil) (by show 1 ≤ 100000; decide)) ev_c (by show 1 * 9 ≤ 100000; decide) (by decide)
def j8 : Str := Txt.join "." as8
def j9 : Str := Txt.join "." as9
theorem sum8 : (as8.map (·.length)).sum + as8.length * ("." : Str).length ≤ 100 := by decide +kernel
theorem sum9 : (as9.map (·.length)).sum + as9.length * ("." : Str).length ≤ 100 := by decide +kernel
theorem ej8 : Ev (tM1 (rJoin K) (tC (.str ".")) (tOp rRep (tLst (tCons (tC (.str "a")) tNil)) (tC (.int 8)))) σ H (.str j8) := ev_joinL r8 (by have := sum8; omega)
theorem ej9 : Ev (tM1 (rJoin K) (tC (.str ".")) (tOp rRep (tLst (tCons (tC (.str "a")) tNil)) (tC (.int 9)))) σ H (.str j9) := ev_joinL r9 (by have := sum9; omega)
theorem lj8 : j8.length ≤ 100 := Nat.le_trans (join_le _ _) sum8
theorem lj9 : j9.length ≤ 100 := Nat.le_trans (join_le _ _) sum9
end
def W1 : List Str := ["", ".", "@", "a@", "@1", m40, m41, "a.b@2.c", ".a@2", ".a.b", "a..b"]
def W2 : List Str := ["a@1.b@02", j8, j9, "." ++ m40, "." ++ m41]
def W3 : List Str := [m40 ++ "@" ++ n9, "a@" ++ o5, "a.b@" ++ n5]
theorem short {z : Str} (h : decide (z.length ≤ 30000) = true) : z.length ≤ 30000 := of_decide_eq_true h
theorem W_short : ∀ z ∈ ((RES ++ W1) ++ W2) ++ W3, z.length ≤ 30000 := by
  have h1 := l40
  have h2 := l41
  have h3 := l9
  have h4 := l5
  have h5 := l59
  have h6 := lj8
  have h7 := lj9
  intro z hz
  rw [List.mem_append, List.mem_append, List.mem_append] at hz
  rcases hz with ((hz | hz) | hz) | hz
  · exact short (List.all_eq_true.mp (show RES.all (fun z => decide (z.length ≤ 30000)) = true by decide +kernel) z hz)
  · unfold W1 at hz
    simp only [List.mem_cons, List.not_mem_nil, or_false] at hz
    rcases hz with rfl | rfl | rfl | rfl | rfl | rfl | rfl | rfl | rfl | rfl | rfl
    · exact short (by decide +kernel)
    · exact short (by decide +kernel)
    · exact short (by decide +kernel)
    · exact short (by decide +kernel)
    · exact short (by decide +kernel)
    · omega
    · omega
    · exact short (by decide +kernel)
    · exact short (by decide +kernel)
    · exact short (by decide +kernel)
    · exact short (by decide +kernel)
  · unfold W2 at hz
    simp only [List.mem_cons, List.not_mem_nil, or_false] at hz
    have d1 : ("." : Str).length = 1 := by decide +kernel
    rcases hz with rfl | rfl | rfl | rfl | rfl
    · exact short (by decide +kernel)
    · omega
    · omega
    · rw [Str.length_append]; omega
    · rw [Str.length_append]; omega
  · unfold W3 at hz
    simp only [List.mem_cons, List.not_mem_nil, or_false] at hz
    have d1 : ("@" : Str).length = 1 := by decide +kernel
    have d2 : ("a@" : Str).length = 2 := by decide +kernel
    have d3 : ("a.b@" : Str).length = 4 := by decide +kernel
    rcases hz with rfl | rfl | rfl
    · rw [Str.length_append, Str.length_append]; omega
    · rw [Str.length_append]; omega
    · rw [Str.length_append]; omega
section
variable {σ : L2.St} {H : Hp} {K : PySem.W.Frag}
theorem ea_W1 : EvA (tCons (tC (.str "")) (tCons (tC (.str ".")) (tCons (tC (.str "@")) (tCons (tC (.str "a@")) (tCons (tC (.str "@1")) (tCons (tOp rMulS (tC (.str "a")) (tC (.int 40))) (tCons (tOp rMulS (tC (.str "a")) (tC (.int 41)))
    (tCons (tC (.str "a.b@2.c")) (tCons (tC (.str ".a@2")) (tCons (tC (.str ".a.b")) (tCons (tC (.str "a..b")) tNil))))))))))) σ H (W1.map V.str) :=
  ea_str (ea_str (ea_str (ea_str (ea_str (ea_s e40 (ea_s e41 (ea_str (ea_str (ea_str (ea_str ea_strs))))))))))
theorem ea_W2 : EvA (tCons (tC (.str "a@1.b@02")) (tCons (tM1 (rJoin K) (tC (.str ".")) (tOp rRep (tLst (tCons (tC (.str "a")) tNil)) (tC (.int 8)))) (tCons (tM1 (rJoin K) (tC (.str ".")) (tOp rRep (tLst (tCons (tC (.str "a")) tNil)) (tC (.int 9))))
    (tCons (tOp rAddS (tC (.str ".")) (tOp rMulS (tC (.str "a")) (tC (.int 40)))) (tCons (tOp rAddS (tC (.str ".")) (tOp rMulS (tC (.str "a")) (tC (.int 41)))) tNil))))) σ H (W2.map V.str) :=
  ea_str (ea_s ej8 (ea_s ej9 (ea_s (ev_op ev_c e40 (rv_addS (by have d1 : ("." : Str).length = 1 := by decide +kernel
                                                                have := l40
                                                                omega))) (ea_s (ev_op ev_c e41 (rv_addS (by have d1 : ("." : Str).length = 1 := by decide +kernel
                                                                                                            have := l41
                                                                                                            omega))) ea_strs))))
theorem ea_W3 : EvA (tCons (tOp rAddS (tOp rAddS (tOp rMulS (tC (.str "a")) (tC (.int 40))) (tC (.str "@"))) (tOp rMulS (tC (.str "9")) (tC (.int 9)))) (tCons (tOp rAddS (tC (.str "a@")) (tOp rMulS (tC (.str "1")) (tC (.int 5000))))
    (tCons (tOp rAddS (tC (.str "a.b@")) (tOp rMulS (tC (.str "9")) (tC (.int 5000)))) tNil))) σ H (W3.map V.str) := by
  have d1 : ("@" : Str).length = 1 := by decide +kernel
  have d2 : ("a@" : Str).length = 2 := by decide +kernel
  have d3 : ("a.b@" : Str).length = 4 := by decide +kernel
  have h1 := l40
  have h3 := l9
  have h4 := l5
  have h5 := l59
  exact ea_s (ev_op (ev_op e40 ev_c (rv_addS (by omega))) e9 (rv_addS (by rw [Str.length_append]; omega))) (ea_s (ev_op ev_c e5 (rv_addS (by omega))) (ea_s (ev_op ev_c e59 (rv_addS (by omega))) ea_strs))
end
end M2

set_option maxHeartbeats 8000000
namespace M2
open PySem PySem.Spec PyProof.Rows L2 Evl TL Gd
section
variable {P : Program} {w : World} {K : PySem.W.Frag} {mg : Str → Option Value} {base : Heap}
abbrev s_law : Stmt := top 25
abbrev N_law : List Str := ["_law_script", "_law_k", "_law_item", "_law_stream_here", "_law_turn", "_law_word_here", "_law_parts", "_law_bent", "_law_one", "_law_odd", "_law_some", "_law_place"]
theorem sc_law : FnScope N_law ["_law_script"] (defScope s_law) := ⟨rfl, rfl, rfl, by decide +kernel, rfl, by decide +kernel, by decide +kernel⟩
def spLaw (K : PySem.W.Frag) : Sp := fun vs H Q _ => ∃ (a : Addr) (ns : List Int), vs = [.ref a] ∧ Scr K H a ns ∧ ns.length ≤ 63 ∧ ∀ H', Q (.bl true) H'
theorem is_right {z : Str} {H : Hp} (hz : z.length ≤ 30000) : SpIs spRight [.str z] H (.bl true) := fun H1 _ Q q E => ⟨z, rfl, hz, fun H2 e => q H2 e⟩
theorem cutV8 (xs : List V) : (cutV xs none (some 8)).length ≤ 8 ∧ ∀ y ∈ cutV xs none (some 8), y ∈ xs := by
  unfold cutV
  rw [HT.sIx_none]
  have h8 : HT.sIx xs.length xs.length (some 8) = min 8 xs.length := HT.sIx_nat _ _ 8
  rw [h8, List.drop_zero, Nat.sub_zero]
  exact ⟨by rw [List.length_take]; omega, fun y hy => List.mem_of_mem_take hy⟩
theorem len_dot : ("." : Str).length = 1 := by decide +kernel
theorem len_dots : (".." : Str).length = 2 := by decide +kernel
theorem len_bl : (" " : Str).length = 1 := by decide +kernel
theorem len_us : ("_" : Str).length = 1 := by decide +kernel
theorem len_s : ("s" : Str).length = 1 := by decide +kernel
theorem ix0 {zs : List Str} (h : 0 < zs.length) : atI (zs.map V.str) 0 = some (.str (zs[0]'h)) := atI_nat (j := 0) (by rw [List.getElem?_map, List.getElem?_eq_getElem h]; rfl)
theorem sum_of {m : Nat} {zs : List Str} (h : ∀ z ∈ zs, z.length ≤ m) : (zs.map (·.length)).sum ≤ zs.length * m := by
  induction zs with
  | nil => exact Nat.zero_le _
  | cons z zs ih =>
    rw [List.map_cons, List.sum_cons, List.length_cons, Nat.add_mul, Nat.one_mul]
    have h1 := h z List.mem_cons_self
    have h2 := ih fun y hy => h y (List.mem_cons_of_mem _ hy)
    omega
theorem ok_law {f : Addr} {fd : FuncData} (F : Fun K "law" "law" s_law f fd) (T : Tx K mg) (D_law_stream : Df P w K mg base CX0 2 "_law_stream" ["_law_item", "_law_k"] spStream)
    (D_law_pick : Df P w K mg base CX0 3 "_law_pick" ["_law_stream_here", "_law_some"] (spPick K)) (D_law_word : Df P w K mg base CX0 4 "_law_word" ["_law_stream_here"] (spGive 60 100))
    (D_law_part : Df P w K mg base CX0 5 "_law_part" ["_law_stream_here"] (spGive 70 120)) (D_law_reserved : Df P w K mg base CX0 1 "_law_reserved" [] (spList (RES.map V.str))) (D_law_right : DfG P w K mg base CX0 6 "_law_right" ["_law_word_here"] spRight)
    (D_is_name : Df P w K mg base CX0 3 "is_name" ["value"] (spAsk K nameB)) (D_is_reserved : Df P w K mg base CX0 3 "is_reserved" ["value"] (spAsk K resB)) (D_is_used : Df P w K mg base CX0 5 "is_used" ["value"] (spAsk K usedB)) :
    GOk P w K mg base CX0 7 f fd ["_law_script"] (spLaw K) := by
  refine ok_of0 F sc_law (fun vs H Q E h => ?_) (fun cdv A outer s H vs Q E ca hr h => ?_)
  · obtain ⟨v, _, rfl, _⟩ := h
    rfl
  · obtain ⟨a, ns, rfl, hS, hns, kk⟩ := h
    refine ⟨_, (pss_cons (ps_for PassesOwn.never rfl (pi_enum (by rfl) T.b_enumerate (pa_cons (pe_slice sl_list (pe_op op_catS (pv 0) (pe_lst (pa_cons pe_int pa_nil))) po_none (po_some pe_int)) pa_nil)) (pg_tup rfl (pgs_cons (pg_name (i := 1) sc_law.nd rfl (Or.inl rfl)) (pgs_cons (pg_name (i := 2) sc_law.nd rfl (Or.inl rfl)) pgs_nil)))
    (pss_cons (ps_set (i := 3) sc_law.nd rfl (Or.inr rfl) (pe_df D_law_stream (hr.mono (by decide)) rfl (pa_cons (pv 2) (pa_cons (pv 1) pa_nil))))
      (pss_cons (ps_for PassesOwn.never rfl (pi_range1 rfl T.b_range (pa_cons pe_int pa_nil)) (pg_name (i := 4) sc_law.nd rfl (Or.inl rfl))
        (pss_cons (ps_set (i := 5) sc_law.nd rfl (Or.inl rfl) (pe_df D_law_word (hr.mono (by decide)) rfl (pa_cons (pv 3) pa_nil)))
          (pss_cons (ps_setLc (i := 6) (own := [("_law_place", 11)]) (g := gName 11) (tt := tYes) rfl sc_law.nd rfl rfl (sw_true rfl rfl rfl (by decide +kernel)) (pi_range1 rfl T.b_range (pa_cons (pe_df D_law_pick (hr.mono (by decide)) rfl (pa_cons (pv 3) (pa_cons (pe_lst (pa_cons pe_int (pa_cons pe_int (pa_cons pe_int (pa_cons pe_int (pa_cons pe_int (pa_cons pe_int (pa_cons pe_int pa_nil)))))))) pa_nil))) pa_nil)) (blkOk_by (N := N_law) (sc := defScope s_law) (by decide +kernel)) (fun _ _ _ _ _ => pg_name (i := 11) sc_law.nd rfl (Or.inl rfl)) (fun _ _ _ _ _ => pts_nil) (fun _ _ _ _ _ => (pe_df D_law_part (hr.mono (by decide)) rfl (pa_cons (pv 3) pa_nil))))
          (pss_cons (ps_set (i := 7) sc_law.nd rfl (Or.inl rfl) (pe_df D_law_pick (hr.mono (by decide)) rfl (pa_cons (pv 3) (pa_cons (pe_df0 D_law_reserved (hr.mono (by decide)) rfl) pa_nil))))
          (pss_cons (ps_set (i := 7) sc_law.nd rfl (Or.inl rfl) (pe_df D_law_pick (hr.mono (by decide)) rfl (pa_cons (pv 3) (pa_cons (pe_lst (pa_cons (pe_upper (pv 7)) (pa_cons (pe_op op_add_str (pv 7) pe_str) (pa_cons (pe_slice sl_str (pv 7) po_none (po_some (pe_un un_neg pe_int))) (pa_cons (pe_op op_add_str pe_str (pv 7)) (pa_cons (pe_op op_add_str (pv 7) pe_str) (pa_cons (pv 7) pa_nil))))))) pa_nil))))
          (pss_one (ps_for PassesOwn.never rfl (pi_tup (pe_tup (pa_cons (pv 5) (pa_cons (pe_join pe_str (pv 6)) (pa_cons (pe_op op_add_str pe_str (pv 5)) (pa_cons (pe_op op_add_str pe_str (pe_ix ix_list (pv 6) pe_int (fun _ _ => rfl))) (pa_cons (pe_op op_add_str (pv 5) pe_str) (pa_cons (pe_op op_add_str pe_str (pv 5)) (pa_cons (pv 7) (pa_cons (pe_op op_add_str pe_str (pv 7)) pa_nil)))))))))) (pg_name (i := 8) sc_law.nd rfl (Or.inl rfl))
            (pss_one (ps_if (pt_not (pt_val (pe_dfG D_law_right ca (hr.mono (by decide)) rfl (pa_cons (pv 8) pa_nil))))
                (pss_one (ps_ret pe_bl))
                pss_nil)))))))))
      (pss_cons (ps_set (i := 9) sc_law.nd rfl (Or.inl rfl) (pe_df D_law_pick (hr.mono (by decide)) rfl (pa_cons (pv 3) (pa_cons (pe_lst (pa_cons pe_non (pa_cons pe_bl (pa_cons pe_int (pa_cons (pe_tup (pa_cons pe_str pa_nil)) (pa_cons (pe_lst (pa_cons pe_str pa_nil)) (pa_cons (pe_disp (pps_cons pe_str pe_int pps_nil) (by rfl) (by rfl) (fun z => by cases z) (by decide)) (pa_cons (pe_tup pa_nil) (pa_cons (pe_op op_sub pe_int (pe_op op_modN (pe_callTy call_int1 (by rfl) T.b_int (by decide +kernel) (pa_cons (pv 2) pa_nil)) (pe_op op_pow pe_int pe_int))) pa_nil))))))))) pa_nil))))
      (pss_one (ps_if (pt_cmpR (op_neD hr.units) (pe_lst (pa_cons (pe_df D_is_name (hr.mono (by decide)) rfl (pa_cons (pv 9) pa_nil)) (pa_cons (pe_df D_is_reserved (hr.mono (by decide)) rfl (pa_cons (pv 9) pa_nil)) (pa_cons (pe_df D_is_used (hr.mono (by decide)) rfl (pa_cons (pv 9) pa_nil)) pa_nil)))) (pe_op op_rep (pe_lst (pa_cons pe_bl pa_nil)) pe_int) (nomark _))
        (pss_one (ps_ret pe_bl))
        pss_nil))))))
  (pss_cons (ps_set (i := 10) sc_law.nd rfl (Or.inl rfl) (pe_op op_cat (pe_df0 D_law_reserved (hr.mono (by decide)) rfl) (pe_lst (pa_cons pe_str (pa_cons pe_str (pa_cons pe_str (pa_cons pe_str (pa_cons pe_str (pa_cons (pe_op op_mulS pe_str pe_int) (pa_cons (pe_op op_mulS pe_str pe_int) (pa_cons pe_str (pa_cons pe_str (pa_cons pe_str (pa_cons pe_str pa_nil))))))))))))))
  (pss_cons (ps_set (i := 10) sc_law.nd rfl (Or.inl rfl) (pe_op op_cat (pv 10) (pe_lst (pa_cons pe_str (pa_cons (pe_join pe_str (pe_op op_rep (pe_lst (pa_cons pe_str pa_nil)) pe_int)) (pa_cons (pe_join pe_str (pe_op op_rep (pe_lst (pa_cons pe_str pa_nil)) pe_int)) (pa_cons (pe_op op_add_str pe_str (pe_op op_mulS pe_str pe_int)) (pa_cons (pe_op op_add_str pe_str (pe_op op_mulS pe_str pe_int)) pa_nil))))))))
  (pss_cons (ps_set (i := 10) sc_law.nd rfl (Or.inl rfl) (pe_op op_cat (pv 10) (pe_lst (pa_cons (pe_op op_add_str (pe_op op_add_str (pe_op op_mulS pe_str pe_int) pe_str) (pe_op op_mulS pe_str pe_int)) (pa_cons (pe_op op_add_str pe_str (pe_op op_mulS pe_str pe_int)) (pa_cons (pe_op op_add_str pe_str (pe_op op_mulS pe_str pe_int)) pa_nil))))))
  (pss_one (ps_ret (pe_cmpR (op_eqD hr.units) (pe_lc (own := [("_law_one", 8)]) (g := gName 8) rfl sc_law.nd (pi_list (pv 10)) (blkOk_by (N := N_law) (sc := defScope s_law) (by decide +kernel)) (fun _ _ _ _ _ => pg_name (i := 8) sc_law.nd rfl (Or.inl rfl)) (fun _ _ _ _ _ => pts_one (pt_not (pt_val (pe_dfG D_law_right ca (hr.mono (by decide)) rfl (pa_cons (pv 8) pa_nil))))) (fun _ _ _ _ _ => (pv 8))) (pe_lst pa_nil) (nomark _)))))))), ?_⟩
    have el0 : EvL (tOp (rCatS K) (tVar 0) (tLst (tCons (tC (.int 0)) tNil))) (start N_law [V.ref a]) H (ns.map V.int ++ [.int 0]) := el_catS (ev_var rfl) hS (el_lst (ea_cons ev_c ea_nil) (by show 1 ≤ 100000; decide)) (by show ns.length + 1 ≤ 100000; omega)
    refine (el_slN (K := K) el0 eo_none (eo_some (i := 8) ev_c)) H (Ex.refl H) _ fun L H1 hL e1 h1 => ?_
    obtain ⟨c1, c2⟩ := cutV8 (ns.map V.int ++ [.int 0])
    generalize cutV (ns.map V.int ++ [.int 0]) none (some 8) = xs at h1 c1 c2
    refine ⟨L, xs, rfl, sq_of h1, for_it (walk_enum (K := K) (a := L) (xs := xs)) (fun i σ H' => ∃ v1 v2 v3 v4 v5 v6 v7 v8 v9 v10, σ = [some (V.ref a), v1, v2, v3, v4, v5, v6, v7, v8, v9, v10, none] ∧ Ex H1 H')
      ⟨_, _, _, _, _, _, _, _, _, _, rfl, Ex.refl H1⟩ (fun i σ H' _ h => by obtain ⟨_, _, _, _, _, _, _, _, _, _, _, e⟩ := h; exact sq_of (e _ _ h1)) ?_ ?_⟩
    · rintro i x σ Hc H2 hi ⟨v1, v2, v3, v4, v5, v6, v7, v8, v9, v10, rfl, ec⟩ ⟨Tp, y1, y, rfl, nT, rfl, g1, g2⟩
      cases g1
      obtain ⟨m, rfl⟩ : ∃ m : Int, y = .int m := by
        have hy := c2 y (List.mem_of_getElem? g2)
        cases List.mem_append.mp hy with
        | inl h => obtain ⟨m, _, e⟩ := List.mem_map.mp h; exact ⟨m, e.symm⟩
        | inr h => exact ⟨0, List.mem_singleton.mp h⟩
      refine ⟨Tp, [.int (i : Nat), .int m], rfl, st_of upd_same, rfl, _, _, rfl, _, _, rfl, rfl, ?_⟩
      have e2 : Ex H1 (upd Hc Tp (.tup [.int (i : Nat), .int m])) := ec.trans (Ex.new nT)
      generalize upd Hc Tp (.tup [.int (i : Nat), .int m]) = H2 at e2
      -- the stream
      refine ⟨.int m, rfl, .int (i : Nat), rfl, m, (i : Nat), rfl, by omega, by omega, fun p H4 hp e4 s4 => ?_⟩
      have n1 : H1 p = none := fresh_back e2 hp
      have eL : Ex H1 H4 := e2.trans e4
      refine q_forR1 (ea_cons (ev_c (v := .int 4)) ea_nil) (by decide) (fun t σ' H' => ∃ (w4 w5 w6 w7 w8 : Option V) (b : Int), σ' = [some (V.ref a), some (V.int (i : Nat)), some (V.int m), some (V.ref p), w4, w5, w6, w7, w8, v9, v10, none] ∧ 0 ≤ b ∧ b ≤ (t * 2000 : Nat) ∧ Sx p b H' ∧ Ex (wo p H4) H')
        (fun H5 e5 => ⟨_, _, _, _, _, 0, rfl, by omega, by omega, s4.ex e5, fun x o z => e5 x o (wo_ex x o z)⟩) ?_ ?_
      · rintro t σ5 H5 ht ⟨w4, w5, w6, w7, w8, b, rfl, hb0, hbt, s5, e5⟩
        have hg : wo p H4 p = none := wo_at
        have ht4 : t < 4 := by omega
        refine q_dv (dv_give (kk := 60) (m := 100) rfl) hg e5 hb0 (by omega) s5 fun vw H6 b6 h6 h6' s6 e6 r6 => ?_
        obtain ⟨zw, rfl, hzw⟩ := r6
        -- the parts
        refine q_dvL (k := 1 + 11 * 70) (dvl_lcRD (m := 11) (k0 := 1) (k := 70) (R := IsS 120) hg (dv_imp (dv_pick (K := K) (k := 0) hg rfl (dvl_ev (el_lst (ea_cons (ev_c (v := .int 1)) (ea_cons (ev_c (v := .int 2)) (ea_cons (ev_c (v := .int 2)) (ea_cons (ev_c (v := .int 3)) (ea_cons (ev_c (v := .int 8)) (ea_cons (ev_c (v := .int 9)) (ea_cons (ev_c (v := .int 10)) ea_nil))))))) (by show 7 ≤ 100000; decide)))
            (fun ys h => by rw [h]; exact ⟨by show 0 < 7; decide, by show 7 ≤ 100000; decide⟩)) (fun v h => by
              obtain ⟨ys, rfl, hv⟩ := h
              simp only [List.mem_cons, List.not_mem_nil, or_false] at hv
              rcases hv with rfl | rfl | rfl | rfl | rfl | rfl | rfl <;> exact ⟨_, rfl, by decide, by decide⟩) (Nat.le_refl 1)) (by decide) (fun _ => rfl)
            (fun j hj => dv_give (kk := 70) (m := 120) rfl)) hg e6 (by omega) (by omega) s6 fun l6 ys H7 b7 h7 h7' s7 e7 np6 hl6 r7 => ?_
        obtain ⟨y0, y1, yS⟩ := r7
        obtain ⟨zs, rfl, hsum, hlen⟩ := texts_of yS
        rw [List.length_map] at y0 y1
        have zS : ∀ z ∈ zs, z.length ≤ 120 := fun z hz => by
          obtain ⟨z', e, hz'⟩ := yS _ (List.mem_map_of_mem hz)
          rw [V.str.inj e]
          exact hz'
        have hg7 : wo p H7 p = none := wo_at
        have hl7 : wo p H7 l6 = some (.lst (zs.map V.str)) := by rw [wo_ne np6]; exact hl6
        -- a reserved word, bent
        refine q_dv (k := 1) (R := IsS 10) (dv_imp (dv_pick (K := K) (k := 0) hg7 rfl (dvl_ev (el_df (K := K) ea_nil is_list)) (fun ys h => by rw [h]; exact ⟨by show 0 < 21; decide, by show 21 ≤ 100000; decide⟩)) (fun v h => by
            obtain ⟨ys, rfl, hv⟩ := h
            exact texts_in (by decide +kernel) hv) (Nat.le_refl 1)) hg7 wo_ex (by omega) (by omega) s7 fun vb H8 b8 h8 h8' s8 e8 r8 => ?_
        obtain ⟨zb, rfl, hzb⟩ := r8
        have hup := PyProof.Rows.len_upper zb
        have hct := cutS_length zb none (some (-1))
        refine q_dv (k := 1) (R := IsS 40) (dv_imp (dv_pick (K := K) (k := 0) hg7 rfl (dvl_ev (el_lst (ea_s (ev_upper (ev_var rfl) (by omega)) (ea_s (ev_op (ev_var rfl) ev_c (rv_addS (by rw [len_us]; omega))) (ea_s (ev_slS (ev_var rfl) eo_none (eo_some (ev_un ev_c ru_neg)) (by omega)) (ea_s (ev_op ev_c (ev_var rfl) (rv_addS (by rw [len_bl]; omega))) (ea_s (ev_op (ev_var rfl) ev_c (rv_addS (by rw [len_s]; omega))) (ea_s (ev_var rfl) ea_strs)))))) (by show 6 ≤ 100000; decide)))
            (fun ys h => by rw [h]; exact ⟨by show 0 < 6; decide, by show 6 ≤ 100000; decide⟩)) (fun v h => by
            obtain ⟨ys, rfl, hv⟩ := h
            obtain ⟨y, hy, rfl⟩ := List.mem_map.mp hv
            refine ⟨y, rfl, ?_⟩
            simp only [List.mem_cons, List.not_mem_nil, or_false] at hy
            rcases hy with rfl | rfl | rfl | rfl | rfl | rfl
            · omega
            · rw [Str.length_append, len_us]; omega
            · omega
            · rw [Str.length_append, len_bl]; omega
            · rw [Str.length_append, len_s]; omega
            · omega) (Nat.le_refl 1)) hg7 e8 (by omega) (by omega) s8 fun vb2 H9 b9 h9 h9' s9 e9 r9 => ?_
        obtain ⟨zc, rfl, hzc⟩ := r9
        have hl9 : H9 l6 = some (.lst (zs.map V.str)) := e9 _ _ hl7
        have hz0 : zs[0].length ≤ 120 := zS _ (List.getElem_mem y0)
        have hjn := join_le "." zs
        have hs120 : zs.length * 120 ≤ 11 * 120 := Nat.mul_le_mul_right _ (by omega)
        rw [len_dot] at hjn
        -- the eight
        refine s_forNT (xs := List.map V.str [zw, Txt.join "." zs, "." ++ zw, "." ++ zs[0], zw ++ ".", ".." ++ zw, zc, "." ++ zc]) (eu_tup (ea_s (ev_var rfl) (ea_s (ev_join (K := K) (ev_var rfl) hl9 (by rw [len_dot]; omega)) (ea_s (ev_op ev_c (ev_var rfl) (rv_addS (a := ".") (by rw [len_dot]; omega))) (ea_s (ev_op ev_c (ev_op (ev_var rfl) ev_c (rv_ixL (K := K) (sq_of hl9) (ix0 y0))) (rv_addS (a := ".") (by rw [len_dot]; omega)))
            (ea_s (ev_op (ev_var rfl) ev_c (rv_addS (b := ".") (by rw [len_dot]; omega))) (ea_s (ev_op ev_c (ev_var rfl) (rv_addS (a := "..") (by rw [len_dots]; omega))) (ea_s (ev_var rfl) (ea_s (ev_op ev_c (ev_var rfl) (rv_addS (a := ".") (by rw [len_dot]; omega))) ea_strs)))))))) (by show 8 ≤ 100000; decide))
          (fun H10 j σ' H' => ∃ u8, σ' = [some (V.ref a), some (V.int (i : Nat)), some (V.int m), some (V.ref p), some (V.int (t : Int)), some (V.str zw), some (V.ref l6), some (V.str zc), u8, v9, v10, none] ∧ Ex H10 H')
          (fun H10 e10 => ⟨_, rfl, Ex.refl _⟩) (fun H10 j σ' H' h => by obtain ⟨_, _, e⟩ := h; exact e) (fun H10 e10 => ?_) (fun H10 σ' H' e10 h => ?_)
        · rintro j x σ' H' hx ⟨u8, rfl, e'⟩
          obtain ⟨z, hz, rfl⟩ := List.mem_map.mp (List.mem_of_getElem? hx)
          have hz3 : z.length ≤ 30000 := by
            simp only [List.mem_cons, List.not_mem_nil, or_false] at hz
            rcases hz with rfl | rfl | rfl | rfl | rfl | rfl | rfl | rfl
            · omega
            · omega
            · rw [Str.length_append, len_dot]; omega
            · rw [Str.length_append, len_dot]; omega
            · rw [Str.length_append, len_dot]; omega
            · rw [Str.length_append, len_dots]; omega
            · omega
            · rw [Str.length_append, len_dot]; omega
          refine s_when (et_not (et_B (ev_df (ea_cons (ev_var rfl) ea_nil) (is_right hz3)))) (fun h => by cases h) (fun _ H11 e11 => ?_)
          exact ⟨_, rfl, e'.trans e11⟩
        · obtain ⟨u8, rfl, e'⟩ := h
          exact ⟨_, _, _, _, _, b9, rfl, by omega, by omega, (s9.ex e10).ex e', fun x o z => e' x o (e10 x o (wo_trans (H1 := H7) e7 e9 x o z))⟩
      · rintro σ5 H5 ⟨w4, w5, w6, w7, w8, b, rfl, hb0, hbt, s5, e5⟩
        -- something that is no text
        refine q_pickN (K := K) rfl (ean_cons (en_ev ev_c fun _ => .non) (ean_cons (en_ev ev_c fun _ => .bl true) (ean_cons (en_ev ev_c fun _ => .int 5) (ean_cons (en_tup (eu_tup (ea_cons ev_c ea_nil) (by show 1 ≤ 100000; decide))) (ean_cons (en_lst (el_lst (ea_cons ev_c ea_nil) (by show 1 ≤ 100000; decide)))
          (ean_cons (en_dict1 ev_c ev_c) (ean_cons (en_tup (eu_tup ea_nil (by show 0 ≤ 100000; decide))) (ean_cons (en_ev (ev_op ev_c (ev_op (ev_int1 (ev_var rfl)) (ev_op ev_c ev_c (rv_I ⟨by decide, by decide, by decide⟩)) (rv_I (by decide))) rv_I0) fun _ => .int _) ean_nil)))))))) (by decide) (by decide) hb0 (by omega) s5 fun v H7 b7 b70 b71 s7 e7 nv => ?_
        refine s_when (b := false) (et_test (ev_opLL (el_lst (ea_cons (ev_df (ea_cons (ev_var rfl) ea_nil) (is_askN nv)) (ea_cons (ev_df (ea_cons (ev_var rfl) ea_nil) (is_askN nv)) (ea_cons (ev_df (ea_cons (ev_var rfl) ea_nil) (is_askN nv)) ea_nil))) (by show 3 ≤ 100000; decide)) (el_rep (k := 3) (el_lst (ea_cons ev_c ea_nil) (by show 1 ≤ 100000; decide)) ev_c (by decide) (by decide))
          (fun q1 q2 H8 g1 g2 e8 => fun H9 e9 Q q => ⟨.list [.bool false, .bool false, .bool false], .list [.bool false, .bool false, .bool false], .lst (sq_of (e9 _ _ g1)) (.cons (.bl _) (.cons (.bl _) (.cons (.bl _) .nil))), .lst (sq_of (e9 _ _ g2)) (.cons (.bl _) (.cons (.bl _) (.cons (.bl _) .nil))), by decide +kernel, by decide +kernel, q H9 (Ex.refl H9)⟩))) (fun h => by cases h) (fun _ H8 e8 => ?_)
        refine ⟨_, _, _, _, _, _, _, _, _, _, rfl, ?_⟩
        exact (wo_go n1 (wo_go n1 eL e5) e7).trans e8
    · rintro σ H2 ⟨v1, v2, v3, v4, v5, v6, v7, v8, v9, v10, rfl, e2⟩
      -- the written ones
      refine q_asgL (el_cat (el_df (K := K) (E := E0) ea_nil is_list) (el_lst ea_W1 (by show 11 ≤ 100000; decide)) (by show 21 + 11 ≤ 100000; decide)) fun l1 H3 hl1 e3 h3 => ?_
      rw [← List.map_append] at h3
      have n1 : ((RES ++ W1).map V.str).length = 32 := by rw [List.length_map]; rfl
      have n2 : (W2.map V.str).length = 5 := by rw [List.length_map]; rfl
      have n3 : (W3.map V.str).length = 3 := by rw [List.length_map]; rfl
      refine q_asgL (el_cat1 (ev_var rfl) h3 (el_lst (ea_W2 (K := K)) (by rw [n2]; decide)) (by rw [n1, n2]; decide)) fun l2 H4 hl2 e4 h4 => ?_
      rw [← List.map_append] at h4
      have n4 : (((RES ++ W1) ++ W2).map V.str).length = 37 := by rw [List.length_map]; rfl
      refine q_asgL (el_cat1 (ev_var rfl) h4 (el_lst ea_W3 (by rw [n3]; decide)) (by rw [n4, n3]; decide)) fun l3 H5 hl3 e5 h5 => ?_
      rw [← List.map_append] at h5
      have n5 : ((((RES ++ W1) ++ W2) ++ W3).map V.str).length = 40 := by rw [List.length_map]; rfl
      generalize hWW : ((RES ++ W1) ++ W2) ++ W3 = WW at h5 n5
      have hsh : ∀ z ∈ WW, z.length ≤ 30000 := by rw [← hWW]; exact W_short
      have eg : given (WW.map V.str).length (fun _ => false) (fun _ => V.non) = [] := by
        unfold given
        rw [List.filter_eq_nil_iff.mpr (fun _ _ h => by cases h)]
        rfl
      refine s_ret (ev_opLL (xs := given (WW.map V.str).length (fun _ => false) (fun _ => V.non)) (ys := []) ?lc (el_lst ea_nil (by decide))
        (fun q1 q2 H8 g1 g2 e8 => fun H9 e9 Q q => ⟨.list [], .list [], .lst (xs := []) (sq_of (by have := e9 _ _ g1; rw [eg] at this; exact this)) .nil, .lst (sq_of (e9 _ _ g2)) .nil, by decide +kernel, by decide +kernel, q H9 (Ex.refl H9)⟩)) fun H6 e6 => kk H6
      refine el_lcL (fun _ => false) (fun _ => V.non) (ev_var rfl) (sq_of h5) (by rw [n5]; decide) (fun _ => rfl) (fun j x H6 e6 hx => ?_) (fun j x H6 e6 hx hf => by cases hf)
      obtain ⟨z, hz, rfl⟩ := List.mem_map.mp (List.mem_of_getElem? hx)
      show EvT _ _ _ (!true)
      refine et_not (et_B (ev_df (ea_cons (ev_var rfl) ea_nil) (is_right (hsh z hz))))
end
end M2

set_option maxHeartbeats 8000000
namespace M2
open PySem PySem.Spec PyProof.Rows L2 Evl TL Gd
theorem all_mk {l : PySem.W.OpenLaw} {w : World} {K : PySem.W.Frag} {h : Heap} {mg : Str → Option Value} {fa f0 f1 f2 f3 f4 f5 f6 f7 f8 f9 f10 f11 f12 f13 f14 f15 f16 f17 : Addr} (X : K.In h) (G : h.Ns mainGlobals mg) (hfa : mg "law" = some (.ref fa))
    {od0 od1 od2 od3 od4 od5 od6 od7 od8 od9 od10 od11 od12 od13 od14 od15 od16 od17 an0 an1 an2 an3 an4 an5 an6 an7 an8 an9 an10 an11 an12 an13 an14 an15 an16 an17 : Option Addr} {sl0 sl1 sl2 sl3 sl4 sl5 sl6 sl7 sl8 sl9 sl10 sl11 sl12 sl13 sl14 sl15 sl16 sl17 : Array (Option Value)} {oc0 oc1 oc2 oc3 oc4 oc5 oc6 oc7 oc8 oc9 oc10 oc11 oc12 oc13 oc14 oc15 oc16 oc17 kV0 kV1 kV2 kV3 kV4 kV5 kV6 kV7 kV8 kV9 kV10 kV11 kV12 kV13 kV14 kV15 kV16 kV17 dc0 dc1 dc2 dc3 dc4 dc5 dc6 dc7 dc8 dc9 dc10 dc11 dc12 dc13 dc14 dc15 dc16 dc17 pm0 pm1 pm2 pm3 pm4 pm5 pm6 pm7 pm8 pm9 pm10 pm11 pm12 pm13 pm14 pm15 pm16 pm17 cd0 cd1 cd2 cd3 cd4 cd5 cd6 cd7 cd8 cd9 cd10 cd11 cd12 cd13 cd14 cd15 cd16 cd17 ct0 ct1 ct2 ct3 ct4 ct5 ct6 ct7 ct8 ct9 ct10 ct11 ct12 ct13 ct14 ct15 ct16 ct17 : Value}
    (a0 : PySem.W.nsIn K mainGlobals "row_end" = some (some (.ref f0))) (l0 : K.lookup f0 = some ⟨oc0, od0, .func (PySem.W.fnOf "row_end" "row_end" (defArgs s_row_end) (defBody s_row_end) (defScope s_row_end) .none kV0 dc0 pm0 an0 cd0 ct0), sl0⟩) (c0 : PySem.W.codeIn K cd0 "row_end" = true) (k0 : PySem.W.keepIn K (.ref f0) = true)
    (a1 : PySem.W.nsIn K mainGlobals "is_name" = some (some (.ref f1))) (l1 : K.lookup f1 = some ⟨oc1, od1, .func (PySem.W.fnOf "is_name" "is_name" (defArgs s_is_name) (defBody s_is_name) (defScope s_is_name) .none kV1 dc1 pm1 an1 cd1 ct1), sl1⟩) (c1 : PySem.W.codeIn K cd1 "is_name" = true) (k1 : PySem.W.keepIn K (.ref f1) = true)
    (a2 : PySem.W.nsIn K mainGlobals "is_reserved" = some (some (.ref f2))) (l2 : K.lookup f2 = some ⟨oc2, od2, .func (PySem.W.fnOf "is_reserved" "is_reserved" (defArgs s_is_reserved) (defBody s_is_reserved) (defScope s_is_reserved) .none kV2 dc2 pm2 an2 cd2 ct2), sl2⟩) (c2 : PySem.W.codeIn K cd2 "is_reserved" = true) (k2 : PySem.W.keepIn K (.ref f2) = true)
    (a3 : PySem.W.nsIn K mainGlobals "is_used" = some (some (.ref f3))) (l3 : K.lookup f3 = some ⟨oc3, od3, .func (PySem.W.fnOf "is_used" "is_used" (defArgs s_is_used) (defBody s_is_used) (defScope s_is_used) .none kV3 dc3 pm3 an3 cd3 ct3), sl3⟩) (c3 : PySem.W.codeIn K cd3 "is_used" = true) (k3 : PySem.W.keepIn K (.ref f3) = true)
    (a4 : PySem.W.nsIn K mainGlobals "_is_part" = some (some (.ref f4))) (l4 : K.lookup f4 = some ⟨oc4, od4, .func (PySem.W.fnOf "_is_part" "_is_part" (defArgs s_is_part) (defBody s_is_part) (defScope s_is_part) .none kV4 dc4 pm4 an4 cd4 ct4), sl4⟩) (c4 : PySem.W.codeIn K cd4 "_is_part" = true) (k4 : PySem.W.keepIn K (.ref f4) = true)
    (a5 : PySem.W.nsIn K mainGlobals "_law_mixed" = some (some (.ref f5))) (l5 : K.lookup f5 = some ⟨oc5, od5, .func (PySem.W.fnOf "_law_mixed" "_law_mixed" (defArgs s_law_mixed) (defBody s_law_mixed) (defScope s_law_mixed) .none kV5 dc5 pm5 an5 cd5 ct5), sl5⟩) (c5 : PySem.W.codeIn K cd5 "_law_mixed" = true) (k5 : PySem.W.keepIn K (.ref f5) = true)
    (a6 : PySem.W.nsIn K mainGlobals "_law_stream" = some (some (.ref f6))) (l6 : K.lookup f6 = some ⟨oc6, od6, .func (PySem.W.fnOf "_law_stream" "_law_stream" (defArgs s_law_stream) (defBody s_law_stream) (defScope s_law_stream) .none kV6 dc6 pm6 an6 cd6 ct6), sl6⟩) (c6 : PySem.W.codeIn K cd6 "_law_stream" = true) (k6 : PySem.W.keepIn K (.ref f6) = true)
    (a7 : PySem.W.nsIn K mainGlobals "_law_draw" = some (some (.ref f7))) (l7 : K.lookup f7 = some ⟨oc7, od7, .func (PySem.W.fnOf "_law_draw" "_law_draw" (defArgs s_law_draw) (defBody s_law_draw) (defScope s_law_draw) .none kV7 dc7 pm7 an7 cd7 ct7), sl7⟩) (c7 : PySem.W.codeIn K cd7 "_law_draw" = true) (k7 : PySem.W.keepIn K (.ref f7) = true)
    (a8 : PySem.W.nsIn K mainGlobals "_law_pick" = some (some (.ref f8))) (l8 : K.lookup f8 = some ⟨oc8, od8, .func (PySem.W.fnOf "_law_pick" "_law_pick" (defArgs s_law_pick) (defBody s_law_pick) (defScope s_law_pick) .none kV8 dc8 pm8 an8 cd8 ct8), sl8⟩) (c8 : PySem.W.codeIn K cd8 "_law_pick" = true) (k8 : PySem.W.keepIn K (.ref f8) = true)
    (a9 : PySem.W.nsIn K mainGlobals "_law_letters" = some (some (.ref f9))) (l9 : K.lookup f9 = some ⟨oc9, od9, .func (PySem.W.fnOf "_law_letters" "_law_letters" (defArgs s_law_letters) (defBody s_law_letters) (defScope s_law_letters) .none kV9 dc9 pm9 an9 cd9 ct9), sl9⟩) (c9 : PySem.W.codeIn K cd9 "_law_letters" = true) (k9 : PySem.W.keepIn K (.ref f9) = true)
    (a10 : PySem.W.nsIn K mainGlobals "_law_is_name" = some (some (.ref f10))) (l10 : K.lookup f10 = some ⟨oc10, od10, .func (PySem.W.fnOf "_law_is_name" "_law_is_name" (defArgs s_law_is_name) (defBody s_law_is_name) (defScope s_law_is_name) .none kV10 dc10 pm10 an10 cd10 ct10), sl10⟩) (c10 : PySem.W.codeIn K cd10 "_law_is_name" = true) (k10 : PySem.W.keepIn K (.ref f10) = true)
    (a11 : PySem.W.nsIn K mainGlobals "_law_is_part" = some (some (.ref f11))) (l11 : K.lookup f11 = some ⟨oc11, od11, .func (PySem.W.fnOf "_law_is_part" "_law_is_part" (defArgs s_law_is_part) (defBody s_law_is_part) (defScope s_law_is_part) .none kV11 dc11 pm11 an11 cd11 ct11), sl11⟩) (c11 : PySem.W.codeIn K cd11 "_law_is_part" = true) (k11 : PySem.W.keepIn K (.ref f11) = true)
    (a12 : PySem.W.nsIn K mainGlobals "_law_is_used" = some (some (.ref f12))) (l12 : K.lookup f12 = some ⟨oc12, od12, .func (PySem.W.fnOf "_law_is_used" "_law_is_used" (defArgs s_law_is_used) (defBody s_law_is_used) (defScope s_law_is_used) .none kV12 dc12 pm12 an12 cd12 ct12), sl12⟩) (c12 : PySem.W.codeIn K cd12 "_law_is_used" = true) (k12 : PySem.W.keepIn K (.ref f12) = true)
    (a13 : PySem.W.nsIn K mainGlobals "_law_reserved" = some (some (.ref f13))) (l13 : K.lookup f13 = some ⟨oc13, od13, .func (PySem.W.fnOf "_law_reserved" "_law_reserved" (defArgs s_law_reserved) (defBody s_law_reserved) (defScope s_law_reserved) .none kV13 dc13 pm13 an13 cd13 ct13), sl13⟩) (c13 : PySem.W.codeIn K cd13 "_law_reserved" = true) (k13 : PySem.W.keepIn K (.ref f13) = true)
    (a14 : PySem.W.nsIn K mainGlobals "_law_word" = some (some (.ref f14))) (l14 : K.lookup f14 = some ⟨oc14, od14, .func (PySem.W.fnOf "_law_word" "_law_word" (defArgs s_law_word) (defBody s_law_word) (defScope s_law_word) .none kV14 dc14 pm14 an14 cd14 ct14), sl14⟩) (c14 : PySem.W.codeIn K cd14 "_law_word" = true) (k14 : PySem.W.keepIn K (.ref f14) = true)
    (a15 : PySem.W.nsIn K mainGlobals "_law_part" = some (some (.ref f15))) (l15 : K.lookup f15 = some ⟨oc15, od15, .func (PySem.W.fnOf "_law_part" "_law_part" (defArgs s_law_part) (defBody s_law_part) (defScope s_law_part) .none kV15 dc15 pm15 an15 cd15 ct15), sl15⟩) (c15 : PySem.W.codeIn K cd15 "_law_part" = true) (k15 : PySem.W.keepIn K (.ref f15) = true)
    (a16 : PySem.W.nsIn K mainGlobals "_law_right" = some (some (.ref f16))) (l16 : K.lookup f16 = some ⟨oc16, od16, .func (PySem.W.fnOf "_law_right" "_law_right" (defArgs s_law_right) (defBody s_law_right) (defScope s_law_right) .none kV16 dc16 pm16 an16 cd16 ct16), sl16⟩) (c16 : PySem.W.codeIn K cd16 "_law_right" = true) (k16 : PySem.W.keepIn K (.ref f16) = true)
    (a17 : PySem.W.nsIn K mainGlobals "law" = some (some (.ref f17))) (l17 : K.lookup f17 = some ⟨oc17, od17, .func (PySem.W.fnOf "law" "law" (defArgs s_law) (defBody s_law) (defScope s_law) .none kV17 dc17 pm17 an17 cd17 ct17), sl17⟩) (c17 : PySem.W.codeIn K cd17 "law" = true) (k17 : PySem.W.keepIn K (.ref f17) = true)
    {tk_DIGITS tk_MOST_IN_NAME tk_MOST_IN_MADE tk_MOST_IN_PATH : Tok}
    (g_DIGITS : PySem.W.nsIn K mainGlobals "DIGITS" = some (some (.str DIG tk_DIGITS)))
    (g_MOST_IN_NAME : PySem.W.nsIn K mainGlobals "MOST_IN_NAME" = some (some (.int 40 tk_MOST_IN_NAME)))
    (g_MOST_IN_MADE : PySem.W.nsIn K mainGlobals "MOST_IN_MADE" = some (some (.int 9 tk_MOST_IN_MADE)))
    (g_MOST_IN_PATH : PySem.W.nsIn K mainGlobals "MOST_IN_PATH" = some (some (.int 8 tk_MOST_IN_PATH)))
    {A_RESERVED : Addr} {odT_RESERVED : Option Addr} {nT_RESERVED : Nat} {slT_RESERVED : Array (Option Value)} {u0_RESERVED u1_RESERVED u2_RESERVED u3_RESERVED u4_RESERVED u5_RESERVED u6_RESERVED u7_RESERVED u8_RESERVED u9_RESERVED u10_RESERVED u11_RESERVED u12_RESERVED u13_RESERVED u14_RESERVED u15_RESERVED u16_RESERVED u17_RESERVED u18_RESERVED u19_RESERVED u20_RESERVED : Tok} (g_RESERVED : PySem.W.nsIn K mainGlobals "RESERVED" = some (some (.ref A_RESERVED)))
    (lT_RESERVED : K.lookup A_RESERVED = some ⟨.type "tuple", odT_RESERVED, .seq #[.str "mod" u0_RESERVED, .str "macro" u1_RESERVED, .str "endmacro" u2_RESERVED, .str "repeat" u3_RESERVED, .str "endrepeat" u4_RESERVED, .str "if" u5_RESERVED, .str "ifsame" u6_RESERVED, .str "else" u7_RESERVED, .str "endif" u8_RESERVED, .str "set" u9_RESERVED, .str "section" u10_RESERVED, .str "byte" u11_RESERVED, .str "word" u12_RESERVED, .str "long" u13_RESERVED, .str "text" u14_RESERVED, .str "space" u15_RESERVED, .str "align" u16_RESERVED, .str "scope" u17_RESERVED, .str "endscope" u18_RESERVED, .str "export" u19_RESERVED, .str "import" u20_RESERVED] nT_RESERVED, slT_RESERVED⟩)
    (b_min : PySem.W.nsIn K mainGlobals "min" = some none)
    (b_len : PySem.W.nsIn K mainGlobals "len" = some none)
    (b_isinstance : PySem.W.nsIn K mainGlobals "isinstance" = some none)
    (b_str : PySem.W.nsIn K mainGlobals "str" = some none)
    (b_all : PySem.W.nsIn K mainGlobals "all" = some none)
    (b_int : PySem.W.nsIn K mainGlobals "int" = some none)
    (b_list : PySem.W.nsIn K mainGlobals "list" = some none)
    (b_range : PySem.W.nsIn K mainGlobals "range" = some none)
    (b_repr : PySem.W.nsIn K mainGlobals "repr" = some none)
    (b_enumerate : PySem.W.nsIn K mainGlobals "enumerate" = some none)
    : ∃ fd : FuncData, (∀ (s : Shared) (v : Value), BindsTo s fd ⟨[v], []⟩ [("_law_script", v)]) ∧ ∀ base : Heap, K.In base → base.Ns mainGlobals mg → GOk l.prog w K mg base CX0 7 fa fd ["_law_script"] (spLaw K) := by
  have e := hfa.symm.trans (PySem.W.mg_of X G a17)
  cases e
  have T : Tx K mg := {
    b_min := PySem.W.mg_none_of X G b_min,
    b_len := PySem.W.mg_none_of X G b_len,
    b_isinstance := PySem.W.mg_none_of X G b_isinstance,
    b_str := PySem.W.mg_none_of X G b_str,
    b_all := PySem.W.mg_none_of X G b_all,
    b_int := PySem.W.mg_none_of X G b_int,
    b_list := PySem.W.mg_none_of X G b_list,
    b_range := PySem.W.mg_none_of X G b_range,
    b_repr := PySem.W.mg_none_of X G b_repr,
    b_enumerate := PySem.W.mg_none_of X G b_enumerate,
    g_DIGITS := ⟨_, PySem.W.mg_of X G g_DIGITS⟩,
    g_MOST_IN_NAME := ⟨_, PySem.W.mg_of X G g_MOST_IN_NAME⟩,
    g_MOST_IN_MADE := ⟨_, PySem.W.mg_of X G g_MOST_IN_MADE⟩,
    g_MOST_IN_PATH := ⟨_, PySem.W.mg_of X G g_MOST_IN_PATH⟩,
    g_RESERVED := ⟨A_RESERVED, PySem.W.mg_of X G g_RESERVED, fun H => Or.inr ⟨_, _, _, lT_RESERVED, rfl, rfl, by show 21 ≤ sizeLine; decide, (.cons ⟨_, rfl⟩ (.cons ⟨_, rfl⟩ (.cons ⟨_, rfl⟩ (.cons ⟨_, rfl⟩ (.cons ⟨_, rfl⟩ (.cons ⟨_, rfl⟩ (.cons ⟨_, rfl⟩ (.cons ⟨_, rfl⟩ (.cons ⟨_, rfl⟩ (.cons ⟨_, rfl⟩ (.cons ⟨_, rfl⟩ (.cons ⟨_, rfl⟩ (.cons ⟨_, rfl⟩ (.cons ⟨_, rfl⟩ (.cons ⟨_, rfl⟩ (.cons ⟨_, rfl⟩ (.cons ⟨_, rfl⟩ (.cons ⟨_, rfl⟩ (.cons ⟨_, rfl⟩ (.cons ⟨_, rfl⟩ (.cons ⟨_, rfl⟩ .nil)))))))))))))))))))))⟩⟩ }
  have F0 := fun_mk (st := s_row_end) l0 c0 k0
  have B0 := F0.binds (ps := ["line", "at", "signs", "most"]) fun _ _ _ _ _ _ us hl => match us, hl with | [_, _, _, _], _ => rfl
  have F1 := fun_mk (st := s_is_name) l1 c1 k1
  have B1 := F1.binds (ps := ["value"]) fun _ _ _ _ _ _ us hl => match us, hl with | [_], _ => rfl
  have F2 := fun_mk (st := s_is_reserved) l2 c2 k2
  have B2 := F2.binds (ps := ["value"]) fun _ _ _ _ _ _ us hl => match us, hl with | [_], _ => rfl
  have F3 := fun_mk (st := s_is_used) l3 c3 k3
  have B3 := F3.binds (ps := ["value"]) fun _ _ _ _ _ _ us hl => match us, hl with | [_], _ => rfl
  have F4 := fun_mk (st := s_is_part) l4 c4 k4
  have B4 := F4.binds (ps := ["text"]) fun _ _ _ _ _ _ us hl => match us, hl with | [_], _ => rfl
  have F5 := fun_mk (st := s_law_mixed) l5 c5 k5
  have B5 := F5.binds (ps := ["_law_number", "_law_k"]) fun _ _ _ _ _ _ us hl => match us, hl with | [_, _], _ => rfl
  have F6 := fun_mk (st := s_law_stream) l6 c6 k6
  have B6 := F6.binds (ps := ["_law_item", "_law_k"]) fun _ _ _ _ _ _ us hl => match us, hl with | [_, _], _ => rfl
  have F7 := fun_mk (st := s_law_draw) l7 c7 k7
  have B7 := F7.binds (ps := ["_law_stream_here", "_law_top"]) fun _ _ _ _ _ _ us hl => match us, hl with | [_, _], _ => rfl
  have F8 := fun_mk (st := s_law_pick) l8 c8 k8
  have B8 := F8.binds (ps := ["_law_stream_here", "_law_some"]) fun _ _ _ _ _ _ us hl => match us, hl with | [_, _], _ => rfl
  have F9 := fun_mk (st := s_law_letters) l9 c9 k9
  have B9 := F9.binds (ps := []) fun _ _ _ _ _ _ us hl => match us, hl with | [], _ => rfl
  have F10 := fun_mk (st := s_law_is_name) l10 c10 k10
  have B10 := F10.binds (ps := ["_law_word_here"]) fun _ _ _ _ _ _ us hl => match us, hl with | [_], _ => rfl
  have F11 := fun_mk (st := s_law_is_part) l11 c11 k11
  have B11 := F11.binds (ps := ["_law_word_here"]) fun _ _ _ _ _ _ us hl => match us, hl with | [_], _ => rfl
  have F12 := fun_mk (st := s_law_is_used) l12 c12 k12
  have B12 := F12.binds (ps := ["_law_word_here"]) fun _ _ _ _ _ _ us hl => match us, hl with | [_], _ => rfl
  have F13 := fun_mk (st := s_law_reserved) l13 c13 k13
  have B13 := F13.binds (ps := []) fun _ _ _ _ _ _ us hl => match us, hl with | [], _ => rfl
  have F14 := fun_mk (st := s_law_word) l14 c14 k14
  have B14 := F14.binds (ps := ["_law_stream_here"]) fun _ _ _ _ _ _ us hl => match us, hl with | [_], _ => rfl
  have F15 := fun_mk (st := s_law_part) l15 c15 k15
  have B15 := F15.binds (ps := ["_law_stream_here"]) fun _ _ _ _ _ _ us hl => match us, hl with | [_], _ => rfl
  have F16 := fun_mk (st := s_law_right) l16 c16 k16
  have B16 := F16.binds (ps := ["_law_word_here"]) fun _ _ _ _ _ _ us hl => match us, hl with | [_], _ => rfl
  have F17 := fun_mk (st := s_law) l17 c17 k17
  refine ⟨PySem.W.fnOf "law" "law" (defArgs s_law) (defBody s_law) (defScope s_law) .none kV17 dc17 pm17 an17 cd17 ct17, fun s v => .of_eq rfl, fun base _ _ => ?_⟩
  have D_row_end : Df l.prog w K mg base CX0 _ _ _ _ := ⟨_, _, ok_row_end F0 T, B0, k0, PySem.W.mg_of X G a0⟩
  have D_is_name : Df l.prog w K mg base CX0 _ _ _ _ := ⟨_, _, ok_is_name F1 T, B1, k1, PySem.W.mg_of X G a1⟩
  have D_is_reserved : Df l.prog w K mg base CX0 _ _ _ _ := ⟨_, _, ok_is_reserved F2 T, B2, k2, PySem.W.mg_of X G a2⟩
  have D_is_part : Df l.prog w K mg base CX0 _ _ _ _ := ⟨_, _, ok_is_part F4 T D_row_end D_is_name, B4, k4, PySem.W.mg_of X G a4⟩
  have D_is_used : Df l.prog w K mg base CX0 _ _ _ _ := ⟨_, _, ok_is_used F3 T D_is_name D_is_part, B3, k3, PySem.W.mg_of X G a3⟩
  have K_is_name : DfK l.prog w K mg base CX0 _ _ _ _ := ⟨_, _, ok_is_name F1 T, F1.kbinds (ps := ["value"]) (fun _ _ _ _ _ _ ws hl => match ws, hl with | [_], _ => rfl), k1, PySem.W.mg_of X G a1⟩
  have K_is_reserved : DfK l.prog w K mg base CX0 _ _ _ _ := ⟨_, _, ok_is_reserved F2 T, F2.kbinds (ps := ["value"]) (fun _ _ _ _ _ _ ws hl => match ws, hl with | [_], _ => rfl), k2, PySem.W.mg_of X G a2⟩
  have K_is_used : DfK l.prog w K mg base CX0 _ _ _ _ := ⟨_, _, ok_is_used F3 T D_is_name D_is_part, F3.kbinds (ps := ["value"]) (fun _ _ _ _ _ _ ws hl => match ws, hl with | [_], _ => rfl), k3, PySem.W.mg_of X G a3⟩
  have D_law_mixed : Df l.prog w K mg base CX0 _ _ _ _ := ⟨_, _, ok_law_mixed F5 T, B5, k5, PySem.W.mg_of X G a5⟩
  have D_law_stream : Df l.prog w K mg base CX0 _ _ _ _ := ⟨_, _, ok_law_stream F6 T D_law_mixed, B6, k6, PySem.W.mg_of X G a6⟩
  have D_law_draw : Df l.prog w K mg base CX0 _ _ _ _ := ⟨_, _, ok_law_draw F7 T D_law_mixed, B7, k7, PySem.W.mg_of X G a7⟩
  have D_law_pick : Df l.prog w K mg base CX0 _ _ _ _ := ⟨_, _, ok_law_pick F8 T D_law_draw, B8, k8, PySem.W.mg_of X G a8⟩
  have D_law_letters : Df l.prog w K mg base CX0 _ _ _ _ := ⟨_, _, ok_law_letters F9, B9, k9, PySem.W.mg_of X G a9⟩
  have D_law_is_name : Df l.prog w K mg base CX0 _ _ _ _ := ⟨_, _, ok_law_is_name F10 T D_law_letters, B10, k10, PySem.W.mg_of X G a10⟩
  have D_law_is_part : Df l.prog w K mg base CX0 _ _ _ _ := ⟨_, _, ok_law_is_part F11 T D_law_is_name, B11, k11, PySem.W.mg_of X G a11⟩
  have D_law_is_used : Df l.prog w K mg base CX0 _ _ _ _ := ⟨_, _, ok_law_is_used F12 T D_law_is_name D_law_is_part, B12, k12, PySem.W.mg_of X G a12⟩
  have D_law_reserved : Df l.prog w K mg base CX0 _ _ _ _ := ⟨_, _, ok_law_reserved F13, B13, k13, PySem.W.mg_of X G a13⟩
  have D_law_word : Df l.prog w K mg base CX0 _ _ _ _ := ⟨_, _, ok_law_word F14 T D_law_draw D_law_pick, B14, k14, PySem.W.mg_of X G a14⟩
  have D_law_part : Df l.prog w K mg base CX0 _ _ _ _ := ⟨_, _, ok_law_part F15 T D_law_draw D_law_pick D_law_word, B15, k15, PySem.W.mg_of X G a15⟩
  have D_law_right : DfG l.prog w K mg base CX0 _ _ _ _ := ⟨_, _, ok_law_right F16 T D_law_is_name D_law_reserved D_law_is_used D_is_name D_is_reserved D_is_used K_is_name K_is_reserved K_is_used, B16, k16, PySem.W.mg_of X G a16⟩
  exact ok_law F17 T D_law_stream D_law_pick D_law_word D_law_part D_law_reserved D_law_right D_is_name D_is_reserved D_is_used
end M2
open PySem PySem.W PyProof.Rows
set_option maxRecDepth 100000 in
set_option maxHeartbeats 0 in
theorem PySem.Challenge.cw_macroasm_k02_names_holds : PySem.Challenge.rw_macroasm_k02_names.Holds := by
  w_on; o_law; k_head; (case hw => w_witness2)
  k_fill
  refine Gd.walk_calm (l := PySem.Challenge.rw_macroasm_k02_names) (n := 63) (k := 7) (x := "_law_script") (CX := fun _ => L2.CX0) (sp := fun w => M2.spLaw _) rfl (by decide) rfl ⟨rfl, by decide, by decide⟩ (fun w h Y => PySem.W.kIn_of Y) ?F (fun _ _ a ns hl _ hS => ⟨a, ns, rfl, hS, hl, fun _ => rfl⟩) (fun _ _ _ _ _ h => h)
  case F =>
    intro w mg fa h KX G hmg
    refine' M2.all_mk KX G hmg ?a0 ?l0 ?c0 ?k0 ?a1 ?l1 ?c1 ?k1 ?a2 ?l2 ?c2 ?k2 ?a3 ?l3 ?c3 ?k3 ?a4 ?l4 ?c4 ?k4 ?a5 ?l5 ?c5 ?k5 ?a6 ?l6 ?c6 ?k6 ?a7 ?l7 ?c7 ?k7 ?a8 ?l8 ?c8 ?k8 ?a9 ?l9 ?c9 ?k9 ?a10 ?l10 ?c10 ?k10 ?a11 ?l11 ?c11 ?k11 ?a12 ?l12 ?c12 ?k12 ?a13 ?l13 ?c13 ?k13 ?a14 ?l14 ?c14 ?k14 ?a15 ?l15 ?c15 ?k15 ?a16 ?l16 ?c16 ?k16 ?a17 ?l17 ?c17 ?k17 ?g_DIGITS ?g_MOST_IN_NAME ?g_MOST_IN_MADE ?g_MOST_IN_PATH ?g_RESERVED ?lT_RESERVED ?b_min ?b_len ?b_isinstance ?b_str ?b_all ?b_int ?b_list ?b_range ?b_repr ?b_enumerate
    (case a0 => k_is); (case l0 => k_is); (case c0 => k_is); (case k0 => k_is); (case a1 => k_is); (case l1 => k_is); (case c1 => k_is); (case k1 => k_is); (case a2 => k_is); (case l2 => k_is); (case c2 => k_is); (case k2 => k_is); (case a3 => k_is); (case l3 => k_is); (case c3 => k_is); (case k3 => k_is); (case a4 => k_is); (case l4 => k_is); (case c4 => k_is); (case k4 => k_is); (case a5 => k_is); (case l5 => k_is); (case c5 => k_is); (case k5 => k_is); (case a6 => k_is); (case l6 => k_is); (case c6 => k_is); (case k6 => k_is); (case a7 => k_is); (case l7 => k_is); (case c7 => k_is); (case k7 => k_is); (case a8 => k_is); (case l8 => k_is); (case c8 => k_is); (case k8 => k_is); (case a9 => k_is); (case l9 => k_is); (case c9 => k_is); (case k9 => k_is); (case a10 => k_is); (case l10 => k_is); (case c10 => k_is); (case k10 => k_is); (case a11 => k_is); (case l11 => k_is); (case c11 => k_is); (case k11 => k_is); (case a12 => k_is); (case l12 => k_is); (case c12 => k_is); (case k12 => k_is); (case a13 => k_is); (case l13 => k_is); (case c13 => k_is); (case k13 => k_is); (case a14 => k_is); (case l14 => k_is); (case c14 => k_is); (case k14 => k_is); (case a15 => k_is); (case l15 => k_is); (case c15 => k_is); (case k15 => k_is); (case a16 => k_is); (case l16 => k_is); (case c16 => k_is); (case k16 => k_is); (case a17 => k_is); (case l17 => k_is); (case c17 => k_is); (case k17 => k_is); (case g_DIGITS => k_is); (case g_MOST_IN_NAME => k_is); (case g_MOST_IN_MADE => k_is); (case g_MOST_IN_PATH => k_is); (case g_RESERVED => k_is); (case lT_RESERVED => k_is); (case b_min => k_is); (case b_len => k_is); (case b_isinstance => k_is); (case b_str => k_is); (case b_all => k_is); (case b_int => k_is); (case b_list => k_is); (case b_range => k_is); (case b_repr => k_is); (case b_enumerate => k_is)
#print axioms PySem.Challenge.cw_macroasm_k02_names_holds

