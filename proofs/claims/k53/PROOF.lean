import PyProof.Rows.All
import Wide.All
import OpenK.AllK
import Wide.FinOn
import HandS.Base
import HandS.Call
import HandS.List
import HandS.Defaults
import HandS.MakeKw
import HandS.Star
import HandS.ClsMeth
import HandS.Dict
import HandS.OwnEq
import HandS.ForMost
import HandS.Evl
import HandS.IsInst
import HandS.Property
import HandS.MakeKwOnly
import KE.KIsAll
import KE.KTryMore
import HandS.Exc
import HandS.ExcIs
import HandS.ExcField
import HandS.ExcInit
import HandS.ExcValue
import KE.KOpsOwn
import KE.KCallOwn
import PyProof.TwoTypes
import HandS.ExcOwn
import HandS.WordsExc
import PyProof.Rows.CallKw2
import PyProof.ReprLen
import HandS.Walk
import HandS.TupAny
import HandS.Wide
import KE.GoesMore
import HandS.Style
import HandS.WideBits
import PyProof.FactsLen
import KE.KSuper
import HandS.FStr
import HandS.WrittenGet
import KE.KDictPairs
import KE.KRevSl
import HandS.StrMore
import HandS.More
import HandS.Iter
import HandS.DictTup
import HandS.SetFor
import HandS.Strs
import HandS.DictComp
import HandS.Steps
import HandS.RaiseMore
import HandS.HeadHook3
import PySem.Challenge.RW_macroasm_k53_tables_asked
set_option Elab.async false
set_option linter.all false
set_option autoImplicit false
set_option maxRecDepth 100000
set_option maxHeartbeats 4000000
/-! defs f(a, .., b=d, *v) and what is called with keywords; C(..), a local that holds a class called, classmethods by keywords. -/
namespace Gd
open PySem PySem.Spec PyProof.Rows L2 StX ClX

/-- what a def promises of a call with values and keywords -/
abbrev SpA := List V → List (Str × V) → Hp → VK → XK → Prop
def FnA (P : Program) (w : World) (K : PySem.W.Frag) (mg : Str → Option Value) (base : Heap) (CX : CXT) (k : Nat) (f : Addr) (sp : SpA) : Prop :=
  ∀ (A : Around) (outer : List Env) (s : Shared) (H : Hp) (us ws : List Value) (vs zs : List V) (ks : List Str) (Q : VK) (E : XK), Room k A → Env0 P w K mg base A outer s H → Vals vs us → Vals zs ws → zs.length = ks.length → sp vs (ks.zip zs) H Q E →
    codeAny (model P w) A (.call (.ref f) ⟨us, ks.zip ws⟩) (CR CX outer P w H s Q E) s
section
variable {P : Program} {w : World} {K : PySem.W.Frag} {mg : Str → Option Value} {base : Heap} {CX : CXT} {j k : Nat} {f : Addr} {sp : SpA}
theorem FnA.mono (F : FnA P w K mg base CX j f sp) (h : j ≤ k) : FnA P w K mg base CX k f sp := fun A outer s H us ws vs zs ks Q E hr => F A outer s H us ws vs zs ks Q E (hr.mono h)
/-- a def without defaults, without stars: values, then all others by their names in order -/
theorem FnA.of {fd : FuncData} {ps ks : List Str} {n : Nat} {spo : Sp} (F : FnOk P w K mg base CX k f fd ps spo) (hb : Binds K fd ps []) (hk : KBn K fd ps n ks (fun us ws => us ++ ws) (fun vs zs => vs ++ zs)) :
    FnA P w K mg base CX k f (fun vs kv H Q E => (kv = [] ∧ spo vs H Q E) ∨ (vs.length = n ∧ kv.map (·.1) = ks ∧ spo (vs ++ kv.map (·.2)) H Q E)) := by
  intro A outer s H us ws vs zs ks' Q E hr e0 r1 r2 hz h
  have zz : ∀ {α : Type} {l : List Str} {m : List α}, m.length = l.length → (l.zip m).map (·.1) = l ∧ (l.zip m).map (·.2) = m := fun hl => ⟨List.map_fst_zip (Nat.le_of_eq hl.symm), List.map_snd_zip (Nat.le_of_eq hl)⟩
  rcases h with ⟨e, h⟩ | ⟨hn, e, h⟩
  · have e2 : zs = [] := by
      have := congrArg List.length e
      rw [List.length_zip, hz, Nat.min_self] at this
      exact List.length_eq_zero_iff.mp (by rw [hz]; exact this)
    subst e2
    cases r2
    have e3 : ks' = [] := List.length_eq_zero_iff.mp hz.symm
    subst e3
    have z := (FnOk.raw F hb .nil) A outer s H us vs Q E hr e0 r1 (by simpa using h)
    exact z
  · rw [(zz hz).1] at e
    rw [(zz hz).2] at h
    subst e
    exact F.run A outer s H ⟨us, ks'.zip ws⟩ (us ++ ws) _ _ E hr e0 (hk.to _ us ws (e0.mod.kin.keeps fun b o e => (e0.bs b o e).1) (r1.length.symm.trans hn) (r2.length.symm.trans hz)) (hk.rel r1 r2) h
end

/-! ### f(a, .., b=d, *v) -/
section
variable {CX : CXT} {P : Program} {w : World} {K : PySem.W.Frag} {mg : Str → Option Value} {base : Heap} {k : Nat} {f : Addr} {name qual : Str} {params : Arguments} {body : List Stmt} {scope : Scope} {kV doc pm cdv ct oc : Value} {an od : Option Addr}
  {osl : Array (Option Value)} {N ps : List Str} {sp : Sp} {T : Addr} {oT : Obj} {its : List Value} {n : Nat}
theorem run_dstar {pv : Str} (lk : K.lookup f = some ⟨oc, od, .func (PySem.W.fnOf name qual params body scope (.ref T) kV doc pm an cdv ct), osl⟩) (lT : K.lookup T = some oT) (hT : oT.data = .seq its.toArray n) (hcd : PySem.W.codeIn K cdv qual = true) (S : FnScope N (ps ++ [pv]) scope) (hCX : CXUp CX)
    {A : Around} {outer : List Env} {s : Shared} {H : Hp} {Q : VK} {E : XK} {args : Args} {us rest : List Value} {ws wr : List V}
    (hb : ∃ g, bindArgs (PySem.W.fnOf name qual params body scope (.ref T) kV doc pm an cdv ct) args = (seqItems? (.ref T) >>= g) ∧ g (some its.toArray) = (newTuple rest >>= fun t => pure (ps.zip us ++ [(pv, t)])))
    (hr : Room (k + 1) A) (e0 : Env0 P w K mg base A outer s H) (r1 : Vals ws us) (hl : ws.length = ps.length) (r2 : Vals wr rest) (hz : wr.length ≤ sizeLine) (hsp : ∀ p, H p = Option.none → sp (ws ++ [V.ref p]) (upd H p (.tup wr)) Q E)
    (hbody : ∀ (A : Around) (outer : List Env) (s : Shared) (H : Hp) (vs : List V) (Q : VK) (E : XK), Room k (A.deeper (envOfC qual scope s.heap.objs.size f cdv)) → sp vs H Q E →
      ∃ t, PSs (cxOf CX P w K mg base N qual scope f cdv A outer s H E) body t ∧ t { nx := fun _ H' => Q .non H', rt := Q } (start N vs) H) : codeAny (model P w) A (.call (.ref f) args) (CR CX outer P w H s Q E) s := by
  have hn : H s.heap.objs.size = Option.none := e0.hok.fresh (Nat.le_refl _)
  have hl1 : us.length = ps.length := by rw [← r1.length]; exact hl
  have hl2 : rest.length ≤ sizeLine := by rw [← r2.length]; exact hz
  have KX : K.In s.heap := e0.mod.kin.keeps fun b o e => (e0.bs b o e).1
  refine run_bnd lk hcd S hr e0 (G := fun xs H2 => ∃ p, H p = Option.none ∧ xs = ws ++ [V.ref p] ∧ H2 = upd H p (.tup wr)) (fun A' Ex Q' h => ?_) fun s2 H2 xs ⟨p, hp, ex, eH⟩ hr' => ?_
  · obtain ⟨g, e1, e2⟩ := hb
    rw [e1]
    refine wpAny_bind (wpAny_seqItems (KX _ _ lT) hT ?_)
    rw [e2]
    refine wpAny_bind (wpAny_newTuple (wpAny_pure ?_) hl2)
    have new : ObjOk P w (upd H s.heap.objs.size (.tup wr)) (s.heap.push ({ cls := .type "tuple", data := .seq rest.toArray } : Obj)) s.heap.objs.size (.tup wr) := ⟨hz, rest, r2, ⟨_, Heap.get?_push_size _ rfl, rfl, _, rfl⟩⟩
    have un := un_laid (fs := frs outer) (s := s) (o := ({ cls := .type "tuple", data := .seq rest.toArray } : Obj)) (u := .tup wr) hn
    have z := h _ _ (ws ++ [V.ref s.heap.objs.size]) (us ++ [Value.ref s.heap.objs.size]) (env0_laid e0 new) un rfl (fun e s' => hCX outer s H _ _ E e s' un (fun b o q => Heap.get?_push_of_some _ q) rfl) (r1.append (.cons rfl .nil))
      (by rw [List.length_append, List.length_append, hl] <;> rfl) ⟨_, hn, rfl, rfl⟩
    rw [List.zip_append hl1.symm] at z
    exact z
  · subst ex eH
    exact hbody A outer s2 _ _ Q E hr' (hsp p hp)
/-- def __init__(self, a=d, *v) -/
def spInit1 (pa : Str) (d : V) (sp : Sp) : SpA := fun vs kv H Q E => ∃ x c rest, ((vs = x :: c :: rest ∧ kv = []) ∨ (vs = [x] ∧ kv = [] ∧ c = d ∧ rest = []) ∨ (vs = [x] ∧ kv = [(pa, c)] ∧ rest = [])) ∧ rest.length ≤ sizeLine ∧
  ∀ p, H p = Option.none → sp [x, c, V.ref p] (upd H p (.tup rest)) Q E
theorem fn_init1 {p0 pa pv : Str} {d : V} {dv : Value} (lk : K.lookup f = some ⟨oc, od, .func (PySem.W.fnOf name qual params body scope (.ref T) kV doc pm an cdv ct), osl⟩) (lT : K.lookup T = some oT) (hT : oT.data = .seq [dv].toArray n) (rd : RelV d dv) (hcd : PySem.W.codeIn K cdv qual = true) (S : FnScope N [p0, pa, pv] scope) (hCX : CXUp CX)
    (h2 : ∀ a c : Value, ∃ g, bindArgs (PySem.W.fnOf name qual params body scope (.ref T) kV doc pm an cdv ct) ⟨[a, c], []⟩ = (seqItems? (.ref T) >>= g) ∧ g (some [dv].toArray) = (newTuple [] >>= fun t => pure [(p0, a), (pa, c), (pv, t)]))
    (h3 : ∀ (a c r : Value) (rs : List Value), ∃ g, bindArgs (PySem.W.fnOf name qual params body scope (.ref T) kV doc pm an cdv ct) ⟨a :: c :: r :: rs, []⟩ = (seqItems? (.ref T) >>= g) ∧ g (some [dv].toArray) = (newTuple (r :: rs) >>= fun t => pure [(p0, a), (pa, c), (pv, t)]))
    (h1 : ∀ a : Value, ∃ g, bindArgs (PySem.W.fnOf name qual params body scope (.ref T) kV doc pm an cdv ct) ⟨[a], []⟩ = (seqItems? (.ref T) >>= g) ∧ g (some [dv].toArray) = (newTuple [] >>= fun t => pure [(p0, a), (pa, dv), (pv, t)]))
    (hk : ∀ a c : Value, ∃ g, bindArgs (PySem.W.fnOf name qual params body scope (.ref T) kV doc pm an cdv ct) ⟨[a], [(pa, c)]⟩ = (seqItems? (.ref T) >>= g) ∧ g (some [dv].toArray) = (newTuple [] >>= fun t => pure [(p0, a), (pa, c), (pv, t)]))
    (hbody : ∀ (A : Around) (outer : List Env) (s : Shared) (H : Hp) (vs : List V) (Q : VK) (E : XK), Room k (A.deeper (envOfC qual scope s.heap.objs.size f cdv)) → sp vs H Q E →
      ∃ t, PSs (cxOf CX P w K mg base N qual scope f cdv A outer s H E) body t ∧ t { nx := fun _ H' => Q .non H', rt := Q } (start N vs) H) :
    FnA P w K mg base CX (k + 1) f (spInit1 pa d sp) := by
  intro A outer s H us kws vs zs ks Q E hr e0 r1 r2 hz ⟨x, c, rest, h, hlen, hsp⟩
  have run : ∀ {args : Args} {us rs : List Value} {wr : List V} {c : V}, (∃ g, bindArgs (PySem.W.fnOf name qual params body scope (.ref T) kV doc pm an cdv ct) args = (seqItems? (.ref T) >>= g) ∧ g (some [dv].toArray) = (newTuple rs >>= fun t => pure ([p0, pa].zip us ++ [(pv, t)]))) →
      Vals [x, c] us → Vals wr rs → wr.length ≤ sizeLine → (∀ p, H p = Option.none → sp [x, c, V.ref p] (upd H p (.tup wr)) Q E) → codeAny (model P w) A (.call (.ref f) args) (CR CX outer P w H s Q E) s := fun hb a b e g =>
    run_dstar (ps := [p0, pa]) lk lT hT hcd S hCX hb hr e0 a rfl b e g hbody
  have nokw : ∀ {l : List (Str × V)}, ks.zip zs = l → l = [] → ks.zip kws = [] := fun e e' => by
    subst e'
    have := congrArg List.length e
    rw [List.length_zip, hz, Nat.min_self] at this
    rw [List.length_eq_zero_iff.mp this]
    rfl
  rcases h with ⟨e, ek⟩ | ⟨e, ek, ec, er⟩ | ⟨e, ek, er⟩
  · subst e
    rw [nokw ek rfl]
    cases r1 with
    | cons ra r1 =>
      cases r1 with
      | cons rc r1 =>
        cases r1 with
        | nil => exact run (h2 _ _) (.cons ra (.cons rc .nil)) .nil hlen hsp
        | cons rr rs => exact run (h3 _ _ _ _) (.cons ra (.cons rc .nil)) (.cons rr rs) hlen hsp
  · subst e ec er
    rw [nokw ek rfl]
    cases r1 with
    | cons ra r1 =>
      cases r1
      exact run (h1 _) (.cons ra (.cons rd .nil)) .nil hlen hsp
  · subst e er
    cases r1 with
    | cons ra r1 =>
      cases r1
      cases ks with
      | nil => cases ek
      | cons k0 ks =>
        cases zs with
        | nil => cases ek
        | cons z0 zs =>
          cases r2 with
          | cons rz r2 =>
            have e1 : (k0, z0) = (pa, c) ∧ ks.zip zs = [] := List.cons.inj ek
            obtain ⟨rfl, rfl⟩ := Prod.mk.inj e1.1
            have e2 : ks = [] := by
              have h0 : zs.length = ks.length := Nat.succ.inj hz
              have := congrArg List.length e1.2
              rw [List.length_zip, h0, Nat.min_self] at this
              exact List.length_eq_zero_iff.mp this
            subst e2
            obtain rfl := List.length_eq_zero_iff.mp (show zs.length = 0 from Nat.succ.inj hz)
            cases r2
            exact run (hk _ _) (.cons ra (.cons rz .nil)) .nil hlen hsp
end

/-! ### making an instance -/
def tMakeA (C : Addr) (sp : SpA) (E : XK) (ks : List Str) (t tk : TA) : TE := fun σ H Q => t σ H fun vs H1 => tk σ H1 fun zs H2 => zs.length = ks.length ∧ ∀ x dx, H2 x = Option.none → H2 dx = Option.none → dx ≠ x →
  sp (V.ref x :: vs) (ks.zip zs) (upd (upd H2 dx (.own x)) x (.ins C dx [])) (fun v H3 => v = .non ∧ Q (.ref x) H3) E
section
variable {X : Cx} {CX : CXT} {k i : Nat} {f C : Addr} {sp : SpA} {E : XK} {x : Str} {e fe : Expr} {es : List Expr} {te tf : TE} {t tk : TA} {p pos : Pos} {ks : List Str} {kws : List Keyword}
theorem run_makeA {pins : List (Addr × Obj)} {σ : L2.St} {H : Hp} {s : Shared} {Q : VK} {us ws : List Value} {vs zs : List V} (M : Mk X.K C f) (F : FnA X.prog X.w X.K X.mg X.base CX k f sp) (hr : Room (k + 1) X.A) (hx : Passes CX X E) (I : Inv X pins σ H s) (r : Vals vs us) (rz : Vals zs ws) (hl : zs.length = ks.length)
    (h : ∀ x dx, H x = Option.none → H dx = Option.none → dx ≠ x → sp (V.ref x :: vs) (ks.zip zs) (upd (upd H dx (.own x)) x (.ins C dx [])) (fun v H2 => v = .non ∧ Q (.ref x) H2) E) :
    wpAny (model X.prog X.w) X.A (call (.ref C) us (ks.zip ws)) (EP X pins σ Q) X.xe s := by
  have hq := h (s.heap.objs.size + 1) s.heap.objs.size (I.hok.fresh (Nat.le_succ _)) (I.hok.fresh (Nat.le_refl _)) (Nat.ne_of_lt (Nat.lt_succ_self _))
  have I2 := Inv.made (C := C) I
  have r2 : Vals (V.ref (s.heap.objs.size + 1) :: vs) (Value.ref (s.heap.objs.size + 1) :: us) := .cons rfl r
  refine wpAny_call (make_map (f := f) I.kIn M.makes M.init (beq_iff_eq.mp M.fn) (codeAny_mono (F _ X.stack _ _ (Value.ref (s.heap.objs.size + 1) :: us) ws _ zs ks _ E (hr.make C us (ks.zip ws)) (I2.env0.make C us (ks.zip ws)) r2 rz hl hq) fun r s' hq' => ?_))
  cases r with
  | error e => exact hx pins σ _ _ e s' I2 hq'
  | ok fl =>
    cases fl with
    | ret u =>
      obtain ⟨v, H', I3, rv, ev, q3⟩ := I2.after hq'
      subst ev
      exact ⟨rv, ⟨V.ref (s.heap.objs.size + 1), H', I3, rfl, q3⟩⟩
    | next => exact False.elim hq'
    | brk => exact False.elim hq'
    | cont => exact False.elim hq'
def tkNil : TA := fun _ H Q => Q [] H
/-- C(e, ..), C a class of the module -/
theorem pe_makeA (M : Mk X.K C f) (F : FnA X.prog X.w X.K X.mg X.base CX k f sp) (hr : Room (k + 1) X.A) (hg : Gl X x) (hm : X.mg x = some (.ref C)) (hx : Passes CX X E) (ha : PA X (e :: es) t) (hdb : (x == ("__debug__" : Str)) = false := by decide)
    (he : starEach (e :: es) X.env = (false, eval e X.env) :: starEach es X.env := by rfl) (hpl : (backTo pos (starEach es X.env)).any (·.1) = false := by rfl) : PE X (.Call (.Name x p) (e :: es) [] pos) (tMakeA C sp E [] t tkNil) := by
  refine ⟨fun pins s σ H Q I h => ?_⟩
  refine wpAny_Call_Name_kw (ld_glob I hg hm ?_ hdb)
  refine PySem.W.callWith_K (h₀ := X.base) I.ok.mod.kin M.kp (thn (ha.run pos pins s σ H _ I h) fun us s1 ⟨vs, H1, I1, r, q⟩ => ⟨I1.kIn, ?_⟩) he hpl
  exact run_makeA (ks := []) (zs := []) (ws := []) M F hr hx I1 r .nil rfl q.2
/-- C() -/
theorem pe_makeA0 (M : Mk X.K C f) (F : FnA X.prog X.w X.K X.mg X.base CX k f sp) (hr : Room (k + 1) X.A) (hg : Gl X x) (hm : X.mg x = some (.ref C)) (hx : Passes CX X E) (hdb : (x == ("__debug__" : Str)) = false := by decide) :
    PE X (.Call (.Name x p) [] [] pos) (tMakeA C sp E [] tNil tkNil) := by
  refine ⟨fun pins s σ H Q I h => ?_⟩
  refine wpAny_Call_Name_kw (ld_glob I hg hm ?_ hdb)
  exact PySem.W.callWith_K0 (first := []) I.kIn M.kp (run_makeA (ks := []) (us := []) (vs := []) (zs := []) (ws := []) M F hr hx I .nil .nil rfl h.2)
/-- C(k = v, ..) -/
theorem pe_makeAK (M : Mk X.K C f) (F : FnA X.prog X.w X.K X.mg X.base CX k f sp) (hr : Room (k + 1) X.A) (hg : Gl X x) (hm : X.mg x = some (.ref C)) (hx : Passes CX X E) (hkw : PK X kws tk) (hall : (backToKw pos (keywordEach kws X.env)).all (·.1.isSome) = true := by rfl)
    (hks : (backToKw pos (keywordEach kws X.env)).filterMap (·.1) = ks := by rfl) (hdb : (x == ("__debug__" : Str)) = false := by decide)
    (hpl : ((backTo pos (starEach [] X.env)).any (·.1) || (backToKw pos (keywordEach kws X.env)).any (·.1.isNone)) = false := by rfl) : PE X (.Call (.Name x p) [] kws pos) (tMakeA C sp E ks tNil tk) := by
  refine ⟨fun pins s σ H Q I h => ?_⟩
  refine wpAny_Call_Name_kw (ld_glob I hg hm ?_ hdb)
  refine PySem.W.callWith_KW0 (first := []) (h₀ := X.base) I.ok.mod.kin M.kp hall ?_ hpl
  refine thn (hkw.run pos pins s σ H _ I h) fun ws s2 ⟨zs, H2, I2, rz, hl, q⟩ => ⟨I2.kIn, ?_⟩
  rw [hks]
  exact run_makeA (us := []) (vs := []) M F hr hx I2 .nil rz hl q
/-- c(e, ..), c a local that holds the class -/
def tMakeL (i : Nat) (C : Addr) (sp : SpA) (E : XK) (t : TA) : TE := fun σ H Q => σ[i]? = some (some (.ref C)) ∧ tMakeA C sp E [] t tkNil σ H Q
theorem pe_makeL (M : Mk X.K C f) (F : FnA X.prog X.w X.K X.mg X.base CX k f sp) (hr : Room (k + 1) X.A) (hN : X.N[i]? = some x) (hv : Vis X.env.scope x) (hx : Passes CX X E) (ha : PA X (e :: es) t)
    (hdb : (x == ("__debug__" : Str)) = false := by decide) (hcd : (x == ("__classdict__" : Str)) = false := by decide)
    (he : starEach (e :: es) X.env = (false, eval e X.env) :: starEach es X.env := by rfl) (hpl : (backTo pos (starEach es X.env)).any (·.1) = false := by rfl) : PE X (.Call (.Name x p) (e :: es) [] pos) (tMakeL i C sp E t) := by
  refine ⟨fun pins s σ H Q I h => ?_⟩
  obtain ⟨hs, ht⟩ := h
  refine wpAny_Call_Name_kw (thn ((pe_var (pos := p) hN hv hdb hcd).run pins s σ H (fun v H1 => v = .ref C ∧ H1 = H) I ⟨.ref C, hs, rfl, rfl⟩) fun u s1 ⟨v, H1, I1, r1, q1⟩ => ?_)
  obtain ⟨rfl, rfl⟩ := q1
  cases r1
  refine PySem.W.callWith_K (h₀ := X.base) I.ok.mod.kin M.kp (thn (ha.run pos pins s1 σ _ _ I1 ht) fun us s2 ⟨vs, H2, I2, r, q⟩ => ⟨I2.kIn, ?_⟩) he hpl
  exact run_makeA (ks := []) (zs := []) (ws := []) M F hr hx I2 r .nil rfl q.2
/-- c(e, .., *ys), c a local that holds the class -/
theorem pe_makeLS (M : Mk X.K C f) (F : FnA X.prog X.w X.K X.mg X.base CX k f sp) (hr : Room (k + 1) X.A) (hN : X.N[i]? = some x) (hv : Vis X.env.scope x) (hx : Passes CX X E) (ha : PA X (e :: es) t)
    (hdb : (x == ("__debug__" : Str)) = false := by decide) (hcd : (x == ("__classdict__" : Str)) = false := by decide)
    (he : starEach (e :: es) X.env = (false, eval e X.env) :: starEach es X.env := by rfl) (hst : (backTo pos (starEach es X.env)).any (·.1) = true := by rfl) : PE X (.Call (.Name x p) (e :: es) [] pos) (tMakeL i C sp E t) := by
  refine ⟨fun pins s σ H Q I h => ?_⟩
  obtain ⟨hs, ht⟩ := h
  refine wpAny_Call_Name_kw (thn ((pe_var (pos := p) hN hv hdb hcd).run pins s σ H (fun v H1 => v = .ref C ∧ H1 = H) I ⟨.ref C, hs, rfl, rfl⟩) fun u s1 ⟨v, H1, I1, r1, q1⟩ => ?_)
  obtain ⟨rfl, rfl⟩ := q1
  cases r1
  refine PySem.W.callWith_S2 (h₀ := X.base) I.ok.mod.kin M.kp (thn (ha.run pos pins s1 σ _ _ I1 ht) fun us s2 ⟨vs, H2, I2, r, q⟩ => ⟨I2.kIn, ?_⟩) he hst
  exact run_makeA (ks := []) (zs := []) (ws := []) M F hr hx I2 r .nil rfl q.2
/-! ### classmethods by keywords -/
def tCMethK (C : Addr) (sp : SpA) (E : XK) (ks : List Str) (ta : TE) (tk : TA) : TE := fun σ H Q => ta σ H fun x H1 => x = .ref C ∧ tk σ H1 fun zs H2 => zs.length = ks.length ∧ sp [.ref C] (ks.zip zs) H2 Q E
theorem run_cmK {pins : List (Addr × Obj)} {σ : L2.St} {H : Hp} {s : Shared} {Q : VK} {ws : List Value} {zs : List V} {q g : Addr} (F : FnA X.prog X.w X.K X.mg X.base CX k g sp) (hr : Room k X.A) (hx : Passes CX X E) (I : Inv X ((q, PySem.W.methodObj (.ref g) (.ref C)) :: pins) σ H s)
    (rz : Vals zs ws) (hl : zs.length = ks.length) (h : sp [.ref C] (ks.zip zs) H Q E) : wpAny (model X.prog X.w) X.A (call (.ref q) [] (ks.zip ws)) (EP X pins σ Q) X.xe s := by
  have z : wpAny (model X.prog X.w) X.A (call (.ref q) [] (ks.zip ws)) (EP X ((q, PySem.W.methodObj (.ref g) (.ref C)) :: pins) σ Q) X.xe s := by
    refine wpAny_call (PySem.W.method_call (pin_at I) (codeAny_mono (F _ X.stack _ _ [Value.ref C] ws [V.ref C] zs ks Q E hr I.env0 (.cons rfl .nil) rz hl h) fun r s' hq' => ?_))
    cases r with
    | error e => exact hx _ σ _ _ e s' I hq'
    | ok fl =>
      cases fl with
      | ret u =>
        obtain ⟨v, H', I3, rv, q3⟩ := I.after hq'
        exact ⟨v, H', I3, rv, q3⟩
      | next => exact False.elim hq'
      | brk => exact False.elim hq'
      | cont => exact False.elim hq'
  exact thn z fun _ _ y => unpinE y
theorem pe_cmethK {o : Expr} {m : Str} {apos : Pos} {pl : Sem Bool} {g p' : Addr} {mc : Value} {ta : TE} (he : PE X o ta) (r : CRead X.K C mc) (c : CMet X.K C mc m p' g) (F : FnA X.prog X.w X.K X.mg X.base CX k g sp) (hr : Room k X.A) (hx : Passes CX X E) (hkw : PK X kws tk)
    (hall : (backToKw pos (keywordEach kws X.env)).all (·.1.isSome) = true := by rfl) (hks : (backToKw pos (keywordEach kws X.env)).filterMap (·.1) = ks := by rfl)
    (hpl : ((backTo pos (starEach [] X.env)).any (·.1) || (backToKw pos (keywordEach kws X.env)).any (·.1.isNone)) = false := by rfl)
    (ht : eval (.Call (.Attribute o m apos) [] kws pos) X.env = (do
      let ov ← eval o X.env
      standAt apos.atName
      let (f, first) ← holding [ov] (getMethod ov m pl)
      callWith pos f first (backTo pos (starEach [] X.env)) (backToKw pos (keywordEach kws X.env))) := by rfl) :
    PE X (.Call (.Attribute o m apos) [] kws pos) (tCMethK C sp E ks ta tk) := by
  refine ⟨fun pins s σ H Q I h => ?_⟩
  refine PySem.W.methodCall_KW (pl := pl) (thn (he.run pins s σ H _ I h) fun u s1 ⟨x, H1, I1, rx, ex, q⟩ => ?_) ht
  subst ex
  obtain rfl : u = Value.ref C := rx
  refine getmethcm_ok I1 r c fun s2 I2 => ?_
  refine PySem.W.callWith_of hpl (PySem.W.keeps_M c.fi) (evalArgs_kw2_nil hall (thn (hkw.run pos _ s2 σ H1 _ I2 q) fun ws s3 ⟨zs, H2, I3, rz, hl, q2⟩ => ⟨⟨pin_at I3, I3.kIn⟩, ?_⟩))
  rw [hks]
  exact run_cmK F hr hx I3 rz hl q2
end
end Gd

set_option maxHeartbeats 4000000
/-! x == y, x != y, y in x, y not in x, x[y] where x is an instance of a class with its own __eq__, __contains__, __getitem__. -/
namespace Gd
open PySem PySem.Spec PyProof.Rows L2

theorem slot_one : Slot "object" "__ne__" "object.__ne__" :=
  .of (owner := "object") (n := "__ne__") (by rw [typeLookup_type, builtinLookup_eq_fast]; kernel_rfl) (by decide +kernel) (by decide +kernel) (by decide +kernel) (.inl (by decide +kernel)) (by rw [isSubtype_type]; kernel_rfl)
section
variable {prog : Program} {w : World} {A : Around} {E : Value → Shared → Prop} {s : Shared} {K : PySem.W.Frag} {x C L f : Addr} {h₀ : Heap} {m : Str → Option Value} {ox : Obj} {od : Option Obj} {b tb : Value}
/-- x != b by the own __eq__ -/
theorem ne_K {Q : Value → Shared → Prop} (hu : A.units + 1 < cLine) (F : Fr h₀ L s.heap m) (X₀ : K.In h₀) (I : PySem.W.InstAt s.heap x ox C od) (hb : PySem.W.Looks (model prog w) s.heap (typeOf b) tb) (hn : PySem.W.notFirst K C tb = true)
    (hne : PySem.W.findIn K (.ref C) "__ne__" = some (some (.builtin "object.__ne__"))) (ho : PySem.W.subIn K (.ref C) (.type "object") = some true)
    (hs : PySem.W.findIn K (.ref C) "__eq__" = some (some (.ref f))) (hf : PySem.W.isFn K (.ref f) = true)
    (h : wpAny (model prog w) A.in1 (call (.ref f) [.ref x, b]) (fun v s' => ∃ r, v = .bool r ∧ Q (.bool (!r)) s') E s) : wpAny (model prog w) A (richCompare .NotEq (.ref x) b) Q E s := by
  have X := X₀.keeps F.keep
  have one : wpAny (model prog w) A (tryCompare (.ref x) "__ne__" b) (fun r s' => ∃ v, r = some v ∧ Q v s') E s := by
    unfold tryCompare
    simp only [callSpecialIfBound?, bindSpecialIfBound?]
    refine wpAny_bind (wpAny_holding (wpAny_bind (wpAny_bind (wpAny_bind (I.type.here ((PySem.W.looks_findIn X hne).here ?_))))))
    refine wpAny_bind (wpAny_askSetting (wpAny_ite ?_))
    have hi : PySem.W.Looks (model prog w) s.heap (isInstance (.ref x) (.type "object")) true := I.type.andThen (PySem.W.looks_subIn X ho)
    have run : wpAny (model prog w) A (call (.builtin "object.__ne__") ([.ref x] ++ [b])) (fun v s' => ∃ r, v = .bool (!r) ∧ Q (.bool (!r)) s') E s := by
      refine wpAny_call (codeAny_call_builtin slot_one.plain PySem.F.cmpEntry_ne (PySem.W.check_slot PySem.F.cmpKind_ne PySem.F.cmpSplit_ne hi (PySem.F.cmpArgs_ne _ _) ?_))
      unfold Builtin.«object.__ne__»
      refine wpAny_bind (show wpAny (model prog w) A.in1 (pure (Value.ref x, [b])) _ _ s from wpAny_pure ?_)
      refine wpAny_bind (wpAny_cRoomFor (A := A.in1) (by show A.in1.units < cLine; exact hu) ?_)
      refine wpAny_bind (PySem.W.ifBound_K X I hs hf (wpAny_mono h (fun v s' hv => ?_) fun _ _ e => e))
      obtain ⟨r, rfl, q⟩ := hv
      exact wpAny_bind (wpAny_pure (wpAny_pure ⟨r, rfl, q⟩))
    have fin : wpAny (model prog w) A (call (.builtin "object.__ne__") ([.ref x] ++ [b]) >>= fun v => pure (some v)) (fun r s' => wpAny (model prog w) A (match r with | some .notImplemented | none => pure none | some v => pure (some v)) (fun r s' => ∃ v, r = some v ∧ Q v s') E s') E s :=
      wpAny_bind (wpAny_mono run (fun v s' h' => by
        obtain ⟨r, rfl, q⟩ := h'
        exact wpAny_pure (wpAny_pure ⟨_, rfl, q⟩)) fun _ _ h' => h')
    split
    · rw [slot_one.bind]
      exact wpAny_bind (wpAny_pure (wpAny_pure fin))
    · rw [slot_one.bind]
      exact wpAny_tryCatch (wpAny_bind (wpAny_pure (wpAny_pure fin)))
  unfold richCompare
  simp only [oneThing_ref]
  refine wpAny_holding (wpAny_bind (wpAny_cRoomFor (Nat.lt_of_succ_lt hu) ?_))
  refine wpAny_bind (I.type.here (wpAny_bind (hb.here ?_)))
  split
  · rename_i q
    have e : PySem.W.subIn K tb (.ref C) = some false := by
      rcases Bool.or_eq_true_iff.mp hn with e | e
      · rw [beq_iff_eq.mp e] at q; simp at q
      · exact beq_iff_eq.mp e
    refine wpAny_bind ((PySem.W.looks_subIn X e).here ?_)
    simp only [Bool.false_eq_true, if_false]
    refine wpAny_bind (wpAny_mono one (fun r s' z => ?_) fun _ _ e => e)
    obtain ⟨v, rfl, hq⟩ := z
    exact wpAny_pure hq
  · refine wpAny_bind (wpAny_pure ?_)
    simp only [Bool.false_eq_true, if_false]
    refine wpAny_bind (wpAny_mono one (fun r s' z => ?_) fun _ _ e => e)
    obtain ⟨v, rfl, hq⟩ := z
    exact wpAny_pure hq
end

/-! ### the types of values -/
def TyB (K : PySem.W.Frag) (y : V) (H : Hp) (tb : Value) : Prop :=
  (∃ i, y = .int i ∧ tb = .type "int") ∨ (∃ z, y = .str z ∧ tb = .type "str") ∨ (y = .non ∧ tb = .type "NoneType") ∨ (∃ c, y = .bl c ∧ tb = .type "bool") ∨ (∃ p xs, y = .ref p ∧ SqT K H p xs ∧ tb = .type "tuple") ∨ (∃ p xs, y = .ref p ∧ SqL K H p xs ∧ tb = .type "list") ∨
  (∃ p kvs, y = .ref p ∧ H p = some (.dK kvs) ∧ tb = .type "dict") ∨ (∃ p D dx fs, y = .ref p ∧ H p = some (.ins D dx fs) ∧ tb = .ref D)
section
variable {X : Cx} {pins : List (Addr × Obj)} {σ : L2.St} {H : Hp} {s : Shared}
theorem looks_ref {M : Model} {h : Heap} {p : Addr} {o : Obj} {tb : Value} (e : h.get? p = some o) (c : o.cls = tb) : PySem.W.Looks M h (typeOf (.ref p)) tb := c ▸ (PySem.W.Looks.ld e).andThen .now
theorem tyB_looks {M : Model} {y : V} {u tb : Value} (I : Inv X pins σ H s) (r : RelV y u) (t : TyB X.K y H tb) : PySem.W.Looks M s.heap (typeOf u) tb := by
  rcases t with ⟨i, rfl, rfl⟩ | ⟨z, rfl, rfl⟩ | ⟨rfl, rfl⟩ | ⟨c, rfl, rfl⟩ | ⟨p, xs, rfl, h, rfl⟩ | ⟨p, xs, rfl, h, rfl⟩ | ⟨p, kvs, rfl, h, rfl⟩ | ⟨p, D, dx, fs, rfl, h, rfl⟩
  · obtain ⟨t, rfl⟩ := r
    exact PySem.W.Looks.of_pure rfl
  · obtain ⟨t, rfl⟩ := r
    exact PySem.W.Looks.of_pure rfl
  · cases r
    exact PySem.W.Looks.of_pure rfl
  · cases r
    exact PySem.W.Looks.of_pure rfl
  · cases r
    obtain ⟨its, _, ⟨o, ho, hc, _⟩, _⟩ := I.tuple h
    exact looks_ref ho hc
  · cases r
    obtain ⟨its, _, pl, _⟩ := I.list h
    obtain ⟨o, ho, hc, _⟩ := pl.isList
    exact looks_ref ho hc
  · cases r
    obtain ⟨_, _, vs, _, ob, _, _, h1, h2, _⟩ := dk_rd I.hok (.inl h)
    exact looks_ref h1 h2.1
  · cases r
    obtain ⟨mA, J, _⟩ := ins_get I.hok h
    obtain ⟨od, J, _⟩ := J.look
    exact J.type

/-! ### an own def run within a built-in one -/
variable {CX : CXT} {k : Nat} {C f a dx : Addr} {fd : FuncData} {ps : List Str} {sp : Sp} {E : XK} {fs : List (Str × V)}
theorem run_sub {A : Around} {Q : VK} {us : List Value} {vs : List V} (sb : Sub X k A) (F : FnOk X.prog X.w X.K X.mg X.base CX k f fd ps sp) (hb : Binds X.K fd ps []) (hx : Passes CX X E) (I : Inv X pins σ H s) (r : Vals vs us) (h : sp vs H Q E) :
    wpAny (model X.prog X.w) A (call (.ref f) us) (EP X pins σ Q) X.xe s := by
  have e0 : Env0 X.prog X.w X.K X.mg X.base A X.stack s H := by
    have e := I.env0
    exact ⟨by rw [sb.fr]; exact e.frames, e.mod, e.bs, e.bsz, e.funs, e.frf, e.hok, e.bare⟩
  have hl := F.len _ _ _ _ h
  refine wpAny_call (codeAny_mono (F.run A X.stack s H ⟨us, []⟩ us vs _ E sb.room e0 (by
    have := hb s us I.kIn (by rw [List.append_nil, ← hl]; exact r.length.symm)
    simpa using this) r h) fun r s' hq => ?_)
  cases r with
  | error e => exact hx pins σ H s e s' I hq
  | ok fl =>
    cases fl with
    | ret w =>
      obtain ⟨z, H', I', rz, q⟩ := I.after hq
      exact ⟨z, H', I', rz, q⟩
    | next => exact False.elim hq
    | brk => exact False.elim hq
    | cont => exact False.elim hq
end

/-! ### x == y, x != y -/
/-- facts of a class with an own __eq__ -/
structure EqC (K : PySem.W.Frag) (C f : Addr) (Ts : List Value) : Prop where
  eq : PySem.W.findIn K (.ref C) "__eq__" = some (some (.ref f))
  fn : PySem.W.isFn K (.ref f) = true
  ne : PySem.W.findIn K (.ref C) "__ne__" = some (some (.builtin "object.__ne__"))
  ob : PySem.W.subIn K (.ref C) (.type "object") = some true
  nf : ∀ tb ∈ Ts, PySem.W.notFirst K C tb = true
def rEqO (K : PySem.W.Frag) (C : Addr) (Ts : List Value) (sp : Sp) (E : XK) (g : Bool → Bool) : V → V → Hp → VK → Prop := fun x y H Q => ∃ a dx fs tb, x = .ref a ∧ H a = some (.ins C dx fs) ∧ tb ∈ Ts ∧ TyB K y H tb ∧ sp [.ref a, y] H (fun v H1 => ∃ b, v = .bl b ∧ Q (.bl (g b)) H1) E
section
variable {X : Cx} {CX : CXT} {k : Nat} {C f : Addr} {fd : FuncData} {ps : List Str} {sp : Sp} {E : XK} {Ts : List Value}
theorem op_eqO (c : EqC X.K C f Ts) (F : FnOk X.prog X.w X.K X.mg X.base CX k f fd ps sp) (hr : Room k X.A) (hb : Binds X.K fd ps []) (hx : Passes CX X E) : OpR X (compareOp .Eq) (rEqO X.K C Ts sp E id) := by
  intro pins s σ H x y v u Q I rx ry h
  obtain ⟨a, dx, fs, tb, rfl, ha, hT, ty, q⟩ := h
  cases rx
  obtain ⟨mA, J, _⟩ := ins_get I.hok ha
  obtain ⟨od, J, _⟩ := J.look
  obtain ⟨m, hF⟩ := I.fr
  show wpAny (model X.prog X.w) X.A (richCompare .Eq (.ref a) u) (EP X pins σ Q) X.xe s
  refine PySem.W.cmp_K (op := .Eq) (tb := tb) hr.units0 hF I.ok.mod.kin J (tyB_looks I ry ty) (c.nf tb hT) c.eq c.fn ?_
  refine wpAny_mono (run_sub ⟨hr, rfl⟩ F hb hx I (.cons (show RelV (.ref a) (.ref a) from rfl) (.cons ry .nil)) q) (fun r s' z => ?_) fun _ _ e => e
  obtain ⟨v, H', I', rv, b, rfl, q⟩ := z
  cases rv
  exact ⟨.bl b, H', I', rfl, q⟩
theorem op_neO (c : EqC X.K C f Ts) (F : FnOk X.prog X.w X.K X.mg X.base CX k f fd ps sp) (hr : Room (k + 1) X.A) (hb : Binds X.K fd ps []) (hx : Passes CX X E) : OpR X (compareOp .NotEq) (rEqO X.K C Ts sp E (!·)) := by
  intro pins s σ H x y v u Q I rx ry h
  obtain ⟨a, dx, fs, tb, rfl, ha, hT, ty, q⟩ := h
  cases rx
  obtain ⟨mA, J, _⟩ := ins_get I.hok ha
  obtain ⟨od, J, _⟩ := J.look
  obtain ⟨m, hF⟩ := I.fr
  show wpAny (model X.prog X.w) X.A (richCompare .NotEq (.ref a) u) (EP X pins σ Q) X.xe s
  refine ne_K (tb := tb) (by have := hr.units; omega) hF I.ok.mod.kin J (tyB_looks I ry ty) (c.nf tb hT) c.ne c.ob c.eq c.fn ?_
  refine wpAny_mono (run_sub (Sub.in1 ⟨hr, rfl⟩) F hb hx I (.cons (show RelV (.ref a) (.ref a) from rfl) (.cons ry .nil)) q) (fun r s' z => ?_) fun _ _ e => e
  obtain ⟨v, H', I', rv, b, rfl, q⟩ := z
  cases rv
  exact ⟨b, rfl, .bl (!b), H', I', rfl, q⟩

/-! ### y in x, x[y] -/
def rInO (C : Addr) (sp : Sp) (E : XK) (g : Bool → Bool) : V → V → Hp → VK → Prop := fun y x H Q => ∃ a dx fs, x = .ref a ∧ H a = some (.ins C dx fs) ∧ sp [.ref a, y] H (fun v H1 => ∃ b, v = .bl b ∧ Q (.bl (g b)) H1) E
theorem op_inO (hs : PySem.W.findIn X.K (.ref C) "__contains__" = some (some (.ref f))) (hf : PySem.W.isFn X.K (.ref f) = true) (F : FnOk X.prog X.w X.K X.mg X.base CX k f fd ps sp) (hr : Room k X.A) (hb : Binds X.K fd ps []) (hx : Passes CX X E) : OpR X (compareOp .In) (rInO C sp E id) := by
  intro pins s σ H x y v u Q I rx ry h
  obtain ⟨a, dx, fs, rfl, ha, q⟩ := h
  cases ry
  obtain ⟨mA, J, _⟩ := ins_get I.hok ha
  obtain ⟨od, J, _⟩ := J.look
  obtain ⟨m, hF⟩ := I.fr
  refine PySem.W.in_K hF I.ok.mod.kin J hs hf ?_
  refine wpAny_mono (run_sub ⟨hr, rfl⟩ F hb hx I (.cons (show RelV (.ref a) (.ref a) from rfl) (.cons rx .nil)) q) (fun r s' z => ?_) fun _ _ e => e
  obtain ⟨v, H', I', rv, b, rfl, q⟩ := z
  cases rv
  exact wpAny_pure ⟨.bl b, H', I', rfl, q⟩
theorem op_notInO (hs : PySem.W.findIn X.K (.ref C) "__contains__" = some (some (.ref f))) (hf : PySem.W.isFn X.K (.ref f) = true) (F : FnOk X.prog X.w X.K X.mg X.base CX k f fd ps sp) (hr : Room k X.A) (hb : Binds X.K fd ps []) (hx : Passes CX X E) : OpR X (compareOp .NotIn) (rInO C sp E (!·)) := by
  intro pins s σ H x y v u Q I rx ry h
  obtain ⟨a, dx, fs, rfl, ha, q⟩ := h
  cases ry
  obtain ⟨mA, J, _⟩ := ins_get I.hok ha
  obtain ⟨od, J, _⟩ := J.look
  obtain ⟨m, hF⟩ := I.fr
  refine PySem.W.notIn_K hF I.ok.mod.kin J hs hf ?_
  refine wpAny_mono (run_sub ⟨hr, rfl⟩ F hb hx I (.cons (show RelV (.ref a) (.ref a) from rfl) (.cons rx .nil)) q) (fun r s' z => ?_) fun _ _ e => e
  obtain ⟨v, H', I', rv, b, rfl, q⟩ := z
  cases rv
  exact wpAny_pure ⟨.bl (!b), H', I', rfl, q⟩
def tSubO (C : Addr) (sp : Sp) (E : XK) (to ti : TE) : TE := fun σ H Q => to σ H fun x H1 => ti σ H1 fun y H2 => ∃ a dx fs, x = .ref a ∧ H2 a = some (.ins C dx fs) ∧ sp [.ref a, y] H2 Q E
theorem pe_subO {o i : Expr} {pos : Pos} {to ti : TE} (hs : PySem.W.findIn X.K (.ref C) "__getitem__" = some (some (.ref f))) (hf : PySem.W.fnIn X.K f = true) (hfn : PySem.W.isFn X.K (.ref f) = true) (F : FnOk X.prog X.w X.K X.mg X.base CX k f fd ps sp) (hr : Room (k + 1) X.A) (hb : Binds X.K fd ps []) (hx : Passes CX X E)
    (ho : PE X o to) (hi : PE X i ti) (hsl : ∀ a iv, subscripted i true (.ref a) iv = runValue (.builtin "lifetime.subscript" ⟨[.ref a, iv], []⟩) := by intro _ _; with_unfolding_all rfl) : PE X (.Subscript o i pos) (tSubO C sp E to ti) := by
  refine ⟨fun pins s σ H Q I h => ?_⟩
  refine Subscript_ (thn (ho.run pins s σ H _ I h) fun u s1 ⟨x, H1, I1, rx, q1⟩ => thn (hi.run pins s1 σ H1 _ I1 q1) fun iv s2 ⟨y, H2, I2, ry, a, dx, fs, ex, ha, q⟩ => ?_)
  subst ex
  obtain rfl : u = Value.ref a := rx
  obtain ⟨mA, J, _⟩ := ins_get I2.hok ha
  obtain ⟨od, J, _⟩ := J.look
  obtain ⟨m, hF⟩ := I2.fr
  exact PySem.W.sub_K hF I2.ok.mod.kin J hs hf hfn (run_sub (Sub.in1 ⟨hr, rfl⟩) F hb hx I2 (.cons (show RelV (.ref a) (.ref a) from rfl) (.cons ry .nil)) q) (hsl a iv)
end
end Gd

set_option maxHeartbeats 4000000
/-! The facts of a class in the written part as Bools, to be shown at once. -/
namespace Gd
open PySem PySem.Spec PyProof.Rows L2 ClX
section
variable {K : PySem.W.Frag} {C f g p : Addr}
def clsB (K : PySem.W.Frag) (C : Addr) (fs : List Str) : Bool := PySem.W.plainGet K C Str.empty && (PySem.W.hasDictIn K C && (PySem.W.plainOver K C && (decide (PySem.W.findIn K (.ref C) "__setattr__" = some (some (.builtin "object.__setattr__"))) && fs.all (fun f => decide (PySem.W.findIn K (.ref C) f = some none)))))
theorem clsB_ok {fs : List Str} (h : clsB K C fs = true) : Cls K C ∧ ∀ f ∈ fs, NoAttr K C f := by
  simp only [clsB, Bool.and_eq_true] at h
  obtain ⟨a1, a2, a3, a4, a5⟩ := h
  exact ⟨⟨a1, a2, a3, of_decide_eq_true a4⟩, fun f hf => show PySem.W.findIn K (.ref C) f = some none from of_decide_eq_true (List.all_eq_true.mp a5 f hf)⟩
def propB (K : PySem.W.Frag) (C : Addr) (f : Str) (p g : Addr) : Bool :=
  decide (PySem.W.findIn K (.ref C) f = some (some (.ref p))) && (decide (PySem.W.specialIn K (.ref p) "__get__" = some (some (.builtin "property.__get__"))) && (decide (PySem.W.takesIn K (.ref p) = some true) && decide ((PySem.W.recIn K p "property").bind List.head? = some (.ref g))))
theorem head_rec {o : Option (List Value)} {v : Value} (h : o.bind List.head? = some v) : ∃ rest, o = some (v :: rest) := by
  cases o with
  | none => cases h
  | some l =>
    cases l with
    | nil => cases h
    | cons x r =>
      cases h
      exact ⟨r, rfl⟩
theorem propB_ok {f : Str} (h : propB K C f p g = true) : PropOf K C f p g := by
  simp only [propB, Bool.and_eq_true] at h
  obtain ⟨h1, h2, h3, h4⟩ := h
  exact ⟨of_decide_eq_true h1, of_decide_eq_true h2, of_decide_eq_true h3, head_rec (of_decide_eq_true h4)⟩
def mkB (K : PySem.W.Frag) (C fI : Addr) : Bool := PySem.W.makesIn K C && (decide (PySem.W.findIn K (.ref C) "__init__" = some (some (.ref fI))) && (PySem.W.isFn K (.ref fI) && PySem.W.keepIn K (.ref C)))
theorem mkB_ok (h : mkB K C f = true) : Mk K C f := by
  simp only [mkB, Bool.and_eq_true] at h
  obtain ⟨h1, h2, h3, h4⟩ := h
  exact ⟨h1, of_decide_eq_true h2, h3, h4⟩
def methB (K : PySem.W.Frag) (C : Addr) (m : Str) (f : Addr) : Bool := decide (PySem.W.findIn K (.ref C) m = some (some (.ref f))) && (PySem.W.isFn K (.ref f) && PySem.W.keepIn K (.ref f))
theorem methB_ok {m : Str} (h : methB K C m f = true) : Meth K C m f := by
  simp only [methB, Bool.and_eq_true] at h
  obtain ⟨h1, h2, h3⟩ := h
  exact ⟨of_decide_eq_true h1, h2, h3⟩
def eqB (K : PySem.W.Frag) (C f : Addr) (Ts : List Value) : Bool := decide (PySem.W.findIn K (.ref C) "__eq__" = some (some (.ref f))) && (PySem.W.isFn K (.ref f) && (decide (PySem.W.findIn K (.ref C) "__ne__" = some (some (.builtin "object.__ne__"))) &&
  (decide (PySem.W.subIn K (.ref C) (.type "object") = some true) && Ts.all fun t => PySem.W.notFirst K C t)))
theorem eqB_ok {Ts : List Value} (h : eqB K C f Ts = true) : EqC K C f Ts := by
  simp only [eqB, Bool.and_eq_true] at h
  obtain ⟨h1, h2, h3, h4, h5⟩ := h
  exact ⟨of_decide_eq_true h1, h2, of_decide_eq_true h3, of_decide_eq_true h4, fun t ht => List.all_eq_true.mp h5 t ht⟩
/-- a class's own operator: found, a def -/
def ownB (K : PySem.W.Frag) (C : Addr) (m : Str) (f : Addr) : Bool := decide (PySem.W.findIn K (.ref C) m = some (some (.ref f))) && (PySem.W.isFn K (.ref f) && (PySem.W.fnIn K f && decide (PySem.W.typeIn K (.ref f) = some (.type "function"))))
theorem ownB_ok {m : Str} (h : ownB K C m f = true) : PySem.W.findIn K (.ref C) m = some (some (.ref f)) ∧ PySem.W.isFn K (.ref f) = true ∧ PySem.W.fnIn K f = true ∧ PySem.W.typeIn K (.ref f) = some (.type "function") := by
  simp only [ownB, Bool.and_eq_true] at h
  obtain ⟨h1, h2, h3, h4⟩ := h
  exact ⟨of_decide_eq_true h1, h2, h3, of_decide_eq_true h4⟩
/-- isinstance of its instances -/
def kitB' (K : PySem.W.Frag) (C : Addr) : Bool := decide (PySem.W.findIn K (.ref C) "__class__" = some (some (.builtin "object.__class__"))) && (decide (PySem.W.mroIn K C (.type "object") = some true) && (decide (PySem.W.specialIn K (.builtin "object.__class__") "__get__" = some (some (.builtin "getset_descriptor.__get__"))) && decide (PySem.W.takesIn K (.builtin "object.__class__") = some true)))
theorem kitB'_ok (h : kitB' K C = true) : PySem.W.findIn K (.ref C) "__class__" = some (some (.builtin "object.__class__")) ∧ PySem.W.mroIn K C (.type "object") = some true ∧ PySem.W.specialIn K (.builtin "object.__class__") "__get__" = some (some (.builtin "getset_descriptor.__get__")) ∧ PySem.W.takesIn K (.builtin "object.__class__") = some true := by
  simp only [kitB', Bool.and_eq_true] at h
  obtain ⟨h1, h2, h3, h4⟩ := h
  exact ⟨of_decide_eq_true h1, of_decide_eq_true h2, of_decide_eq_true h3, of_decide_eq_true h4⟩
def kitsB (K : PySem.W.Frag) (qs : List (Value × Value × Bool)) : Bool := qs.all fun q => decide (PySem.W.kitOne K q.1 q.2.1 = some q.2.2)
theorem kitsB_ok {qs : List (Value × Value × Bool)} (h : kitsB K qs = true) {a b : Value} {c : Bool} (hq : (a, b, c) ∈ qs) : PySem.W.kitOne K a b = some c := of_decide_eq_true (List.all_eq_true.mp h _ hq)
def readB (K : PySem.W.Frag) (C : Addr) : Bool := PySem.W.readsIn K C (.type "type") && decide (PySem.W.specialIn K (.ref C) "__getattribute__" = some (some (.builtin "type.__getattribute__")))
theorem readB_ok (h : readB K C = true) : CRead K C (.type "type") := by
  simp only [readB, Bool.and_eq_true] at h
  exact ⟨h.1, of_decide_eq_true h.2⟩
def cmB (K : PySem.W.Frag) (C : Addr) (m : Str) (p g : Addr) : Bool :=
  (match PySem.W.findCls K (.ref C) (.type "type") m with
  | some (.get (.builtin b) (.ref p') .none (.ref C')) => decide (b = "classmethod.__get__") && (decide (p' = p) && decide (C' = C))
  | _ => false) && (decide ((PySem.W.recIn K p "classmethod").bind List.head? = some (.ref g)) && PySem.W.fnIn K g)
theorem cmB_ok {m : Str} (h : cmB K C m p g = true) : CMet K C (.type "type") m p g := by
  simp only [cmB, Bool.and_eq_true] at h
  obtain ⟨h1, h2, h3⟩ := h
  refine ⟨?_, head_rec (of_decide_eq_true h2), h3⟩
  split at h1
  · rename_i b p' C' e
    simp only [Bool.and_eq_true, decide_eq_true_eq] at h1
    obtain ⟨rfl, rfl, rfl⟩ := h1
    exact e
  · cases h1
end
end Gd

set_option maxHeartbeats 4000000
/-! The hand layer where it is known that no repr is under way: promises GOk beside FnOk, calls of them, the end of a law. -/
namespace Gd
open PySem PySem.Spec PyProof.Rows L2

/-- no loop of a repr is under way -/
def Calm (A : Around) : Prop := A.guards = some []
theorem calm_deeper {A : Around} {env : Env} (h : Calm A) : Calm (A.deeper env) := by
  first
  | exact h
  | (unfold Calm at *; simp [Around.deeper, h])

structure GOk (pr : Program) (wo : World) (K : PySem.W.Frag) (mg : Str → Option Value) (base : Heap) (CX : CXT) (k : Nat) (f : Addr) (fd : FuncData) (ps : List Str) (sp : Sp) : Prop where
  many : ∀ vs H Q E, sp vs H Q E → vs.length = ps.length
  goes : ∀ (A : Around) (out : List Env) (s : Shared) (H : Hp) (args : Args) (us : List Value) (vs : List V) (Q : VK) (E : XK),
    Calm A → Room k A → Env0 pr wo K mg base A out s H → BindsTo s fd args (ps.zip us) → Vals vs us → sp vs H Q E →
      codeAny (model pr wo) A (.call (.ref f) args) (CR CX out pr wo H s Q E) s

section
variable {pr : Program} {wo : World} {K : PySem.W.Frag} {mg : Str → Option Value} {base : Heap} {CX : CXT}
theorem GOk.of {k : Nat} {f : Addr} {fd : FuncData} {ps : List Str} {sp : Sp} (F : FnOk pr wo K mg base CX k f fd ps sp) : GOk pr wo K mg base CX k f fd ps sp :=
  ⟨F.len, fun A out s H args us vs Q E _ => F.run A out s H args us vs Q E⟩

/-- a def's body keeps its promise, no repr being under way -/
theorem ok_of {x qual : Str} {st : Stmt} {f : Addr} {fd : FuncData} {N ps : List Str} {k : Nat} {sp : Sp} (F : Fun K x qual st f fd) (S : FnScope N ps (defScope st)) (len : ∀ vs H Q E, sp vs H Q E → vs.length = ps.length)
    (body : ∀ (cdv : Value) (A : Around) (out : List Env) (s : Shared) (H : Hp) (vs : List V) (Q : VK) (E : XK),
      Calm (A.deeper (envOfC qual (defScope st) s.heap.objs.size f cdv)) → Room k (A.deeper (envOfC qual (defScope st) s.heap.objs.size f cdv)) → sp vs H Q E →
        ∃ t, PSs (cxOf CX pr wo K mg base N qual (defScope st) f cdv A out s H E) (defBody st) t ∧
          t { nx := fun _ H' => Q .non H', rt := Q } (start N vs) H) : GOk pr wo K mg base CX (k + 1) f fd ps sp := by
  obtain ⟨oc, od, kV, doc, pm, an, cdv, ct, osl, rfl, lk, hcd⟩ := F.ex
  constructor
  · exact len
  intro A out s H args us vs Q E ca hr e0 hb r hs
  have KX : K.In s.heap := e0.mod.kin.keeps (fun b o e => (e0.bs b o e).left)
  have lim : s.heap.NoLimit := e0.mod.nolimit.keeps (fun b o e => (e0.bs b o e).left)
  refine codeAny_call_function hr.depth (KX _ _ lk) rfl S.co S.gen rfl (PySem.W.codeRec_of KX hcd) (hb _ _ _ _ ?_)
  have kinds : ∀ y ∈ ps.zip us, (defScope st).names.lookup y.1 = some .local ∨
      ((defScope st).names.lookup y.1 = some .cell ∧ ((cellsFrom (s.heap.objs.size + 1) (defScope st).names []).lookup y.1).isSome = true) := by
    rintro ⟨n, v⟩ hy
    cases S.par n (List.of_mem_zip hy).1 with
    | inl q => exact Or.inl q
    | inr q => exact Or.inr ⟨q, PySem.W.cellsFrom_some _ _ _ (Or.inl q)⟩
  refine wpAny_newFunctionEnv_cells S.kind kinds (fun env he s1 xx => ?_)
  cases he
  refine ⟨lim.keeps xx.toInCall.keep, codeAny_func ?_⟩
  obtain ⟨t, ht, hq⟩ := body cdv A out s H vs Q E (calm_deeper ca) (hr.deeper _) hs
  have I := inv_start (CX := CX) (E := E) S hr.hd e0 (len _ _ _ _ hs) r xx
  refine wpAny_mono (ht.run [] s1 (start N vs) H _ I hq) ?_ (fun e s' he => he)
  intro fl s' hfl
  have fin : ∀ {σ2 : L2.St} {H2 : Hp} {v : V} {u : Value}, Inv (cxOf CX pr wo K mg base N qual (defScope st) f cdv A out s H E) [] σ2 H2 s' → RelV v u → Q v H2 → CE out pr wo H s Q u s' := by
    intro σ2 H2 v u J rv q
    exact ⟨v, H2, J.os, J.bare, J.base, J.hok, rv, q⟩
  match fl, hfl with
  | .ret u, ⟨v, σ2, H2, J, rv, q⟩ => exact fin J rv q
  | .next, ⟨σ2, H2, J, q⟩ => exact fin (v := .non) (u := .none) J rfl q
  | .brk, ⟨_, _, _, q⟩ => exact q.elim
  | .cont, ⟨_, _, _, q⟩ => exact q.elim
/-- the same where nothing that is raised leaves the def -/
theorem ok_of0 {x qual : Str} {st : Stmt} {f : Addr} {fd : FuncData} {N ps : List Str} {k : Nat} {sp : Sp} (F : Fun K x qual st f fd) (S : FnScope N ps (defScope st)) (len : ∀ vs H Q E, sp vs H Q E → vs.length = ps.length)
    (body : ∀ (cdv : Value) (A : Around) (out : List Env) (s : Shared) (H : Hp) (vs : List V) (Q : VK) (E : XK),
      Calm (A.deeper (envOfC qual (defScope st) s.heap.objs.size f cdv)) → Room k (A.deeper (envOfC qual (defScope st) s.heap.objs.size f cdv)) → sp vs H Q E →
        ∃ t, PSs (cxOf CX0 pr wo K mg base N qual (defScope st) f cdv A out s H E).nox (defBody st) t ∧
          t { nx := fun _ H' => Q .non H', rt := Q } (start N vs) H) : GOk pr wo K mg base CX0 (k + 1) f fd ps sp :=
  ok_of F S len fun cdv A out s H vs Q E ca hr hs => by
    obtain ⟨t, ht, q⟩ := body cdv A out s H vs Q E ca hr hs
    exact ⟨t, ht.nox, q⟩
end

section
variable {X : Cx} {CX : CXT} {k : Nat} {f : Addr} {fd : FuncData} {ps ks : List Str} {sp : Sp} {E : XK} {x : Str} {p pos : Pos} {e : Expr} {es : List Expr} {ds : List Value} {dvs : List V} {t : TA}
theorem goes_fn {pins : List (Addr × Obj)} {σ : L2.St} {H : Hp} {s : Shared} {Q : VK} {us : List Value} {vs : List V} (F : GOk X.prog X.w X.K X.mg X.base CX k f fd ps sp) (ca : Calm X.A) (hr : Room k X.A)
    (hb : Binds X.K fd ps ds) (hd : Vals dvs ds) (hx : Passes CX X E) (I : Inv X pins σ H s) (r : Vals vs us) (h : sp (vs ++ dvs) H Q E) :
    wpAny (model X.prog X.w) X.A (call (.ref f) us) (EP X pins σ Q) X.xe s := by
  have rr : Vals (vs ++ dvs) (us ++ ds) := r.append hd
  have hl : (us ++ ds).length = ps.length := rr.length ▸ F.many _ _ _ _ h
  have go := F.goes X.A X.stack s H ⟨us, []⟩ (us ++ ds) (vs ++ dvs) Q E ca hr I.env0 (hb s us I.kIn hl) rr h
  refine wpAny_call (codeAny_mono go ?_)
  intro z s' hz
  match z, hz with
  | .error e, hz => exact hx pins σ H s e s' I hz
  | .ok (.ret u), hz => exact I.after hz
  | .ok .next, hz => exact False.elim hz
  | .ok .brk, hz => exact False.elim hz
  | .ok .cont, hz => exact False.elim hz
theorem pe_callG (F : GOk X.prog X.w X.K X.mg X.base CX k f fd ps sp) (ca : Calm X.A) (hr : Room k X.A) (hg : Gl X x) (hm : X.mg x = some (.ref f)) (hk : PySem.W.keepIn X.K (.ref f) = true) (hb : Binds X.K fd ps ds) (hd : Vals dvs ds)
    (hx : Passes CX X E) (ha : PA X (e :: es) t) (hdb : (x == ("__debug__" : Str)) = false := by decide)
    (he : starEach (e :: es) X.env = (false, eval e X.env) :: starEach es X.env := by rfl) (hpl : (backTo pos (starEach es X.env)).any (·.1) = false := by rfl) :
    PE X (.Call (.Name x p) (e :: es) [] pos) (tCall sp dvs E t) := by
  constructor
  intro pins s σ H Q I h
  refine wpAny_Call_Name_kw (ld_glob I hg hm ?_ hdb)
  have go := thn (ha.run pos pins s σ H _ I h) (fun us s1 (hq : AP X pins σ (fun vs H1 => sp (vs ++ dvs) H1 Q E) us s1) => by
    obtain ⟨vs, H1, I1, r, q⟩ := hq
    exact (⟨I1.kIn, goes_fn F ca hr hb hd hx I1 r q⟩ : X.K.In s1.heap ∧ wpAny (model X.prog X.w) X.A (call (.ref f) us) (EP X pins σ Q) X.xe s1))
  exact PySem.W.callWith_K (h₀ := X.base) I.ok.mod.kin hk go he hpl
end
end Gd

set_option maxHeartbeats 4000000
namespace Gd
open PySem PySem.Spec PyProof.Rows L2

/-- the script: it may be read, and it is a bare list -/
def Scr (K : PySem.W.Frag) (H : Hp) (a : Addr) (ns : List Int) : Prop :=
  Rd H a (.lst (ns.map V.int)) ∨ ∃ vs : List Value, K.lookup a = some { cls := .type "list", data := .seq vs.toArray } ∧ vs.length ≤ sizeLine ∧ Vals (ns.map V.int) vs
theorem Scr.sq {K : PySem.W.Frag} {H : Hp} {a : Addr} {ns : List Int} (h : Scr K H a ns) : SqL K H a (ns.map V.int) := by
  cases h with
  | inl h => exact Or.inl h
  | inr h =>
    obtain ⟨vs, h1, h2, h3⟩ := h
    exact Or.inr ⟨_, vs.toArray, _, h1, rfl, rfl, rfl, (by rw [List.size_toArray]; exact h2), (by simpa using h3)⟩

/-- the law's call from the outermost caller, under whom no repr runs -/
theorem outermost {pr : Program} {wo : World} {K : PySem.W.Frag} {mg mb : Str → Option Value} {CX : CXT} {k : Nat} {fa a : Addr} {fd : FuncData} {x : Str} {sp : Sp} {s : Shared} {vs : List Value} {ns : List Int}
    (KX : K.In s.heap) (n1 : s.heap.Ns mainGlobals mg) (n2 : s.heap.Ns builtinsNs mb) (bb : ∀ z : Str, z ≠ "__name__" → mb z = bootBuiltins z) (lim : s.heap.NoLimit) (gn : s.gens = #[])
    (ha : s.heap.get? a = some { cls := .type "list", data := .seq vs.toArray }) (hi : IntsAre vs ns) (hl : ns.length ≤ sizeLine) (room : Room k callerA)
    (F : ∀ base : Heap, K.In base → base.Ns mainGlobals mg → GOk pr wo K mg base CX k fa fd [x] sp) (bind : ∀ (z : Shared) (u : Value), BindsTo z fd ⟨[u], []⟩ [(x, u)])
    (good : ∀ H : Hp, Only H → Scr K H a ns → sp [.ref a] H (fun v _ => v = .bl true) (fun _ _ _ => False))
    (noX : ∀ H e z, CX [] H s (fun _ _ _ => False) e z → False) :
    codeAny (model pr wo) callerA (.call (.ref fa) ⟨[.ref a], []⟩) (fun r z => r = .ok (.ret (.bool true)) ∧ OldK s.heap z.heap ∧ z.os = s.os ∧ AllBare z.gens) s := by
  have rv : Vals (ns.map V.int) vs := vals_ints hi
  have lv := hi.length
  have main : ∀ H : Hp, Only H → Scr K H a ns → HOk pr wo H s.heap → (∀ b, H b ≠ none → b = a) → (H a ≠ none → K.lookup a = none) →
      codeAny (model pr wo) callerA (.call (.ref fa) ⟨[.ref a], []⟩) (fun r z => r = .ok (.ret (.bool true)) ∧ OldK s.heap z.heap ∧ z.os = s.os ∧ AllBare z.gens) s := by
    intro H only sq ok just away
    -- what is tracked is the script alone, which is no dict and nothing of K's
    have nodict : ∀ {b : Addr} {o : Obj} {es : Array DictEntry} {ep : Nat}, s.heap.get? b = some o → o.data = .dict es ep → H b = none := by
      intro b o es ep e d
      match q : H b with
      | none => rfl
      | some u =>
        cases just b (by rw [q]; exact Option.some_ne_none u)
        rw [ha] at e
        cases e
        exact absurd (show Data.seq vs.toArray _ = Data.dict es ep from d) (by intro z; cases z)
    have stays : ∀ {b : Addr} {m : Str → Option Value}, s.heap.Ns b m → (hidT s.heap H).Ns b m := by
      rintro b m ⟨o, es, ep, e, d, r⟩
      exact ⟨o, es, ep, hidT_get e (nodict e d), d, r⟩
    have kin : K.In (hidT s.heap H) := by
      intro b o e
      refine hidT_get (KX b o e) ?_
      match q : H b with
      | none => rfl
      | some u =>
        have some_ne : H b ≠ none := by rw [q]; exact Option.some_ne_none u
        cases just b some_ne
        exact absurd (away some_ne) (by rw [e]; exact Option.some_ne_none o)
    have lim2 : (hidT s.heap H).NoLimit := by
      obtain ⟨mc, h1, h2⟩ := lim
      exact ⟨mc, stays h1, h2⟩
    have at0 : Env0 pr wo K mg (hidT s.heap H) callerA [] s H := {
      frames := rfl, mod := ⟨kin, stays n1, ⟨mb, stays n2, bb⟩, lim2⟩, bs := fun b o e => of_hidT e, bsz := Nat.le_of_eq (hidT_size _ _),
      funs := trivial, frf := (fun b hb => by cases (show b ∈ ([] : List Addr) from hb)), hok := ok, bare := .of_eq gn }
    have go := (F _ kin (stays n1)).goes callerA [] s H ⟨[.ref a], []⟩ [.ref a] [.ref a] _ _ rfl room at0 (bind s (.ref a)) (.cons rfl .nil) (good H only sq)
    refine codeAny_mono go ?_
    intro r z h
    match r, h with
    | .error e, h => exact (noX H e z h).elim
    | .ok .next, h => exact False.elim h
    | .ok .brk, h => exact False.elim h
    | .ok .cont, h => exact False.elim h
    | .ok (.ret u), ⟨v, H2, os, bare, un, ok2, ru, q⟩ =>
      cases (show v = V.bl true from q)
      cases (show u = Value.bool true from ru)
      refine ⟨rfl, OldK.of_keep ?_, os, bare⟩
      intro b o e
      match q : H b with
      | none => exact un.keep b o e q (fun z => by cases (show b ∈ ([] : List Addr) from z)) (fun z => by cases z)
      | some u =>
        cases only b with
        | inl z => rw [q] at z; cases z
        | inr z =>
          obtain ⟨ob, xs, z⟩ := z
          have e1 := (ok b _ z).left
          have e2 := (ok2 b _ (un.frzs b ob _ z)).left
          rw [e] at e1
          cases e1
          exact e2
  match hk : K.lookup a with
  | some o =>
    have e := KX a o hk
    rw [ha] at e
    cases e
    refine main (fun _ => none) (fun _ => Or.inl rfl) (Or.inr ⟨vs, hk, (by rw [lv]; exact hl), rv⟩) ?_ (fun b z => absurd rfl z) (fun z => absurd rfl z)
    intro b u z
    cases (show (none : Option HO) = some u from z)
  | none =>
    have at_a : ∀ b, b = a → (fun b => if b = a then some (HO.frz { cls := .type "list", data := .seq vs.toArray } (.lst (ns.map V.int))) else none) b = some (HO.frz { cls := .type "list", data := .seq vs.toArray } (.lst (ns.map V.int))) := fun b h => if_pos h
    have off_a : ∀ b, ¬ b = a → (fun b => if b = a then some (HO.frz { cls := .type "list", data := .seq vs.toArray } (.lst (ns.map V.int))) else none) b = none := fun b h => if_neg h
    refine main (fun b => if b = a then some (HO.frz { cls := .type "list", data := .seq vs.toArray } (.lst (ns.map V.int))) else none) ?_ (Or.inl (Or.inr ⟨_, at_a a rfl⟩)) ?_ ?_ (fun _ => hk)
    · intro b
      by_cases h : b = a
      · exact Or.inr ⟨_, _, at_a b h⟩
      · exact Or.inl (off_a b h)
    · intro b u z
      by_cases h : b = a
      · have zz := (at_a b h).symm.trans z
        cases zz
        cases h
        exact ⟨ha, (by rw [List.length_map]; exact hl), vs, _, rv, ha⟩
      · have zz := (off_a b h).symm.trans z
        cases zz
    · intro b z
      by_cases h : b = a
      · exact h
      · exact absurd (off_a b h) z

theorem walk_calm {l : PySem.W.OpenLaw} {n k : Nat} {q : Program} {loose : List Str} {XP : (Str → Option Value) → Heap → Prop} {YP : World → Heap → Prop} {d : DefRec} {K : Params → PySem.W.Frag} {CX : World → CXT} {sp : World → Sp} {x : Str}
    (hn : l.most = some n) (hn2 : n ≤ sizeLine) (hdf : d.params.defaults = []) (room : Room k callerA) (hY : ∀ (w : World) (h : Heap), YP w h → (K w.params).In h)
    (F : ∀ (w : World) (mg : Str → Option Value) (fa : Addr) (h : Heap), (K w.params).In h → h.Ns mainGlobals mg → mg d.name = some (.ref fa) → ∃ fd : FuncData,
      (∀ (z : Shared) (u : Value), BindsTo z fd ⟨[u], []⟩ [(x, u)]) ∧ ∀ base : Heap, (K w.params).In base → base.Ns mainGlobals mg → GOk l.prog w (K w.params) mg base (CX w) k fa fd [x] (sp w))
    (good : ∀ (w : World) (H : Hp) (a : Addr) (ns : List Int), ns.length ≤ n → Only H → Scr (K w.params) H a ns → sp w [.ref a] H (fun v _ => v = .bl true) (fun _ _ _ => False))
    (noX : ∀ (w : World) (H : Hp) (s : Shared) (e : Value) (z : Shared), CX w [] H s (fun _ _ _ => False) e z → False) :
    PySem.W.WalkO q loose XP YP l.row.toRowW d [] (fun f vs => PySem.call f vs) := by
  refine Att.attach_call hn hdf ?_
  intro w s0 s1 mg mb fa o pm cd doc a vs ns G Y ho hd hcd hmg hobj hints hlen hg
  obtain ⟨fd, hb, hF⟩ := F w mg fa _ (hY w _ Y) G.T.g hmg
  refine outermost (hY w _ Y) G.T.g G.T.b G.T.builtins G.T.nolimit hg hobj hints (Nat.le_trans hlen hn2) room hF hb ?_ ?_
  · intro H only sq
    exact good w H a ns hlen only sq
  · intro H e z
    exact noX w H s1 e z

/-! ### repr of data -/
section
variable {X : Cx}
/-- repr of lists and tuples that hold data: the text is that of the data alone -/
def rRepr (K : PySem.W.Frag) : List V → Hp → VK → Prop := fun xs H Q => ∃ a d, xs = [.ref a] ∧ Dp K H (.ref a) d ∧ PyData.showable d = true ∧ PyData.hasDict d = false ∧ d.depth ≤ 100 ∧ d.shown.length ≤ sizeLine ∧ Q (.str d.shown) H
theorem call_repr {k : Nat} (ca : Calm X.A) (hr : Room k X.A) : CallR X (.builtin "repr") (rRepr X.K) := by
  intro pins s σ H xs us Q I r h
  obtain ⟨a, d, rfl, hd, h1, h2, h3, h4, q⟩ := h
  obtain ⟨u, rfl, ru⟩ := vals1 r
  cases (show u = Value.ref a from ru)
  obtain ⟨as, hR⟩ := Dp.reads I d _ _ hd rfl
  have hun := hr.un
  refine repr_of_reads' hR h1 (fun z => by rw [h2] at z; cases z) ca (by omega) (fun _ _ e => e) (fun h' u tk keep => ?_) h4
  exact ⟨.str d.shown, H, I.kept keep, ⟨_, rfl⟩, q⟩
end
end Gd

set_option maxHeartbeats 4000000
namespace Gd
open PySem PySem.Spec PyProof.Rows L2 Evl

/-- a def of the module by its name, with its promise -/
structure Df (pr : Program) (wo : World) (K : PySem.W.Frag) (mg : Str → Option Value) (base : Heap) (CX : CXT) (k : Nat) (x : Str) (ps : List Str) (sp : Sp) : Prop where
  ex : ∃ (f : Addr) (fd : FuncData), FnOk pr wo K mg base CX k f fd ps sp ∧ Binds K fd ps [] ∧ PySem.W.keepIn K (.ref f) = true ∧ mg x = some (.ref f)
structure DfG (pr : Program) (wo : World) (K : PySem.W.Frag) (mg : Str → Option Value) (base : Heap) (CX : CXT) (k : Nat) (x : Str) (ps : List Str) (sp : Sp) : Prop where
  ex : ∃ (f : Addr) (fd : FuncData), GOk pr wo K mg base CX k f fd ps sp ∧ Binds K fd ps [] ∧ PySem.W.keepIn K (.ref f) = true ∧ mg x = some (.ref f)
/-- the same, to be called with all its parameters by keywords in their order -/
structure DfK (pr : Program) (wo : World) (K : PySem.W.Frag) (mg : Str → Option Value) (base : Heap) (CX : CXT) (k : Nat) (x : Str) (ps : List Str) (sp : Sp) : Prop where
  ex : ∃ (f : Addr) (fd : FuncData), FnOk pr wo K mg base CX k f fd ps sp ∧ (∀ (s : Shared) (ws : List Value), K.In s.heap → ws.length = ps.length → BindsTo s fd ⟨[], ps.zip ws⟩ (ps.zip ws)) ∧ PySem.W.keepIn K (.ref f) = true ∧ mg x = some (.ref f)
theorem _root_.L2.Fun.kbinds {K : PySem.W.Frag} {x qual : Str} {st : Stmt} {f : Addr} {fd : FuncData} {ps : List Str} (F : Fun K x qual st f fd)
    (h : ∀ (kV doc pm : Value) (an : Option Addr) (cdv ct : Value) (ws : List Value), ws.length = ps.length → bindArgs (PySem.W.fnOf x qual (defArgs st) (defBody st) (defScope st) .none kV doc pm an cdv ct) ⟨[], ps.zip ws⟩ = pure (ps.zip ws))
    (s : Shared) (ws : List Value) (hK : K.In s.heap) (hl : ws.length = ps.length) : BindsTo s fd ⟨[], ps.zip ws⟩ (ps.zip ws) := by
  obtain ⟨oc, od, kV, doc, pm, an, cdv, ct, osl, rfl, lk, hcd⟩ := F.ex
  exact .of_eq (h kV doc pm an cdv ct ws hl)
section
variable {X : Cx} {CX : CXT} {k : Nat} {ps : List Str} {sp : Sp} {E : XK} {x : Str} {p pos : Pos} {e : Expr} {es : List Expr} {t tk : TA} {kws : List Keyword}
theorem pe_df (D : Df X.prog X.w X.K X.mg X.base CX k x ps sp) (hr : Room k X.A) (hg : Gl X x) (ha : PA X (e :: es) t) (hx : Passes CX X E := by exact pass0) (hdb : (x == ("__debug__" : Str)) = false := by decide)
    (he : starEach (e :: es) X.env = (false, eval e X.env) :: starEach es X.env := by rfl) (hpl : (backTo pos (starEach es X.env)).any (·.1) = false := by rfl) :
    PE X (.Call (.Name x p) (e :: es) [] pos) (tCall sp [] E t) := by
  obtain ⟨f, fd, F, b, kp, m⟩ := D.ex
  exact pe_call F hr hg m kp b .nil hx ha hdb he hpl
theorem pe_df0 (D : Df X.prog X.w X.K X.mg X.base CX k x ps sp) (hr : Room k X.A) (hg : Gl X x) (hx : Passes CX X E := by exact pass0) (hdb : (x == ("__debug__" : Str)) = false := by decide) :
    PE X (.Call (.Name x p) [] [] pos) (tCall sp [] E tNil) := by
  obtain ⟨f, fd, F, b, kp, m⟩ := D.ex
  exact pe_call0 F hr hg m kp b .nil hx hdb
theorem pe_dfG (D : DfG X.prog X.w X.K X.mg X.base CX k x ps sp) (ca : Calm X.A) (hr : Room k X.A) (hg : Gl X x) (ha : PA X (e :: es) t) (hx : Passes CX X E := by exact pass0) (hdb : (x == ("__debug__" : Str)) = false := by decide)
    (he : starEach (e :: es) X.env = (false, eval e X.env) :: starEach es X.env := by rfl) (hpl : (backTo pos (starEach es X.env)).any (·.1) = false := by rfl) :
    PE X (.Call (.Name x p) (e :: es) [] pos) (tCall sp [] E t) := by
  obtain ⟨f, fd, F, b, kp, m⟩ := D.ex
  exact pe_callG F ca hr hg m kp b .nil hx ha hdb he hpl
def tCallKw (sp : Sp) (n : Nat) (E : XK) (tk : TA) : TE := fun σ H Q => tk σ H fun zs H2 => zs.length = n ∧ sp zs H2 Q E
theorem pe_dfK (D : DfK X.prog X.w X.K X.mg X.base CX k x ps sp) (hr : Room k X.A) (hg : Gl X x) (hkw : PK X kws tk) (hx : Passes CX X E := by exact pass0)
    (hall : (backToKw pos (keywordEach kws X.env)).all (·.1.isSome) = true := by rfl) (hks : (backToKw pos (keywordEach kws X.env)).filterMap (·.1) = ps := by rfl) (hdb : (x == ("__debug__" : Str)) = false := by decide)
    (hpl : ((backTo pos (starEach [] X.env)).any (·.1) || (backToKw pos (keywordEach kws X.env)).any (·.1.isNone)) = false := by rfl) :
    PE X (.Call (.Name x p) [] kws pos) (tCallKw sp ps.length E tk) := by
  obtain ⟨f, fd, F, b, kp, m⟩ := D.ex
  constructor
  intro pins s σ H Q I h
  refine wpAny_Call_Name_kw (ld_glob I hg m ?_ hdb)
  refine PySem.W.callWith_KW0 (h₀ := X.base) I.ok.mod.kin kp hall ?_ hpl
  refine thn (hkw.run pos pins s σ H _ I h) (fun ws s2 hq => ?_)
  obtain ⟨zs, H2, I2, rz, l2, q2⟩ := hq
  refine ⟨I2.kIn, ?_⟩
  rw [hks]
  have lw : ws.length = ps.length := rz.length.symm.trans l2
  refine wpAny_call (codeAny_mono (F.run X.A X.stack s2 H2 ⟨[], ps.zip ws⟩ ws zs Q E hr I2.env0 (b s2 ws I2.kIn lw) rz q2) ?_)
  intro z s' hz
  match z, hz with
  | .error e, hz => exact hx pins σ H2 s2 e s' I2 hz
  | .ok (.ret u), hz => exact I2.after hz
  | .ok .next, hz => exact False.elim hz
  | .ok .brk, hz => exact False.elim hz
  | .ok .cont, hz => exact False.elim hz
end

/-! ### the module's constants and the built-in classes as values -/
section
variable {X : Cx} {x : Str} {pos : Pos}
theorem pe_gS {z : Str} {t : Tok} (hg : Gl X x) (hm : X.mg x = some (.str z t)) (hd : (x == ("__debug__" : Str)) = false := by decide) : PE X (.Name x pos) (tC (.str z)) := pe_glob hg hm ⟨t, rfl⟩ hd
theorem pe_gI {i : Int} {t : Tok} (hg : Gl X x) (hm : X.mg x = some (.int i t)) (hd : (x == ("__debug__" : Str)) = false := by decide) : PE X (.Name x pos) (tC (.int i)) := pe_glob hg hm ⟨t, rfl⟩ hd
theorem pe_gR {a : Addr} (hg : Gl X x) (hm : X.mg x = some (.ref a)) (hd : (x == ("__debug__" : Str)) = false := by decide) : PE X (.Name x pos) (tC (.ref a)) := pe_glob (v := .ref a) hg hm rfl hd
theorem pe_bT {T : String} (hg : Gl X x) (hm : X.mg x = none) (hv : bootBuiltins x = some (.type T)) (hn : x ≠ "__name__" := by decide) (hd : (x == ("__debug__" : Str)) = false := by decide) : PE X (.Name x pos) (tC (.ty T)) :=
  pe_bltn (v := .ty T) hg hm hv rfl hn hd
end

/-! ### what evaluates to what: texts, tuples, calls -/
section
variable {K : PySem.W.Frag} {σ : L2.St} {H H' : Hp} {ta tb te : TE} {t u : TT} {x y z v : V}
/-- a def's call that hands back a value and lays at most new things -/
def SpIs (sp : Sp) (vs : List V) (H : Hp) (z : V) : Prop := ∀ H1, Ex H H1 → ∀ Q : VK, (∀ H2, Ex H1 H2 → Q z H2) → ∀ E : XK, sp vs H1 Q E
theorem ev_df {sp : Sp} {vs : List V} {E : XK} {tx : TA} (h : EvA tx σ H vs) (hs : SpIs sp vs H z) : Ev (tCall sp [] E tx) σ H z :=
  ev_call h (by rw [List.append_nil]; exact hs)
theorem ev_dfK {sp : Sp} {vs : List V} {E : XK} {tx : TA} {n : Nat} (h : EvA tx σ H vs) (hn : vs.length = n) (hs : SpIs sp vs H z) : Ev (tCallKw sp n E tx) σ H z := fun H1 e Q q =>
  h H1 e _ fun H2 e2 => ⟨hn, hs H2 (e.trans e2) Q (fun H3 e3 => q H3 (e2.trans e3)) E⟩
theorem ev_slS {tl th : TO} {z : Str} {lo hi : Option Int} (h : Ev te σ H (.str z)) (h1 : EvO tl σ H lo) (h2 : EvO th σ H hi) (hz : z.length ≤ 100000) : Ev (tSl rSlS te tl th) σ H (.str (cutS z lo hi)) := fun H1 e Q q =>
  h H1 e _ fun H2 e2 => h1 H2 (e.trans e2) _ fun H3 e3 => h2 H3 ((e.trans e2).trans e3) _ fun H4 e4 => ⟨z, rfl, sz_of hz, q H4 ((e2.trans e3).trans e4)⟩
def rLenStr : List V → Hp → VK → Prop := fun xs H Q => ∃ z, xs = [.str z] ∧ z.length ≤ sizeLine ∧ Q (.int z.length) H
theorem ev_lenS {z : Str} (h : Ev te σ H (.str z)) (hz : z.length ≤ 100000) : Ev (tCB rLenStr (tCons te tNil)) σ H (.int (z.length : Int)) :=
  ev_cb (ea_cons h ea_nil) fun H1 e Q q => ⟨z, rfl, sz_of hz, q H1 (Ex.refl H1)⟩
def rAddS : R2 := fun x y H Q => ∃ i j, x = .str i ∧ y = .str j ∧ i.length + j.length ≤ sizeLine ∧ Q (.str (i ++ j)) H
theorem rv_addS {a b : Str} (h : a.length + b.length ≤ 100000) : RV rAddS (.str a) (.str b) H (.str (a ++ b)) := fun H1 _ Q q => ⟨a, b, rfl, rfl, sz_of h, q H1 (Ex.refl H1)⟩
def rInSg : R2 := fun x y H Q => ∃ (c : Nat) (z : Str), x = .str ⟨#[c]⟩ ∧ y = .str z ∧ Q (.bl (decide (c ∈ z.cps.toList))) H
theorem rv_inSg {c : Nat} {z : Str} : RV rInSg (.str ⟨#[c]⟩) (.str z) H (.bl (decide (c ∈ z.cps.toList))) := fun H1 _ Q q => ⟨c, z, rfl, rfl, q H1 (Ex.refl H1)⟩
end
end Gd

set_option maxHeartbeats 4000000
namespace Gd
open PySem PySem.Spec PyProof.Rows L2

/-! ### an exception that outlives its suite -/
/-- at a stands an exception of the class cls with the dict d -/
def xob (a : Addr) (cls : Value) (d : Option Addr) : HO :=
  .ext fun h => ∃ oe : Obj, h.get? a = some oe ∧ Zc cls d oe ∧ ∃ vs, oe.data = .fields vs
theorem xob_ok {P : Program} {w : World} {H : Hp} {h : Heap} {a : Addr} {cls : Value} {d : Option Addr} {oe : Obj} {vs : Array Value}
    (e : h.get? a = some oe) (z : Zc cls d oe) (f : oe.data = .fields vs) : ObjOk P w H h a (xob a cls d) :=
  ⟨⟨oe, e, z, vs, f⟩, ⟨oe, e⟩, fun _ _ ⟨o, q, r⟩ k => ⟨o, k o q, r⟩⟩
theorem xob_at {P : Program} {w : World} {H : Hp} {h : Heap} {a : Addr} {cls : Value} {d : Option Addr} (ok : HOk P w H h) (e : H a = some (xob a cls d)) :
    ∃ oe : Obj, h.get? a = some oe ∧ Zc cls d oe ∧ ∃ vs, oe.data = .fields vs := (ok a _ e).1

section
variable {X : Cx} {pins : List (Addr × Obj)} {σ : L2.St} {H : Hp} {s : Shared}
/-- an object that stands in the heap and that nobody tracked, new since the entry, is tracked from now on -/
theorem track {a : Addr} {o : HO} (I : Inv X pins σ H s) (na : H a = none) (n0 : X.s_0.heap.get? a = none) (nL : a ≠ X.env.locals)
    (nC : ∀ x c, X.env.cells.lookup x = some c → c ≠ a) (nP : ∀ p ∈ X.pn ++ pins, p.1 ≠ a) (new : ObjOk X.prog X.w (upd H a o) s.heap a o) :
    Inv X pins σ (upd H a o) s := by
  have ne0 : ∀ {b : Addr} {u : Obj}, X.s_0.heap.get? b = some u → b ≠ a := fun {b u} e z => by
    rw [z, n0] at e
    cases e
  refine ⟨I.ok, I.os, I.bare, ⟨I.base.keep, I.base.slot, ?_, I.base.there, ?_, ?_, ?_⟩, I.loc, I.cell, ?_, ?_, ?_, ?_, I.len⟩
  · intro b u e n hx
    rw [upd_ne (ne0 e)]
    exact I.base.free b u e n hx
  · intro b xs e
    have q := I.base.tups b xs e
    rw [upd_ne (ne_of_none q na)]
    exact q
  · intro b u xs e
    have q := I.base.frzs b u xs e
    rw [upd_ne (ne_of_none q na)]
    exact q
  · intro b ps e
    obtain ⟨m, q⟩ := I.base.tbls b ps e
    exact ⟨m, by rw [upd_ne (ne_of_none q na)]; exact q⟩
  · rw [upd_ne (Ne.symm nL)]
    exact I.free
  · intro x c e
    rw [upd_ne (nC x c e)]
    exact I.freeC x c e
  · intro p hp
    obtain ⟨e, n, r⟩ := I.pin p hp
    exact ⟨e, by rw [upd_ne (nP p hp)]; exact n, r⟩
  · intro b u e
    by_cases hb : b = a
    · subst hb
      rw [upd_same] at e
      cases e
      exact new
    · rw [upd_ne hb] at e
      refine (I.hok b u e).stay (fun c v _ q => q) (fun c q => ?_) fun c xs q => ?_
      · rw [upd_ne (ne_of_none q na)]
        exact q
      · rw [upd_ne (ne_of_none q na)]
        exact q
end

/-- the clause's test: an expression that names the classes cs -/
def HTest (X : Cx) (t : Expr) (cs : List Value) : Prop :=
  ∀ {a : Addr} {oe : Obj} {pn : List (Addr × Obj)} {σ : L2.St} {H : Hp} {s : Shared} {cls : Value} {b : Bool} {Q : Bool → Shared → Prop} {E : Value → Shared → Prop},
    Inv (X.suite a ((a, oe) :: pn)) [] σ H s → s.heap.get? a = some oe → oe.cls = cls → PySem.W.exmAny X.K cls cs = some b →
    (∀ h', (∀ q o, s.heap.get? q = some o → h'.get? q = some o) → Q b { s with heap := h' }) →
    wpAny (model X.prog X.w) (X.A.mark (some (.ref a))) (eval t X.env) (fun c s₁ => wpAny (model X.prog X.w) (X.A.mark (some (.ref a))) (excMatches (.ref a) c) Q E s₁) E s
theorem nameIn {X : Cx} {a : Addr} {oe : Obj} {pn : List (Addr × Obj)} {σ : L2.St} {H : Hp} {s : Shared} {x : Str} {c : Value} {np : Pos} {Q : Value → Shared → Prop} {E : Value → Shared → Prop}
    (I : Inv (X.suite a ((a, oe) :: pn)) [] σ H s) (hc : Names X x c) (q : Q c s) : wpAny (model X.prog X.w) (X.A.mark (some (.ref a))) (eval (.Name x np) X.env) Q E s := by
  obtain ⟨hg, hd, hm | ⟨hm, hv, hn⟩⟩ := hc
  · exact ld_glob (X := X.suite a ((a, oe) :: pn)) I hg hm q hd
  · exact ld_blt (X := X.suite a ((a, oe) :: pn)) I hg hm hv q hn hd
theorem looksCls {M : Model} {h : Heap} {a : Addr} {oe : Obj} {cls : Value} (e : h.get? a = some oe) (c : oe.cls = cls) : PySem.W.Looks M h (typeOf (.ref a)) cls :=
  fun A Q E s k q => wpAny_typeOf_ref (k _ _ e) (by rw [c]; exact q)
theorem ht_one {X : Cx} {x : Str} {c : Value} {np : Pos} (hc : Names X x c) : HTest X (.Name x np) [c] := by
  intro a oe pn σ H s cls b Q E I e ec hx q
  obtain ⟨b1, d1, x1, y1, z1⟩ := PySem.W.exmAny_cons hx
  have w1 : some false = some d1 := y1
  cases w1
  rw [Bool.or_false] at z1
  subst z1
  exact nameIn I hc ((PySem.W.exm_one I.kIn (looksCls e ec) x1).here (q s.heap fun _ _ z => z))
theorem ht_two {X : Cx} {x y : Str} {c d : Value} {np mp tp : Pos} {kk : Nat} (hc : Names X x c) (hd : Names X y d) :
    HTest X (.Tuple [.Name x np, .Name y mp] kk tp) [c, d] := by
  intro a oe pn σ H s cls b Q E I e ec hx q
  refine wpAny_Tuple ?_
  refine wpAny_items_cons (nameIn I hc ?_)
  refine wpAny_items_cons (nameIn I hd ?_)
  refine wpAny_items_nil ⟨by size_fits, ?_⟩
  have kp : ∀ b' o, s.heap.get? b' = some o → (s.heap.push { cls := .type "tuple", data := .seq [c, d].toArray }).get? b' = some o := fun _ _ z => Heap.get?_push_of_some _ z
  have LT := looksCls (M := model X.prog X.w) e ec
  have KI : X.K.In s.heap := I.kIn
  exact (PySem.W.exm_tup2 (KI.keeps kp) (LT.keeps kp) (Heap.get?_push_size s.heap rfl) hx).here (q _ kp)
theorem fly_kept {B : Heap} {l : List Env} {a : Addr} {Z : Obj → Prop} {h h' : Heap} (f : HandSPX.FlyingZ B l a Z h) (k : ∀ q o, h.get? q = some o → h'.get? q = some o) : HandSPX.FlyingZ B l a Z h' := by
  obtain ⟨k1, k2, k3, oe, vs, T, oT, ts, e1, e2, e3, e4, e5, e6, e7, e8, e9⟩ := f
  exact ⟨fun b o e => k b o (k1 b o e), k2, k3.of_keeps fun b o e _ => ⟨o, k b o e, rfl⟩, oe, vs, T, oT, ts, k _ _ e1, e2, e3, e4, e5, e6, k _ _ e7, e8, e9⟩

/-- the ends behind the suite: the clause's name (slot i) is gone, the exception at a stands -/
def dHeld (a : Addr) (cls : Value) (d : Option Addr) (i : Nat) (D : Ends) : Ends where
  nx := fun σ H => H a = none → D.nx (σ.set i none) (upd H a (xob a cls d))
  rt := fun v H => H a = none → D.rt v (upd H a (xob a cls d))
  bk := fun σ H => H a = none → D.bk (σ.set i none) (upd H a (xob a cls d))
  ct := fun σ H => H a = none → D.ct (σ.set i none) (upd H a (xob a cls d))
/-- what the clause 'except (c ..) as n' wishes of an exception of the body -/
def wHeld (K : PySem.W.Frag) (cs : List Value) (i : Nat) (ts : Addr → Value → Option Addr → TS) (Wout : WX) (D : Ends) : WX := fun cls d σ H =>
  ∃ b, PySem.W.exmAny K cls cs = some b ∧ (b = true → ∀ a, H a = none → ts a cls d (dHeld a cls d i D) (σ.set i (some (.ref a))) H) ∧ (b = false → Wout cls d σ H)

section
variable {X : Cx} {t : Expr} {n : Str} {cs : List Value} {i : Nat} {body suite : List Stmt} {b₀ : Stmt} {pos pos' : Pos} {tb : WX → TS} {ts : Addr → Value → Option Addr → TS} {Wout : WX}
theorem ps_try_held (hs : X.stack = X.env :: X.outer) (hf : X.env.frame = some X.env.locals) (hN : X.N.Nodup) (hi : X.N[i]? = some n) (hln : X.env.kindOf n = some .local) (ht : HTest X t cs) (tk : Takes X Wout) (hx0 : X.ex = [])
    (hb : ∀ (W : WX) (pn : List (Addr × Obj)) (xe : Value → Shared → Prop), Takes (X.tr pn xe) W → PassesOwn (model X.prog X.w) X.A X.env xe → PSs (X.tr pn xe) body (tb W))
    (hsu : ∀ (a : Addr) (oe : Obj) (cls : Value) (d : Option Addr) (pn : List (Addr × Obj)), Zc cls d oe → (∃ vs, oe.data = .fields vs) → PSs (X.suite a ((a, oe) :: pn)) (b₀ :: suite) (ts a cls d)) :
    PS X (.Try body [.ExceptHandler (some t) (some n) (b₀ :: suite) pos'] [] [] pos) (fun D σ H => tb (wHeld X.K cs i ts Wout D) D σ H) := by
  refine ⟨fun pins s σ H D I h => ?_⟩
  have ok := I.ok
  have hfr : X.A.frames = some (X.env :: X.outer) := by rw [ok.frames, hs]
  have hloc : Loc X.env.scope n := .inl hln
  refine wpAny_Try_except ?_
  refine wpAny_mono ((hb (wHeld X.K cs i ts Wout D) (X.pn ++ pins) (fun e z₁ => wpAny (model X.prog X.w) X.A (noteFrame e X.env) (fun _ z₂ => wpAny (model X.prog X.w) X.A (setFlight e none) (fun _ z₃ =>
    wpAny (model X.prog X.w) X.A (handleBy e X.env [.ExceptHandler (some t) (some n) (b₀ :: suite) pos']) (SP X pins D) X.xe z₃) X.xe z₂) X.xe z₁) (fun u z xx => ?_) PassesOwn.looking).run [] s σ H D (I.toTry _) h) (fun f s1 hsp => ?_) (fun e s1 he => he)
  · obtain ⟨a, B, sI, pins', τ, G, cls, d, rfl, J0, nb, up, sky, na, os, ag, b, hb1, hyes, hno⟩ := xx
    have J : Inv X pins τ G sI := J0.ofTry ok
    have sky2 : Sky B (X.env :: X.outer) a (Zc cls d) X.env.locals z.heap := by rw [← hs]; exact sky
    show wpAny (model X.prog X.w) X.A (noteFrame (.ref a) X.env) _ _ _
    refine Sky.land Zc.steady hfr hf sky2 fun h3 fl3 up3 => ?_
    have J3 : Inv X pins τ G { z with heap := h3 } := J.landed nb fl3.1 (up.trans up3) os ag
    obtain ⟨oe3, vs3, he3, hz3, hd3⟩ := fl3.there
    have nfr : a ∉ frs (X.env :: X.outer) := fun hm => by
      obtain ⟨_, o', e', hnf⟩ := fl3.2.2.1.mem hm
      rw [he3] at e'
      cases e'
      exact hnf _ hd3
    have nL : a ≠ X.env.locals := fun q => nfr (List.mem_filterMap.mpr ⟨X.env, List.mem_cons_self, by rw [hf, q]⟩)
    have nF : a ∉ X.fs := fun hm => by
      obtain ⟨e, he, q⟩ := List.mem_filterMap.mp hm
      exact nfr (List.mem_filterMap.mpr ⟨e, List.mem_cons_of_mem _ he, q⟩)
    -- the exception is new since the entry, and no pin
    have nI : sI.heap.get? a = none := by
      cases e : sI.heap.get? a with
      | none => rfl
      | some o =>
        have q := nb a o e (by rw [hs]; exact nfr)
        rw [fl3.2.1] at q
        cases q
    have n0 : X.s_0.heap.get? a = none := by
      cases e : X.s_0.heap.get? a with
      | none => rfl
      | some o =>
        obtain ⟨o', q⟩ := J.base.there a o e (by rw [hx0]; exact fun q => nomatch q)
        rw [nI] at q
        cases q
    have nP : ∀ p ∈ X.pn ++ pins, p.1 ≠ a := fun p hp q => by
      obtain ⟨e, _⟩ := J.pin p hp
      rw [q, nI] at e
      cases e
    have nC : ∀ x c, X.env.cells.lookup x = some c → c ≠ a := fun x c e q => by
      obtain ⟨v, o, ho, _⟩ := J.cell x c e
      rw [q, nI] at ho
      cases ho
    have S3 := J3.suite he3 hd3 na nL nF
    refine wpAny_handleBy_cons (codeAny_handlers_test ?_) (by intro q; cases q)
    refine ht S3 he3 hz3.1 hb1 fun h5 kp5 => ?_
    have fl5 := fly_kept fl3 kp5
    have up5 : z.heap.UpToSlots h5 := up3.trans (Heap.UpToSlots.of_keeps kp5)
    cases b with
    | true =>
      refine codeAny_handlers_suite_as ?_
      refine HandSPX.lands_againZ (s := { z with heap := h5 }) fl5 fun h4 fl4 up4 => ?_
      have J4 : Inv X pins τ G { z with heap := h4 } := J.landed nb fl4.1 ((up.trans up5).trans up4) os ag
      obtain ⟨oe4, vs4, he4, hz4, hd4⟩ := fl4.there
      have S4 := J4.suite he4 hd4 na nL nF
      refine store_ok (X := X.suite a ((a, oe4) :: (X.pn ++ pins))) (v := .ref a) S4 hN hi hloc rfl (fun s5 S5 => ?_) (.inr hln)
      refine wpAny_mono ((hsu a oe4 cls d (X.pn ++ pins) hz4 ⟨_, hd4⟩).run [] s5 _ G _ S5 (hyes rfl a na)) (fun f s6 hsp => ?_) (fun _ _ q => False.elim q)
      have fin : ∀ {σ6 : L2.St} {H6 : Hp} {Q : Shared → Prop}, Inv (X.suite a ((a, oe4) :: (X.pn ++ pins))) [] σ6 H6 s6 → (∀ s7, H6 a = none → Inv X pins (σ6.set i none) (upd H6 a (xob a cls d)) s7 → Q s7) →
          wpAny (model X.prog X.w) X.A (do bindName X.env n .none; unbindBehindTheSuite X.env n pos') (fun _ s7 => Q s7) X.xe s6 := fun {σ6 H6 Q} S6 hq => by
        obtain ⟨e6, n6, _⟩ := S6.pin (a, oe4) (List.mem_append.mpr (.inl List.mem_cons_self))
        have T6 : Inv X pins σ6 (upd H6 a (xob a cls d)) s6 := track (S6.unsuite ok) n6 n0 nL nC nP (xob_ok e6 hz4 hd4)
        exact gone_ok T6 hN hi hln fun s7 J7 => hq s7 n6 J7
      cases f with
      | next =>
        obtain ⟨σ6, H6, S6, q6⟩ := hsp
        exact fin S6 fun s7 n6 J7 => ⟨_, _, J7, q6 n6⟩
      | brk =>
        obtain ⟨σ6, H6, S6, q6⟩ := hsp
        exact fin S6 fun s7 n6 J7 => ⟨_, _, J7, q6 n6⟩
      | cont =>
        obtain ⟨σ6, H6, S6, q6⟩ := hsp
        exact fin S6 fun s7 n6 J7 => ⟨_, _, J7, q6 n6⟩
      | ret u =>
        obtain ⟨v6, σ6, H6, S6, r6, q6⟩ := hsp
        exact fin S6 fun s7 n6 J7 => ⟨_, _, _, J7, r6, q6 n6⟩
    | false =>
      show wpAny _ X.A (handleBy (.ref a) X.env []) _ _ _
      refine wpAny_handleBy_nil ?_
      obtain ⟨k1, k2, k3, oe, vs, T, oT, ts', he, hz, hd, h1, hr⟩ := id fl5
      unfold PySem.passOn
      refine wpAny_bind (wpAny_field he hd h1 ?_)
      rw [if_neg (show ¬ ((Value.ref T == Value.none) = true) from by simp)]
      have fin : wpAny (model X.prog X.w) X.A (setFlight (.ref a) X.env.frame) (fun _ s4 => wpAny (model X.prog X.w) X.A (throw (.ref a) : Sem Flow) (SP X pins D) X.xe s4) X.xe { z with heap := h5 } := by
        rw [hf]
        refine HandSPX.setFlight_upZ (s := { z with heap := h5 }) fl5 fun h4 hh4 up4 => wpAny_throw (tk _ _ ?_)
        exact ⟨a, B, sI, pins, τ, G, cls, d, rfl, J, nb, (up.trans up5).trans up4, .inr (.inr (by rw [hs]; exact hh4)), na, os, ag, hno rfl⟩
      first
        | exact wpAny_bind (wpAny_pure (wpAny_bind fin))
        | exact wpAny_bind fin
  · cases f with
    | next =>
      obtain ⟨τ, G, J, q⟩ := hsp
      exact wpAny_execs_nil ⟨τ, G, J.ofTry ok, q⟩
    | brk =>
      obtain ⟨τ, G, J, q⟩ := hsp
      exact ⟨τ, G, J.ofTry ok, q⟩
    | cont =>
      obtain ⟨τ, G, J, q⟩ := hsp
      exact ⟨τ, G, J.ofTry ok, q⟩
    | ret u =>
      obtain ⟨v, τ, G, J, r, q⟩ := hsp
      exact ⟨v, τ, G, J.ofTry ok, r, q⟩
end
end Gd

set_option maxHeartbeats 4000000
namespace Gd
open PySem PySem.Spec PyProof.Rows L2

/-! ### such an exception is asked: isinstance, a field -/
section
open PySem.W PySem.Calls
variable {prog : Program} {w : World} {A : Around} {E : Value → Shared → Prop} {s : Shared} {K : Frag} {x D : Addr} {ox : Obj} {od : Option Obj}
theorem find_bound {C : Addr} {od : Option Obj} {nm : Str} {at0 g : Value} (hc : (clsIn K C).isSome = true) (h1 : findIn K (.ref C) nm = some (some at0))
    (h2 : specialIn K at0 "__get__" = some (some g)) (h3 : takesIn K at0 = some true) : findObj K C od nm = some (.bind g at0) := by
  obtain ⟨cd, hcd⟩ := Option.isSome_iff_exists.mp hc
  unfold findObj
  rw [hcd, Option.bind_some, h1, Option.bind_some]
  simp [h2, h3]
/-- e.__class__ of an exception with or without a dict -/
theorem class_of_exc {Q : Option Value → Shared → Prop} (T : ExcC K D) (X : K.In s.heap) (I : InstAt s.heap x ox D od) (h : Q (some (.ref D)) { s with toks := s.toks + 1 }) :
    wpAny (model prog w) A (getAttr? (.ref x) "__class__") Q E s := by
  have hf : findObj K D od "__class__" = some (.bind (.builtin "getset_descriptor.__get__") (.builtin "object.__class__")) :=
    find_bound (by obtain ⟨cd, hc, _⟩ := any_some T.hd; rw [hc]; rfl) T.ha T.hn T.ht
  obtain ⟨hp, gg, dr, tt, oss⟩ := s
  have A0 := I.type (M := model prog w)
  have A1 := looks_findIn (M := model prog w) X T.hg
  have A2 := looks_findIn (M := model prog w) X T.hk
  have A3 := looks_find (M := model prog w) X I hf
  have isb : Looks (model prog w) hp (isInstance (.ref x) (.type "BaseException")) true := A0.andThen (looks_subIn X T.hs)
  have n0 : (false && onTheHeap (Value.builtin "BaseException.__getattribute__")) = false := rfl
  have n2 : (Value.builtin "BaseException.__getattribute__" == Value.builtin "object.__getattribute__") = false := by decide +kernel
  have n1 : (onTheHeap (Value.ref D) && Value.builtin "BaseException.__getattribute__" == Value.builtin "object.__getattribute__") = false := by rw [n2]; rfl
  unfold getAttr? getAttrBy? getAttrBy
  refine wpAny_bind (wpAny_mkText (wpAny_bind (wpAny_attempt (wpAny_holding (wpAny_bind (A0.at (wpAny_bind (A1.at ?_))))))))
  show wpAny _ _ (if (onTheHeap (Value.ref D) && Value.builtin "BaseException.__getattribute__" == Value.builtin "object.__getattribute__") = true then _ else _) _ _ _
  rw [n1, if_neg Bool.false_ne_true]
  unfold getAttrByItsOwn hookBefore
  refine wpAny_bind ?_
  rw [if_pos (show onTheHeap (Value.ref D) = true from rfl)]
  refine A2.at ?_
  refine wpAny_bind (wpAny_attempt (wpAny_holding ?_))
  unfold callGetattribute
  rw [n0, if_neg Bool.false_ne_true]
  unfold boundAndCalled
  rw [PySem.F.excAttr_ValueError.ga.bind (.ref x)]
  refine wpAny_bind (wpAny_pure ?_)
  show wpAny _ _ (call (.builtin "BaseException.__getattribute__") [.ref x, .str "__class__" tt]) _ _ _
  refine wpAny_call (codeAny_call_builtin PySem.F.excAttr_ValueError.ga.plain PySem.F.entry_bexc_ga ?_)
  refine @check_slot (model prog w) _ _ ⟨hp, gg, dr, tt + 1, oss⟩ "BaseException.__getattribute__" "BaseException" "__getattribute__" (.ref x) [.str "__class__" tt] [] _
    (by decide +kernel) (by decide +kernel) isb (PySem.F.args_bexc_ga (.ref x) (.str "__class__" tt)) ?_
  unfold Builtin.«object.__getattribute__»
  refine wpAny_bind (wpAny_of_eq (a := ((Value.ref x : Value), [Value.str "__class__" tt])) (by first | rfl | (simp only [slotArgs]; rfl)) ?_)
  refine wpAny_bind (wpAny_pure (wpAny_bind (A0.at (wpAny_bind (A3.at ?_)))))
  show wpAny _ _ (holding [Value.builtin "object.__class__"] (call (.builtin "getset_descriptor.__get__") [.builtin "object.__class__", .ref x, .ref D]) >>= ret) _ _ _
  refine wpAny_bind (wpAny_holding (wpAny_call (class_get (s := ⟨hp, gg, dr, tt + 1, oss⟩) (ox := ox) (od := od) X I T.hm ?_)))
  refine wpAny_pure ?_
  show wpAny _ _ (handedOut (.ref D)) _ _ _
  rw [handedOut_of (v := .ref D) rfl]
  first
    | exact wpAny_pure (wpAny_pure h)
    | exact wpAny_pure h
    | exact wpAny_pure (wpAny_bind (wpAny_pure (wpAny_pure h)))
theorem kit_exc (T : ExcC K D) : KitX K (.ref x) (.ref D) (fun h => ∃ (o : Obj) (u : Option Obj), InstAt h x o D u) where
  ty := fun _ _ _ ⟨_, _, I⟩ => I.type
  it := fun _ _ X _ => by
    obtain ⟨cd0, hcd0, _⟩ := any_some T.hd
    unfold clsIn at hcd0
    split at hcd0
    · rename_i c1 d1 cd1 sl1 ho1
      intro A1 Q1 E1 s1 k1 q1
      unfold isType loadHead
      exact wpAny_bind (wpAny_loadPart (k1 _ _ (X _ _ ho1)) (wpAny_pure q1))
    · cases hcd0
  ne := fun h tp dd its n sl X htp => by
    obtain ⟨cd0, hcd0, _⟩ := any_some T.hd
    refine Bool.eq_false_iff.mpr fun q => ?_
    have e : D = tp := Value.ref.inj (beq_iff_eq.mp q)
    subst e
    unfold clsIn at hcd0
    split at hcd0
    · rename_i c1 d1 cd1 sl1 ho1
      have y := (X _ _ ho1).symm.trans htp
      cases y
    · cases hcd0
  ca := fun X ⟨_, _, I⟩ k => class_of_exc T X I k
end

/-- an exception of the class at C, with the fields fs -/
def Xn (H : Hp) (a C : Addr) (d : Option Addr) : Prop := H a = some (xob a (.ref C) d) ∧ ∀ dd, d = some dd → ∃ fs, H dd = some (.xd fs)
theorem xd_at {P : Program} {w : World} {H : Hp} {h : Heap} {a : Addr} {fs : List (Str × V)} (ok : HOk P w H h) (e : H a = some (.xd fs)) : ∃ mA, h.Ns1 a mA ∧ ∀ f, RelO (fs.lookup f) (mA f) :=
  (ok a _ e : ObjOk P w H h a (.xd fs))
theorem inst_of {P : Program} {w : World} {H : Hp} {h : Heap} {a C : Addr} {d : Option Addr} (ok : HOk P w H h) (x : Xn H a C d) : ∃ (o : Obj) (u : Option Obj), PySem.W.InstAt h a o C u := by
  obtain ⟨oe, he, ⟨z1, z2⟩, vs, hv⟩ := xob_at ok x.1
  obtain ⟨oc, odi, oda, osl⟩ := oe
  dsimp only at z1 z2 hv
  subst z1 z2 hv
  cases odi with
  | none => exact ⟨_, none, he, rfl, rfl, trivial⟩
  | some dd =>
    obtain ⟨fs, e⟩ := x.2 dd rfl
    obtain ⟨mA, ⟨o, es, ep, ho, _⟩, _⟩ := xd_at ok e
    exact ⟨_, some o, he, rfl, rfl, ho⟩

/-- isinstance(e, c), e an exception that stands -/
def rIsX (K : PySem.W.Frag) : List V → Hp → VK → Prop := fun xs H Q => ∃ (a C : Addr) (d : Option Addr) (c : V) (cv : Value) (b : Bool), xs = [.ref a, c] ∧ Xn H a C d ∧ ExcC K C ∧ ClsV c cv ∧ PySem.W.kitOne K (.ref C) cv = some b ∧ Q (.bl b) H
theorem call_isX {X : Cx} : CallR X (.builtin "isinstance") (rIsX X.K) := by
  intro pins s σ H xs us Q I r h
  obtain ⟨a, C, d, c, cv, b, rfl, x, T, k, e, q⟩ := h
  obtain ⟨u1, u2, rfl, r1, r2⟩ := vals2 r
  have e2 := k.eq r2
  subst e2
  cases (show u1 = Value.ref a from r1)
  exact PySem.W.kia_one (kit_exc T) I.kIn (inst_of I.hok x) e (fun z => nomatch z) fun tk => ⟨.bl b, H, I.tok tk, rfl, q⟩
/-- isinstance(e, (c1, c2, ..)), the tuple laid in the call -/
def rIsXT (K : PySem.W.Frag) : List V → Hp → VK → Prop := fun xs H Q => ∃ (a C tp : Addr) (d : Option Addr) (cs : List V) (us : List Value) (b : Bool), xs = [.ref a, .ref tp] ∧ Xn H a C d ∧ ExcC K C ∧ H tp = some (.tup cs) ∧ Paired ClsV cs us ∧ PySem.W.kitAny K (.ref C) us = some b ∧ Q (.bl b) H
theorem call_isXT {X : Cx} : CallR X (.builtin "isinstance") (rIsXT X.K) := by
  intro pins s σ H xs us Q I r h
  obtain ⟨a, C, tp, d, cs, ws, b, rfl, x, T, ht, k, e, q⟩ := h
  obtain ⟨u1, u2, rfl, r1, r2⟩ := vals2 r
  cases (show u1 = Value.ref a from r1)
  cases (show u2 = Value.ref tp from r2)
  obtain ⟨hl, its, hv, o, h1, h2, h3⟩ := (I.hok tp _ ht : ObjOk X.prog X.w H s.heap tp (.tup cs))
  have ei := ClsV.all k hv
  subst ei
  obtain ⟨oc, odi, oda, osl⟩ := o
  dsimp only at h2 h3
  obtain ⟨n3, h3⟩ := h3
  subst h2 h3
  exact PySem.W.kia_tup (kit_exc T) I.kIn (inst_of I.hok x) h1 e (fun z => nomatch z) fun tk => ⟨.bl b, H, I.tok tk, rfl, q⟩

/-- e.f, e an exception that stands -/
def tXo (K : PySem.W.Frag) (f : Str) (te : TE) : TE := fun σ H Q => te σ H fun x H1 => ∃ (a C dd : Addr) (fs : List (Str × V)) (v : V), x = .ref a ∧ XfC K C ∧ PySem.W.findIn K (.ref C) f = some none ∧
  H1 a = some (xob a (.ref C) (some dd)) ∧ H1 dd = some (.xd fs) ∧ fs.lookup f = some v ∧ Q v H1
theorem pe_xo {X : Cx} {e : Expr} {te : TE} {pos : Pos} {n : Str} (he : PE X e te) (hb : attributeBase e n X.env (eval e X.env) = eval e X.env := by rfl) : PE X (.Attribute e n pos) (tXo X.K n te) := by
  refine ⟨fun pins s σ H Q I h => ?_⟩
  refine attr_of hb (thn (he.run pins s σ H _ I h) fun u s1 hh => ?_)
  obtain ⟨x, H1, I1, rx, a, C, dd, fs, v, ex, T, hno, ha, hd, l, q⟩ := hh
  subst ex
  cases (show u = Value.ref a from rx)
  obtain ⟨oe, he', ⟨z1, z2⟩, vs, hv⟩ := xob_at I1.hok ha
  obtain ⟨mA, hns, hr⟩ := xd_at I1.hok hd
  obtain ⟨od, ho, hl⟩ := lookIn_ns hns
  obtain ⟨u', hu, ru⟩ := RelO.some_of (v := v) (o := mA n) (by rw [← l]; exact hr n)
  have J : PySem.W.InstAt s1.heap a oe C (some od) := ⟨he', z1, by unfold PySem.W.notCls; rw [hv] <;> rfl, by rw [z2]; exact ho⟩
  exact HandSPX.exc_get I1.kIn J T.ga T.gg T.exC (PySem.W.findObj_own T.hdC hno rfl (by rw [hl, hu])) (handed_of ru) ⟨v, H1, I1.tok _, ru, q⟩
end Gd

set_option maxHeartbeats 4000000

/-! ### own exceptions over any of the families -/
namespace Gd
open PySem PySem.Spec PyProof.Rows L2
def refV : Value → Bool
  | .ref _ => true
  | _ => false
theorem refs_of : ∀ {l b : List Value}, l.dropWhile refV = b → ∃ rs : List Addr, l = rs.map Value.ref ++ b
  | [], b, h => ⟨[], by simpa using h⟩
  | a :: r, b, h => by
    rw [List.dropWhile_cons] at h
    cases a with
    | ref c =>
      obtain ⟨rs, e⟩ := refs_of (l := r) (b := b) (by simpa [refV] using h)
      exact ⟨c :: rs, by rw [e]; rfl⟩
    | _ => exact ⟨[], by simpa [refV] using h⟩
/-- what is asked of a family's base -/
structure Fam (newId : String) (b : List Value) : Prop where
  fac : ∃ B initId, ExcBaseFacts B newId initId b
  pass : ∀ self, PySem.refuseLoop self "__setattr__" b = pure ()
  ob : b.contains (.type "object") = true
theorem fam_Value : Fam "ValueError.__new__" [.type "ValueError", .type "Exception", .type "BaseException", .type "object"] := ⟨⟨_, _, F.excBase_ValueError⟩, fun self => by kernel_rfl, by decide +kernel⟩
theorem fam_Arith : Fam "ArithmeticError.__new__" [.type "ArithmeticError", .type "Exception", .type "BaseException", .type "object"] := ⟨⟨_, _, F.excBase_ArithmeticError⟩, fun self => by kernel_rfl, by decide +kernel⟩
theorem fam_Lookup : Fam "LookupError.__new__" [.type "LookupError", .type "Exception", .type "BaseException", .type "object"] := ⟨⟨_, _, F.excBase_LookupError⟩, fun self => by kernel_rfl, by decide +kernel⟩
theorem fam_Runtime : Fam "RuntimeError.__new__" [.type "RuntimeError", .type "Exception", .type "BaseException", .type "object"] := ⟨⟨_, _, F.excBase_RuntimeError⟩, fun self => by kernel_rfl, by decide +kernel⟩
theorem fam_Overflow : Fam "OverflowError.__new__" [.type "OverflowError", .type "ArithmeticError", .type "Exception", .type "BaseException", .type "object"] := ⟨⟨_, _, F.excBase_OverflowError⟩, fun self => by kernel_rfl, by decide +kernel⟩
theorem fam_Exc : Fam "Exception.__new__" [.type "Exception", .type "BaseException", .type "object"] := ⟨⟨_, _, F.excBase_Exception⟩, fun self => by kernel_rfl, by decide +kernel⟩
theorem pass_refs {b : List Value} (p : ∀ self, PySem.refuseLoop self "__setattr__" b = pure ()) (self : Value) : ∀ rs : List Addr, PySem.refuseLoop self "__setattr__" (rs.map Value.ref ++ b) = pure ()
  | [] => p self
  | c :: r => by
    rw [List.map_cons, List.cons_append, PySem.refuseLoop_ref]
    exact pass_refs p self r
theorem contains_refs {b : List Value} (Y : String) : ∀ rs : List Addr, (rs.map Value.ref ++ b).contains (.type Y) = b.contains (.type Y)
  | [] => rfl
  | c :: r => by
    rw [List.map_cons, List.cons_append, List.contains_cons, contains_refs Y r]
    rfl
end Gd

namespace Gd.Sa
open PySem PySem.W PySem.Calls PyProof.Rows Builtin Builtin.ObjectAttr
section
variable {prog : Program} {w : World} {A : Around} {E : Value → Shared → Prop} {R : Result → Shared → Prop} {hh : Heap} {gg : Array GenState} {dr : Drawn} {tt : Nat} {oss : OsState}
variable {K : W.Frag} {nm : Str} {tk : Tok} {v : Value} {x C : Addr} {ox : Obj} {od : Option Obj} {cd : ClassData} {newId : String} {b : List Value}
/-- the way of a store to the own dict -/
theorem osa_way (X : K.In hh) (I : InstAt hh x ox C od) (Fm : Fam newId b) (hcd : clsIn K C = some cd) (hm : cd.mro.dropWhile refV = b) (ha : findIn K (.ref C) nm = some none)
    (hq : wpAny (model prog w) A.in1 (storeInOwnDict (.ref x) (.ref C) (.str nm tk) nm v false)
      (fun fin z => match fin with
        | .done f => R (.ok f) z
        | .again c => c.quiet = true ∧ codeAny (model prog w) A c R z) (fun e z => R (.error e) z) ⟨hh, gg, dr, tt, oss⟩) :
    codeAny (model prog w) A (.call (.builtin "object.__setattr__") ⟨[.ref x, .str nm tk, v], []⟩) R ⟨hh, gg, dr, tt, oss⟩ := by
  obtain ⟨rs, er⟩ := refs_of hm
  have cob : cd.mro.contains (.type "object") = true := by rw [er, contains_refs, Fm.ob]
  have nemp : cd.mro.isEmpty = false := by
    cases e : cd.mro with
    | nil =>
      rw [e] at cob
      cases cob
    | cons _ _ => rfl
  have inob : mroIn K C (.type "object") = some true := by
    unfold mroIn
    rw [hcd, Option.bind_some, if_neg (by rw [nemp]; decide), cob]
  have SO := PySem.F.store_object
  have isob : Looks (model prog w) hh (isInstance (.ref x) (.type "object")) true := I.type.andThen (looks_mroIn X inob)
  have lm : Looks (model prog w) hh (mroOf (.ref C)) cd.mro := (looks_clsIn X hcd).andThen .now
  have lt : Looks (model prog w) hh (storeTaker? none) none := .now
  refine codeAny_call_builtin SO.slot.plain SO.entry (@check_slot (model prog w) _ _ ⟨hh, gg, dr, tt, oss⟩ "object.__setattr__" "object" "__setattr__" (.ref x) [.str nm tk, v] [] _ SO.kind SO.split isob
    (SO.args (.ref x) (.str nm tk) v) ?_)
  rw [osa_eq, refuse_eq]
  refine wpAny_bind (wpAny_bind (I.type.at (wpAny_bind (lm.at ?_))))
  rw [er, pass_refs Fm.pass]
  refine wpAny_pure (wpAny_bind (I.type.at (wpAny_bind ((looks_findIn X ha).at (wpAny_bind (lt.at ?_))))))
  exact hq
theorem osa_first {fv : Array Value} (X : K.In hh) (hx : hh.get? x = some { cls := .ref C, data := .fields fv }) (Fm : Fam newId b) (hcd : clsIn K C = some cd) (hm : cd.mro.dropWhile refV = b) (hd : cd.hasDict = true) (ha : findIn K (.ref C) nm = some none)
    (hq : ∀ h2 tk2 dx, (∀ c o, c ≠ x → hh.get? c = some o → h2.get? c = some o) → hh.objs.size ≤ dx → dx ≠ x → h2.get? x = some { cls := .ref C, dict := some dx, data := .fields fv } →
      h2.Ns1 dx (fun y => if y = nm then some v else none) → R (.ok (.ret .none)) ⟨h2, gg, dr, tk2, oss⟩) :
    codeAny (model prog w) A (.call (.builtin "object.__setattr__") ⟨[.ref x, .str nm tk, v], []⟩) R ⟨hh, gg, dr, tt, oss⟩ := by
  have I : InstAt hh x { cls := .ref C, data := .fields fv } C none := ⟨hx, rfl, rfl, trivial⟩
  have xs : x ≠ hh.objs.size := Nat.ne_of_lt (Heap.lt_size hx)
  refine osa_way X I Fm hcd hm ha ?_
  have lc : Looks (model prog w) hh (classData C) cd := looks_clsIn X hcd
  obtain ⟨n0, b0, m0, ns0, q0, hd0, sn0, sb0, ab0, co0, de0⟩ := cd
  dsimp only at hd
  subst hd
  unfold storeInOwnDict ownDictForStores
  repeat (first
    | with_reducible refine PySem.HandSPX.store_in_new ?_ ?_
    | with_reducible refine wpAny_loadPart_at hx ?_
    | with_reducible refine lc.at ?_
    | wp_step)
  · exact ⟨_, #[], _, (Heap.get?_update_ne _ _ _ _ xs.symm).trans (Heap.get?_push_at rfl rfl), rfl, fun e he => absurd he (by simp), fun _ => rfl⟩
  · intro h2 tk2 hn2 sb2
    have px : (hh.push { cls := .type "dict", data := .dict #[] }).get? x = some { cls := .ref C, data := .fields fv } := Heap.get?_push_of_some _ hx
    refine hq h2 tk2 hh.objs.size (fun c o hc ho => ?_) (Nat.le_refl _) xs.symm ?_ hn2
    · exact (sb2.2 c (Nat.ne_of_lt (Heap.lt_size ho))).trans ((Heap.get?_update_ne _ _ _ _ hc).trans (Heap.get?_push_of_some _ ho))
    · exact (sb2.2 x xs).trans (Heap.get?_update_self _ px rfl)
theorem osa_more {fv : Array Value} {dx : Addr} {m0 : Str → Option Value} {nl : List Str} (X : K.In hh) (hx : hh.get? x = some { cls := .ref C, dict := some dx, data := .fields fv }) (hn : hh.Ns1 dx m0) (hw : Within m0 nl) (hz : nl.length ≤ 1000)
    (Fm : Fam newId b) (hcd : clsIn K C = some cd) (hm : cd.mro.dropWhile refV = b) (hd : cd.hasDict = true) (ha : findIn K (.ref C) nm = some none)
    (hq : ∀ h2 tk2, (∀ c o, c ≠ dx → hh.get? c = some o → h2.get? c = some o) → h2.Ns1 dx (fun y => if y = nm then some v else m0 y) → R (.ok (.ret .none)) ⟨h2, gg, dr, tk2, oss⟩) :
    codeAny (model prog w) A (.call (.builtin "object.__setattr__") ⟨[.ref x, .str nm tk, v], []⟩) R ⟨hh, gg, dr, tt, oss⟩ := by
  obtain ⟨oD, _, _, ho, _, _⟩ := hn.count hw
  have I : InstAt hh x { cls := .ref C, dict := some dx, data := .fields fv } C (some oD) := ⟨hx, rfl, rfl, ho⟩
  refine osa_way X I Fm hcd hm ha ?_
  have lc : Looks (model prog w) hh (classData C) cd := looks_clsIn X hcd
  obtain ⟨n0, b0, mr0, ns0, q0, hd0, sn0, sb0, ab0, co0, de0⟩ := cd
  dsimp only at hd
  subst hd
  unfold storeInOwnDict ownDictForStores
  repeat (first
    | with_reducible refine PySem.OEX.store_in_old hn hw hz ?_
    | with_reducible refine wpAny_loadPart_at hx ?_
    | with_reducible refine lc.at ?_
    | wp_step)
  intro h2 tk2 hn2 sb2
  exact hq h2 tk2 (fun c o hc ho => (sb2.2 c hc).trans ho) hn2
end
end Gd.Sa

namespace Gd
open PySem PySem.Spec PyProof.Rows L2
/-- what the written part says of an own exception class -/
structure OxC (K : PySem.W.Frag) (C : Addr) : Prop where
  cls : ∃ newId b nm q N bs bm sn sub ab col dd k0 k1 k2 k3 k5, Fam newId b ∧ K.lookup C = some (excClassObj nm q C N bs bm true sn sub ab col dd k0 k1 k2 k3 k5 newId) ∧ bm.dropWhile refV = b
  sa : PySem.W.findIn K (.ref C) "__setattr__" = some (some (.builtin "object.__setattr__"))
  exC : PySem.W.subIn K (.ref C) (.type "BaseException") = some true
  tyC : PySem.W.typeIn K (.ref C) = some (.type "type")
  kC : PySem.W.keepIn K (.ref C) = true
theorem OxC.clsIn {K : PySem.W.Frag} {C : Addr} (T : OxC K C) : ∃ newId b cd, Fam newId b ∧ PySem.W.clsIn K C = some cd ∧ cd.mro.dropWhile refV = b ∧ cd.hasDict = true := by
  obtain ⟨newId, b, nm, q, N, bs, bm, sn, sub, ab, col, dd, k0, k1, k2, k3, k5, Fm, hC, hb⟩ := T.cls
  exact ⟨newId, b, { name := nm, bases := bs, mro := .ref C :: bm, ns := N, qualname := q, hasDict := true, slotNames := sn, subclasses := sub, abstract := ab, collection := col, hasDel := false }, Fm, by unfold PySem.W.clsIn; rw [hC] <;> rfl, hb, rfl⟩

section
variable {X : Cx} {pins : List (Addr × Obj)} {σ : L2.St} {H : Hp} {s : Shared} {a C dx : Addr} {f : Str} {y : V} {u : Value} {fs : List (Str × V)} {Q : Unit → Shared → Prop} {E : Value → Shared → Prop} {A : Around}
theorem xst_new (T : OxC X.K C) (I : Inv X pins σ H s) (e : H a = some (exo a C none)) (hno : PySem.W.findIn X.K (.ref C) f = some none) (ry : L2.RelV y u)
    (h : ∀ dx z, H dx = none → dx ≠ a → Inv X pins σ (upd (upd H dx (exd dx [(f, y)])) a (exo a C (some dx))) z → Q () z) : wpAny (model X.prog X.w) A (setAttr (.ref a) f u) Q E s := by
  obtain ⟨newId, b, cd, Fm, hcd, hm, hd⟩ := T.clsIn
  obtain ⟨t1, ho⟩ := exo_at I.hok e
  obtain ⟨hp, gg, dr, tt, oss⟩ := s
  refine PySem.W.set_plain I.kIn (od := none) ⟨ho, rfl, rfl, trivial⟩ T.sa ?_
  refine Sa.osa_first I.kIn ho Fm hcd hm hd hno fun h2 tk2 dx k dn dne hx hn => ?_
  have hnd : H dx = none := I.hok.fresh dn
  have nd : ∀ {c : Addr} {o : Obj}, hp.get? c = some o → c ≠ dx := fun {c o} q => Nat.ne_of_lt (Nat.lt_of_lt_of_le (Heap.lt_size q) dn)
  have na : ∀ {c : Addr}, H c = none → c ≠ a := fun {c} n q => by
    rw [q, e] at n
    cases n
  have U : Un X.fs [] H (upd (upd H dx (exd dx [(f, y)])) a (exo a C (some dx))) hp h2 := by
    refine ⟨fun c o q n _ _ => k c o (na n) q, fun c o q n _ _ => ⟨o.slots, k c o (na n) q⟩, fun c o q n _ => ?_, fun c o q _ => ?_, fun c xs q => ?_, fun c o v q => ?_, fun c ps q => ?_⟩
    · rw [upd_ne (na n), upd_ne (nd q)]
      exact n
    · by_cases hc : c = a
      · exact ⟨_, by rw [hc]; exact hx⟩
      · exact ⟨o, k c o hc q⟩
    · rw [upd_ne (at_ne e q exo_tup), upd_ne (ne_of_none q hnd)]
      exact q
    · rw [upd_ne (at_ne e q exo_frz), upd_ne (ne_of_none q hnd)]
      exact q
    · exact ⟨#[], by rw [upd_ne (at_ne e q exo_tbl), upd_ne (ne_of_none q hnd), q]; simp⟩
  refine h dx _ hnd dne (I.un (t' := tk2) U fun c o q => ?_)
  by_cases hc : c = a
  · subst hc
    rw [upd_same] at q
    cases q
    exact exo_ok hx
  · rw [upd_ne hc] at q
    by_cases hd2 : c = dx
    · subst hd2
      rw [upd_same] at q
      cases q
      exact exd_ok hn (relO_put (fs := []) ry fun g => True.intro)
    · rw [upd_ne hd2] at q
      refine (I.hok c o q).stay (fun c2 v h3 z => k c2 v ?_ z) (fun c2 h3 => ?_) fun c2 xs h3 => ?_
      · rcases h3 with h3 | h3
        · rw [h3]
          exact hc
        · exact at_ne e h3 exo_own
      · rw [upd_ne (at_ne e h3 exo_own), upd_ne (ne_of_none h3 hnd)]
        exact h3
      · rw [upd_ne (at_ne e h3 exo_tup), upd_ne (ne_of_none h3 hnd)]
        exact h3
theorem xst_more (T : OxC X.K C) (I : Inv X pins σ H s) (e : H a = some (exo a C (some dx))) (ed : H dx = some (exd dx fs)) (hl : fs.length ≤ 900) (hno : PySem.W.findIn X.K (.ref C) f = some none) (ry : L2.RelV y u)
    (h : ∀ z, Inv X pins σ (upd H dx (exd dx ((f, y) :: fs))) z → Q () z) : wpAny (model X.prog X.w) A (setAttr (.ref a) f u) Q E s := by
  obtain ⟨newId, b, cd, Fm, hcd, hm, hd⟩ := T.clsIn
  obtain ⟨t1, ho⟩ := exo_at I.hok e
  obtain ⟨mA, hns, rel⟩ := exd_at I.hok ed
  have hw := within_of rel
  obtain ⟨hp, gg, dr, tt, oss⟩ := s
  obtain ⟨oD, _, _, hoD, _, _⟩ := hns.count hw
  refine PySem.W.set_plain I.kIn (od := some oD) ⟨ho, rfl, rfl, hoD⟩ T.sa ?_
  refine Sa.osa_more I.kIn ho hns hw (by rw [List.length_map]; omega) Fm hcd hm hd hno fun h2 tk2 k hn => ?_
  obtain ⟨o2, es2, ep2, e2, r2⟩ := id hn
  exact h _ (I.write (t' := tk2) (x := dx) (e := dx) (o := exd dx ((f, y) :: fs)) (by rw [ed]; exact True.intro) (.inl rfl) k ⟨o2, e2⟩ (exd_ok hn (relO_put ry rel)))
end
/-- self.f = e, in the __init__ of an own exception -/
def tXst (K : PySem.W.Frag) (f : Str) (to te : TE) : TS := fun D σ H => te σ H fun y H1 => to σ H1 fun x H2 => ∃ a C : Addr, x = .ref a ∧ OxC K C ∧ PySem.W.findIn K (.ref C) f = some none ∧
  ((H2 a = some (exo a C none) ∧ ∀ dx, H2 dx = none → dx ≠ a → D.nx σ (upd (upd H2 dx (exd dx [(f, y)])) a (exo a C (some dx)))) ∨
    ∃ (dx : Addr) (fs : List (Str × V)), H2 a = some (exo a C (some dx)) ∧ H2 dx = some (exd dx fs) ∧ fs.length ≤ 900 ∧ D.nx σ (upd H2 dx (exd dx ((f, y) :: fs))))
theorem ps_xst {X : Cx} {o e : Expr} {to te : TE} {f : Str} {p' pos : Pos} (ho : PE X o to) (he : PE X e te) (hs : swapsWith e (some (.Attribute o f p')) pos.line X.env = pure false := by rfl) :
    PS X (.Assign [.Attribute o f p'] e pos) (tXst X.K f to te) := by
  refine ⟨fun pins s σ H D I h => ?_⟩
  refine plainObj_wpAny_Assign_Attribute (thn (he.run pins s σ H _ I h) fun v s1 h1 => ?_) hs
  obtain ⟨y, H1, I1, r1, q1⟩ := h1
  refine thn (ho.run pins s1 σ H1 _ I1 q1) fun u s2 h2 => ?_
  obtain ⟨x, H2, I2, r2, a, C, ex, T, hno, q⟩ := h2
  subst ex
  cases (show u = Value.ref a from r2)
  rcases q with ⟨ea, q⟩ | ⟨dx, fs, ea, ed, hl, q⟩
  · exact xst_new T I2 ea hno r1 fun dx z n ne J => ⟨σ, _, J, q dx n ne⟩
  · exact xst_more T I2 ea ed hl hno r1 fun z J => ⟨σ, _, J, q⟩
end Gd

set_option maxHeartbeats 4000000
namespace Gd
open PySem PySem.Spec PyProof.Rows L2

/-! ### C(e, ..) of an own exception class with an own __init__, as a value and raised -/
/-- what stands behind the __init__: its exception at a, with the fields fs in the dict d -/
def Made (a C d : Addr) (fs : List (Str × V)) (H : Hp) : Prop := H a = some (exo a C (some d)) ∧ H d = some (exd d fs)
/-- the heap in which it stands as an exception -/
def stand (H : Hp) (a C d : Addr) (fs : List (Str × V)) : Hp := upd (upd H a (xob a (.ref C) (some d))) d (.xd fs)
theorem exo_mut {e C : Addr} {d : Option Addr} : Mut (some (exo e C d)) := True.intro
theorem exd_mut {e : Addr} {fs : List (Str × V)} : Mut (some (exd e fs)) := True.intro
theorem upd_self {H : Hp} {a : Addr} {o : HO} (e : H a = some o) : upd H a o = H := by
  funext b
  by_cases hb : b = a
  · rw [hb, upd_same, e]
  · rw [upd_ne hb]
theorem made_ne {H : Hp} {h : Heap} {P : Program} {w : World} {a C d : Addr} {fs : List (Str × V)} (ok : HOk P w H h) (m : Made a C d fs H) : d ≠ a := fun z => by
  obtain ⟨t0, hoe⟩ := exo_at ok m.1
  obtain ⟨mA, ⟨o, es, ep, e1, e2, _⟩, _⟩ := exd_at ok m.2
  rw [z, hoe] at e1
  have z2 := Option.some.inj e1
  subst z2
  cases e2
theorem inv_stand {X : Cx} {pins : List (Addr × Obj)} {σ : L2.St} {H : Hp} {s : Shared} {a C d : Addr} {fs : List (Str × V)} (I : Inv X pins σ H s) (m : Made a C d fs H) : Inv X pins σ (stand H a C d fs) s := by
  have ne := made_ne I.hok m
  obtain ⟨t0, hoe⟩ := exo_at I.hok m.1
  have I1 := I.write (h' := s.heap) (t' := s.toks) (x := a) (e := a) (o := xob a (.ref C) (some d)) (by rw [m.1]; exact exo_mut) (.inl rfl) (fun b u _ e => e) ⟨_, hoe⟩ (xob_ok hoe ⟨rfl, rfl⟩ rfl)
  obtain ⟨mA, hns, rel⟩ := exd_at I.hok m.2
  obtain ⟨o, es, ep, e1, e2⟩ := id hns
  have ed : upd H a (xob a (.ref C) (some d)) d = some (exd d fs) := by rw [upd_ne ne]; exact m.2
  exact I1.write (h' := s.heap) (t' := s.toks) (x := d) (e := d) (o := .xd fs) (by rw [ed]; exact exd_mut) (.inl rfl) (fun b u _ e => e) ⟨_, e1⟩ ⟨mA, hns, rel⟩

/-- the class's own __init__: its def, its place -/
structure OxI (K : PySem.W.Frag) (C fI : Addr) : Prop extends OxC K C where
  iC : PySem.W.findIn K (.ref C) "__init__" = some (some (.ref fI))
  tI : PySem.W.typeIn K (.ref fI) = some (.type "function")
def tXmV (C : Addr) (sp : Sp) (dvs : List V) (ta : TA) : TE := fun σ H Q => ta σ H fun vs H1 => vs.length ≤ 1000 ∧ ∀ a, H1 a = none → sp (.ref a :: (vs ++ dvs)) (upd H1 a (exo a C none))
  (fun v H2 => v = .non ∧ ∃ (d : Addr) (fs : List (Str × V)), Made a C d fs H2 ∧ Q (.ref a) (stand H2 a C d fs)) (fun _ _ _ => False)
section
variable {X : Cx} {CX : CXT} {k : Nat} {C fI : Addr} {fd : FuncData} {ps : List Str} {sp : Sp} {ds : List Value} {dvs : List V} {x : Str} {e : Expr} {es : List Expr} {ta : TA} {p pos : Pos}
theorem run_xm {pins : List (Addr × Obj)} {σ : L2.St} {H1 : Hp} {s1 : Shared} {us : List Value} {vs : List V} {R : Value → Shared → Prop} (T : OxI X.K C fI) (F1 : FnOk X.prog X.w X.K X.mg X.base CX k fI fd ps sp) (hr : Room (k + 1) X.A) (hb : Binds X.K fd ps ds) (hd : Vals dvs ds)
    (hx : Passes CX X (fun _ _ _ => False)) (I1 : Inv X pins σ H1 s1) (r1 : Vals vs us) (hz : vs.length ≤ 1000) {Q : Addr → VK} (q1 : ∀ a, H1 a = none → sp (.ref a :: (vs ++ dvs)) (upd H1 a (exo a C none)) (Q a) (fun _ _ _ => False))
    (fin : ∀ (a : Addr) (v : V) (H2 : Hp) (z : Shared) (u : Value), H1 a = none → Inv X pins σ H2 z → L2.RelV v u → Q a v H2 → u = .none ∧ R (.ref a) z) :
    wpAny (model X.prog X.w) X.A (call (.ref C) us) R X.xe s1 := by
  obtain ⟨newId, b, nm, q, N, bs, bm, sn, sub, ab, col, dd, k0, k1, k2, k3, k5, Fm, hC, hbm⟩ := T.cls
  obtain ⟨B, initId, FB⟩ := Fm.fac
  obtain ⟨rs, er⟩ := refs_of hbm
  have hT : ∀ Y : String, bm.contains (.type Y) = b.contains (.type Y) := fun Y => by rw [er, contains_refs]
  obtain ⟨hp, g, dr, tk, os⟩ := s1
  have hsz : hp.objs.size ≤ hp.objs.size + 1 := Nat.le_succ _
  have hn : H1 (hp.objs.size + 1) = none := I1.hok.fresh hsz
  have hq := q1 (hp.objs.size + 1) hn
  have kk : ∀ c o, hp.get? c = some o → ((hp.push (PySem.W.kdv_tup us)).push (PySem.HandSPX.excO C hp.objs.size)).get? c = some o := fun c o y => Heap.get?_push_of_some _ (Heap.get?_push_of_some _ y)
  have hget : ((hp.push (PySem.W.kdv_tup us)).push (PySem.HandSPX.excO C hp.objs.size)).get? (hp.objs.size + 1) = some (PySem.HandSPX.excO C hp.objs.size) := by heap_get
  have I2 : Inv X pins σ (upd H1 (hp.objs.size + 1) (exo (hp.objs.size + 1) C none)) ⟨(hp.push (PySem.W.kdv_tup us)).push (PySem.HandSPX.excO C hp.objs.size), g, dr, tk, os⟩ :=
    I1.laid (t' := tk) kk hsz (exo_ok hget)
  have r2 : Vals (V.ref (hp.objs.size + 1) :: (vs ++ dvs)) (Value.ref (hp.objs.size + 1) :: (us ++ ds)) := .cons rfl (r1.append hd)
  have hl : (Value.ref (hp.objs.size + 1) :: us ++ ds).length = ps.length := by
    have y := r2.length
    rw [F1.len _ _ _ _ hq] at y
    exact y.symm
  have hus : us.length ≤ sizeLine := by
    rw [← Paired.length r1, sizeLine_eq]
    omega
  refine wpAny_call (PySem.HandSPX.call_own FB hT (I1.kIn _ _ hC) (PySem.W.looks_findIn I1.kIn T.iC) (fun self => PySem.W.bind_fn I1.kIn self T.tI) hus ?_)
  refine codeAny_mono (F1.run _ X.stack _ _ ⟨Value.ref (hp.objs.size + 1) :: us, []⟩ (Value.ref (hp.objs.size + 1) :: (us ++ ds)) _ _ (fun _ _ _ => False) (hr.make C us []) (I2.env0.make C us []) (hb _ (Value.ref (hp.objs.size + 1) :: us) I2.kIn hl) r2 hq) fun r z hz2 => ?_
  cases r with
  | error er2 => exact hx pins σ _ _ er2 z I2 hz2
  | ok fl =>
    cases fl with
    | ret u =>
      obtain ⟨v, H3, I3, rv, q3⟩ := I2.after hz2
      obtain ⟨e1, e2⟩ := fin _ v H3 z u hn I3 rv q3
      exact ⟨e1, e2⟩
    | next => exact False.elim hz2
    | brk => exact False.elim hz2
    | cont => exact False.elim hz2
/-- as a value -/
theorem pe_xm (T : OxI X.K C fI) (F1 : FnOk X.prog X.w X.K X.mg X.base CX k fI fd ps sp) (hr : Room (k + 1) X.A) (hg : Gl X x) (hm : X.mg x = some (.ref C)) (hb : Binds X.K fd ps ds) (hd : Vals dvs ds) (hx : Passes CX X (fun _ _ _ => False)) (ha : PA X (e :: es) ta)
    (hdb : (x == ("__debug__" : Str)) = false := by decide) (he : starEach (e :: es) X.env = (false, eval e X.env) :: starEach es X.env := by rfl) (hpl : (backTo pos (starEach es X.env)).any (·.1) = false := by rfl) :
    PE X (.Call (.Name x p) (e :: es) [] pos) (tXmV C sp dvs ta) := by
  refine ⟨fun pins s σ H Q I h => ?_⟩
  refine wpAny_Call_Name_kw (ld_glob I hg hm ?_ hdb)
  refine PySem.W.callWith_K (h₀ := X.base) I.ok.mod.kin T.kC (thn (ha.run pos pins s σ H _ I h) fun us s1 h1 => ?_) he hpl
  obtain ⟨vs, H1, I1, r1, hz, q1⟩ := h1
  refine ⟨I1.kIn, ?_⟩
  show wpAny _ _ (call (.ref C) us) _ _ _
  refine run_xm T F1 hr hb hd hx I1 r1 hz q1 fun a v H2 z u hn I2 rv q => ?_
  obtain ⟨ev, d, fs, m, q⟩ := q
  subst ev
  exact ⟨rv, .ref a, _, inv_stand I2 m, rfl, q⟩
/-- raised -/
theorem pmk_xm (T : OxI X.K C fI) (F1 : FnOk X.prog X.w X.K X.mg X.base CX k fI fd ps sp) (hr : Room (k + 1) X.A) (hg : Gl X x) (hm : X.mg x = some (.ref C)) (hb : Binds X.K fd ps ds) (hd : Vals dvs ds) (hx : Passes CX X (fun _ _ _ => False)) (ha : PA X (e :: es) ta)
    (hdb : (x == ("__debug__" : Str)) = false := by decide) (he : starEach (e :: es) X.env = (false, eval e X.env) :: starEach es X.env := by rfl) (hpl : (backTo pos (starEach es X.env)).any (·.1) = false := by rfl) :
    PMk X (.Call (.Name x p) (e :: es) [] pos) (tMkO C sp dvs ta) := by
  intro pins s σ H Q I h
  obtain ⟨newId, b, nm, q, N, bs, bm, sn, sub, ab, col, dd, k0, k1, k2, k3, k5, Fm, hC, hbm⟩ := T.cls
  obtain ⟨B, initId, FB⟩ := Fm.fac
  obtain ⟨rs, er⟩ := refs_of hbm
  have hT : ∀ Y : String, bm.contains (.type Y) = b.contains (.type Y) := fun Y => by rw [er, contains_refs]
  refine wpAny_Call_Name_kw (ld_glob I hg hm ?_ hdb)
  refine PySem.W.callWith_K (h₀ := X.base) I.ok.mod.kin T.kC (thn (ha.run pos pins s σ H _ I h) fun us s1 h1 => ?_) he hpl
  obtain ⟨vs, H1, I1, r1, hz, q1⟩ := h1
  refine ⟨I1.kIn, ?_⟩
  show wpAny _ _ (call (.ref C) us) _ _ _
  obtain ⟨hp, g, dr, tk, os⟩ := s1
  have sz1 : hp.objs.size ≤ hp.objs.size + 1 := Nat.le_succ _
  have n1 : H1 (hp.objs.size + 1) = none := I1.hok.fresh sz1
  have q2 := q1 (hp.objs.size + 1) n1
  have kk : ∀ c o, hp.get? c = some o → ((hp.push (PySem.W.kdv_tup us)).push (PySem.HandSPX.excO C hp.objs.size)).get? c = some o := fun c o y => Heap.get?_push_of_some _ (Heap.get?_push_of_some _ y)
  have got : ((hp.push (PySem.W.kdv_tup us)).push (PySem.HandSPX.excO C hp.objs.size)).get? (hp.objs.size + 1) = some (PySem.HandSPX.excO C hp.objs.size) := by heap_get
  have J2 : Inv X pins σ (upd H1 (hp.objs.size + 1) (exo (hp.objs.size + 1) C none)) ⟨(hp.push (PySem.W.kdv_tup us)).push (PySem.HandSPX.excO C hp.objs.size), g, dr, tk, os⟩ :=
    I1.laid (t' := tk) kk sz1 (exo_ok got)
  have rr : Vals (V.ref (hp.objs.size + 1) :: (vs ++ dvs)) (Value.ref (hp.objs.size + 1) :: (us ++ ds)) := .cons rfl (r1.append hd)
  have ll : (Value.ref (hp.objs.size + 1) :: us ++ ds).length = ps.length := by
    have y := rr.length
    rw [F1.len _ _ _ _ q2] at y
    exact y.symm
  have lu : us.length ≤ sizeLine := by
    rw [← Paired.length r1, sizeLine_eq]
    omega
  refine wpAny_call (PySem.HandSPX.call_own FB hT (I1.kIn _ _ hC) (PySem.W.looks_findIn I1.kIn T.iC) (fun self => PySem.W.bind_fn I1.kIn self T.tI) lu ?_)
  refine codeAny_mono (F1.run _ X.stack _ _ ⟨Value.ref (hp.objs.size + 1) :: us, []⟩ (Value.ref (hp.objs.size + 1) :: (us ++ ds)) _ _ (fun _ _ _ => False) (hr.make C us []) (J2.env0.make C us []) (hb _ (Value.ref (hp.objs.size + 1) :: us) J2.kIn ll) rr q2) fun r z hz2 => ?_
  cases r with
  | error er2 => exact hx pins σ _ _ er2 z J2 hz2
  | ok fl =>
    cases fl with
    | ret u =>
      obtain ⟨v, H3, os3, bare3, un3, hok3, rv, ev, d, fs, ea, ed, hd1, q3⟩ := hz2
      subst ev
      obtain ⟨h3, g3, d3, t3, os4⟩ := z
      exact ⟨rv, mk_end (raises_own T.exC T.tyC) I1 sz1 kk un3 hok3 os3 bare3 ea ed hd1 q3⟩
    | next => exact False.elim hz2
    | brk => exact False.elim hz2
    | cont => exact False.elim hz2
end

/-! ### the promise of such an __init__: self.f = f, for each of its parameters -/
def spI (K : PySem.W.Frag) (C : Addr) (fs : List Str) : Sp := fun vs H Q _ => ∃ (a : Addr) (ys : List V), vs = .ref a :: ys ∧ ys.length = fs.length ∧ H a = some (exo a C none) ∧
  ∀ dx, H dx = none → dx ≠ a → Q .non (upd (upd H dx (exd dx (fs.zip ys).reverse)) a (exo a C (some dx)))
theorem stand_eq {H : Hp} {a C dx : Addr} {fs : List (Str × V)} (ne : dx ≠ a) : stand (upd (upd (upd H a (exo a C none)) dx (exd dx fs)) a (exo a C (some dx))) a C dx fs = upd (upd H a (xob a (.ref C) (some dx))) dx (.xd fs) := by
  funext b
  unfold stand
  by_cases h1 : b = dx
  · subst h1
    rw [upd_same, upd_same]
  · rw [upd_ne h1, upd_ne h1]
    by_cases h2 : b = a
    · subst h2
      rw [upd_same, upd_same]
    · rw [upd_ne h2, upd_ne h2, upd_ne h2, upd_ne h1, upd_ne h2]
theorem made_of {H : Hp} {a C dx : Addr} {fs : List (Str × V)} (ne : dx ≠ a) : Made a C dx fs (upd (upd H dx (exd dx fs)) a (exo a C (some dx))) :=
  ⟨upd_same, by rw [upd_ne ne]; exact upd_same⟩
/-- what is left to be shown of C(e, ..) -/
theorem q_xm {K : PySem.W.Frag} {C : Addr} {fs : List Str} {vs : List V} {H1 : Hp} {Q : VK} (hl : vs.length = fs.length) (hs : fs.length ≤ 1000)
    (h : ∀ a dx, H1 a = none → H1 dx = none → dx ≠ a → Q (.ref a) (upd (upd H1 a (xob a (.ref C) (some dx))) dx (.xd (fs.zip vs).reverse))) :
    vs.length ≤ 1000 ∧ ∀ a, H1 a = none → spI K C fs (.ref a :: (vs ++ [])) (upd H1 a (exo a C none))
      (fun v H2 => v = .non ∧ ∃ (d : Addr) (fs : List (Str × V)), Made a C d fs H2 ∧ Q (.ref a) (stand H2 a C d fs)) (fun _ _ _ => False) := by
  refine ⟨by omega, fun a na => ⟨a, vs, by rw [List.append_nil], hl, upd_same, fun dx nd ne => ⟨rfl, dx, _, made_of ne, ?_⟩⟩⟩
  rw [stand_eq ne]
  rw [upd_ne ne] at nd
  exact h a dx na nd ne
/-- .. and of its being raised -/
theorem q_xmr {K : PySem.W.Frag} {C : Addr} {fs : List Str} {vs : List V} {H1 : Hp} {Q : XK} (hl : vs.length = fs.length) (hs : fs.length ≤ 1000)
    (h : ∀ dx, H1 dx = none → Q (.ref C) (some dx) (upd H1 dx (.xd (fs.zip vs).reverse))) :
    vs.length ≤ 1000 ∧ ∀ a, H1 a = none → spI K C fs (.ref a :: (vs ++ [])) (upd H1 a (exo a C none))
      (fun v H2 => v = .non ∧ ∃ (d : Addr) (fs : List (Str × V)), H2 a = some (exo a C (some d)) ∧ H2 d = some (exd d fs) ∧ H1 d = none ∧ Q (.ref C) (some d) (upd (del H2 a) d (.xd fs))) (fun _ _ _ => False) := by
  refine ⟨by omega, fun a na => ⟨a, vs, by rw [List.append_nil], hl, upd_same, fun dx nd ne => ?_⟩⟩
  rw [upd_ne ne] at nd
  refine ⟨rfl, dx, _, upd_same, by rw [upd_ne ne]; exact upd_same, nd, ?_⟩
  have e : upd (del (upd (upd (upd H1 a (exo a C none)) dx (exd dx (fs.zip vs).reverse)) a (exo a C (some dx))) a) dx (.xd (fs.zip vs).reverse) = upd H1 dx (.xd (fs.zip vs).reverse) := by
    funext b
    by_cases h1 : b = dx
    · rw [h1, upd_same, upd_same]
    · rw [upd_ne h1, upd_ne h1]
      by_cases h2 : b = a
      · rw [h2, del_same, na]
      · rw [del_ne h2, upd_ne h2, upd_ne h1, upd_ne h2]
  rw [e]
  exact h dx nd
end Gd

set_option maxHeartbeats 4000000

/-! ### an own exception class called with keywords -/
namespace Gd.Kw
open PySem PySem.W PySem.Calls PyProof.Rows PySem.HandSPX
section
variable {prog : Program} {w : World} {M : Model} {A : Around} {E : Value → Shared → Prop} {R : Result → Shared → Prop} {hh : Heap} {gg : Array GenState} {dr : Drawn} {tt : Nat} {oss : OsState}
variable {nm q : Str} {C N : Addr} {bs bm b : List Value} {hdct : Bool} {sn : List Str} {sub : List Value} {ab : Bool} {col : Option Bool} {dd : Option Addr} {k0 k1 k2 k3 k5 : Option Value} {B newId initId : String} {rest : List Value} {kw : List (Str × Value)}
theorem may_new (FB : ExcBaseFacts B newId initId b) (hT : ∀ Y : String, bm.contains (.type Y) = b.contains (.type Y)) {Q : Unit → Shared → Prop}
    (hC : hh.get? C = some (excClassObj nm q C N bs bm hdct sn sub ab col dd k0 k1 k2 k3 k5 newId)) (hq : Q () ⟨hh, gg, dr, tt, oss⟩) : wpAny M A (checkBuiltinCall newId ⟨.ref C :: rest, kw⟩) Q E ⟨hh, gg, dr, tt, oss⟩ := by
  have has : (Value.ref C :: bm).contains (.type B) = true := by rw [List.contains_cons, hT, FB.hasB, Bool.or_true]
  have st := FB.noStar
  simp only [checkBuiltinCall, FB.newKind, FB.newSplit, FB.newRow]
  repeat (first
    | refine wpAny_loadPart_at hC ?_
    | (refine wpAny_isSubtype_exc hC ?_; rw [has])
    | refine wpAny_staticBase_exc hC ?_
    | refine wpAny_madeBy_exc hC ?_
    | simp only [bne_self_eq_false, Bool.false_eq_true, if_false]
    | wp_step)
  exact hq
theorem made_new (FB : ExcBaseFacts B newId initId b) (hT : ∀ Y : String, bm.contains (.type Y) = b.contains (.type Y))
    (hC : hh.get? C = some (excClassObj nm q C N bs bm hdct sn sub ab col dd k0 k1 k2 k3 k5 newId)) (hl : rest.length ≤ sizeLine)
    (hq : R (.ok (.ret (.ref (hh.objs.size + 1)))) ⟨(hh.push (kdv_tup rest)).push (excO C hh.objs.size), gg, dr, tt, oss⟩) :
    codeAny (model prog w) A (.builtin newId ⟨.ref C :: rest, kw⟩) R ⟨hh, gg, dr, tt, oss⟩ := by
  have en := FB.ends
  have has : (Value.ref C :: bm).contains (.type B) = true := by rw [List.contains_cons, hT, FB.hasB, Bool.or_true]
  have hasA : (Value.ref C :: bm).contains (.type "AttributeError") = false := by
    rw [List.contains_cons, hT, FB.noAttr]
    rfl
  have hasN : (Value.ref C :: bm).contains (.type "NameError") = false := by
    rw [List.contains_cons, hT, FB.noName]
    rfl
  refine codeAny_builtinAt FB.entry ?_
  unfold Builtin.«BaseException.__new__»
  refine PySem.wpAt_bind ?_
  show PySem.wpAt _ _ _ (stack >>= _) _ _ _
  refine PySem.wpAt_bind (PySem.wpAt_stack fun p below => PySem.wpAt_of_wpAny ?_)
  wp_walk
  refine PySem.wpAt_of_wpAny ?_
  rw [FB.owner]
  repeat (first
    | with_reducible refine wpAny_madeHere_exc FB.canon hC ?_
    | with_reducible refine wpAny_loadPart_at hC ?_
    | (with_reducible refine wpAny_isSubtype_exc hC ?_; first | rw [has] | rw [hasA] | rw [hasN])
    | wp_step)
  show R _ _
  rw [Heap.size_push]
  exact hq
theorem type_call (FB : ExcBaseFacts B newId initId b) (hT : ∀ Y : String, bm.contains (.type Y) = b.contains (.type Y)) {fI : Addr} {Q : Fin → Shared → Prop}
    (hC : hh.get? C = some (excClassObj nm q C N bs bm hdct sn sub ab col dd k0 k1 k2 k3 k5 newId)) (hl : rest.length ≤ sizeLine)
    (hi : Looks (model prog w) hh (typeLookup (.ref C) "__init__") (some (.ref fI))) (hb : ∀ self, Looks (model prog w) hh (bindSpecial (.ref fI) self) (.ref fI, [self]))
    (hq : codeAny (model prog w) A (.call (.ref fI) ⟨.ref (hh.objs.size + 1) :: rest, kw⟩)
      (fun r z => match r with
        | .ok (.ret v) => v = .none ∧ Q (.done (.ret (.ref (hh.objs.size + 1)))) z
        | .ok _ => False
        | .error e => E e z)
      ⟨(hh.push (kdv_tup rest)).push (excO C hh.objs.size), gg, dr, tt, oss⟩) :
    wpAny (model prog w) A (Builtin.«type.__call__» ⟨.ref C :: rest, kw⟩) Q E ⟨hh, gg, dr, tt, oss⟩ := by
  repeat (first
    | with_reducible refine wpAny_loadPart_at hC ?_
    | with_reducible refine wpAny_madeBy_exc hC ?_
    | wp_step)
  refine codeAny_call_builtin_code (Code.quiet_builtin _ FB.quiet) (may_new FB hT hC ?_)
  refine made_new FB hT hC hl ?_
  show wpAny _ _ _ _ _ _
  have kk : ∀ c o, hh.get? c = some o → ((hh.push (kdv_tup rest)).push (excO C hh.objs.size)).get? c = some o := fun c o e => Heap.get?_push_of_some _ (Heap.get?_push_of_some _ e)
  have got : ((hh.push (kdv_tup rest)).push (excO C hh.objs.size)).get? (hh.objs.size + 1) = some (excO C hh.objs.size) := by heap_get
  have own : (Value.ref C :: bm).contains (.ref C) = true := by simp
  have hC2 := kk _ _ hC
  have li := hi.keeps kk
  have lb := (hb (.ref (hh.objs.size + 1))).keeps kk
  unfold isInstance
  repeat (first
    | with_reducible refine wpAny_loadPart_at got ?_
    | (with_reducible refine wpAny_isSubtype_exc hC2 ?_; rw [own])
    | wp_step)
  show wpAny _ _ (typeLookup (.ref C) _) _ _ _
  refine li.at ?_
  refine wpAny_holding (wpAny_bind (lb.at ?_))
  refine wpAny_bind (wpAny_call (codeAny_mono hq fun r z y => ?_))
  rcases r with e | (v | _ | _ | _) <;> first | exact y | exact y.elim | skip
  obtain ⟨rfl, y⟩ := y
  first
    | exact wpAny_pure (wpAny_pure y)
    | (wp_walk; exact y)
theorem may_type (hC : hh.get? C = some (excClassObj nm q C N bs bm hdct sn sub ab col dd k0 k1 k2 k3 k5 newId)) {Q : Unit → Shared → Prop}
    (hq : Q () ⟨hh, gg, dr, tt, oss⟩) : wpAny M A (checkBuiltinCall "type.__call__" ⟨.ref C :: rest, kw⟩) Q E ⟨hh, gg, dr, tt, oss⟩ := by
  have f3 := tc_sub
  have ty : (⟨hh, gg, dr, tt, oss⟩ : Shared).TypeIs (.ref C) "type" := ⟨_, hC, rfl⟩
  simp only [checkBuiltinCall, tc_kind, tc_split]
  repeat (any_goals (first
    | assumption
    | with_reducible refine wpAny_loadPart_at hC ?_
    | with_reducible refine wpAny_onRaise ?_
    | with_reducible refine wpAny_map ?_
    | wp_step))
theorem call_kw (FB : ExcBaseFacts B newId initId b) (hT : ∀ Y : String, bm.contains (.type Y) = b.contains (.type Y)) {fI : Addr}
    (hC : hh.get? C = some (excClassObj nm q C N bs bm hdct sn sub ab col dd k0 k1 k2 k3 k5 newId)) (hl : rest.length ≤ sizeLine)
    (hi : Looks (model prog w) hh (typeLookup (.ref C) "__init__") (some (.ref fI))) (hb : ∀ self, Looks (model prog w) hh (bindSpecial (.ref fI) self) (.ref fI, [self]))
    (hq : codeAny (model prog w) (A.under (.builtin "type.__call__" ⟨.ref C :: rest, kw⟩)) (.call (.ref fI) ⟨.ref (hh.objs.size + 1) :: rest, kw⟩) (InitBack (hh.objs.size + 1) R)
      ⟨(hh.push (kdv_tup rest)).push (excO C hh.objs.size), gg, dr, tt, oss⟩) :
    codeAny (model prog w) A (.call (.ref C) ⟨rest, kw⟩) R ⟨hh, gg, dr, tt, oss⟩ := by
  have f1 := tc_lookup
  have f2 := tc_bind (.ref C)
  have ty : (⟨hh, gg, dr, tt, oss⟩ : Shared).TypeIs (.ref C) "type" := ⟨_, hC, rfl⟩
  refine codeAny_of_tree ?_
  show wpAny _ _ (callAny (.ref C) _) _ _ _
  repeat (any_goals (first
    | assumption
    | with_reducible refine wpAny_loadPart_at hC ?_
    | wp_step))
  refine ⟨rfl, ?_⟩
  refine codeAny_call_builtin_at (Code.quiet_builtin _ (by decide +kernel)) entry_typeCall (may_type hC (type_call FB hT hC hl hi hb ?_))
  refine codeAny_mono hq fun r z y => ?_
  rcases r with e | (v | _ | _ | _) <;> exact y
end
end Gd.Kw

set_option maxHeartbeats 4000000
namespace Gd
open PySem PySem.Spec PyProof.Rows L2

/-! C(k = v, ..) of an own exception class, all by keywords -/
section
variable {X : Cx} {CX : CXT} {k : Nat} {C fI : Addr} {fd : FuncData} {ps ks : List Str} {sp : Sp} {x : Str} {p pos : Pos} {g : List Value → List Value → List Value} {gV : List V → List V → List V}
theorem run_xmk {pins : List (Addr × Obj)} {σ : L2.St} {H1 : Hp} {s1 : Shared} {ws : List Value} {zs : List V} {Q : VK} (T : OxI X.K C fI) (F1 : FnOk X.prog X.w X.K X.mg X.base CX k fI fd ps sp) (hr : Room (k + 1) X.A) (hb : KBn X.K fd ps 1 ks g gV) (hx : Passes CX X (fun _ _ _ => False))
    (I1 : Inv X pins σ H1 s1) (rz : Vals zs ws) (l2 : zs.length = ks.length) (q1 : ∀ a, H1 a = none → sp (gV [.ref a] zs) (upd H1 a (exo a C none))
      (fun v H2 => v = .non ∧ ∃ (d : Addr) (fs : List (Str × V)), Made a C d fs H2 ∧ Q (.ref a) (stand H2 a C d fs)) (fun _ _ _ => False)) :
    wpAny (model X.prog X.w) X.A (call (.ref C) [] (ks.zip ws)) (EP X pins σ Q) X.xe s1 := by
  obtain ⟨newId, b, nm, q, N, bs, bm, sn, sub, ab, col, dd, k0, k1, k2, k3, k5, Fm, hC, hbm⟩ := T.cls
  obtain ⟨B, initId, FB⟩ := Fm.fac
  obtain ⟨rs, er⟩ := refs_of hbm
  have hT : ∀ Y : String, bm.contains (.type Y) = b.contains (.type Y) := fun Y => by rw [er, contains_refs]
  obtain ⟨hp, g0, dr, tk0, os⟩ := s1
  have sz1 : hp.objs.size ≤ hp.objs.size + 1 := Nat.le_succ _
  have n1 : H1 (hp.objs.size + 1) = none := I1.hok.fresh sz1
  have q2 := q1 (hp.objs.size + 1) n1
  have kk : ∀ c o, hp.get? c = some o → ((hp.push (PySem.W.kdv_tup [])).push (PySem.HandSPX.excO C hp.objs.size)).get? c = some o := fun c o y => Heap.get?_push_of_some _ (Heap.get?_push_of_some _ y)
  have got : ((hp.push (PySem.W.kdv_tup [])).push (PySem.HandSPX.excO C hp.objs.size)).get? (hp.objs.size + 1) = some (PySem.HandSPX.excO C hp.objs.size) := by heap_get
  have J2 : Inv X pins σ (upd H1 (hp.objs.size + 1) (exo (hp.objs.size + 1) C none)) ⟨(hp.push (PySem.W.kdv_tup [])).push (PySem.HandSPX.excO C hp.objs.size), g0, dr, tk0, os⟩ :=
    I1.laid (t' := tk0) kk sz1 (exo_ok got)
  have r1 : Vals [V.ref (hp.objs.size + 1)] [Value.ref (hp.objs.size + 1)] := .cons rfl .nil
  have r2 := hb.rel r1 rz
  have lw : ws.length = ks.length := rz.length.symm.trans l2
  refine wpAny_call (Kw.call_kw FB hT (I1.kIn _ _ hC) (Nat.zero_le _) (PySem.W.looks_findIn I1.kIn T.iC) (fun self => PySem.W.bind_fn I1.kIn self T.tI) ?_)
  refine codeAny_mono (F1.run _ X.stack _ _ ⟨[Value.ref (hp.objs.size + 1)], ks.zip ws⟩ (g [Value.ref (hp.objs.size + 1)] ws) _ _ (fun _ _ _ => False) (hr.make C [] (ks.zip ws)) (J2.env0.make C [] (ks.zip ws))
    (hb.to _ [Value.ref (hp.objs.size + 1)] ws J2.kIn rfl lw) r2 q2) fun r z hz2 => ?_
  cases r with
  | error er2 => exact hx pins σ _ _ er2 z J2 hz2
  | ok fl =>
    cases fl with
    | ret u =>
      obtain ⟨v, H3, J3, rv, ev, d, fs, m, q3⟩ := J2.after hz2
      subst ev
      exact ⟨rv, .ref _, _, inv_stand J3 m, rfl, q3⟩
    | next => exact False.elim hz2
    | brk => exact False.elim hz2
    | cont => exact False.elim hz2
/-- C() of an own exception class without an own __init__ -/
theorem pe_x0 {bmB : List Value} {B newId initId : String} (F0 : ExcBaseFacts B newId initId bmB) (q : PySem.W.excIn X.K C bmB newId = true) (hg : Gl X x) (gC : X.mg x = some (.ref C)) (kC : PySem.W.keepIn X.K (.ref C) = true)
    (hdb : (x == ("__debug__" : Str)) = false := by decide) : PE X (.Call (.Name x p) [] [] pos) (fun _ H Q => ∀ a, H a = none → Q (.ref a) (upd H a (xob a (.ref C) none))) := by
  refine ⟨fun pins s σ H Q I h => ?_⟩
  refine wpAny_Call_Name_kw (ld_glob I hg gC ?_ hdb)
  refine PySem.W.callWith_K0 I.kIn kC ?_
  obtain ⟨bm, N, nm, qn, bs, hdct, sn, sub, ab, col, dd, k0, k1, k2, k3, k5, mN, hC, hN, hni, T⟩ := exc_obj I.kIn q
  refine wpAny_call_exc_subT F0 T hC hN hni (fun h2 a hm => ?_) (Nat.zero_le _)
  have hn : H a = none := I.hok.gone hm.new
  obtain ⟨t, ht, _, _⟩ := hm.there
  exact ⟨.ref a, upd H a (xob a (.ref C) none), I.laidN hm.keeps hm.new hn (xob_ok ht ⟨rfl, rfl⟩ rfl), rfl, h a hn⟩
end
end Gd

set_option maxHeartbeats 4000000
/-! What evaluates to a value with a property that stays. -/
namespace Gd
open PySem PySem.Spec PyProof.Rows L2 Evl
/-- a value with a property that stays -/
def EvP (te : TE) (σ : L2.St) (H : Hp) (P : V → Hp → Prop) : Prop := ∀ H1, Ex H H1 → ∀ Q : VK, (∀ v H2, Ex H1 H2 → P v H2 → Q v H2) → te σ H1 Q
def EvAP (ta : TA) (σ : L2.St) (H : Hp) (P : List V → Hp → Prop) : Prop := ∀ H1, Ex H H1 → ∀ Q : List V → Hp → Prop, (∀ vs H2, Ex H1 H2 → P vs H2 → Q vs H2) → ta σ H1 Q
section
variable {σ : L2.St} {H : Hp} {te tb : TE} {ta tr tk : TA} {C : Addr} {ps : List Str} {vs : List V}
theorem ex_made {H1 : Hp} {a dx : Addr} {o1 o2 : HO} (na : H1 a = none) (nd : H1 dx = none) : Ex H1 (upd (upd H1 a o1) dx o2) := fun b o e => by
  have n1 : b ≠ dx := fun z => by rw [z, nd] at e; cases e
  have n2 : b ≠ a := fun z => by rw [z, na] at e; cases e
  rw [upd_ne n1, upd_ne n2]
  exact e
theorem eap_nil : EvAP tNil σ H (fun vs _ => vs = []) := fun H1 e Q q => q [] H1 (Ex.refl H1) rfl
theorem eap_cons {P : V → Hp → Prop} {R : List V → Hp → Prop} (h : EvP te σ H P) (up : ∀ v H1 H2, Ex H1 H2 → P v H1 → P v H2) (hr : EvAP tr σ H R) : EvAP (tCons te tr) σ H (fun vs H1 => ∃ v r, vs = v :: r ∧ P v H1 ∧ R r H1) := fun H1 e Q q =>
  h H1 e _ fun v H2 e2 p => hr H2 (e.trans e2) _ fun r H3 e3 w => q _ _ (e2.trans e3) ⟨v, r, rfl, up _ _ _ e3 p, w⟩
/-- a new list of such -/
theorem evp_lst {R : List V → Hp → Prop} (h : EvAP ta σ H R) (up : ∀ vs H1 H2, Ex H1 H2 → R vs H1 → R vs H2) (hl : ∀ vs H1, R vs H1 → vs.length ≤ 100000) : EvP (tLst ta) σ H (fun v H1 => ∃ p vs, v = .ref p ∧ H1 p = some (.lst vs) ∧ R vs H1) := fun H1 e Q q =>
  h H1 e _ fun vs H2 e2 w => ⟨Nat.le_trans (hl vs H2 w) (by decide), fun p np => q _ _ (e2.trans (Ex.new np)) ⟨p, vs, rfl, upd_same, up _ _ _ (Ex.new np) w⟩⟩
/-- a list known and a list with a property -/
theorem evp_cat {l : Addr} {xs : List V} {R : List V → Hp → Prop} (ha : Ev te σ H (.ref l)) (hl : H l = some (.lst xs)) (hb : EvP tb σ H (fun v H1 => ∃ p vs, v = .ref p ∧ H1 p = some (.lst vs) ∧ R vs H1))
    (up : ∀ vs H1 H2, Ex H1 H2 → R vs H1 → R vs H2) (hz : ∀ vs H1, R vs H1 → xs.length + vs.length ≤ 100000) :
    EvP (tOp rCat te tb) σ H (fun v H1 => ∃ p vs, v = .ref p ∧ H1 p = some (.lst (xs ++ vs)) ∧ R vs H1) := fun H1 e Q q =>
  ha H1 e _ fun H2 e2 => hb H2 (e.trans e2) _ fun v H3 e3 w => by
    obtain ⟨p, vs, rfl, h3, r⟩ := w
    exact ⟨l, p, xs, vs, rfl, rfl, ((e.trans e2).trans e3) l _ hl, h3, Nat.le_trans (hz vs H3 r) (by decide), fun r0 hr => q _ _ ((e2.trans e3).trans (Ex.new hr)) ⟨r0, vs, rfl, upd_same, up _ _ _ (Ex.new hr) r⟩⟩
theorem q_asgP {D : Ends} {tz : TS} {i : Nat} {P : V → Hp → Prop} (h : EvP te σ H P) (k : ∀ v H1, Ex H H1 → P v H1 → tz D (σ.set i (some v)) H1) : tSeq (tAsg te (gName i)) tz D σ H := h H (Ex.refl H) _ k
theorem s_retP {D : Ends} {P : V → Hp → Prop} (h : EvP te σ H P) (k : ∀ v H1, Ex H H1 → P v H1 → D.rt v H1) : tRet te D σ H := h H (Ex.refl H) _ k
end
end Gd

set_option maxHeartbeats 4000000
namespace Gd
open PySem PySem.Spec PyProof.Rows L2 Evl

/-! ### what a text must have of an own exception class -/
def oxB (K : PySem.W.Frag) (C fI : Addr) (ps : List Str) : Bool :=
  (decide (PySem.W.findIn K (.ref C) "__setattr__" = some (some (.builtin "object.__setattr__"))) && decide (PySem.W.subIn K (.ref C) (.type "BaseException") = some true)) &&
  ((decide (PySem.W.typeIn K (.ref C) = some (.type "type")) && PySem.W.keepIn K (.ref C)) &&
  ((xfB K C && decide (PySem.W.findIn K (.ref C) "__class__" = some (some (.builtin "object.__class__")))) &&
  ((decide (PySem.W.mroIn K C (.type "object") = some true) && decide (PySem.W.typeIn K (.ref fI) = some (.type "function"))) &&
  ps.all fun f => decide (PySem.W.findIn K (.ref C) f = some none))))
structure OxF (K : PySem.W.Frag) (C fI : Addr) (ps : List Str) : Prop where
  i : OxI K C fI
  xf : XfC K C
  ec : ExcC K C
  nf : ∀ f ∈ ps, PySem.W.findIn K (.ref C) f = some none
theorem oxF_of {K : PySem.W.Frag} {C fI : Addr} {ps : List Str} {newId : String} {b : List Value} {nm q : Str} {N : Addr} {bs bm : List Value} {sn : List Str} {sub : List Value} {ab : Bool} {col : Option Bool} {dd : Option Addr} {k0 k1 k2 k3 k5 : Option Value}
    (Fm : Fam newId b) (xL : K.lookup C = some (excClassObj nm q C N bs bm true sn sub ab col dd k0 k1 k2 k3 k5 newId)) (hb : bm.dropWhile refV = b) (iC : PySem.W.findIn K (.ref C) "__init__" = some (some (.ref fI)))
    (hn : PySem.W.specialIn K (.builtin "object.__class__") "__get__" = some (some (.builtin "getset_descriptor.__get__"))) (ht : PySem.W.takesIn K (.builtin "object.__class__") = some true) (h : oxB K C fI ps = true) : OxF K C fI ps := by
  obtain ⟨h1, h⟩ := Bool.and_eq_true_iff.mp h
  obtain ⟨a1, a2⟩ := Bool.and_eq_true_iff.mp h1
  obtain ⟨h2, h⟩ := Bool.and_eq_true_iff.mp h
  obtain ⟨a3, a4⟩ := Bool.and_eq_true_iff.mp h2
  obtain ⟨h3, h⟩ := Bool.and_eq_true_iff.mp h
  obtain ⟨a5, a6⟩ := Bool.and_eq_true_iff.mp h3
  obtain ⟨h4, h⟩ := Bool.and_eq_true_iff.mp h
  obtain ⟨a7, a8⟩ := Bool.and_eq_true_iff.mp h4
  have X := xfB_ok a5
  have O : OxC K C := ⟨⟨newId, b, nm, q, N, bs, bm, sn, sub, ab, col, dd, k0, k1, k2, k3, k5, Fm, xL, hb⟩, of_decide_eq_true a1, of_decide_eq_true a2, of_decide_eq_true a3, a4⟩
  exact ⟨⟨O, iC, of_decide_eq_true a8⟩, X, ⟨X.ga, X.gg, X.exC, X.hdC, of_decide_eq_true a6, hn, ht, of_decide_eq_true a7⟩, fun f hf => of_decide_eq_true (List.all_eq_true.mp h f hf)⟩
/-- a class by its name, with its __init__ and what that takes -/
structure Xc (pr : Program) (wo : World) (K : PySem.W.Frag) (mg : Str → Option Value) (base : Heap) (CX : CXT) (x : Str) (C : Addr) (ps : List Str) : Prop where
  m : mg x = some (.ref C)
  ex : ∃ (fI : Addr) (fd : FuncData), OxF K C fI ps ∧ FnOk pr wo K mg base CX 1 fI fd (("self" : Str) :: ps) (spI K C ps) ∧ Binds K fd (("self" : Str) :: ps) [] ∧
    ∀ (s : Shared) (u : Value) (ws : List Value), K.In s.heap → ws.length = ps.reverse.length → BindsTo s fd ⟨[u], ps.reverse.zip ws⟩ ((("self" : Str) :: ps).zip (u :: ws.reverse))
theorem _root_.L2.Fun.kbindsR {K : PySem.W.Frag} {x qual : Str} {st : Stmt} {f : Addr} {fd : FuncData} {ps : List Str} (F : Fun K x qual st f fd)
    (h : ∀ (kV doc pm : Value) (an : Option Addr) (cdv ct : Value) (u : Value) (ws : List Value), ws.length = ps.reverse.length → bindArgs (PySem.W.fnOf x qual (defArgs st) (defBody st) (defScope st) .none kV doc pm an cdv ct) ⟨[u], ps.reverse.zip ws⟩ = pure ((("self" : Str) :: ps).zip (u :: ws.reverse)))
    (s : Shared) (u : Value) (ws : List Value) (hK : K.In s.heap) (hl : ws.length = ps.reverse.length) : BindsTo s fd ⟨[u], ps.reverse.zip ws⟩ ((("self" : Str) :: ps).zip (u :: ws.reverse)) := by
  obtain ⟨oc, od, kV, doc, pm, an, cdv, ct, osl, rfl, lk, hcd⟩ := F.ex
  exact .of_eq (h kV doc pm an cdv ct u ws hl)
theorem upd_swap {H : Hp} {a d : Addr} {o e1 e2 : HO} (ne : d ≠ a) : upd (upd (upd H d e1) a o) d e2 = upd (upd H d e2) a o := by
  funext b
  by_cases h1 : b = d
  · subst h1
    rw [upd_same, upd_ne ne, upd_same]
  · rw [upd_ne h1]
    by_cases h2 : b = a
    · rw [h2, upd_same, upd_same]
    · rw [upd_ne h2, upd_ne h2, upd_ne h1, upd_ne h1]

section
variable {X : Cx} {CX : CXT} {C : Addr} {ps : List Str} {x : Str} {e : Expr} {es : List Expr} {ta tk : TA} {p pos : Pos} {kws : List Keyword}
/-- the reading of C(e, ..) -/
def tXc (C : Addr) (ps : List Str) (ta : TA) : TE := fun σ H Q => ta σ H fun vs H1 => vs.length = ps.length ∧
  ∀ a dx, H1 a = none → H1 dx = none → dx ≠ a → Q (.ref a) (upd (upd H1 a (xob a (.ref C) (some dx))) dx (.xd (ps.zip vs).reverse))
theorem pe_xc (D : Xc X.prog X.w X.K X.mg X.base CX x C ps) (hr : Room 2 X.A) (hg : Gl X x) (ha : PA X (e :: es) ta) (hs : ps.length ≤ 1000 := by decide) (hx : Passes CX X (fun _ _ _ => False) := by exact pass0)
    (hdb : (x == ("__debug__" : Str)) = false := by decide) (he : starEach (e :: es) X.env = (false, eval e X.env) :: starEach es X.env := by rfl) (hpl : (backTo pos (starEach es X.env)).any (·.1) = false := by rfl) :
    PE X (.Call (.Name x p) (e :: es) [] pos) (tXc C ps ta) := by
  obtain ⟨m, fI, fd, O, F, B, Kb⟩ := D
  refine ⟨fun pins s σ H Q I h => ?_⟩
  refine wpAny_Call_Name_kw (ld_glob I hg m ?_ hdb)
  refine PySem.W.callWith_K (h₀ := X.base) I.ok.mod.kin O.i.kC (thn (ha.run pos pins s σ H _ I h) fun us s1 h1 => ?_) he hpl
  obtain ⟨vs, H1, I1, r1, hl, q⟩ := h1
  refine ⟨I1.kIn, ?_⟩
  show wpAny _ _ (call (.ref C) us) _ _ _
  obtain ⟨hz, q1⟩ := q_xm (K := X.K) (Q := Q) hl hs q
  refine run_xm O.i F hr B .nil hx I1 r1 hz q1 fun a v H2 z u hn I2 rv q3 => ?_
  obtain ⟨ev, d, fs, mm, q4⟩ := q3
  subst ev
  exact ⟨rv, .ref a, _, inv_stand I2 mm, rfl, q4⟩
/-- raised -/
theorem pmk_xc (D : Xc X.prog X.w X.K X.mg X.base CX x C ps) (hr : Room 2 X.A) (hg : Gl X x) (ha : PA X (e :: es) ta) (hx : Passes CX X (fun _ _ _ => False) := by exact pass0)
    (hdb : (x == ("__debug__" : Str)) = false := by decide) (he : starEach (e :: es) X.env = (false, eval e X.env) :: starEach es X.env := by rfl) (hpl : (backTo pos (starEach es X.env)).any (·.1) = false := by rfl) :
    PMk X (.Call (.Name x p) (e :: es) [] pos) (tMkO C (spI X.K C ps) [] ta) := by
  obtain ⟨m, fI, fd, O, F, B, Kb⟩ := D
  exact pmk_xm O.i F hr hg m B .nil hx ha hdb he hpl
/-- C(k = v, ..): the keywords' names ks, the parameters in their order by g -/
def tXck (C : Addr) (ps : List Str) (n : Nat) (g : List V → List V) (tk : TA) : TE := fun σ H Q => tk σ H fun zs H1 => zs.length = n ∧ (g zs).length = ps.length ∧
  ∀ a dx, H1 a = none → H1 dx = none → dx ≠ a → Q (.ref a) (upd (upd H1 a (xob a (.ref C) (some dx))) dx (.xd (ps.zip (g zs)).reverse))
theorem pe_xck {ks : List Str} {g : {α : Type} → List α → List α} (m : X.mg x = some (.ref C)) {fI : Addr} {fd : FuncData} (O : OxF X.K C fI ps) (F : FnOk X.prog X.w X.K X.mg X.base CX 1 fI fd (("self" : Str) :: ps) (spI X.K C ps))
    (kb : ∀ (s : Shared) (u : Value) (ws : List Value), X.K.In s.heap → ws.length = ks.length → BindsTo s fd ⟨[u], ks.zip ws⟩ ((("self" : Str) :: ps).zip (u :: g ws))) (hgr : ∀ {zs : List V} {ws : List Value}, Vals zs ws → Vals (g zs) (g ws))
    (hr : Room 2 X.A) (hg : Gl X x) (hkw : PK X kws tk) (hs : ps.length ≤ 1000 := by decide) (hx : Passes CX X (fun _ _ _ => False) := by exact pass0)
    (hall : (backToKw pos (keywordEach kws X.env)).all (·.1.isSome) = true := by rfl) (hks : (backToKw pos (keywordEach kws X.env)).filterMap (·.1) = ks := by rfl) (hdb : (x == ("__debug__" : Str)) = false := by decide)
    (hpl : ((backTo pos (starEach [] X.env)).any (·.1) || (backToKw pos (keywordEach kws X.env)).any (·.1.isNone)) = false := by rfl) :
    PE X (.Call (.Name x p) [] kws pos) (tXck C ps ks.length g tk) := by
  refine ⟨fun pins s σ H Q I h => ?_⟩
  refine wpAny_Call_Name_kw (ld_glob I hg m ?_ hdb)
  refine PySem.W.callWith_KW0 (h₀ := X.base) I.ok.mod.kin O.i.kC hall ?_ hpl
  refine thn (hkw.run pos pins s σ H _ I h) fun ws s1 h1 => ?_
  obtain ⟨zs, H1, I1, rz, l2, lg, q⟩ := h1
  refine ⟨I1.kIn, ?_⟩
  rw [hks]
  obtain ⟨hz, q1⟩ := q_xm (K := X.K) (Q := Q) lg hs q
  have KB : KBn X.K fd (("self" : Str) :: ps) 1 ks (fun us ws => us ++ g ws) (fun us ws => us ++ g ws) := ⟨fun s us ws hK l1 l3 => by
    match us, l1 with
    | [u], _ => exact kb s u ws hK l3, fun r1 r2 => r1.append (hgr r2)⟩
  refine run_xmk O.i F hr KB hx I1 rz l2 fun a na => ?_
  have := q1 a na
  rw [List.append_nil] at this
  exact this
theorem rev_vals {zs : List V} {ws : List Value} (h : Vals zs ws) : Vals zs.reverse ws.reverse := by
  induction h with
  | nil => exact .nil
  | cons r t ih =>
    rw [List.reverse_cons, List.reverse_cons]
    exact ih.append (.cons r .nil)
/-- C(k = v, ..), the keywords in the order from the last parameter to the first -/
theorem pe_xckR (D : Xc X.prog X.w X.K X.mg X.base CX x C ps) (hr : Room 2 X.A) (hg : Gl X x) (hkw : PK X kws tk) (hs : ps.length ≤ 1000 := by decide) (hx : Passes CX X (fun _ _ _ => False) := by exact pass0)
    (hall : (backToKw pos (keywordEach kws X.env)).all (·.1.isSome) = true := by rfl) (hks : (backToKw pos (keywordEach kws X.env)).filterMap (·.1) = ps.reverse := by rfl) (hdb : (x == ("__debug__" : Str)) = false := by decide)
    (hpl : ((backTo pos (starEach [] X.env)).any (·.1) || (backToKw pos (keywordEach kws X.env)).any (·.1.isNone)) = false := by rfl) :
    PE X (.Call (.Name x p) [] kws pos) (tXck C ps ps.reverse.length List.reverse tk) := by
  obtain ⟨m, fI, fd, O, F, B, Kb⟩ := D
  exact pe_xck (ks := ps.reverse) (g := fun {_} l => l.reverse) m O F Kb (fun h => rev_vals h) hr hg hkw hs hx hall hks hdb hpl
end

/-! ### an exception that stands, as a property of a value -/
def XA (C : Addr) (fs : Option (List (Str × V))) (v : V) (H : Hp) : Prop := ∃ a : Addr, v = .ref a ∧
  match fs with
  | none => H a = some (xob a (.ref C) none)
  | some l => ∃ dd : Addr, H a = some (xob a (.ref C) (some dd)) ∧ H dd = some (.xd l)
theorem XA.ex {C : Addr} {fs : Option (List (Str × V))} {v : V} {H H1 : Hp} (h : XA C fs v H) (e : Ex H H1) : XA C fs v H1 := by
  obtain ⟨a, ev, h⟩ := h
  refine ⟨a, ev, ?_⟩
  cases fs with
  | none => exact e _ _ h
  | some l =>
    obtain ⟨dd, h1, h2⟩ := h
    exact ⟨dd, e _ _ h1, e _ _ h2⟩
theorem XA.xn {C : Addr} {fs : Option (List (Str × V))} {v : V} {H : Hp} (h : XA C fs v H) : ∃ a d, v = .ref a ∧ Xn H a C d := by
  obtain ⟨a, ev, h⟩ := h
  cases fs with
  | none => exact ⟨a, none, ev, h, fun dd z => by cases z⟩
  | some l =>
    obtain ⟨dd, h1, h2⟩ := h
    exact ⟨a, some dd, ev, h1, fun d2 z => by cases z; exact ⟨l, h2⟩⟩
section
variable {σ : L2.St} {H : Hp} {te tb : TE} {ta tr tk : TA} {C : Addr} {ps : List Str} {vs : List V}
theorem evp_xc (h : EvA ta σ H vs) (hl : vs.length = ps.length) : EvP (tXc C ps ta) σ H (XA C (some (ps.zip vs).reverse)) := fun H1 e Q q => h H1 e _ fun H2 e2 => ⟨hl, fun a dx na nd ne =>
  q _ _ (e2.trans (ex_made na nd)) ⟨a, rfl, dx, by rw [upd_ne (Ne.symm ne)]; exact upd_same, upd_same⟩⟩
theorem evp_xck {n : Nat} {g : List V → List V} (h : EvA tk σ H vs) (h1 : vs.length = n) (hl : (g vs).length = ps.length) : EvP (tXck C ps n g tk) σ H (XA C (some (ps.zip (g vs)).reverse)) := fun H1 e Q q => h H1 e _ fun H2 e2 => ⟨h1, hl, fun a dx na nd ne =>
  q _ _ (e2.trans (ex_made na nd)) ⟨a, rfl, dx, by rw [upd_ne (Ne.symm ne)]; exact upd_same, upd_same⟩⟩
theorem evp_x0 : EvP (fun _ H Q => ∀ a, H a = none → Q (.ref a) (upd H a (xob a (.ref C) none))) σ H (XA C none) := fun H1 e Q q a na => q _ _ (Ex.new na) ⟨a, rfl, upd_same⟩
/-- isinstance of a standing exception -/
theorem ev_isX {K : PySem.W.Frag} {a : Addr} {d : Option Addr} {c : V} {cv : Value} {b : Bool} {tc : TE} (h : Ev te σ H (.ref a)) (hc : Ev tc σ H c) (x : Xn H a C d) (T : ExcC K C) (kc : ClsV c cv) (hk : PySem.W.kitOne K (.ref C) cv = some b) :
    Ev (tCB (rIsX K) (tCons te (tCons tc tNil))) σ H (.bl b) := ev_cb (ea_cons h (ea_cons hc ea_nil)) fun H1 e Q q => ⟨a, C, d, c, cv, b, rfl, ⟨e _ _ x.1, fun dd z => by obtain ⟨fs, y⟩ := x.2 dd z; exact ⟨fs, e _ _ y⟩⟩, T, kc, hk, q H1 (Ex.refl H1)⟩
/-- a field of a standing exception -/
theorem ev_xo {K : PySem.W.Frag} {v y : V} {f : Str} {fs : List (Str × V)} (h : Ev te σ H v) (x : XA C (some fs) v H) (T : XfC K C) (no : PySem.W.findIn K (.ref C) f = some none) (hf : fs.lookup f = some y) : Ev (tXo K f te) σ H y := fun H1 e Q q =>
  h H1 e _ fun H2 e2 => by
    obtain ⟨a, ev, dd, h1, h2⟩ := x.ex (e.trans e2)
    exact ⟨a, C, dd, fs, y, ev, T, no, h1, h2, hf, q H2 e2⟩
end
end Gd

set_option maxHeartbeats 4000000
/-! x + y, -x, n + x, x(y) where x is an instance of a class with its own __add__, __neg__, __radd__, __call__. -/
namespace Gd
open PySem PySem.Spec PyProof.Rows L2
/-- an integer's own operator declines an instance -/
def Decl (B : Builtin) : Prop := ∀ (n : Int) (t : Tok) (x : Addr), Meets (B ⟨[.int n t, .ref x], []⟩) (fun _ R s => (∃ o, s.heap.get? x = some o ∧ o.data = .plain) ∧ R (.ok (.ret Value.notImplemented)) s)
theorem decl_add : Decl Builtin.«int.__add__» := fun n t x => .of_wp fun prog w A R s h => by
  obtain ⟨hp, g, d, tk, os⟩ := s
  obtain ⟨⟨⟨cls, dict, data, slots⟩, ho, hd⟩, h⟩ := h
  simp only at hd
  subst hd
  wp_walk
  exact ⟨_, rfl, h⟩
theorem decl_sub : Decl Builtin.«int.__sub__» := fun n t x => .of_wp fun prog w A R s h => by
  obtain ⟨hp, g, d, tk, os⟩ := s
  obtain ⟨⟨⟨cls, dict, data, slots⟩, ho, hd⟩, h⟩ := h
  simp only at hd
  subst hd
  wp_walk
  exact ⟨_, rfl, h⟩
theorem decl_mul : Decl Builtin.«int.__mul__» := fun n t x => .of_wp fun prog w A R s h => by
  obtain ⟨hp, g, d, tk, os⟩ := s
  obtain ⟨⟨⟨cls, dict, data, slots⟩, ho, hd⟩, h⟩ := h
  simp only at hd
  subst hd
  wp_walk
  exact ⟨_, rfl, h⟩
section
variable {prog : Program} {w : World} {A : Around} {E : Value → Shared → Prop} {s : Shared} {K : PySem.W.Frag} {x C L f g : Addr} {h₀ : Heap} {m : Str → Option Value} {ox : Obj} {od : Option Obj}
theorem ksp_refl {op : Operator} {n : Int} {t : Tok} {id : String} {B : Builtin} {Q : Value → Shared → Prop} (F : Fr h₀ L s.heap m) (X₀ : K.In h₀) (I : PySem.W.InstAt s.heap x ox C od) (hd : ox.data = .plain) (hc : PySem.W.selfFirst K C = true)
    (hs : PySem.W.findIn K (.ref C) (PySem.dunder op.info.2) = some (some (.ref g))) (hr : PySem.W.findIn K (.ref C) (dunderR op.info.2) = some (some (.ref f))) (hf : PySem.W.isFn K (.ref f) = true) (hsub : PySem.W.subIn K (.ref C) (.type "int") = some false)
    (fills : fillsNumberSlot (.type "int") op.info.2 = pure true) (slot : Slot "int" (PySem.dunder op.info.2) id) (entry : entryFor table id = some B) (args : argsOk id ⟨[.int n t, .ref x], []⟩) (gv : Decl B)
    (h : wpAny (model prog w) A (call (.ref f) [.ref x, .int n t]) (PySem.W.CmpBack Q) E s) : wpAny (model prog w) A (binaryOp op (.int n t) (.ref x)) Q E s := by
  have X := X₀.keeps F.keep
  obtain ⟨cd, rest, hcd, hm⟩ := PySem.W.ksp_first hc
  rcases hi : op.info with ⟨sym, nm'⟩
  rw [hi] at hs hr fills slot
  dsimp only at hs hr fills slot
  have one := PySem.W.ksp_try X I hr hf h
  have L2 : PySem.W.Looks (model prog w) s.heap (typeOf (.ref x)) (.ref C) := I.type
  have L3 : PySem.W.Looks (model prog w) s.heap (fillsNumberSlot (.ref C) nm') true := PySem.W.fills_K X hcd hm hs
  have L5 : PySem.W.Looks (model prog w) s.heap (isSubtype (.ref C) (.type "int")) false := PySem.W.looks_subIn X hsub
  simp only [binaryOp, hi]
  refine wpAny_holding (wpAny_bind ?_)
  unfold binaryOp1
  refine wpAny_bind (wpAny_typeOf (typeIs_int s n t) (wpAny_bind (L2.here (wpAny_bind (wpAny_of_eq fills ?_)))))
  have hne : (Value.type "int" == Value.ref C) = false := Bool.eq_false_iff.mpr fun q => by cases beq_iff_eq.mp q
  simp only [hne, Bool.false_eq_true, if_false]
  refine wpAny_bind (L3.here ?_)
  simp only [Bool.and_self, if_true]
  refine wpAny_bind (L5.here ?_)
  have hpy : numberSlotInPython (.type "int") nm' = pure false := rfl
  simp only [Bool.false_eq_true, if_false, pure_bind, Bool.not_false, Bool.and_self, if_true, hpy]
  refine wpAny_bind (wpAny_tryMethod_declines (typeIs_int s n t) slot (call_meets slot (typeIs_int s n t) entry args (gv n t x) ⟨⟨_, I.at_, hd⟩, rfl, ?_⟩))
  refine wpAny_bind (wpAny_mono one (fun r s' z => ?_) fun _ _ e => e)
  obtain ⟨v, rfl, hq⟩ := z
  exact wpAny_bind (wpAny_rule (wpAny_pure (wpAny_pure hq)))
end
/-! ### rules -/
/-- facts of a class with an own operator nm and its reflected one -/
structure BinC (K : PySem.W.Frag) (C : Addr) (nm : String) (f g : Addr) : Prop where
  sf : PySem.W.selfFirst K C = true
  at_ : PySem.W.findIn K (.ref C) (PySem.dunder nm) = some (some (.ref f))
  fn : PySem.W.isFn K (.ref f) = true
  ra : PySem.W.findIn K (.ref C) (dunderR nm) = some (some (.ref g))
  gn : PySem.W.isFn K (.ref g) = true
  ia : ∃ fo, PySem.W.findIn K (.type "int") (PySem.dunder nm) = some fo
  ir : ∃ ro, PySem.W.findIn K (.type "int") (dunderR nm) = some ro
  si : PySem.W.subIn K (.type "int") (.ref C) = some false
  is : PySem.W.subIn K (.ref C) (.type "int") = some false
theorem cmpBack_of {P : Value → Shared → Prop} {z : V} {u : Value} {s' : Shared} (r : RelV z u) (h : P u s') : PySem.W.CmpBack P u s' := by
  cases z with
  | non => cases r; exact h
  | bl b => cases r; exact h
  | int i => obtain ⟨t, rfl⟩ := r; exact h
  | str x => obtain ⟨t, rfl⟩ := r; exact h
  | byt x => obtain ⟨t, rfl⟩ := r; exact h
  | flt x => obtain ⟨t, rfl⟩ := r; exact h
  | ref a => cases r; exact h
  | ty T => cases r; exact h
def rBinO (C : Addr) (sp spR : Sp) (E : XK) : V → V → Hp → VK → Prop := fun x y H Q =>
  (∃ a dx fs, x = .ref a ∧ H a = some (.ins C dx fs) ∧ ((∃ n, y = .int n) ∨ ∃ b dy fs', y = .ref b ∧ H b = some (.ins C dy fs')) ∧ sp [.ref a, y] H Q E) ∨ (∃ n a dx fs, x = .int n ∧ y = .ref a ∧ H a = some (.ins C dx fs) ∧ spR [.ref a, .int n] H Q E)
section
variable {X : Cx} {CX : CXT} {k k' : Nat} {C f g : Addr} {fd fd' : FuncData} {ps ps' : List Str} {sp spR : Sp} {E : XK}
theorem op_binO {op : Operator} {id : String} {B : Builtin} (c : BinC X.K C op.info.2 f g) (F : FnOk X.prog X.w X.K X.mg X.base CX k f fd ps sp) (hr : Room k X.A) (hb : L2.Binds X.K fd ps []) (G : FnOk X.prog X.w X.K X.mg X.base CX k' g fd' ps' spR) (hr' : Room k' X.A) (hb' : L2.Binds X.K fd' ps' []) (hx : Passes CX X E)
    (fills : fillsNumberSlot (.type "int") op.info.2 = pure true) (slot : Slot "int" (PySem.dunder op.info.2) id) (entry : entryFor table id = some B) (args : ∀ (n : Int) (t : Tok) (x : Addr), argsOk id ⟨[.int n t, .ref x], []⟩) (gv : Decl B) : OpR X (binaryOp op) (rBinO C sp spR E) := by
  intro pins s σ H x y v u Q I rx ry h
  have back : ∀ (r : Value) (s' : Shared), EP X pins σ Q r s' → PySem.W.CmpBack (EP X pins σ Q) r s' := fun r s' z => by
    obtain ⟨w, H', I', rw', q⟩ := z
    exact cmpBack_of rw' ⟨w, H', I', rw', q⟩
  rcases h with ⟨a, dx, fs, rfl, ha, hy, q⟩ | ⟨n, a, dx, fs, rfl, rfl, ha, q⟩
  · cases rx
    obtain ⟨mA, J, _⟩ := ins_get I.hok ha
    obtain ⟨od, J, _⟩ := J.look
    obtain ⟨m, hF⟩ := I.fr
    have run := wpAny_mono (run_sub ⟨hr, rfl⟩ F hb hx I (.cons (show RelV (.ref a) (.ref a) from rfl) (.cons ry .nil)) q) back (fun _ _ e => e)
    rcases hy with ⟨n, rfl⟩ | ⟨b, dy, fs', rfl, hb2⟩
    · obtain ⟨t, rfl⟩ := ry
      obtain ⟨fo, h1⟩ := c.ia
      obtain ⟨ro, h2⟩ := c.ir
      exact PySem.W.ksp_binT (T := "int") hF I.ok.mod.kin J rfl c.sf c.at_ c.fn c.ra (.inr ⟨_, rfl⟩) h1 h2 c.si run
    · cases ry
      obtain ⟨mB, JB, _⟩ := ins_get I.hok hb2
      obtain ⟨ob, JB, _⟩ := JB.look
      exact PySem.W.binop_K hF I.ok.mod.kin J JB.type c.sf c.at_ c.fn run
  · cases ry
    obtain ⟨t, rfl⟩ := rx
    obtain ⟨mA, J, _⟩ := ins_get I.hok ha
    obtain ⟨od, J, _⟩ := J.look
    obtain ⟨m, hF⟩ := I.fr
    exact ksp_refl hF I.ok.mod.kin J rfl c.sf c.at_ c.ra c.gn c.is fills slot entry (args n t a) gv (wpAny_mono (run_sub ⟨hr', rfl⟩ G hb' hx I (.cons (show RelV (.ref a) (.ref a) from rfl) (.cons (show RelV (.int n) (.int n t) from ⟨t, rfl⟩) .nil)) q) back (fun _ _ e => e))
theorem op_addO (c : BinC X.K C "add" f g) (F : FnOk X.prog X.w X.K X.mg X.base CX k f fd ps sp) (hr : Room k X.A) (hb : L2.Binds X.K fd ps []) (G : FnOk X.prog X.w X.K X.mg X.base CX k' g fd' ps' spR) (hr' : Room k' X.A) (hb' : L2.Binds X.K fd' ps' []) (hx : Passes CX X E) : OpR X (binaryOp .Add) (rBinO C sp spR E) :=
  op_binO (op := .Add) c F hr hb G hr' hb' hx PySem.F.fills_int_add PySem.F.slot_int_add PySem.F.entry_int_add (fun _ _ _ => PySem.F.args_int_add_2 _ _) decl_add
theorem op_subO (c : BinC X.K C "sub" f g) (F : FnOk X.prog X.w X.K X.mg X.base CX k f fd ps sp) (hr : Room k X.A) (hb : L2.Binds X.K fd ps []) (G : FnOk X.prog X.w X.K X.mg X.base CX k' g fd' ps' spR) (hr' : Room k' X.A) (hb' : L2.Binds X.K fd' ps' []) (hx : Passes CX X E) : OpR X (binaryOp .Sub) (rBinO C sp spR E) :=
  op_binO (op := .Sub) c F hr hb G hr' hb' hx PySem.F.fills_int_sub PySem.F.slot_int_sub PySem.F.entry_int_sub (fun _ _ _ => PySem.F.args_int_sub_2 _ _) decl_sub
theorem op_mulO (c : BinC X.K C "mul" f g) (F : FnOk X.prog X.w X.K X.mg X.base CX k f fd ps sp) (hr : Room k X.A) (hb : L2.Binds X.K fd ps []) (G : FnOk X.prog X.w X.K X.mg X.base CX k' g fd' ps' spR) (hr' : Room k' X.A) (hb' : L2.Binds X.K fd' ps' []) (hx : Passes CX X E) : OpR X (binaryOp .Mult) (rBinO C sp spR E) :=
  op_binO (op := .Mult) c F hr hb G hr' hb' hx PySem.F.fills_int_mul PySem.F.slot_int_mul PySem.F.entry_int_mul (fun _ _ _ => PySem.F.args_int_mul_2 _ _) decl_mul
def rNegO (C : Addr) (sp : Sp) (E : XK) : V → Hp → VK → Prop := fun x H Q => ∃ a dx fs, x = .ref a ∧ H a = some (.ins C dx fs) ∧ sp [.ref a] H Q E
theorem un_negO (hs : PySem.W.findIn X.K (.ref C) "__neg__" = some (some (.ref f))) (hf : PySem.W.isFn X.K (.ref f) = true) (F : FnOk X.prog X.w X.K X.mg X.base CX k f fd ps sp) (hr : Room k X.A) (hb : L2.Binds X.K fd ps []) (hx : Passes CX X E) : UnR X (unaryOp .USub) (rNegO C sp E) := by
  intro pins s σ H x v Q I rx h
  obtain ⟨a, dx, fs, rfl, ha, q⟩ := h
  cases rx
  obtain ⟨mA, J, _⟩ := ins_get I.hok ha
  obtain ⟨od, J, _⟩ := J.look
  obtain ⟨m, hF⟩ := I.fr
  exact PySem.W.ksp_neg hF I.ok.mod.kin J hs hf (run_sub ⟨hr, rfl⟩ F hb hx I (.cons (show RelV (.ref a) (.ref a) from rfl) .nil) q)
end
/-! ### x(e), x(k = e) -/
structure CallC (K : PySem.W.Frag) (C f : Addr) : Prop where
  at_ : PySem.W.findIn K (.ref C) "__call__" = some (some (.ref f))
  fn : PySem.W.isFn K (.ref f) = true
  fi : PySem.W.fnIn K f = true
def tCallO (C : Addr) (sp : SpA) (E : XK) (ks : List Str) (tf : TE) (t tk : TA) : TE := fun σ H Q => tf σ H fun x H1 => ∃ a, x = .ref a ∧ t σ H1 fun vs H2 => tk σ H2 fun zs H3 => zs.length = ks.length ∧ ∃ dx fs, H3 a = some (.ins C dx fs) ∧ sp (.ref a :: vs) (ks.zip zs) H3 Q E
section
variable {X : Cx} {CX : CXT} {k i : Nat} {C f : Addr} {sp : SpA} {E : XK} {fe e : Expr} {es : List Expr} {tf : TE} {t tk : TA} {pos p : Pos} {kws : List Keyword} {ks : List Str} {x : Str}
theorem run_callO {pins : List (Addr × Obj)} {σ : L2.St} {H : Hp} {s : Shared} {Q : VK} {us ws : List Value} {vs zs : List V} {a dx : Addr} {fs : List (Str × V)} (c : CallC X.K C f) (F : FnA X.prog X.w X.K X.mg X.base CX k f sp) (hr : Room k X.A) (hx : Passes CX X E) (I : Inv X pins σ H s) (ha : H a = some (.ins C dx fs)) (r : Vals vs us) (rz : Vals zs ws) (hl : zs.length = ks.length)
    (h : sp (.ref a :: vs) (ks.zip zs) H Q E) : wpAny (model X.prog X.w) X.A (call (.ref a) us (ks.zip ws)) (EP X pins σ Q) X.xe s := by
  obtain ⟨mA, J, _⟩ := ins_get I.hok ha
  obtain ⟨od, J, _⟩ := J.look
  refine wpAny_call (PySem.W.kco_code (f := f) I.kIn J rfl c.at_ c.fn c.fi (codeAny_mono (F X.A X.stack s H (Value.ref a :: us) ws (V.ref a :: vs) zs ks Q E hr I.env0 (.cons rfl r) rz hl h) fun r s' hq' => ?_))
  cases r with
  | error e => exact hx pins σ _ _ e s' I hq'
  | ok fl =>
    cases fl with
    | ret u =>
      obtain ⟨v, H', I3, rv, q3⟩ := I.after hq'
      exact ⟨v, H', I3, rv, q3⟩
    | next => exact False.elim hq'
    | brk => exact False.elim hq'
    | cont => exact False.elim hq'
theorem inst_at {pins : List (Addr × Obj)} {σ : L2.St} {H : Hp} {s : Shared} {a dx : Addr} {fs : List (Str × V)} (I : Inv X pins σ H s) (ha : H a = some (.ins C dx fs)) : ∃ od, PySem.W.kco_P X.K a C (PySem.W.instObj C dx) (some od) s.heap := by
  obtain ⟨mA, J, _⟩ := ins_get I.hok ha
  obtain ⟨od, J, _⟩ := J.look
  exact ⟨od, I.kIn, J⟩
/-- as the library's own, the object's dict known only behind the arguments -/
theorem callO_of {M : Model} {A : Around} {E' : Value → Shared → Prop} {s : Shared} {K : PySem.W.Frag} {x C : Addr} {first : List Value} {Q' : Value → Shared → Prop} {args : List (Bool × Sem Value)} {kwds : List (Option Str × Sem Value)} (hpl : (args.any (·.1) || kwds.any (·.1.isNone)) = false)
    (h : wpAny M A (evalArgs (.ref x) true args kwds) (fun a s₁ => (∃ ox od, PySem.W.InstAt s₁.heap x ox C od ∧ ox.data = .plain) ∧ wpAny M A (call (.ref x) (first ++ a.pos) a.kw) Q' E' s₁) E' s) : wpAny M A (callWith pos (.ref x) first args kwds) Q' E' s := by
  unfold callWith
  refine wpAny_bind (wpAny_holding (wpAny_mono h (fun a s₁ hq => wpAny_bind (wpAny_standAt ?_)) fun _ _ e => e))
  obtain ⟨⟨ox, od, J, hd⟩, run⟩ := hq
  simp only [hpl]
  refine wpAny_bind ((PySem.W.kco_keeper (M := M) J hd).here ?_)
  have fin : ∀ {t' : Sem Value}, wpAny M A t' Q' E' s₁ → wpAny M A (t' >>= fun r => holding [r] point >>= fun _ => pure r) Q' E' s₁ := fun hh =>
    wpAny_bind (wpAny_mono hh (fun r s₂ hr' => wpAny_bind (wpAny_holding (wpAny_point (wpAny_pure hr')))) fun _ _ e => e)
  exact fin (wpAny_operateT run)
/-- fe(e, ..), fe neither a name nor an attribute -/
theorem pe_callOE (he : PE X fe tf) (c : CallC X.K C f) (F : FnA X.prog X.w X.K X.mg X.base CX k f sp) (hr : Room k X.A) (hx : Passes CX X E) (ha : PA X (e :: es) t)
    (ht : eval (.Call fe (e :: es) [] pos) X.env = (do callWith pos (← eval fe X.env) [] (backTo pos (starEach (e :: es) X.env)) (backToKw pos (keywordEach [] X.env))) := by rfl)
    (hst : starEach (e :: es) X.env = (false, eval e X.env) :: starEach es X.env := by rfl) (hpl : (backTo pos (starEach es X.env)).any (·.1) = false := by rfl) : PE X (.Call fe (e :: es) [] pos) (tCallO C sp E [] tf t tkNil) := by
  refine ⟨fun pins s σ H Q I h => ?_⟩
  rw [ht]
  refine wpAny_bind (thn (he.run pins s σ H _ I h) fun u s1 ⟨x, H1, I1, rx, a, ex, q⟩ => ?_)
  subst ex
  obtain rfl : u = Value.ref a := rx
  have run := thn (ha.run pos pins s1 σ H1 _ I1 q) (fun us s2 (hq : AP X pins σ _ us s2) => by
    obtain ⟨vs, H2, I2, r, hl, dx, fs, h2, q2⟩ := hq
    obtain ⟨od, _, J⟩ := inst_at I2 h2
    exact (⟨⟨_, _, J, rfl⟩, run_callO (ks := []) (ws := []) c F hr hx I2 h2 r .nil hl q2⟩ : (∃ ox od, PySem.W.InstAt s2.heap a ox C od ∧ ox.data = .plain) ∧ wpAny (model X.prog X.w) X.A (call (.ref a) us []) (EP X pins σ Q) X.xe s2))
  rw [hst] at run ⊢
  exact callO_of (K := X.K) (C := C) (by show ((false || (backTo pos (starEach es X.env)).any (·.1)) || false) = false; rw [hpl]; rfl) (PySem.Calls.evalArgs_plain run)
/-- x(e, ..), x a local -/
theorem pe_callOL (hN : X.N[i]? = some x) (hv : Vis X.env.scope x) (c : CallC X.K C f) (F : FnA X.prog X.w X.K X.mg X.base CX k f sp) (hr : Room k X.A) (hx : Passes CX X E) (ha : PA X (e :: es) t) (hdb : (x == ("__debug__" : Str)) = false := by decide) (hcd : (x == ("__classdict__" : Str)) = false := by decide)
    (hst : starEach (e :: es) X.env = (false, eval e X.env) :: starEach es X.env := by rfl) (hpl : (backTo pos (starEach es X.env)).any (·.1) = false := by rfl) : PE X (.Call (.Name x p) (e :: es) [] pos) (tCallO C sp E [] (tVar i) t tkNil) := by
  refine ⟨fun pins s σ H Q I h => ?_⟩
  refine wpAny_Call_Name_kw (thn ((pe_var (pos := p) hN hv hdb hcd).run pins s σ H _ I h) fun u s1 ⟨x, H1, I1, rx, a, ex, q⟩ => ?_)
  subst ex
  obtain rfl : u = Value.ref a := rx
  have run := thn (ha.run pos pins s1 σ H1 _ I1 q) (fun us s2 (hq : AP X pins σ _ us s2) => by
    obtain ⟨vs, H2, I2, r, hl, dx, fs, h2, q2⟩ := hq
    obtain ⟨od, _, J⟩ := inst_at I2 h2
    exact (⟨⟨_, _, J, rfl⟩, run_callO (ks := []) (ws := []) c F hr hx I2 h2 r .nil hl q2⟩ : (∃ ox od, PySem.W.InstAt s2.heap a ox C od ∧ ox.data = .plain) ∧ wpAny (model X.prog X.w) X.A (call (.ref a) us []) (EP X pins σ Q) X.xe s2))
  rw [hst] at run ⊢
  exact callO_of (K := X.K) (C := C) (by show ((false || (backTo pos (starEach es X.env)).any (·.1)) || false) = false; rw [hpl]; rfl) (PySem.Calls.evalArgs_plain run)
/-- fe(k = e, ..) -/
theorem pe_callOK (he : PE X fe tf) (c : CallC X.K C f) (F : FnA X.prog X.w X.K X.mg X.base CX k f sp) (hr : Room k X.A) (hx : Passes CX X E) (hkw : PK X kws tk)
    (ht : eval (.Call fe [] kws pos) X.env = (do callWith pos (← eval fe X.env) [] (backTo pos (starEach [] X.env)) (backToKw pos (keywordEach kws X.env))) := by rfl)
    (hall : (backToKw pos (keywordEach kws X.env)).all (·.1.isSome) = true := by rfl) (hks : (backToKw pos (keywordEach kws X.env)).filterMap (·.1) = ks := by rfl)
    (hpl : ((backTo pos (starEach [] X.env)).any (·.1) || (backToKw pos (keywordEach kws X.env)).any (·.1.isNone)) = false := by rfl) : PE X (.Call fe [] kws pos) (tCallO C sp E ks tf tNil tk) := by
  refine ⟨fun pins s σ H Q I h => ?_⟩
  rw [ht]
  refine wpAny_bind (thn (he.run pins s σ H _ I h) fun u s1 ⟨x, H1, I1, rx, a, ex, q⟩ => ?_)
  subst ex
  obtain rfl : u = Value.ref a := rx
  refine callO_of (K := X.K) (C := C) hpl (evalArgs_kw2_nil hall (thn (hkw.run pos pins s1 σ H1 _ I1 q) fun ws s2 ⟨zs, H2, I2, rz, hl, dx, fs, h2, q2⟩ => ?_))
  obtain ⟨od, _, J⟩ := inst_at I2 h2
  rw [hks]
  exact ⟨⟨_, _, J, rfl⟩, run_callO (us := []) (vs := []) c F hr hx I2 h2 .nil rz hl q2⟩
end
end Gd

set_option maxHeartbeats 4000000
/-! x + y of two instances whose own operator may raise, in a try: the wish knows the slots. -/
namespace Gd
open PySem PySem.Spec PyProof.Rows L2
theorem passX0 {X : Cx} : Passes (L2.CX X.prog X.w) X E0 := fun _ _ _ _ _ _ _ ⟨_, _, _, _, _, _, _, _, _, _, _, _, e⟩ => e.elim
section
variable {X : Cx} {CX : CXT} {k : Nat} {C f g : Addr} {fd : FuncData} {ps : List Str} {sp : Sp} {E : L2.St → XK} {a b : Expr} {ta tb : TE} {pos : Pos}
def tOpS (C : Addr) (sp : Sp) (E : L2.St → XK) (ta tb : TE) : TE := fun σ H Q => ta σ H fun x H1 => tb σ H1 fun y H2 => ∃ a dx fs b dy fs', x = .ref a ∧ H2 a = some (.ins C dx fs) ∧ y = .ref b ∧ H2 b = some (.ins C dy fs') ∧ sp [.ref a, .ref b] H2 Q (E σ)
theorem pe_binS {op : Operator} (c : BinC X.K C op.info.2 f g) (F : FnOk X.prog X.w X.K X.mg X.base CX k f fd ps sp) (hr : Room k X.A) (hb : L2.Binds X.K fd ps []) (hx : ∀ σ, PassesAt CX X σ (E σ)) (ha : PE X a ta) (hb' : PE X b tb) : PE X (.BinOp a op b pos) (tOpS C sp E ta tb) := by
  refine ⟨fun pins s σ H Q I h => ?_⟩
  refine wpAny_BinOp (binT ha hb' I h fun v u s2 x y H2 I2 rx ry q => ?_)
  obtain ⟨a, dx, fs, b, dy, fs', rfl, h1, rfl, h2, q⟩ := q
  cases rx
  cases ry
  obtain ⟨mA, J, _⟩ := ins_get I2.hok h1
  obtain ⟨od, J, _⟩ := J.look
  obtain ⟨mB, JB, _⟩ := ins_get I2.hok h2
  obtain ⟨ob, JB, _⟩ := JB.look
  obtain ⟨m, hF⟩ := I2.fr
  refine PySem.W.binop_K hF I2.ok.mod.kin J JB.type c.sf c.at_ c.fn (wpAny_mono (run_fnS F hr hb (hx σ) I2 (.cons (show RelV (.ref a) (.ref a) from rfl) (.cons (show RelV (.ref b) (.ref b) from rfl) .nil)) q) (fun r s' z => ?_) fun _ _ e => e)
  obtain ⟨w, H', I', rw', q⟩ := z
  exact cmpBack_of rw' ⟨w, H', I', rw', q⟩
end
/-! ### o.m(k = e, ..) -/
section
variable {X : Cx} {CX : CXT} {k : Nat} {C f : Addr} {sp : SpA} {E : XK} {ta : TE} {tk : TA} {pos : Pos} {kws : List Keyword} {ks : List Str}
def tMethK (C : Addr) (m : Str) (sp : SpA) (E : XK) (ks : List Str) (ta : TE) (tk : TA) : TE := fun σ H Q => ta σ H fun x H1 => ∃ a dx fs, x = .ref a ∧ H1 a = some (.ins C dx fs) ∧ fs.lookup m = none ∧ tk σ H1 fun zs H2 => zs.length = ks.length ∧ sp [.ref a] (ks.zip zs) H2 Q E
theorem pe_methK {pl : Sem Bool} {o : Expr} {m : Str} {apos : Pos} (he : PE X o ta) (c : Cls X.K C) (hm : Meth X.K C m f) (F : FnA X.prog X.w X.K X.mg X.base CX k f sp) (hr : Room k X.A) (hx : Passes CX X E) (hkw : PK X kws tk)
    (hall : (backToKw pos (keywordEach kws X.env)).all (·.1.isSome) = true := by rfl) (hks : (backToKw pos (keywordEach kws X.env)).filterMap (·.1) = ks := by rfl)
    (hpl : ((backTo pos (starEach [] X.env)).any (·.1) || (backToKw pos (keywordEach kws X.env)).any (·.1.isNone)) = false := by rfl)
    (ht : eval (.Call (.Attribute o m apos) [] kws pos) X.env = (do
      let ov ← eval o X.env
      standAt apos.atName
      let (f, first) ← holding [ov] (getMethod ov m pl)
      callWith pos f first (backTo pos (starEach [] X.env)) (backToKw pos (keywordEach kws X.env))) := by rfl) :
    PE X (.Call (.Attribute o m apos) [] kws pos) (tMethK C m sp E ks ta tk) := by
  refine ⟨fun pins s σ H Q I h => ?_⟩
  refine PySem.W.methodCall_KW (pl := pl) (thn (he.run pins s σ H _ I h) fun u s1 ⟨x, H1, I1, rx, a, dx, fs, ex, ea, l, q⟩ => ?_) ht
  subst ex
  obtain rfl : u = Value.ref a := rx
  refine getmeth_ok I1 ea c hm l ?_
  refine PySem.W.callWith_KW0 (first := [.ref a]) (h₀ := X.base) I.ok.mod.kin hm.kp hall ?_ hpl
  refine thn (hkw.run pos pins s1 σ H1 _ I1 q) fun ws s2 ⟨zs, H2, I2, rz, hl, q2⟩ => ⟨I2.kIn, ?_⟩
  rw [hks]
  refine wpAny_call (codeAny_mono (F X.A X.stack s2 H2 [Value.ref a] ws [V.ref a] zs ks Q E hr I2.env0 (.cons (show RelV (.ref a) (.ref a) from rfl) .nil) rz hl q2) fun r s' hq => ?_)
  cases r with
  | error e => exact hx pins σ _ _ e s' I2 hq
  | ok fl =>
    cases fl with
    | ret u =>
      obtain ⟨v, H', I3, rv, q3⟩ := I2.after hq
      exact ⟨v, H', I3, rv, q3⟩
    | next => exact False.elim hq
    | brk => exact False.elim hq
    | cont => exact False.elim hq
end
end Gd

set_option maxHeartbeats 4000000
namespace Gd
open PySem PySem.Spec PyProof.Rows L2 Evl TL

/-! ### the kinds of values that isinstance(x, str) tells apart -/
inductive NotS (K : PySem.W.Frag) (H : Hp) : V → Prop where
  | non : NotS K H .non
  | bl (b : Bool) : NotS K H (.bl b)
  | int (i : Int) : NotS K H (.int i)
  | lst {a : Addr} {xs : List V} (h : H a = some (.lst xs)) : NotS K H (.ref a)
  | tup {a : Addr} {xs : List V} (h : H a = some (.tup xs)) : NotS K H (.ref a)
  | dic {a : Addr} {kvs : List (Key × V)} (h : H a = some (.dK kvs)) : NotS K H (.ref a)
theorem NotS.ex {K : PySem.W.Frag} {H H' : Hp} {v : V} (n : NotS K H v) (e : Ex H H') : NotS K H' v := by
  cases n with
  | non => exact .non
  | bl b => exact .bl b
  | int i => exact .int i
  | lst h => exact .lst (e _ _ h)
  | tup h => exact .tup (e _ _ h)
  | dic h => exact .dic (e _ _ h)
theorem NotS.no {K : PySem.W.Frag} {H : Hp} {v : V} (n : NotS K H v) : ∃ t, TyX K H v (.type t) ∧ kitB t "str" = some false := by
  cases n with
  | non => exact ⟨_, .base .non, by decide +kernel⟩
  | bl b => exact ⟨_, .base (.bl b), by decide +kernel⟩
  | int i => exact ⟨_, .base (.int i), by decide +kernel⟩
  | lst h => exact ⟨_, .base (.lst h), by decide +kernel⟩
  | tup h => exact ⟨_, .base (.tup h), by decide +kernel⟩
  | dic h => exact ⟨_, .base (.dK h), by decide +kernel⟩
section
variable {K : PySem.W.Frag} {σ : L2.St} {H H' : Hp} {ta tb te : TE} {t u : TT} {x y z v : V}
theorem ev_isiS {w : Str} (h : Ev te σ H (.str w)) : Ev (tCB (rIsi K) (tCons te (tCons (tC (.ty "str")) tNil))) σ H (.bl true) :=
  ev_cb (ea_cons h (ea_cons ev_c ea_nil)) fun H1 e Q q => ⟨.str w, .ty "str", _, _, true, rfl, .ty _, .base (.str w), kit_ty (by decide +kernel), q H1 (Ex.refl H1)⟩
theorem ev_isiN (h : Ev te σ H v) (n : NotS K H v) : Ev (tCB (rIsi K) (tCons te (tCons (tC (.ty "str")) tNil))) σ H (.bl false) :=
  ev_cb (ea_cons h (ea_cons ev_c ea_nil)) fun H1 e Q q => by
    obtain ⟨t, h1, h2⟩ := (n.ex e).no
    exact ⟨v, .ty "str", _, _, false, rfl, .ty _, h1, kit_ty h2, q H1 (Ex.refl H1)⟩
/-! ### comprehensions over a text's signs -/
theorem lc_signs {x : Str} {g : TG} {tt : TT} {te : TE} {vs : List Nat} {σ : L2.St} {H1 : Hp} {D : Addr} {Qd : Hp → Prop} (Pv : Nat → Hp → Prop) (h0 : Pv 0 (upd H1 D (.lst [])))
    (hs : ∀ i c H, (tl x)[i]? = some c → Pv i H → g (.str ⟨#[c]⟩) (wipe σ vs) H fun σ2 H2 => wipe σ2 vs = wipe σ vs ∧ tt σ2 H2 fun b H3 =>
      if b = true then te σ2 H3 fun y H4 => ∃ acc, H4 D = some (.lst acc) ∧ acc.length < sizeLine ∧ Pv (i + 1) (upd H4 D (.lst (acc ++ [y]))) else Pv (i + 1) H3) (hd : ∀ H, Pv (tl x).length H → Qd H) :
    ∃ W : Nat → Nat → Hp → Prop, (∃ m, W 0 m (upd H1 D (.lst []))) ∧ ∀ i m H, W i m H →
      ((Its x).stop i H ∧ Qd H) ∨ ((Its x).go i H ∧ ∃ Nx : Hp → Prop, (∀ H', Nx H' → ∃ m', m' < m ∧ W (i + 1) m' H') ∧ ∀ v H', (Its x).yld i H v H' → g v (wipe σ vs) H' fun σ2 H2 => wipe σ2 vs = wipe σ vs ∧ tt σ2 H2 fun b H3 =>
        if b = true then te σ2 H3 fun y H4 => ∃ acc, H4 D = some (.lst acc) ∧ acc.length < sizeLine ∧ Nx (upd H4 D (.lst (acc ++ [y]))) else Nx H3) := by
  have en : x.cps.size = (tl x).length := by simp [tl]
  refine ⟨fun i m H => m + i = (tl x).length ∧ Pv i H, ⟨(tl x).length, rfl, h0⟩, ?_⟩
  intro i m H hw
  obtain ⟨hm, p⟩ := hw
  cases m with
  | zero =>
    have ei : i = (tl x).length := by omega
    refine Or.inl ⟨?_, ?_⟩
    · show x.cps.size ≤ i
      omega
    · rw [ei] at p
      exact hd H p
  | succ m =>
    refine Or.inr ⟨?_, Pv (i + 1), fun H' p' => ⟨m, Nat.lt_succ_self m, by omega, p'⟩, fun v H' yv => ?_⟩
    · show i < x.cps.size
      omega
    · obtain ⟨rfl, c, hc, rfl⟩ := yv
      exact hs i c _ (by rw [← hc]; exact Array.getElem?_toList) p
theorem el_lcS {te0 : TE} {z : Str} {j : Nat} {vs : List Nat} (f : Nat → Bool) (v : Nat → V) (h : Ev te0 σ H (.str z)) (hz : z.length ≤ 40000) (hw : ∀ x, wipe ((wipe σ vs).set j (some x)) vs = wipe σ vs)
    (ht : ∀ (i c : Nat) H1, Ex H H1 → (tl z)[i]? = some c → EvT t ((wipe σ vs).set j (some (.str ⟨#[c]⟩))) H1 (f i)) (he : ∀ (i c : Nat) H1, Ex H H1 → (tl z)[i]? = some c → f i = true → Ev te ((wipe σ vs).set j (some (.str ⟨#[c]⟩))) H1 (v i)) :
    EvL (tLc (iStr te0) (gName j) t te vs) σ H (given (tl z).length f v) := fun H0 e Q q => h H0 e _ fun H1 e1 => ⟨z, rfl, fun Dl hD =>
  lc_signs (x := z) (Cw H1 f v Dl) ⟨hD, Ex.new hD, upd_same⟩ (fun i c H' hi p => ⟨hw _, cw_turn p (by have := (List.getElem?_eq_some_iff.mp hi).1; have e2 := len_tl z; omega) (ht i c H1 (e.trans e1) hi) (fun hf => he i c H1 (e.trans e1) hi hf)⟩)
    (fun H' p => q Dl H' (fresh_back e1 p.1) (e1.trans p.2.1) p.2.2)⟩
/-- how many signs a comprehension keeps -/
theorem given_count (l : List Nat) (p : Nat → Bool) (f : Nat → Bool) (v : Nat → V) (hf : ∀ i c, l[i]? = some c → f i = p c) : (given l.length f v).length = (l.filter p).length := by
  unfold given
  rw [List.length_map]
  have key : ∀ n, n ≤ l.length → ((List.range n).filter f).length = ((l.take n).filter p).length := by
    intro n
    induction n with
    | zero => intro _; rfl
    | succ n ih =>
      intro hn
      have hn' : n < l.length := by omega
      rw [List.range_succ, List.filter_append, List.length_append, ih (by omega), List.take_add_one, List.filter_append, List.length_append]
      rw [List.getElem?_eq_getElem hn']
      have e := hf n l[n] (List.getElem?_eq_getElem hn')
      rw [Option.toList_some, List.filter_cons, List.filter_cons, e]
      cases p l[n] <;> rfl
  have h := key l.length (Nat.le_refl _)
  rw [List.take_length] at h
  exact h
theorem filter_all (l : List Nat) (p : Nat → Bool) : (l.filter p).length = l.length ↔ ∀ c ∈ l, p c = true := List.length_filter_eq_length_iff

/-! ### parts -/
def rParts : V → List V → Hp → VK → Prop := fun x xs H Q => ∃ a b, x = .str a ∧ xs = [.str b] ∧ (b.length == 0) = false ∧ a.length ≤ sizeLine ∧
    ∀ p, H p = none → Q (.ref p) (upd H p (.tup [.str (Txt.partition a b).1, .str (Txt.partition a b).2.1, .str (Txt.partition a b).2.2]))
theorem eu_partition {a b : Str} (h : Ev ta σ H (.str a)) (h2 : Ev tb σ H (.str b)) (hb : (b.length == 0) = false) (ha : a.length ≤ 100000) :
    EvU (tM1 rParts ta tb) σ H [.str (Txt.partition a b).1, .str (Txt.partition a b).2.1, .str (Txt.partition a b).2.2] := fun H1 e Q q =>
  h H1 e _ fun H2 e2 => ⟨⟨a, rfl⟩, h2 H2 (e.trans e2) _ fun H3 e3 => ⟨a, b, rfl, rfl, hb, sz_of ha, fun p hp => q p _ (fresh_back (e2.trans e3) hp) ((e2.trans e3).trans (Ex.new hp)) upd_same⟩⟩
def rSplit : V → List V → Hp → VK → Prop := fun x xs H Q => ∃ a b, x = .str a ∧ xs = [.str b] ∧ (b.length == 0) = false ∧ a.length + 2 ≤ sizeLine ∧ rNewStrs (Txt.split a b) H Q
theorem el_split {a b : Str} (h : Ev ta σ H (.str a)) (h2 : Ev tb σ H (.str b)) (hb : (b.length == 0) = false) (ha : a.length ≤ 90000) :
    EvL (tM1 rSplit ta tb) σ H ((Txt.split a b).map V.str) := fun H1 e Q q =>
  h H1 e _ fun H2 e2 => ⟨⟨a, rfl⟩, h2 H2 (e.trans e2) _ fun H3 e3 => ⟨a, b, rfl, rfl, hb, sz_of (by omega), fun p hp => q p _ (fresh_back (e2.trans e3) hp) ((e2.trans e3).trans (Ex.new hp)) upd_same⟩⟩
def rStarts : V → List V → Hp → VK → Prop := fun x xs H Q => ∃ a b, x = .str a ∧ xs = [.str b] ∧ Q (.bl (Txt.startswith a b)) H
theorem ev_starts {a b : Str} (h : Ev ta σ H (.str a)) (h2 : Ev tb σ H (.str b)) : Ev (tM1 rStarts ta tb) σ H (.bl (Txt.startswith a b)) := fun H1 e Q q =>
  h H1 e _ fun H2 e2 => ⟨⟨a, rfl⟩, h2 H2 (e.trans e2) _ fun H3 e3 => ⟨a, b, rfl, rfl, q H3 (e2.trans e3)⟩⟩
theorem ev_allL {bs : List Bool} (h : EvL te σ H (bs.map V.bl)) : Ev (tCB (rAll K) (tCons te tNil)) σ H (.bl (bs.all id)) := fun H1 e Q q =>
  h H1 e _ fun p H2 hp e2 h2 => ⟨p, bs, rfl, sq_of h2, q H2 e2⟩
/-- a, b, c = a new tuple -/
theorem q_unpack3 {D : Ends} {tz : TS} {i j k : Nat} {a b c : V} (h : EvU te σ H [a, b, c]) (kk : ∀ H1, Ex H H1 → tz D (((σ.set i (some a)).set j (some b)).set k (some c)) H1) :
    tSeq (tAsg te (gTup K 3 (gCons (gName i) (gCons (gName j) (gCons (gName k) gNil))))) tz D σ H := h H (Ex.refl H) _ fun p H1 hp e h1 =>
  ⟨p, [a, b, c], rfl, st_of h1, rfl, a, [b, c], rfl, b, [c], rfl, c, [], rfl, rfl, kk H1 e⟩
theorem spl_len (S : List Nat) : ∀ (l : List Nat) (k : Nat) (acc : List Nat), ∀ y ∈ spl S k acc l, y.length ≤ acc.length + l.length
  | [], k, acc, y, hy => by
    rw [spl_nil] at hy
    cases List.mem_singleton.mp hy
    exact Nat.le_add_right _ _
  | c :: r, 0, acc, y, hy => by
    rw [List.length_cons]
    cases q : pre S (c :: r) with
    | true =>
      rw [spl_hit q] at hy
      cases List.mem_cons.mp hy with
      | inl e => rw [e]; omega
      | inr hy =>
        have := spl_len S r _ [] y hy
        rw [List.length_nil] at this
        omega
    | false =>
      rw [spl_miss q] at hy
      have := spl_len S r 0 _ y hy
      rw [List.length_append, List.length_singleton] at this
      omega
  | c :: r, k + 1, acc, y, hy => by
    have := spl_len S r k acc y hy
    rw [List.length_cons]
    omega
theorem split_len {x y p : Str} (hy : tl y ≠ []) (hk : y.cps.all (· < 256) = true) (h : p ∈ Txt.split x y) : p.length ≤ x.length := by
  have h1 := split_spl x y hy (kind_ok hk)
  have h2 : tl p ∈ (Txt.split x y).map tl := List.mem_map_of_mem h
  rw [h1] at h2
  have h3 := spl_len _ _ _ _ _ h2
  rw [List.length_nil, Nat.zero_add] at h3
  rw [len_tl, len_tl]
  exact h3
theorem par_len (S : List Nat) : ∀ (l acc a b : List Nat), par S acc l = some (a, b) → a.length + b.length ≤ acc.length + l.length
  | [], acc, a, b, h => by cases h
  | c :: r, acc, a, b, h => by
    cases q : pre S (c :: r) with
    | true =>
      rw [par_hit q] at h
      cases h
      rw [List.length_drop]
      omega
    | false =>
      rw [par_miss q] at h
      have := par_len S r _ a b h
      rw [List.length_append, List.length_singleton] at this
      rw [List.length_cons]
      omega
theorem part_facts (x y : Str) (hy : tl y ≠ []) : (Txt.partition x y).1.length + (Txt.partition x y).2.2.length ≤ x.length ∧ ((Txt.partition x y).2.1 = Str.empty → (Txt.partition x y).1 = x) := by
  rw [partition_par x y hy]
  cases q : par (tl y) [] (tl x) with
  | none => exact ⟨by show x.length + Str.empty.length ≤ x.length; exact Nat.le_refl _, fun _ => rfl⟩
  | some ab =>
    obtain ⟨a, b⟩ := ab
    have h := par_len _ _ _ _ _ q
    rw [List.length_nil, Nat.zero_add, ← len_tl] at h
    refine ⟨?_, fun e => ?_⟩
    · show (⟨a.toArray⟩ : Str).length + (⟨b.toArray⟩ : Str).length ≤ x.length
      rw [len_tl, len_tl]
      exact h
    · have e2 : y = Str.empty := e
      exact absurd (by rw [e2]; rfl) hy
/-! ### chains, sums of lists, texts many times -/
theorem ev_chain {r r' : R2} {tc : TE} {z' : V} {a b : Bool} (ha : Ev ta σ H x) (hb : Ev tb σ H y) (hr : RV r x y H (.bl a)) (hc : a = true → Ev tc σ H z') (hr' : a = true → RV r' y z' H (.bl b)) : Ev (tChain r r' ta tb tc) σ H (.bl (a && b)) := fun H1 e Q q =>
  ha H1 e _ fun H2 e2 => hb H2 (e.trans e2) _ fun H3 e3 => hr H3 ((e.trans e2).trans e3) _ fun H4 e4 => ⟨a, rfl, by
    cases a with
    | true =>
      show tc σ H4 fun w' H5 => r' y w' H5 Q
      exact hc rfl H4 (((e.trans e2).trans e3).trans e4) _ fun H5 e5 => hr' rfl H5 ((((e.trans e2).trans e3).trans e4).trans e5) Q fun H6 e6 => q H6 ((((e2.trans e3).trans e4).trans e5).trans e6)
    | false =>
      show Q (.bl false) H4
      exact q H4 ((e2.trans e3).trans e4)⟩
theorem el_cat {xs ys : List V} (ha : EvL ta σ H xs) (hb : EvL tb σ H ys) (hz : xs.length + ys.length ≤ 100000) : EvL (tOp rCat ta tb) σ H (xs ++ ys) := fun H1 e Q q =>
  ha H1 e _ fun p H2 hp e2 h2 => hb H2 (e.trans e2) _ fun p' H3 hp' e3 h3 => ⟨p, p', xs, ys, rfl, rfl, e3 p _ h2, h3, sz_of hz, fun r hr => q r _ (fresh_back (e2.trans e3) hr) ((e2.trans e3).trans (Ex.new hr)) upd_same⟩
theorem el_cat1 {l : Addr} {xs ys : List V} (ha : Ev ta σ H (.ref l)) (hl : H l = some (.lst xs)) (hb : EvL tb σ H ys) (hz : xs.length + ys.length ≤ 100000) : EvL (tOp rCat ta tb) σ H (xs ++ ys) := fun H1 e Q q =>
  ha H1 e _ fun H2 e2 => hb H2 (e.trans e2) _ fun p' H3 hp' e3 h3 => ⟨l, p', xs, ys, rfl, rfl, ((e.trans e2).trans e3) l _ hl, h3, sz_of hz, fun r hr => q r _ (fresh_back (e2.trans e3) hr) ((e2.trans e3).trans (Ex.new hr)) upd_same⟩
theorem el_rep {xs : List V} {k : Nat} (ha : EvL ta σ H xs) (hb : Ev tb σ H (.int (k : Int))) (hz : xs.length * k ≤ 100000) (hk : k ≤ 100000) : EvL (tOp rRep ta tb) σ H (List.replicate k xs).flatten := fun H1 e Q q =>
  ha H1 e _ fun p H2 hp e2 h2 => hb H2 (e.trans e2) _ fun H3 e3 => ⟨p, (k : Int), xs, rfl, rfl, e3 p _ h2, by omega, by omega, by rw [Int.toNat_natCast]; exact sz_of hz, fun r hr => by
    rw [Int.toNat_natCast]
    exact q r _ (fresh_back (e2.trans e3) hr) ((e2.trans e3).trans (Ex.new hr)) upd_same⟩
end
section
variable {X : Cx}
/-- the script and a new list, joined -/
def rCatS (K : PySem.W.Frag) : R2 := fun x y H Q => ∃ l b ns zs, x = .ref l ∧ y = .ref b ∧ Scr K H l ns ∧ H b = some (.lst zs) ∧ ns.length + zs.length ≤ sizeLine ∧ ∀ p, H p = none → Q (.ref p) (upd H p (.lst (ns.map V.int ++ zs)))
theorem op_catS : OpR X (binaryOp .Add) (rCatS X.K) := by
  intro pins s σ H x y v u Q I rx ry h
  obtain ⟨l, b, ns, zs, rfl, rfl, hS, hB, hz, q⟩ := h
  cases rx
  cases ry
  obtain ⟨z2, its2, n2, r2, hl2, e2⟩ := I.lstM hB
  have key : ∃ (its : List Value) (n : Nat), Vals (ns.map V.int) its ∧ s.heap.get? l = some { cls := .type "list", data := .seq its.toArray n } := by
    cases hS with
    | inl h =>
      obtain ⟨_, its, n, r, e⟩ := h.ok I.hok
      exact ⟨its, n, r, e⟩
    | inr h =>
      obtain ⟨vs, h1, h2, h3⟩ := h
      exact ⟨vs, _, h3, I.kIn l _ h1⟩
  obtain ⟨its, n, r, e⟩ := key
  have hn : its.length = ns.length := by rw [← r.length, List.length_map]
  refine PySem.P.add_list e e2 ?_ (by rw [List.size_toArray, List.size_toArray]; omega)
  have ea : its.toArray ++ its2.toArray = (its ++ its2).toArray := by simp
  rw [ea]
  exact ⟨.ref _, _, I.lnew (t' := s.toks) (r.append r2) (by rw [List.length_append, List.length_map]; omega), rfl, q _ I.fresh⟩
/-- a text so many times -/
def rMulS : R2 := fun x y H Q => ∃ z k, x = .str z ∧ y = .int k ∧ MulOk z k ∧ Q (.str (Txt.mul z k)) H
theorem op_mulS : OpR X (binaryOp .Mult) rMulS := by
  intro pins s σ H x y v u Q I rx ry h
  obtain ⟨z, k, rfl, rfl, hz, q⟩ := h
  obtain ⟨t, rfl⟩ := rx
  obtain ⟨t', rfl⟩ := ry
  exact PySem.SB.mul hz fun t2 k2 => ⟨.str (Txt.mul z k), H, I.tok _, ⟨_, rfl⟩, q⟩
end
section
variable {K : PySem.W.Frag} {σ : L2.St} {H : Hp} {ta tb : TE}
theorem rv_mulS {z : Str} {k : Int} (h : MulOk z k) : RV rMulS (.str z) (.int k) H (.str (Txt.mul z k)) := fun H1 _ Q q => ⟨z, k, rfl, rfl, h, q H1 (Ex.refl H1)⟩
theorem Scr.ex {H1 : Hp} {a : Addr} {ns : List Int} (h : Scr K H a ns) (e : Ex H H1) : Scr K H1 a ns := by
  cases h with
  | inl h => exact Or.inl (ex_rd e h)
  | inr h => exact Or.inr h
theorem el_catS {l : Addr} {ns : List Int} {ys : List V} (ha : Ev ta σ H (.ref l)) (hS : Scr K H l ns) (hb : EvL tb σ H ys) (hz : ns.length + ys.length ≤ 100000) : EvL (tOp (rCatS K) ta tb) σ H (ns.map V.int ++ ys) := fun H1 e Q q =>
  ha H1 e _ fun H2 e2 => hb H2 (e.trans e2) _ fun p' H3 hp' e3 h3 => ⟨l, p', ns, ys, rfl, rfl, hS.ex ((e.trans e2).trans e3), h3, sz_of hz, fun r hr => q r _ (fresh_back (e2.trans e3) hr) ((e2.trans e3).trans (Ex.new hr)) upd_same⟩
end
end Gd

set_option maxHeartbeats 4000000
namespace Gd
open PySem PySem.Spec PyProof.Rows L2 Evl TL
/-! ### list(a text) -/
section
variable {X : Cx}
def signV (c : Nat) : V := .str ⟨#[c]⟩
def rSigns : List V → Hp → VK → Prop := fun xs H Q => ∃ z, xs = [.str z] ∧ z.length ≤ sizeLine ∧ ∀ l, H l = none → Q (.ref l) (upd H l (.lst ((tl z).map signV)))
theorem vals_signs : ∀ {l : List Value} {m : List Nat}, l.length = m.length → (∀ (i : Nat) (v : Value), l[i]? = some v → ∃ (c : Nat) (t : Tok), m[i]? = some c ∧ v = Value.str ⟨#[c]⟩ t) → Vals (m.map signV) l
  | [], [], _, _ => .nil
  | v :: l, c :: m, hl, h => by
    obtain ⟨c', t, h1, h2⟩ := h 0 v rfl
    cases h1
    exact .cons ⟨t, h2⟩ (vals_signs (by simpa using hl) fun i v hv => h (i + 1) v hv)
  | [], _ :: _, hl, _ => by simp at hl
  | _ :: _, [], hl, _ => by simp at hl
theorem call_list_signs (hc : X.calm = true) : CallR X (.type "list") rSigns := by
  intro pins s σ H xs us Q I r h
  obtain ⟨z, rfl, hz, q⟩ := h
  obtain ⟨u, rfl, t, rfl⟩ := vals1 r
  have e0 : z.cps.size = (tl z).length := by simp [tl]
  refine PySem.call_list_str (I.ok.hd hc) z t (fun h' tk acc c keep hS hi => ?_) (by rw [e0, ← len_tl]; exact hz)
  have hv : Vals ((tl z).map signV) acc.toList := by
    refine vals_signs (by rw [← e0, Array.length_toList]; exact hi.1) fun i v hv => ?_
    obtain ⟨c, t, h1, h2⟩ := hi.2 i v (by rw [← hv]; exact Array.getElem?_toList.symm)
    exact ⟨c, t, by rw [← h1]; exact Array.getElem?_toList, h2⟩
  refine ⟨.ref _, _, I.laid (o := .lst ((tl z).map signV)) keep (Nat.le_refl _) ⟨by rw [List.length_map, ← len_tl]; exact hz, acc.toList, c, hv, by simpa using hS⟩, rfl, q _ I.fresh⟩
end
theorem el_signs {σ : L2.St} {H : Hp} {te : TE} {z : Str} (h : Ev te σ H (.str z)) (hz : z.length ≤ 100000) : EvL (tCB rSigns (tCons te tNil)) σ H ((tl z).map signV) :=
  el_cb (ea_cons h ea_nil) fun H1 e Q q => ⟨z, rfl, sz_of hz, fun l hl => q l _ hl (Ex.new hl) upd_same⟩
/-- int(n) of an int -/
def rInt1 : List V → Hp → VK → Prop := fun xs H Q => (∃ i, xs = [.int i] ∧ Q (.int i) H) ∨ ∃ k, xs = [.bl k] ∧ Q (.int (if k then 1 else 0)) H
theorem ev_int1 {σ : L2.St} {H : Hp} {te : TE} {i : Int} (h : Ev te σ H (.int i)) : Ev (tCB rInt1 (tCons te tNil)) σ H (.int i) :=
  ev_cb (ea_cons h ea_nil) fun H1 e Q q => Or.inl ⟨i, rfl, q H1 (Ex.refl H1)⟩

/-! ### a stream of draws: the list of three ints at p -/
def Sx (p : Addr) (b : Int) (H : Hp) : Prop := ∃ a c : Int, H p = some (.lst [.int a, .int b, .int c])
/-- a heap without what stands at p -/
def wo (p : Addr) (H : Hp) : Hp := fun a => if a = p then none else H a
theorem wo_at {p : Addr} {H : Hp} : wo p H p = none := if_pos rfl
theorem wo_ne {p a : Addr} {H : Hp} (h : a ≠ p) : wo p H a = H a := if_neg h
theorem wo_ex {p : Addr} {H : Hp} : Ex (wo p H) H := fun a o h => by
  by_cases e : a = p
  · rw [e, wo_at] at h
    cases h
  · rw [wo_ne e] at h
    exact h
theorem wo_mono {p : Addr} {H H' : Hp} (e : Ex H H') : Ex (wo p H) (wo p H') := fun a o h => by
  by_cases q : a = p
  · rw [q, wo_at] at h
    cases h
  · rw [wo_ne q] at h ⊢
    exact e a o h
theorem wo_upd {p : Addr} {H : Hp} {o : HO} : Ex (wo p H) (upd H p o) := fun a u h => by
  by_cases q : a = p
  · rw [q, wo_at] at h
    cases h
  · rw [wo_ne q] at h
    rw [upd_ne q]
    exact h
theorem wo_trans {p : Addr} {H H1 H2 : Hp} (e : Ex (wo p H) H1) (e2 : Ex (wo p H1) H2) : Ex (wo p H) H2 := fun a u h => by
  by_cases q : a = p
  · rw [q, wo_at] at h
    cases h
  · exact e2 a u (by rw [wo_ne q]; exact e a u h)
theorem wo_go {p : Addr} {G H1 H2 : Hp} (hg : G p = none) (e : Ex G H1) (e2 : Ex (wo p H1) H2) : Ex G H2 := fun a u h => by
  have q : a ≠ p := ne_of_none h hg
  exact e2 a u (by rw [wo_ne q]; exact e a u h)
theorem sq_wo {K : PySem.W.Frag} {p l : Addr} {H : Hp} {xs : List V} (np : l ≠ p) (h : SqL K H l xs) : SqL K (wo p H) l xs := by
  rcases h with (h | ⟨o, h⟩) | h
  · exact Or.inl (Or.inl (by rw [wo_ne np]; exact h))
  · exact Or.inl (Or.inr ⟨o, by rw [wo_ne np]; exact h⟩)
  · exact Or.inr h
theorem Sx.ex {p : Addr} {b : Int} {H H' : Hp} (s : Sx p b H) (e : Ex H H') : Sx p b H' := by
  obtain ⟨a, c, h⟩ := s
  exact ⟨a, c, e _ _ h⟩
/-- what follows a number of draws, at most k: the value, the heap, the draws so far -/
def Cn (p : Addr) (H1 : Hp) (b : Int) (k : Nat) (R : V → Hp → Prop) (Q : VK) : Prop := ∀ v H2 b', b ≤ b' → b' ≤ b + k → Sx p b' H2 → Ex (wo p H1) H2 → R v H2 → Q v H2
/-- an expression that draws at most k times; G: what stands besides -/
def Dv (p : Addr) (te : TE) (σ : L2.St) (G : Hp) (k : Nat) (R : V → Prop) : Prop :=
  ∀ H1, Ex G H1 → ∀ b : Int, 0 ≤ b → b + k ≤ 1000000000 → Sx p b H1 → ∀ Q : VK, Cn p H1 b k (fun v _ => R v) Q → te σ H1 Q
/-- the same, a new list comes -/
def DvL (p : Addr) (te : TE) (σ : L2.St) (G : Hp) (k : Nat) (R : List V → Prop) : Prop :=
  ∀ H1, Ex G H1 → ∀ b : Int, 0 ≤ b → b + k ≤ 1000000000 → Sx p b H1 → ∀ Q : VK, Cn p H1 b k (fun v H2 => ∃ l ys, v = .ref l ∧ l ≠ p ∧ H1 l = none ∧ H2 l = some (.lst ys) ∧ R ys) Q → te σ H1 Q
def DvA (p : Addr) (ta : TA) (σ : L2.St) (G : Hp) (k : Nat) (R : List V → Prop) : Prop :=
  ∀ H1, Ex G H1 → ∀ b : Int, 0 ≤ b → b + k ≤ 1000000000 → Sx p b H1 → ∀ Q : List V → Hp → Prop, (∀ vs H2 b', b ≤ b' → b' ≤ b + k → Sx p b' H2 → Ex (wo p H1) H2 → R vs → Q vs H2) → ta σ H1 Q
section
variable {K : PySem.W.Frag} {p : Addr} {σ : L2.St} {G : Hp} {te ta tb : TE} {k j : Nat} {R : V → Prop} {v : V}
theorem dv_ev (h : Ev te σ G v) : Dv p te σ G 0 (fun x => x = v) := fun H1 e b hb hk s Q q =>
  h H1 e _ fun H2 e2 => q v H2 b (Int.le_refl _) (by omega) (s.ex e2) (fun a o z => e2 a o (wo_ex a o z)) rfl
theorem dv_imp {R' : V → Prop} (h : Dv p te σ G k R) (hi : ∀ x, R x → R' x) (hj : k ≤ j) : Dv p te σ G j R' := fun H1 e b hb hk s Q q =>
  h H1 e b hb (by omega) s Q fun v H2 b' h1 h2 h3 h4 h5 => q v H2 b' h1 (by omega) h3 h4 (hi v h5)
theorem dvl_imp {R R' : List V → Prop} (h : DvL p te σ G k R) (hi : ∀ x, R x → R' x) (hj : k ≤ j) : DvL p te σ G j R' := fun H1 e b hb hk s Q q =>
  h H1 e b hb (by omega) s Q fun v H2 b' h1 h2 h3 h4 h5 => q v H2 b' h1 (by omega) h3 h4 (by obtain ⟨l, ys, a1, a2, a3, a4, a5⟩ := h5; exact ⟨l, ys, a1, a2, a3, a4, hi ys a5⟩)
theorem dvl_ev {xs : List V} (h : EvL te σ G xs) : DvL p te σ G 0 (fun x => x = xs) := fun H1 e b hb hk s Q q =>
  h H1 e _ fun l H2 hl e2 h2 => q (.ref l) H2 b (Int.le_refl _) (by omega) (s.ex e2) (fun a o z => e2 a o (wo_ex a o z)) ⟨l, xs, rfl, by
    obtain ⟨a, c, hp⟩ := s
    exact (ne_of_none hp hl).symm, hl, h2, rfl⟩
theorem dva_nil : DvA p tNil σ G 0 (fun vs => vs = []) := fun H1 e b hb hk s Q q => q [] H1 b (Int.le_refl _) (by omega) s wo_ex rfl
theorem dva_cons {tr : TA} {Rs : List V → Prop} (hg : G p = none) (h : Dv p te σ G k R) (hr : DvA p tr σ G j Rs) : DvA p (tCons te tr) σ G (k + j) (fun vs => ∃ v r, vs = v :: r ∧ R v ∧ Rs r) := fun H1 e b hb hk s Q q =>
  h H1 e b hb (by omega) s _ fun v H2 b2 h1 h2 h3 h4 h5 => hr H2 (wo_go hg e h4) b2 (by omega) (by omega) h3 _ fun vs H3 b3 g1 g2 g3 g4 g5 =>
    q (v :: vs) H3 b3 (by omega) (by omega) g3 (wo_trans h4 g4) ⟨v, vs, rfl, h5, g5⟩
theorem dvl_lst {ta : TA} {Rs : List V → Prop} (h : DvA p ta σ G k Rs) (hl : ∀ vs, Rs vs → vs.length ≤ 100000) : DvL p (tLst ta) σ G k Rs := fun H1 e b hb hk s Q q =>
  h H1 e b hb hk s _ fun vs H2 b2 h1 h2 h3 h4 h5 => ⟨sz_of (hl vs h5), fun l nl => by
    obtain ⟨a, c, hp⟩ := h3
    have np : l ≠ p := (ne_of_none hp nl).symm
    have hl1 : H1 l = none := by
      cases z : H1 l with
      | none => rfl
      | some o =>
        rw [h4 l o (by rw [wo_ne np]; exact z)] at nl
        cases nl
    exact q (.ref l) _ b2 h1 h2 ⟨a, c, by rw [upd_ne np.symm]; exact hp⟩ (fun x o z => Ex.new nl x o (h4 x o z)) ⟨l, vs, rfl, np, hl1, upd_same, h5⟩⟩
/-- two operands, the result a value by r -/
theorem dv_op {r : R2} {Ra Rb Rz : V → Prop} (hg : G p = none) (ha : Dv p ta σ G k Ra) (hb : Dv p tb σ G j Rb) (hr : ∀ x y, Ra x → Rb y → ∃ z, (∀ H : Hp, RV r x y H z) ∧ Rz z) : Dv p (tOp r ta tb) σ G (k + j) Rz := fun H1 e b hb0 hk s Q q =>
  ha H1 e b hb0 (by omega) s _ fun x H2 b2 h1 h2 h3 h4 h5 => hb H2 (wo_go hg e h4) b2 (by omega) (by omega) h3 _ fun y H3 b3 g1 g2 g3 g4 g5 => by
    obtain ⟨z, hz, rz⟩ := hr x y h5 g5
    exact hz H3 H3 (Ex.refl H3) Q fun H4 e4 => q z H4 b3 (by omega) (by omega) (g3.ex e4) (fun a o w => e4 a o (wo_trans h4 g4 a o w)) rz
/-! ### the statements over draws -/
variable {D : Ends} {tz : TS} {H : Hp} {b : Int}
theorem q_dv {i : Nat} (h : Dv p te σ G k R) (hg : G p = none) (e : Ex G H) (hb : 0 ≤ b) (hk : b + k ≤ 1000000000) (s : Sx p b H)
    (kk : ∀ v H2 b', b ≤ b' → b' ≤ b + k → Sx p b' H2 → Ex G H2 → R v → tz D (σ.set i (some v)) H2) : tSeq (tAsg te (gName i)) tz D σ H :=
  h H e b hb hk s _ fun v H2 b' h1 h2 h3 h4 h5 => kk v H2 b' h1 h2 h3 (wo_go hg e h4) h5
theorem s_dv {i : Nat} (h : Dv p te σ G k R) (hg : G p = none) (e : Ex G H) (hb : 0 ≤ b) (hk : b + k ≤ 1000000000) (s : Sx p b H)
    (kk : ∀ v H2 b', b ≤ b' → b' ≤ b + k → Sx p b' H2 → Ex G H2 → R v → D.nx (σ.set i (some v)) H2) : tAsg te (gName i) D σ H :=
  h H e b hb hk s _ fun v H2 b' h1 h2 h3 h4 h5 => kk v H2 b' h1 h2 h3 (wo_go hg e h4) h5
theorem s_dvRet (h : Dv p te σ G k R) (hg : G p = none) (e : Ex G H) (hb : 0 ≤ b) (hk : b + k ≤ 1000000000) (s : Sx p b H)
    (kk : ∀ v H2 b', b ≤ b' → b' ≤ b + k → Sx p b' H2 → Ex G H2 → R v → D.rt v H2) : tRet te D σ H :=
  h H e b hb hk s _ fun v H2 b' h1 h2 h3 h4 h5 => kk v H2 b' h1 h2 h3 (wo_go hg e h4) h5
/-! ### the promises of the law's draws -/
def mixed (n k : Int) : Int := (((n % 2147483647 + 7919 * k * k + 31 * k) * 48271) % 2147483647 * (69621 + 2 * k)) % 2147483629
theorem mixed_range (n k : Int) : 0 ≤ mixed n k ∧ mixed n k < 2147483629 := ⟨Int.emod_nonneg _ (by decide), Int.emod_lt_of_pos _ (by decide)⟩
def spMixed : Sp := fun vs H Q _ => ∃ n k : Int, vs = [.int n, .int k] ∧ 0 ≤ k ∧ k ≤ 2000000000 ∧ RetV (.int (mixed n k)) H Q
theorem is_mixed {n k : Int} (h0 : 0 ≤ k) (h1 : k ≤ 2000000000) : SpIs spMixed [.int n, .int k] H (.int (mixed n k)) := fun H1 _ Q q E => ⟨n, k, rfl, h0, h1, fun H2 e => q H2 e⟩
def spStream : Sp := fun vs H Q _ => ∃ n k : Int, vs = [.int n, .int k] ∧ 0 ≤ k ∧ k ≤ 2000000000 ∧ ∀ p H2, H p = none → Ex H H2 → Sx p 0 H2 → Q (.ref p) H2
def spDraw : Sp := fun vs H Q _ => ∃ (p : Addr) (b top : Int), vs = [.ref p, .int top] ∧ 0 ≤ b ∧ b + 1 ≤ 1000000000 ∧ Sx p b H ∧ 0 < top ∧ top ≤ 1000000 ∧
  ∀ (n : Int) H2, 0 ≤ n → n < top → Sx p (b + 1) H2 → Ex (wo p H) H2 → Q (.int n) H2
def spPick (K : PySem.W.Frag) : Sp := fun vs H Q _ => ∃ (p l : Addr) (b : Int) (xs : List V), vs = [.ref p, .ref l] ∧ 0 ≤ b ∧ b + 1 ≤ 1000000000 ∧ Sx p b H ∧ l ≠ p ∧ SqL K H l xs ∧ 0 < xs.length ∧ xs.length ≤ 100000 ∧
  ∀ v H2 b', v ∈ xs → b ≤ b' → b' ≤ b + 1 → Sx p b' H2 → Ex (wo p H) H2 → Q v H2
def InR (lo hi : Int) (v : V) : Prop := ∃ n : Int, v = .int n ∧ lo ≤ n ∧ n < hi
def IsS (n : Nat) (v : V) : Prop := ∃ z, v = .str z ∧ z.length ≤ n
/-- draw(stream, top) with a known top -/
theorem dv_draw {i : Nat} {E : XK} {top : Int} (hp : σ[i]? = some (some (.ref p))) (ht : Ev te σ G (.int top)) (h0 : 0 < top) (h1 : top ≤ 1000000) :
    Dv p (tCall spDraw [] E (tCons (tVar i) (tCons te tNil))) σ G 1 (InR 0 top) := fun H1 e b hb hk s Q q =>
  ⟨.ref p, hp, ht H1 e _ fun H2 e2 => by
    refine ⟨p, b, top, rfl, hb, by omega, s.ex e2, h0, h1, fun n H3 n0 n1 s3 e3 => q (.int n) H3 (b + 1) (by omega) (by omega) s3 (fun a o z => e3 a o (wo_mono e2 a o z)) ⟨n, rfl, n0, n1⟩⟩⟩
theorem dv_pick {i : Nat} {E : XK} {Rs : List V → Prop} (hg : G p = none) (hp : σ[i]? = some (some (.ref p))) (h : DvL p te σ G k Rs) (hn : ∀ ys, Rs ys → 0 < ys.length ∧ ys.length ≤ 100000) :
    Dv p (tCall (spPick K) [] E (tCons (tVar i) (tCons te tNil))) σ G (k + 1) (fun v => ∃ ys, Rs ys ∧ v ∈ ys) := fun H1 e b hb hk s Q q =>
  ⟨.ref p, hp, h H1 e b hb (by omega) s _ fun v H2 b2 h1 h2 h3 h4 h5 => by
    obtain ⟨l, ys, rfl, np, nl, hl, ry⟩ := h5
    refine ⟨p, l, b2, ys, rfl, by omega, by omega, h3, np, sq_of hl, (hn ys ry).1, (hn ys ry).2, fun v H3 b3 hv g1 g2 s3 e3 => q v H3 b3 (by omega) (by omega) s3 (wo_trans h4 e3) ⟨ys, ry, hv⟩⟩⟩
theorem dv_pickV {i : Nat} {E : XK} {l : Addr} {ys : List V} (hp : σ[i]? = some (some (.ref p))) (h : Ev te σ G (.ref l)) (np : l ≠ p) (hl : SqL K G l ys) (h0 : 0 < ys.length) (h1 : ys.length ≤ 100000) :
    Dv p (tCall (spPick K) [] E (tCons (tVar i) (tCons te tNil))) σ G 1 (fun v => v ∈ ys) := fun H1 e b hb hk s Q q =>
  ⟨.ref p, hp, h H1 e _ fun H2 e2 => by
    refine ⟨p, l, b, ys, rfl, hb, by omega, s.ex e2, np, ex_l (e.trans e2) hl, h0, h1, fun v H3 b3 hv g1 g2 s3 e3 => q v H3 b3 (by omega) (by omega) s3 (fun a o z => e3 a o (wo_mono e2 a o z)) hv⟩⟩
theorem t_dv {b : Int} {H : Hp} {Q : Bool → Hp → Prop} (h : Dv p te σ G k R) (hR : ∀ v, R v → ∃ c, v = V.bl c) (hg : G p = none) (e : Ex G H) (hb : 0 ≤ b) (hk : b + k ≤ 1000000000) (s : Sx p b H)
    (kk : ∀ c H2 b', b ≤ b' → b' ≤ b + k → Sx p b' H2 → Ex G H2 → Q c H2) : tTest te σ H Q :=
  h H e b hb hk s _ fun v H2 b' h1 h2 h3 h4 h5 => by
    obtain ⟨c, rfl⟩ := hR v h5
    exact ⟨c, rfl, kk c H2 b' h1 h2 h3 (wo_go hg e h4)⟩
theorem t_ev {t : TT} {b : Int} {H : Hp} {c : Bool} {Q : Bool → Hp → Prop} (h : EvT t σ G c) (e : Ex G H) (s : Sx p b H) (kk : ∀ H2, Sx p b H2 → Ex G H2 → Q c H2) : t σ H Q :=
  h H e Q fun H2 e2 => kk H2 (s.ex e2) (e.trans e2)
/-- draws: a comparison with a written number -/
theorem dv_cmp {f : Int → Int → Bool} {top m : Int} {ta : TE} {i : Nat} {E : XK} (hg : G p = none) (hp : σ[i]? = some (some (.ref p))) (ht : Ev ta σ G (.int top)) (h0 : 0 < top) (h1 : top ≤ 1000000) :
    Dv p (tOp (rI0 fun a b => .bl (f a b)) (tCall spDraw [] E (tCons (tVar i) (tCons ta tNil))) (tC (.int m))) σ G 1 (fun v => ∃ c, v = V.bl c) :=
  dv_imp (dv_op (Rz := fun v => ∃ c, v = V.bl c) hg (dv_draw hp ht h0 h1) (dv_ev ev_c) fun x y hx hy => by
    obtain ⟨n, rfl, _⟩ := hx
    cases hy
    exact ⟨_, fun H => rv_I0, _, rfl⟩) (fun _ h => h) (by omega)
theorem dv_eqZ {top m : Int} {ta : TE} {i : Nat} {E : XK} (hg : G p = none) (hp : σ[i]? = some (some (.ref p))) (ht : Ev ta σ G (.int top)) (h0 : 0 < top) (h1 : top ≤ 1000000) :
    Dv p (tOp rEq (tCall spDraw [] E (tCons (tVar i) (tCons ta tNil))) (tC (.int m))) σ G 1 (fun v => ∃ c, v = V.bl c) :=
  dv_imp (dv_op (Rz := fun v => ∃ c, v = V.bl c) hg (dv_draw hp ht h0 h1) (dv_ev ev_c) fun x y hx hy => by
    obtain ⟨n, rfl, _⟩ := hx
    cases hy
    exact ⟨_, fun H => rv_eq rfl, _, rfl⟩) (fun _ h => h) (by omega)
theorem dv_str {z : Str} {m : Nat} (h : Ev te σ G (.str z)) (hz : z.length ≤ m) : Dv p te σ G 0 (IsS m) := dv_imp (dv_ev h) (fun x e => ⟨z, e, hz⟩) (Nat.le_refl _)
theorem dv_addS {m n : Nat} (hg : G p = none) (ha : Dv p ta σ G k (IsS m)) (hb : Dv p tb σ G j (IsS n)) (hz : m + n ≤ 100000) : Dv p (tOp rAddS ta tb) σ G (k + j) (IsS (m + n)) :=
  dv_op hg ha hb fun x y hx hy => by
    obtain ⟨a, rfl, h1⟩ := hx
    obtain ⟨b, rfl, h2⟩ := hy
    exact ⟨_, fun H => rv_addS (by omega), _, rfl, by rw [Str.length_append]; omega⟩
/-! ### comprehensions that draw; joins -/
theorem dvl_lcR {tc : TA} {jj : Nat} {vs : List Nat} {n : Nat} (hg : G p = none) (h : EvA tc σ G [.int (n : Int)]) (hn : n ≤ 1000) (hw : ∀ x, wipe ((wipe σ vs).set jj (some x)) vs = wipe σ vs)
    (he : ∀ i : Nat, i < n → Dv p te ((wipe σ vs).set jj (some (.int (i : Int)))) G k R) : DvL p (tLc (iRng1 tc) (gName jj) tYes te vs) σ G (n * k) (fun ys => ys.length = n ∧ ∀ y ∈ ys, R y) := fun H1 e b hb hk s Q q =>
  h H1 e _ fun H2 e2 => ⟨(n : Int), rfl, by omega, by omega, fun Dl hD => by
    have np : Dl ≠ p := by
      obtain ⟨a, c, hp⟩ := s.ex e2
      exact (ne_of_none hp hD).symm
    refine lc_range (lo := 0) (n := ((n : Int)).toNat) (fun i H3 => ∃ (b3 : Int) (acc : List V), b ≤ b3 ∧ b3 ≤ b + (i * k : Nat) ∧ Sx p b3 H3 ∧ Ex (wo p H2) H3 ∧ H3 Dl = some (.lst acc) ∧ acc.length = i ∧ ∀ y ∈ acc, R y)
      ⟨b, [], Int.le_refl _, by omega, ?_, fun a o z => Ex.new hD a o (wo_ex a o z), upd_same, rfl, fun y hy => by cases hy⟩ ?_ ?_
    · obtain ⟨a, c, hp⟩ := s.ex e2
      exact ⟨a, c, by rw [upd_ne np.symm]; exact hp⟩
    · rintro i H3 hi ⟨b3, acc, h1, h2, h3, h4, h5, h6, h7⟩
      have hi' : i < n := by omega
      have e0 : (0 : Int) + (i : Int) = (i : Int) := Int.zero_add _
      have hkk : (i + 1) * k ≤ n * k := Nat.mul_le_mul_right k hi'
      have hk1 : (i + 1) * k = i * k + k := by rw [Nat.add_mul, Nat.one_mul]
      show wipe ((wipe σ vs).set jj (some (.int ((0 : Int) + (i : Int))))) vs = wipe σ vs ∧ _
      rw [e0]
      refine ⟨hw _, ?_⟩
      show te ((wipe σ vs).set jj (some (.int (i : Int)))) H3 _
      refine he i hi' H3 (fun a o z => h4 a o (by rw [wo_ne (ne_of_none z hg)]; exact (e.trans e2) a o z)) b3 (by omega) (by omega) h3 _ fun v H4 b4 g1 g2 g3 g4 g5 => ?_
      have h5' : H4 Dl = some (.lst acc) := g4 _ _ (by rw [wo_ne np]; exact h5)
      refine ⟨acc, h5', sz_lt (by omega), b4, acc ++ [v], by omega, by omega, ?_, ?_, upd_same, by rw [List.length_append, h6]; rfl, fun y hy => ?_⟩
      · obtain ⟨a, c, hp⟩ := g3
        exact ⟨a, c, by rw [upd_ne np.symm]; exact hp⟩
      · exact fun a o z => by
          have na : a ≠ Dl := by
            intro q2
            rw [q2, wo_ne np, hD] at z
            cases z
          rw [upd_ne na]
          exact wo_trans h4 g4 a o z
      · cases List.mem_append.mp hy with
        | inl hy => exact h7 y hy
        | inr hy => rw [List.mem_singleton.mp hy]; exact g5
    · rintro H3 ⟨b3, acc, h1, h2, h3, h4, h5, h6, h7⟩
      have en : ((n : Int)).toNat = n := Int.toNat_natCast n
      rw [en] at h2 h6
      have hl1 : H1 Dl = none := fresh_back e2 hD
      exact q (.ref Dl) H3 b3 h1 h2 h3 (fun a o z => h4 a o (wo_mono e2 a o z)) ⟨Dl, acc, rfl, np, hl1, h5, h6, h7⟩⟩
/-- the same over range(n), n itself drawn, below m -/
theorem dvl_lcRD {td : TE} {jj : Nat} {vs : List Nat} {m k0 : Nat} (hg : G p = none) (h : Dv p td σ G k0 (InR 1 m)) (hn : m ≤ 1000) (hw : ∀ x, wipe ((wipe σ vs).set jj (some x)) vs = wipe σ vs)
    (he : ∀ i : Nat, i < m → Dv p te ((wipe σ vs).set jj (some (.int (i : Int)))) G k R) : DvL p (tLc (iRng1 (tCons td tNil)) (gName jj) tYes te vs) σ G (k0 + m * k) (fun ys => 0 < ys.length ∧ ys.length < m ∧ ∀ y ∈ ys, R y) := fun H1 e b hb hk s Q q =>
  h H1 e b hb (by omega) s _ fun v H2 b2 h1 h2 h3 h4 h5 => by
    obtain ⟨n0, rfl, n1, n2⟩ := h5
    obtain ⟨n, rfl⟩ : ∃ n : Nat, n0 = (n : Int) := ⟨n0.toNat, by omega⟩
    have hkk : n * k ≤ m * k := Nat.mul_le_mul_right k (by omega)
    have e2 : Ex (wo p H1) H2 := h4
    refine dvl_lcR (G := wo p H2) (σ := σ) (n := n) (k := k) (R := R) (te := te) (jj := jj) (vs := vs) (tc := tCons (tC (.int (n : Int))) tNil) wo_at (ea_cons ev_c ea_nil) (by omega) hw (fun i hi H3 e3 => he i (by omega) H3 (fun a o z => e3 a o (by
      have q2 : a ≠ p := ne_of_none z hg
      rw [wo_ne q2]
      exact h4 a o (by rw [wo_ne q2]; exact e a o z)))) H2 wo_ex b2 (by omega) (by omega) h3 Q fun v3 H3 b3 g1 g2 g3 g4 g5 => ?_
    obtain ⟨l, ys, rfl, np, nl, hl, hn3, hy⟩ := g5
    refine q (.ref l) H3 b3 (by omega) (by omega) g3 (wo_trans h4 g4) ⟨l, ys, rfl, np, ?_, hl, by omega, by omega, hy⟩
    cases z : H1 l with
    | none => rfl
    | some o =>
      rw [h4 l o (by rw [wo_ne np]; exact z)] at nl
      cases nl
theorem q_dvL {D : Ends} {tz : TS} {H : Hp} {b : Int} {i : Nat} {Rs : List V → Prop} (h : DvL p te σ G k Rs) (hg : G p = none) (e : Ex G H) (hb : 0 ≤ b) (hk : b + k ≤ 1000000000) (s : Sx p b H)
    (kk : ∀ l ys H2 b', b ≤ b' → b' ≤ b + k → Sx p b' H2 → Ex G H2 → l ≠ p → H2 l = some (.lst ys) → Rs ys → tz D (σ.set i (some (.ref l))) H2) : tSeq (tAsg te (gName i)) tz D σ H :=
  h H e b hb hk s _ fun v H2 b' h1 h2 h3 h4 h5 => by
    obtain ⟨l, ys, rfl, np, nl, hl, ry⟩ := h5
    exact kk l ys H2 b' h1 h2 h3 (wo_go hg e h4) np hl ry
/-! ### lists of things that are no texts -/
def EvN (K : PySem.W.Frag) (te : TE) (σ : L2.St) (H : Hp) : Prop := ∀ H1, Ex H H1 → ∀ Q : VK, (∀ v H2, Ex H1 H2 → NotS K H2 v → Q v H2) → te σ H1 Q
def EvAN (K : PySem.W.Frag) (ta : TA) (σ : L2.St) (H : Hp) (n : Nat) : Prop := ∀ H1, Ex H H1 → ∀ Q : List V → Hp → Prop, (∀ vs H2, Ex H1 H2 → vs.length = n → (∀ v ∈ vs, NotS K H2 v) → Q vs H2) → ta σ H1 Q
theorem en_ev {H : Hp} (h : Ev te σ H v) (n : ∀ H1 : Hp, NotS K H1 v) : EvN K te σ H := fun H1 e Q q => h H1 e Q fun H2 e2 => q v H2 e2 (n H2)
theorem en_tup {H : Hp} {xs : List V} (h : EvU te σ H xs) : EvN K te σ H := fun H1 e Q q => h H1 e Q fun a H2 ha e2 h2 => q _ H2 e2 (.tup h2)
theorem en_lst {H : Hp} {xs : List V} (h : EvL te σ H xs) : EvN K te σ H := fun H1 e Q q => h H1 e Q fun a H2 ha e2 h2 => q _ H2 e2 (.lst h2)
theorem ean_nil {H : Hp} : EvAN K tNil σ H 0 := fun H1 e Q q => q [] H1 (Ex.refl H1) rfl fun v hv => by cases hv
theorem ean_cons {H : Hp} {tr : TA} {n : Nat} (h : EvN K te σ H) (hr : EvAN K tr σ H n) : EvAN K (tCons te tr) σ H (n + 1) := fun H1 e Q q =>
  h H1 e _ fun v H2 e2 nv => hr H2 (e.trans e2) _ fun vs H3 e3 hl hv => q (v :: vs) H3 (e2.trans e3) (by rw [List.length_cons, hl]) fun y hy => by
    cases List.mem_cons.mp hy with
    | inl e => rw [e]; exact nv.ex e3
    | inr hy => exact hv y hy
theorem en_dict1 {H : Hp} {kx : Str} {y : V} {tk tv : TE} (hk : Ev tk σ H (.str kx)) (hv : Ev tv σ H y) : EvN K (tDisp [(tk, tv)]) σ H := fun H1 e Q q =>
  fun d hd => by
    have e1 : Ex H (upd H1 d (.dK [])) := e.trans (Ex.new hd)
    refine hk _ e1 _ fun H2 e2 => hv H2 (e1.trans e2) _ fun H3 e3 => ?_
    have hd3 : H3 d = some (.dK []) := e3 _ _ (e2 _ _ upd_same)
    refine ⟨hd3, [(Sum.inr kx, y)], rfl, by show 1 ≤ 15; decide, q (.ref d) _ (fun a o z => ?_) (.dic upd_same)⟩
    have na : a ≠ d := ne_of_none z hd
    rw [upd_ne na]
    exact e3 a o (e2 a o (by rw [upd_ne na]; exact z))
theorem NotS.wo {H H' : Hp} {b : Int} (n : NotS K H v) (e : Ex (Gd.wo p H) H') (s : Sx p b H') : NotS K H' v := by
  have at_p : ∀ {a : Addr} {o : HO}, H a = some o → a = p ∨ H' a = some o := fun {a o} h => by
    by_cases q : a = p
    · exact Or.inl q
    · exact Or.inr (e a o (by rw [wo_ne q]; exact h))
  obtain ⟨a0, c0, hp⟩ := s
  cases n with
  | non => exact .non
  | bl b => exact .bl b
  | int i => exact .int i
  | lst h => cases at_p h with | inl q => rw [q]; exact .lst hp | inr h => exact .lst h
  | tup h => cases at_p h with | inl q => rw [q]; exact .lst hp | inr h => exact .tup h
  | dic h => cases at_p h with | inl q => rw [q]; exact .lst hp | inr h => exact .dic h
def rJoin (K : PySem.W.Frag) : V → List V → Hp → VK → Prop := fun x xs H Q => ∃ a p, ∃ ys : List Str, x = .str a ∧ xs = [.ref p] ∧ (SqL K H p (ys.map V.str) ∨ SqT K H p (ys.map V.str)) ∧
      (ys.map (·.length)).sum + ys.length * a.length ≤ 16777216 ∧ Q (.str (Txt.join a ys)) H
theorem texts_of {m : Nat} : ∀ {ys : List V}, (∀ y ∈ ys, IsS m y) → ∃ zs : List Str, ys = zs.map V.str ∧ (zs.map (·.length)).sum ≤ zs.length * m ∧ zs.length = ys.length
  | [], _ => ⟨[], rfl, Nat.zero_le _, rfl⟩
  | y :: ys, h => by
    obtain ⟨z, rfl, hz⟩ := h y List.mem_cons_self
    obtain ⟨zs, e, hs, hl⟩ := texts_of fun x hx => h x (List.mem_cons_of_mem _ hx)
    refine ⟨z :: zs, by rw [e]; rfl, ?_, by rw [List.length_cons, List.length_cons, hl]⟩
    rw [List.map_cons, List.sum_cons, List.length_cons, Nat.add_mul, Nat.one_mul]
    omega
theorem join_le (a : Str) (zs : List Str) : (Txt.join a zs).length ≤ (zs.map (·.length)).sum + zs.length * a.length := by
  rw [join_eq]
  exact PySem.StrLaws.join_length_le a zs
theorem dv_join {z0 : Str} {m n : Nat} (h : DvL p te σ G k (fun ys => ys.length ≤ n ∧ ∀ y ∈ ys, IsS m y)) (hz : n * (m + z0.length) ≤ 100000) : Dv p (tM1 (rJoin K) (tC (.str z0)) te) σ G k (IsS (n * (m + z0.length))) := fun H1 e b hb hk s Q q =>
  ⟨⟨z0, rfl⟩, h H1 e b hb hk s _ fun v H2 b' h1 h2 h3 h4 h5 => by
    obtain ⟨l, ys, rfl, np, nl, hl, hn, hy⟩ := h5
    obtain ⟨zs, e1, hs, hlen⟩ := texts_of hy
    have e2 : zs.length * m + zs.length * z0.length = zs.length * (m + z0.length) := (Nat.mul_add _ _ _).symm
    have e3 : zs.length * (m + z0.length) ≤ n * (m + z0.length) := Nat.mul_le_mul_right _ (by omega)
    have hj := join_le z0 zs
    exact ⟨z0, l, zs, rfl, rfl, Or.inl (sq_of (by rw [← e1]; exact hl)), by omega, q _ H2 b' h1 h2 h3 h4 ⟨_, rfl, by omega⟩⟩⟩
theorem ev_join {H : Hp} {z0 : Str} {zs : List Str} {l : Addr} (h : Ev te σ H (.ref l)) (hl : H l = some (.lst (zs.map V.str))) (hz : (zs.map (·.length)).sum + zs.length * z0.length ≤ 16777216) : Ev (tM1 (rJoin K) (tC (.str z0)) te) σ H (.str (Txt.join z0 zs)) := fun H1 e Q q =>
  ⟨⟨z0, rfl⟩, h H1 e _ fun H2 e2 => ⟨z0, l, zs, rfl, rfl, Or.inl (sq_of ((e.trans e2) _ _ hl)), hz, q H2 e2⟩⟩
theorem ev_joinL {H : Hp} {z0 : Str} {zs : List Str} (h : EvL te σ H (zs.map V.str)) (hz : (zs.map (·.length)).sum + zs.length * z0.length ≤ 16777216) : Ev (tM1 (rJoin K) (tC (.str z0)) te) σ H (.str (Txt.join z0 zs)) := fun H1 e Q q =>
  ⟨⟨z0, rfl⟩, h H1 e _ fun l H2 hl e2 h2 => ⟨z0, l, zs, rfl, rfl, Or.inl (sq_of h2), hz, q H2 e2⟩⟩
def rUpper : V → List V → Hp → VK → Prop := fun x xs H Q => ∃ a, x = .str a ∧ xs = [] ∧ a.length ≤ 5592405 ∧ Q (.str (Txt.upper a)) H
theorem ev_upper {H : Hp} {z : Str} (h : Ev te σ H (.str z)) (hz : z.length ≤ 100000) : Ev (tM0 rUpper te) σ H (.str (Txt.upper z)) := fun H1 e Q q =>
  h H1 e _ fun H2 e2 => ⟨⟨z, rfl⟩, z, rfl, rfl, by omega, q H2 e2⟩
theorem mulOk_of {z : Str} {n : Nat} (hz : z.length ≤ 100) (hn : n ≤ 10000) : MulOk z (n : Int) := by
  refine ⟨?_, fun h1 _ => ?_, fun _ _ => ?_⟩
  · rw [decide_eq_false (by omega), decide_eq_false (by omega)] <;> rfl
  · have h3 : (100 : Int) ≤ ((2 : Int) ^ 63 - 1) / (n : Int) := Int.le_ediv_of_mul_le (by omega) (by omega)
    omega
  · have h4 : z.length * ((n : Int)).toNat ≤ 100 * 10000 := Nat.mul_le_mul hz (by rw [Int.toNat_natCast]; exact hn)
    exact decide_eq_false (by have : (100 * 10000 : Nat) ≤ sizeLine := by decide
                              omega)
theorem mul_len (z : Str) (n : Nat) : (Txt.mul z (n : Int)).length ≤ z.length * n := by
  have fl : ∀ (m : Nat) (acc : Array Nat), ((List.replicate m z.cps).foldl (fun (x1 x2 : Array Nat) => x1 ++ x2) acc).size = acc.size + m * z.cps.size := by
    intro m
    induction m with
    | zero => intro acc; simp
    | succ m ih =>
      intro acc
      rw [List.replicate_succ, List.foldl_cons, ih, Array.size_append, Nat.add_mul, Nat.one_mul]
      omega
  unfold Txt.mul
  split
  · exact Nat.zero_le _
  · split
    · next h1 h2 =>
      have : 1 ≤ n := by omega
      exact Nat.le_mul_of_pos_right _ this
    · show ((List.replicate ((n : Int)).toNat z.cps).foldl (fun (x1 x2 : Array Nat) => x1 ++ x2) #[]).size ≤ _
      rw [fl, Int.toNat_natCast]
      show 0 + n * z.length ≤ z.length * n
      rw [Nat.mul_comm]
      omega
theorem el_slN {H : Hp} {tl th : TO} {xs : List V} {lo hi : Option Int} (h : EvL te σ H xs) (h1 : EvO tl σ H lo) (h2 : EvO th σ H hi) : EvL (tSl (rSlL K) te tl th) σ H (cutV xs lo hi) := fun H1 e Q q =>
  h H1 e _ fun a H2 ha e2 hx => h1 H2 (e.trans e2) _ fun H3 e3 => h2 H3 ((e.trans e2).trans e3) _ fun H4 e4 =>
    ⟨a, xs, rfl, sq_of (e4 _ _ (e3 _ _ hx)), fun p hp => q p _ (fresh_back ((e2.trans e3).trans e4) hp) (((e2.trans e3).trans e4).trans (Ex.new hp)) upd_same⟩
theorem mulOkZ {z : Str} {k : Int} (hz : z.length ≤ 100) (h0 : 0 ≤ k) (h1 : k ≤ 10000) : MulOk z k := by
  obtain ⟨n, rfl⟩ : ∃ n : Nat, k = (n : Int) := ⟨k.toNat, by omega⟩
  exact mulOk_of hz (by omega)
theorem mul_lenZ {z : Str} {k : Int} (h0 : 0 ≤ k) : (Txt.mul z k).length ≤ z.length * k.toNat := by
  obtain ⟨n, rfl⟩ : ∃ n : Nat, k = (n : Int) := ⟨k.toNat, by omega⟩
  rw [Int.toNat_natCast]
  exact mul_len z n
/-- a for over a new tuple -/
theorem s_forNT {D : Ends} {tu : TS} {H : Hp} {xs : List V} {tl : TE} {jj : Nat} (h : EvU tl σ H xs) (Pv : Hp → Nat → L2.St → Hp → Prop) (h0 : ∀ H1, Ex H H1 → Pv H1 0 σ H1) (hx : ∀ H1 i σ' H', Pv H1 i σ' H' → Ex H1 H')
    (hs : ∀ H1, Ex H H1 → ∀ (i : Nat) (x : V) σ' H', xs[i]? = some x → Pv H1 i σ' H' → tu { D with nx := Pv H1 (i + 1), ct := Pv H1 (i + 1), bk := D.nx } (σ'.set jj (some x)) H') (hd : ∀ H1 σ' H', Ex H H1 → Pv H1 xs.length σ' H' → D.nx σ' H') : tFor (iTup K tl) (gName jj) tu D σ H :=
  h H (Ex.refl H) _ fun a H1 ha e1 h1 => ⟨a, rfl, ⟨xs, st_of h1⟩, for_tup (Pv H1) (h0 H1 e1) (fun i σ' H' hi p => st_of (hx H1 i σ' H' p a _ h1)) (hs H1 e1) (fun σ' H' p => hd H1 σ' H' e1 p)⟩
/-- one of some things that are no texts -/
theorem q_pickN {D : Ends} {tz : TS} {H : Hp} {b : Int} {i jj n : Nat} {E : XK} {ta : TA} (hp : σ[i]? = some (some (.ref p))) (h : EvAN K ta σ H n) (h0 : 0 < n) (h1 : n ≤ 100) (hb : 0 ≤ b) (hk : b + 1 ≤ 1000000000) (s : Sx p b H)
    (kk : ∀ v H2 b', b ≤ b' → b' ≤ b + 1 → Sx p b' H2 → Ex (Gd.wo p H) H2 → NotS K H2 v → tz D (σ.set jj (some v)) H2) : tSeq (tAsg (tCall (spPick K) [] E (tCons (tVar i) (tCons (tLst ta) tNil))) (gName jj)) tz D σ H :=
  ⟨.ref p, hp, h H (Ex.refl H) _ fun vs H6 e6 hl hv => ⟨sz_of (by omega), fun l hl6 => by
    have s6 := s.ex e6
    have np : l ≠ p := by
      obtain ⟨_, _, hpp⟩ := s6
      exact (ne_of_none hpp hl6).symm
    refine ⟨p, l, b, vs, rfl, hb, hk, s6.ex (Ex.new hl6), np, sq_of upd_same, by omega, by omega, fun v H7 b7 hv7 b70 b71 s7 e7 => ?_⟩
    exact kk v H7 b7 b70 b71 s7 (fun x o z => e7 x o (wo_mono (e6.trans (Ex.new hl6)) x o z)) (((hv v hv7).ex (Ex.new hl6)).wo e7 s7)⟩⟩
/-- a def that draws and hands back a text -/
def spGive (kk m : Nat) : Sp := fun vs H Q _ => ∃ (p : Addr) (b : Int), vs = [.ref p] ∧ 0 ≤ b ∧ b + kk ≤ 1000000000 ∧ Sx p b H ∧ Cn p H b kk (fun v _ => IsS m v) Q
theorem dv_give {i kk m : Nat} {E : XK} (hp : σ[i]? = some (some (.ref p))) : Dv p (tCall (spGive kk m) [] E (tCons (tVar i) tNil)) σ G kk (IsS m) := fun H1 e b hb hk s Q q =>
  ⟨.ref p, hp, p, b, rfl, hb, hk, s, q⟩
end
end Gd

set_option maxHeartbeats 4000000
namespace Gd
open PySem PySem.Spec PyProof.Rows L2 Evl

/-! ### repr of a list that may hold a dict -/
/-- v holds the data d in H; where B, it lies apart from the modules' table -/
def Dat (P : Program) (w : World) (K : PySem.W.Frag) (B : Prop) (H : Hp) (v : V) (d : PyData) : Prop :=
  ∀ H1, Ex H H1 → ∀ h : Heap, HOk P w H1 h → K.In h → ∀ u, L2.RelV v u → ∃ as, Reads h u d as ∧ (B → sysModules ∉ as)
def DatAll (P : Program) (w : World) (K : PySem.W.Frag) (B : Prop) (H : Hp) (vs : List V) (ds : List PyData) : Prop :=
  ∀ H1, Ex H H1 → ∀ h : Heap, HOk P w H1 h → K.In h → ∀ us, Vals vs us → ∃ as, ReadsAll h us ds as ∧ (B → sysModules ∉ as)
section
variable {P : Program} {w : World} {K : PySem.W.Frag} {B : Prop} {H : Hp}
theorem Dat.ex {H2 : Hp} {v : V} {d : PyData} (x : Dat P w K B H v d) (e : Ex H H2) : Dat P w K B H2 v d := fun H1 e1 => x H1 (e.trans e1)
theorem dat_non : Dat P w K B H .non .none := fun _ _ _ _ _ u r => by
  cases r
  exact ⟨[], .none, fun _ h => by cases h⟩
theorem dat_bl (b : Bool) : Dat P w K B H (.bl b) (.bool b) := fun _ _ _ _ _ u r => by
  cases r
  exact ⟨[], .bool b, fun _ h => by cases h⟩
theorem dat_int (i : Int) : Dat P w K B H (.int i) (.int i) := fun _ _ _ _ _ u r => by
  obtain ⟨t, rfl⟩ := r
  exact ⟨[], .int i t, fun _ h => by cases h⟩
theorem dat_str (x : Str) : Dat P w K B H (.str x) (.str x) := fun _ _ _ _ _ u r => by
  obtain ⟨t, rfl⟩ := r
  exact ⟨[], .str x t, fun _ h => by cases h⟩
theorem dats_nil : DatAll P w K B H [] [] := fun _ _ _ _ _ us r => by
  cases r
  exact ⟨[], .nil, fun _ h => by cases h⟩
theorem dats_cons {v : V} {d : PyData} {vs : List V} {ds : List PyData} (x : Dat P w K B H v d) (y : DatAll P w K B H vs ds) : DatAll P w K B H (v :: vs) (d :: ds) := fun H1 e h ok X us r => by
  cases r with
  | cons r1 r2 =>
    obtain ⟨as, a1, a2⟩ := x H1 e h ok X _ r1
    obtain ⟨bs, b1, b2⟩ := y H1 e h ok X _ r2
    exact ⟨as ++ bs, .cons a1 b1, fun hB hm => (List.mem_append.mp hm).elim (a2 hB) (b2 hB)⟩
theorem dat_lst {a : Addr} {vs : List V} {ds : List PyData} (ha : H a = some (.lst vs)) (y : DatAll P w K B H vs ds) (na : B → a ≠ sysModules) : Dat P w K B H (.ref a) (.list ds) := fun H1 e h ok X u r => by
  cases r
  obtain ⟨hl, its, n, rv, g⟩ := (ok a _ (e _ _ ha) : ObjOk P w H1 h a (.lst vs))
  obtain ⟨as, a1, a2⟩ := y H1 e h ok X its rv
  exact ⟨_, Reads.list g rfl rfl (by rw [List.toList_toArray]; exact a1), fun hB hm => (List.mem_cons.mp hm).elim (fun z => na hB z.symm) (a2 hB)⟩
theorem dat_tup {a : Addr} {vs : List V} {ds : List PyData} (ha : H a = some (.tup vs)) (y : DatAll P w K B H vs ds) : Dat P w K B H (.ref a) (.tuple ds) := fun H1 e h ok X u r => by
  cases r
  obtain ⟨hl, its, rv, o, g1, g2, n, g3⟩ := (ok a _ (e _ _ ha) : ObjOk P w H1 h a (.tup vs))
  obtain ⟨as, a1, a2⟩ := y H1 e h ok X its rv
  exact ⟨_, Reads.tuple g1 g2 g3 (by rw [List.toList_toArray]; exact a1), a2⟩
/-- {text: integer} -/
theorem dat_dict1 {a : Addr} {kx : Str} {i : Int} (ha : H a = some (.dK [(Sum.inr kx, .int i)])) : Dat P w K B H (.ref a) (.dict [(.str kx, .int i)]) := fun H1 e h ok X u r => by
  cases r
  obtain ⟨hl, hs, vs, kv, o, es, ep, g1, g2, g3, g4, g5, g6⟩ := (ok a _ (e _ _ ha) : ObjOk P w H1 h a (.dK [(Sum.inr kx, .int i)]))
  cases kv with
  | cons r1 r2 =>
    cases r2
    rename_i q
    obtain ⟨k1, v1⟩ := q
    obtain ⟨rk, rv⟩ := r1
    cases rk
    obtain ⟨t, hv⟩ := rv
    dsimp only at hv
    subst hv
    generalize hes : es.toList = L at g5
    cases g5 with
    | cons hk hv hp =>
      cases hp
      rename_i e1
      have rk : ∃ t2, e1.key = .str kx t2 := by
        rcases keyIs_shape (k := Sum.inr kx) (v := e1.key) hk with ⟨j, t2, z, ek⟩ | ⟨y, t2, z, ek⟩
        · cases z
        · cases z
          exact ⟨t2, ek⟩
      obtain ⟨t2, ek⟩ := rk
      refine ⟨a :: [] ++ [], Reads.dict g1 g2.1 g3 ?_ ?_, fun _ hm => ?_⟩
      · rw [hes]
        show ReadsAll h [e1.key] [.str kx] []
        rw [ek]
        exact ReadsAll.cons (.str kx t2) .nil
      · rw [hes]
        show ReadsAll h [e1.val] [.int i] []
        rw [hv]
        exact ReadsAll.cons (.int i t) .nil
      · have hm2 : sysModules = a := by simpa using hm
        rw [← hm2] at hs
        exact absurd hs (by decide)
/-- repr(a new list) -/
def rReprD (P : Program) (w : World) (K : PySem.W.Frag) : List V → Hp → VK → Prop := fun xs H Q => ∃ a d, xs = [.ref a] ∧ Dat P w K (d.hasDict = true) H (.ref a) d ∧ PyData.showable d = true ∧ d.depth ≤ 100 ∧ d.shown.length ≤ sizeLine ∧ Q (.str d.shown) H
theorem call_reprD {X : Cx} {k : Nat} (ca : Calm X.A) (hr : Room k X.A) : CallR X (.builtin "repr") (rReprD X.prog X.w X.K) := by
  intro pins s σ H xs us Q I r h
  obtain ⟨a, d, rfl, hd, h1, h3, h4, q⟩ := h
  obtain ⟨u, rfl, ru⟩ := vals1 r
  cases (show u = Value.ref a from ru)
  obtain ⟨as, hR, hs⟩ := hd H (Ex.refl H) _ I.hok I.kIn _ ru
  have hun := hr.un
  refine repr_of_reads' hR h1 hs ca (by omega) (fun _ _ e => e) (fun h' u tk keep => ?_) h4
  exact ⟨.str d.shown, H, I.kept keep, ⟨_, rfl⟩, q⟩
end
/-- list + list: the new one is not the modules' table -/
def rCatN : R2 := fun x y H Q => ∃ l b xs zs, x = .ref l ∧ y = .ref b ∧ H l = some (.lst xs) ∧ H b = some (.lst zs) ∧ xs.length + zs.length ≤ sizeLine ∧ ∀ p, H p = none → p ≠ sysModules → Q (.ref p) (upd H p (.lst (xs ++ zs)))
theorem op_catN {X : Cx} : OpR X (binaryOp .Add) rCatN := by
  intro pins s σ H x y v u Q I rx ry h
  obtain ⟨l, b, xs, zs, rfl, rfl, h1, h2, hz, q⟩ := h
  cases rx
  cases ry
  obtain ⟨z, is1, n, r, hl, e⟩ := I.lstM h1
  obtain ⟨z2, is2, n2, r2, hl2, e2⟩ := I.lstM h2
  refine PySem.P.add_list e e2 ?_ (by rw [List.size_toArray, List.size_toArray]; omega)
  have ea : is1.toArray ++ is2.toArray = (is1 ++ is2).toArray := by simp
  rw [ea]
  exact ⟨.ref _, _, I.lnew (t' := s.toks) (r.append r2) (by rw [List.length_append]; omega), rfl, q _ I.fresh (Nat.ne_of_gt I.big)⟩
/-- an evaluation to a new list that is not the modules' table -/
def EvLN (te : TE) (σ : L2.St) (H : Hp) (xs : List V) : Prop := ∀ H1, Ex H H1 → ∀ Q : VK, (∀ p H2, H1 p = none → p ≠ sysModules → Ex H1 H2 → H2 p = some (.lst xs) → Q (.ref p) H2) → te σ H1 Q
section
variable {σ : L2.St} {H : Hp} {ta tb te : TE} {D : Ends} {tz : TS}
theorem eln_cat {xs ys : List V} (ha : EvL ta σ H xs) (hb : EvL tb σ H ys) (hz : xs.length + ys.length ≤ 100000) : EvLN (tOp rCatN ta tb) σ H (xs ++ ys) := fun H1 e Q q =>
  ha H1 e _ fun p H2 hp e2 h2 => hb H2 (e.trans e2) _ fun p' H3 hp' e3 h3 => ⟨p, p', xs, ys, rfl, rfl, e3 p _ h2, h3, Nat.le_trans hz (by decide), fun r hr ns => q r _ (fresh_back (e2.trans e3) hr) ns ((e2.trans e3).trans (Ex.new hr)) upd_same⟩
theorem eln_cat1 {l : Addr} {xs ys : List V} (ha : Ev ta σ H (.ref l)) (hl : H l = some (.lst xs)) (hb : EvL tb σ H ys) (hz : xs.length + ys.length ≤ 100000) : EvLN (tOp rCatN ta tb) σ H (xs ++ ys) := fun H1 e Q q =>
  ha H1 e _ fun H2 e2 => hb H2 (e.trans e2) _ fun p' H3 hp' e3 h3 => ⟨l, p', xs, ys, rfl, rfl, ((e.trans e2).trans e3) l _ hl, h3, Nat.le_trans hz (by decide), fun r hr ns => q r _ (fresh_back (e2.trans e3) hr) ns ((e2.trans e3).trans (Ex.new hr)) upd_same⟩
theorem q_asgLN {i : Nat} {xs : List V} (h : EvLN te σ H xs) (k : ∀ p H1, H p = none → p ≠ sysModules → Ex H H1 → H1 p = some (.lst xs) → tz D (σ.set i (some (.ref p))) H1) : tSeq (tAsg te (gName i)) tz D σ H := h H (Ex.refl H) _ k
theorem s_retLN {xs : List V} (h : EvLN te σ H xs) (k : ∀ p H1, H p = none → p ≠ sysModules → Ex H H1 → H1 p = some (.lst xs) → D.rt (.ref p) H1) : tRet te D σ H := h H (Ex.refl H) _ k
end
end Gd

set_option maxHeartbeats 4000000
/-! A layer over the hand layer: tuples as values (D), mutable objects as cells (Mu); readings that compute. -/
namespace DL
open PySem PySem.Spec PyProof.Rows L2 Evl Gd

inductive D where
  | non | bl (b : Bool) | int (i : Int) | str (z : Str) | tup (xs : List D) | tuz (xs : List D) | ptr (a : Addr) | ty (n : String)
mutual
inductive Rep (B : Hp) : V → D → Prop
  | non : Rep B .non .non
  | bl (b : Bool) : Rep B (.bl b) (.bl b)
  | int (i : Int) : Rep B (.int i) (.int i)
  | str (z : Str) : Rep B (.str z) (.str z)
  | ty (n : String) : Rep B (.ty n) (.ty n)
  | ptr (a : Addr) : Rep B (.ref a) (.ptr a)
  | tup {a : Addr} {xs : List V} {ds : List D} : B a = some (.tup xs) → RepA B xs ds → Rep B (.ref a) (.tup ds)
  | tuz {a : Addr} {o : Obj} {xs : List V} {ds : List D} : B a = some (.frz o (.tup xs)) → Obj.dict o = none → RepA B xs ds → Rep B (.ref a) (.tuz ds)
inductive RepA (B : Hp) : List V → List D → Prop
  | nil : RepA B [] []
  | cons {v : V} {d : D} {vs : List V} {ds : List D} : Rep B v d → RepA B vs ds → RepA B (v :: vs) (d :: ds)
end
mutual
theorem Rep.up {B B' : Hp} (e : Ex B B') : ∀ {v : V} {d : D}, Rep B v d → Rep B' v d
  | _, _, .non => .non
  | _, _, .bl b => .bl b
  | _, _, .int b => .int b
  | _, _, .str b => .str b
  | _, _, .ty b => .ty b
  | _, _, .ptr b => .ptr b
  | _, _, .tup h r => .tup (e _ _ h) (RepA.up e r)
  | _, _, .tuz h o r => .tuz (e _ _ h) o (RepA.up e r)
theorem RepA.up {B B' : Hp} (e : Ex B B') : ∀ {v : List V} {d : List D}, RepA B v d → RepA B' v d
  | _, _, .nil => .nil
  | _, _, .cons h r => .cons (Rep.up e h) (RepA.up e r)
end
theorem RepA.len {B : Hp} : ∀ {v : List V} {d : List D}, RepA B v d → v.length = d.length
  | _, _, .nil => rfl
  | _, _, .cons _ r => by rw [List.length_cons, List.length_cons, RepA.len r]
theorem RepA.at {B : Hp} : ∀ {vs : List V} {ds : List D} {i : Nat} {d : D}, RepA B vs ds → ds[i]? = some d → ∃ v, vs[i]? = some v ∧ Rep B v d
  | _, _, i, d, .nil, h => by simp at h
  | _, _, 0, d, .cons h r, e => by
    cases e
    exact ⟨_, rfl, h⟩
  | _, _, i + 1, d, .cons h r, e => by
    obtain ⟨v, h1, h2⟩ := RepA.at (i := i) r (by simpa using e)
    exact ⟨v, by simpa using h1, h2⟩
theorem RepA.at' {B : Hp} {vs : List V} {ds : List D} {i : Nat} {v : V} (r : RepA B vs ds) (h : vs[i]? = some v) : ∃ d, ds[i]? = some d ∧ Rep B v d := by
  have hi : i < ds.length := by
    rw [← r.len]
    exact (List.getElem?_eq_some_iff.mp h).1
  obtain ⟨v', h1, h2⟩ := r.at (List.getElem?_eq_getElem hi)
  rw [h] at h1
  cases h1
  exact ⟨_, List.getElem?_eq_getElem hi, h2⟩
theorem RepA.app {B : Hp} : ∀ {vs ws : List V} {ds es : List D}, RepA B vs ds → RepA B ws es → RepA B (vs ++ ws) (ds ++ es)
  | _, _, _, _, .nil, h => h
  | _, _, _, _, .cons h r, k => .cons h (RepA.app r k)
theorem RepA.take {B : Hp} : ∀ {vs : List V} {ds : List D} (n : Nat), RepA B vs ds → RepA B (vs.take n) (ds.take n)
  | _, _, 0, _ => .nil
  | _, _, _ + 1, .nil => .nil
  | _, _, n + 1, .cons h r => .cons h (RepA.take n r)
theorem RepA.drop {B : Hp} : ∀ {vs : List V} {ds : List D} (n : Nat), RepA B vs ds → RepA B (vs.drop n) (ds.drop n)
  | _, _, 0, r => r
  | _, _, _ + 1, .nil => .nil
  | _, _, n + 1, .cons _ r => RepA.drop n r
theorem RepA.erase {B : Hp} : ∀ {vs : List V} {ds : List D} (n : Nat), RepA B vs ds → RepA B (vs.eraseIdx n) (ds.eraseIdx n)
  | _, _, _, .nil => .nil
  | _, _, 0, .cons h r => r
  | _, _, n + 1, .cons h r => .cons h (RepA.erase n r)
theorem RepA.set {B : Hp} {v : V} {d : D} (hv : Rep B v d) : ∀ {vs : List V} {ds : List D} (n : Nat), RepA B vs ds → RepA B (vs.set n v) (ds.set n d)
  | _, _, _, .nil => .nil
  | _, _, 0, .cons h r => .cons hv r
  | _, _, n + 1, .cons h r => .cons h (RepA.set hv n r)
theorem RepA.rev {B : Hp} : ∀ {vs : List V} {ds : List D}, RepA B vs ds → RepA B vs.reverse ds.reverse
  | _, _, .nil => .nil
  | _, _, .cons h r => by
    rw [List.reverse_cons, List.reverse_cons]
    exact RepA.app (RepA.rev r) (.cons h .nil)
theorem RepA.mem {B : Hp} {vs : List V} {ds : List D} {v : V} (r : RepA B vs ds) (h : v ∈ vs) : ∃ d, d ∈ ds ∧ Rep B v d := by
  obtain ⟨i, hi⟩ := List.getElem?_of_mem h
  obtain ⟨d, h1, h2⟩ := r.at' hi
  exact ⟨d, List.mem_of_getElem? h1, h2⟩
theorem rep_int {B : Hp} {v : V} {i : Int} (h : Rep B v (.int i)) : v = .int i := by cases h; rfl
theorem rep_str {B : Hp} {v : V} {i : Str} (h : Rep B v (.str i)) : v = .str i := by cases h; rfl
theorem rep_bl {B : Hp} {v : V} {i : Bool} (h : Rep B v (.bl i)) : v = .bl i := by cases h; rfl
theorem rep_non {B : Hp} {v : V} (h : Rep B v .non) : v = .non := by cases h; rfl
theorem rep_ptr {B : Hp} {v : V} {a : Addr} (h : Rep B v (.ptr a)) : v = .ref a := by cases h; rfl
theorem reps_int {B : Hp} : ∀ {vs : List V} {is : List Int}, RepA B vs (is.map D.int) → vs = is.map V.int
  | _, [], h => by cases h; rfl
  | _, i :: is, h => by
    rw [List.map_cons] at h
    cases h with
    | cons h r => rw [rep_int h, reps_int r]; rfl
theorem reps_bl {B : Hp} : ∀ {vs : List V} {is : List Bool}, RepA B vs (is.map D.bl) → vs = is.map V.bl
  | _, [], h => by cases h; rfl
  | _, i :: is, h => by
    rw [List.map_cons] at h
    cases h with
    | cons h r => rw [rep_bl h, reps_bl r]; rfl
theorem reps_str {B : Hp} : ∀ {vs : List V} {is : List Str}, RepA B vs (is.map D.str) → vs = is.map V.str
  | _, [], h => by cases h; rfl
  | _, i :: is, h => by
    rw [List.map_cons] at h
    cases h with
    | cons h r => rw [rep_str h, reps_str r]; rfl
/-- the items of a tuple -/
def D.items : D → Option (List D)
  | .tup xs => some xs
  | .tuz xs => some xs
  | _ => none
theorem rep_items {B : Hp} {K : PySem.W.Frag} {v : V} {d : D} {ds : List D} (h : Rep B v d) (hd : d.items = some ds) : ∃ a xs, v = .ref a ∧ SqT K B a xs ∧ RepA B xs ds := by
  cases h <;> first | (cases hd; done) | skip
  · rename_i a xs ds' h r
    cases hd
    exact ⟨a, xs, rfl, .inl (.inl h), r⟩
  · rename_i a o xs ds' h ho r
    cases hd
    exact ⟨a, xs, rfl, .inl (.inr ⟨o, h⟩), r⟩

/-! ### cells -/
inductive Cell where
  | lst (xs : List D) | lsr (xs : List D) | dk (kvs : List (Key × D)) | dt (kvs : List (List Key × D)) | ins (C : Addr) (fs : List (Str × D)) | raw (u : HO)
  | lkk (o : Obj) (ws : List (Key × V)) (kvs : List (Key × D)) | lkt (o : Obj) (ws : List (List Key × V)) (kvs : List (List Key × D))
abbrev Mu := Addr → Option Cell
def updM (μ : Mu) (a : Addr) (c : Cell) : Mu := fun b => if b = a then some c else μ b
theorem updM_same {μ : Mu} {a : Addr} {c : Cell} : updM μ a c a = some c := if_pos rfl
theorem updM_ne {μ : Mu} {a b : Addr} {c : Cell} (h : b ≠ a) : updM μ a c b = μ b := if_neg h
theorem updM_upd {μ : Mu} {a : Addr} {c c' : Cell} : updM (updM μ a c) a c' = updM μ a c' := by
  funext b
  unfold updM
  split <;> rfl
def KvRep (B : Hp) {κ : Type} (ws : List (κ × V)) (kvs : List (κ × D)) : Prop := Paired (fun (p : κ × V) (q : κ × D) => p.1 = q.1 ∧ Rep B p.2 q.2) ws kvs
def CellRep (B H : Hp) (a : Addr) : Cell → Prop
  | .lst ds => ∃ vs, H a = some (.lst vs) ∧ RepA B vs ds
  | .lsr ds => ∃ vs, Rd H a (.lst vs) ∧ RepA B vs ds
  | .dk kvs => ∃ ws, H a = some (.dK ws) ∧ KvRep B ws kvs
  | .dt kvs => ∃ ws, H a = some (.dT ws) ∧ KvRep B ws kvs
  | .ins C fs => ∃ dx ws, H a = some (.ins C dx ws) ∧ KvRep B ws fs
  | .raw u => H a = some u ∧ ∀ xs, u ≠ .tup xs
  | .lkk o ws kvs => H a = some (.frz o (.dK ws)) ∧ KvRep B ws kvs
  | .lkt o ws kvs => H a = some (.frz o (.dT ws)) ∧ KvRep B ws kvs
theorem KvRep.up {B B' : Hp} (e : Ex B B') {κ : Type} : ∀ {ws : List (κ × V)} {kvs : List (κ × D)}, KvRep B ws kvs → KvRep B' ws kvs
  | _, _, .nil => .nil
  | _, _, .cons h r => .cons ⟨h.1, h.2.up e⟩ (KvRep.up e r)
theorem CellRep.up {B B' H : Hp} (e : Ex B B') {a : Addr} {c : Cell} (h : CellRep B H a c) : CellRep B' H a c := by
  cases c with
  | lst ds => obtain ⟨vs, h1, h2⟩ := h; exact ⟨vs, h1, h2.up e⟩
  | lsr ds => obtain ⟨vs, h1, h2⟩ := h; exact ⟨vs, h1, h2.up e⟩
  | dk ds => obtain ⟨vs, h1, h2⟩ := h; exact ⟨vs, h1, h2.up e⟩
  | dt ds => obtain ⟨vs, h1, h2⟩ := h; exact ⟨vs, h1, h2.up e⟩
  | ins C ds => obtain ⟨dx, vs, h1, h2⟩ := h; exact ⟨dx, vs, h1, h2.up e⟩
  | raw u => exact h
  | lkk o ws kvs => exact ⟨h.1, h.2.up e⟩
  | lkt o ws kvs => exact ⟨h.1, h.2.up e⟩
theorem CellRep.at {B H H' : Hp} {a : Addr} {c : Cell} (h : CellRep B H a c) (e : H' a = H a) : CellRep B H' a c := by
  cases c with
  | lst ds => obtain ⟨vs, h1, h2⟩ := h; exact ⟨vs, e.trans h1, h2⟩
  | lsr ds =>
    obtain ⟨vs, h1, h2⟩ := h
    refine ⟨vs, ?_, h2⟩
    rcases h1 with h1 | ⟨o, h1⟩
    · exact .inl (e.trans h1)
    · exact .inr ⟨o, e.trans h1⟩
  | dk ds => obtain ⟨vs, h1, h2⟩ := h; exact ⟨vs, e.trans h1, h2⟩
  | dt ds => obtain ⟨vs, h1, h2⟩ := h; exact ⟨vs, e.trans h1, h2⟩
  | ins C ds => obtain ⟨dx, vs, h1, h2⟩ := h; exact ⟨dx, vs, e.trans h1, h2⟩
  | raw u => exact ⟨e.trans h.1, h.2⟩
  | lkk o ws kvs => exact ⟨e.trans h.1, h.2⟩
  | lkt o ws kvs => exact ⟨e.trans h.1, h.2⟩
theorem CellRep.live {B H : Hp} {a : Addr} {c : Cell} (h : CellRep B H a c) : H a ≠ none := by
  cases c with
  | lst ds => obtain ⟨vs, h1, h2⟩ := h; rw [h1]; intro q; cases q
  | lsr ds =>
    obtain ⟨vs, h1, h2⟩ := h
    rcases h1 with h1 | ⟨o, h1⟩ <;> rw [h1] <;> intro q <;> cases q
  | dk ds => obtain ⟨vs, h1, h2⟩ := h; rw [h1]; intro q; cases q
  | dt ds => obtain ⟨vs, h1, h2⟩ := h; rw [h1]; intro q; cases q
  | ins C ds => obtain ⟨dx, vs, h1, h2⟩ := h; rw [h1]; intro q; cases q
  | raw u => rw [h.1]; intro q; cases q
  | lkk o ws kvs => rw [h.1]; intro q; cases q
  | lkt o ws kvs => rw [h.1]; intro q; cases q
/-- B: the tuples, which never change; the cells of μ stand apart from them -/
structure Base (B H : Hp) (μ : Mu) : Prop where
  ex : Ex B H
  cell : ∀ a c, μ a = some c → B a = none ∧ CellRep B H a c
theorem Base.fresh {B H : Hp} {μ : Mu} (b : Base B H μ) {p : Addr} (h : H p = none) : μ p = none := by
  cases e : μ p with
  | none => rfl
  | some c => exact absurd h (b.cell p c e).2.live
theorem Base.bfresh {B H : Hp} {μ : Mu} (b : Base B H μ) {p : Addr} (h : H p = none) : B p = none := fresh_back b.ex h
/-- a new tuple -/
theorem Base.tup {B H : Hp} {μ : Mu} (b : Base B H μ) {p : Addr} {o : HO} (h : H p = none) : Base (upd B p o) (upd H p o) μ := by
  refine ⟨fun a u e => ?_, fun a c e => ?_⟩
  · by_cases z : a = p
    · subst z
      rw [upd_same] at e ⊢
      exact e
    · rw [upd_ne z] at e ⊢
      exact b.ex a u e
  · obtain ⟨h1, h2⟩ := b.cell a c e
    have z : a ≠ p := fun z => h2.live (z ▸ h)
    exact ⟨by rw [upd_ne z]; exact h1, (h2.up (Ex.new (b.bfresh h))).at (upd_ne z)⟩
/-- a new cell -/
theorem Base.new {B H : Hp} {μ : Mu} (b : Base B H μ) {p : Addr} {o : HO} {c : Cell} (h : H p = none) (r : CellRep B (upd H p o) p c) : Base B (upd H p o) (updM μ p c) := by
  refine ⟨b.ex.trans (Ex.new h), fun a c' e => ?_⟩
  by_cases z : a = p
  · subst z
    rw [updM_same] at e
    cases e
    exact ⟨b.bfresh h, r⟩
  · rw [updM_ne z] at e
    obtain ⟨h1, h2⟩ := b.cell a c' e
    exact ⟨h1, h2.at (upd_ne z)⟩
/-- a cell that changes -/
theorem Base.mut {B H : Hp} {μ : Mu} (b : Base B H μ) {p : Addr} {o : HO} {c c' : Cell} (h : μ p = some c') (r : CellRep B (upd H p o) p c) : Base B (upd H p o) (updM μ p c) := by
  refine ⟨Ex.mut b.ex (b.cell p c' h).1, fun a c' e => ?_⟩
  by_cases z : a = p
  · subst z
    rw [updM_same] at e
    cases e
    exact ⟨(b.cell a _ h).1, r⟩
  · rw [updM_ne z] at e
    obtain ⟨h1, h2⟩ := b.cell a c' e
    exact ⟨h1, h2.at (upd_ne z)⟩
def Mle (μ μ' : Mu) : Prop := ∀ a c, μ a = some c → μ' a = some c
theorem Mle.refl (μ : Mu) : Mle μ μ := fun _ _ h => h
theorem Mle.trans {a b c : Mu} (h : Mle a b) (k : Mle b c) : Mle a c := fun x o e => k _ _ (h _ _ e)
theorem Mle.new {μ : Mu} {p : Addr} {c : Cell} (h : μ p = none) : Mle μ (updM μ p c) := fun a o e => by
  rw [updM_ne (fun z => by rw [z, h] at e; cases e)]
  exact e
theorem Base.drop {B H : Hp} {μ μ' : Mu} (b : Base B H μ') (h : Mle μ μ') : Base B H μ := ⟨b.ex, fun a c e => b.cell a c (h a c e)⟩

/-! ### slots -/
abbrev Rho := List (Option D)
inductive RepO (B : Hp) : Option V → Option D → Prop
  | none : RepO B none none
  | some {v : V} {d : D} : Rep B v d → RepO B (some v) (some d)
inductive Sl (B : Hp) : L2.St → Rho → Prop
  | nil : Sl B [] []
  | cons {v : Option V} {d : Option D} {vs : L2.St} {ds : Rho} : RepO B v d → Sl B vs ds → Sl B (v :: vs) (d :: ds)
theorem RepO.up {B B' : Hp} (e : Ex B B') {v : Option V} {d : Option D} (h : RepO B v d) : RepO B' v d := by
  cases h with
  | none => exact .none
  | some h => exact .some (h.up e)
theorem Sl.up {B B' : Hp} (e : Ex B B') : ∀ {σ : L2.St} {ρ : Rho}, Sl B σ ρ → Sl B' σ ρ
  | _, _, .nil => .nil
  | _, _, .cons h r => .cons (h.up e) (Sl.up e r)
theorem Sl.at {B : Hp} : ∀ {σ : L2.St} {ρ : Rho} {i : Nat} {d : D}, Sl B σ ρ → ρ[i]? = some (some d) → ∃ v, σ[i]? = some (some v) ∧ Rep B v d
  | _, _, i, d, .nil, h => by simp at h
  | _, _, 0, d, .cons h r, e => by
    cases e
    cases h with
    | some h => exact ⟨_, rfl, h⟩
  | _, _, i + 1, d, .cons h r, e => by
    obtain ⟨v, h1, h2⟩ := Sl.at (i := i) r (by simpa using e)
    exact ⟨v, by simpa using h1, h2⟩
theorem Sl.set {B : Hp} {v : Option V} {d : Option D} (h : RepO B v d) : ∀ {σ : L2.St} {ρ : Rho} (i : Nat), Sl B σ ρ → Sl B (σ.set i v) (ρ.set i d)
  | _, _, _, .nil => .nil
  | _, _, 0, .cons _ r => .cons h r
  | _, _, i + 1, .cons g r => .cons g (Sl.set h i r)
def wipeD (ρ : Rho) : List Nat → Rho
  | [] => ρ
  | v :: vs => (wipeD ρ vs).set v none
theorem Sl.wipe {B : Hp} {σ : L2.St} {ρ : Rho} (h : Sl B σ ρ) : ∀ vs : List Nat, Sl B (L2.wipe σ vs) (wipeD ρ vs)
  | [] => h
  | v :: vs => Sl.set .none v (Sl.wipe h vs)
def startD (N : List Str) (ds : List D) : Rho := ds.map some ++ List.replicate (N.length - ds.length) none
theorem Sl.app {B : Hp} : ∀ {σ τ : L2.St} {ρ ω : Rho}, Sl B σ ρ → Sl B τ ω → Sl B (σ ++ τ) (ρ ++ ω)
  | _, _, _, _, .nil, h => h
  | _, _, _, _, .cons h r, k => .cons h (Sl.app r k)
theorem Sl.nones {B : Hp} : ∀ n : Nat, Sl B (List.replicate n none) (List.replicate n none)
  | 0 => .nil
  | n + 1 => .cons .none (Sl.nones n)
theorem Sl.somes {B : Hp} : ∀ {vs : List V} {ds : List D}, RepA B vs ds → Sl B (vs.map some) (ds.map some)
  | _, _, .nil => .nil
  | _, _, .cons h r => .cons (.some h) (Sl.somes r)
theorem Sl.start {B : Hp} {N : List Str} {vs : List V} {ds : List D} (h : RepA B vs ds) : Sl B (start N vs) (startD N ds) := by
  unfold L2.start startD
  rw [h.len]
  exact Sl.app (Sl.somes h) (Sl.nones _)

/-! ### readings that compute -/
abbrev DK := D → Mu → Prop
abbrev AE := Rho → Mu → DK → Prop
abbrev AT := Rho → Mu → (Bool → Mu → Prop) → Prop
abbrev AA := Rho → Mu → (List D → Mu → Prop) → Prop
abbrev AO := Rho → Mu → (Option Int → Mu → Prop) → Prop
structure EndsA where
  nx : Rho → Mu → Prop
  rt : DK
  bk : Rho → Mu → Prop := fun _ _ => False
  ct : Rho → Mu → Prop := fun _ _ => False
abbrev AS := EndsA → Rho → Mu → Prop
abbrev AG := D → Rho → Mu → (Rho → Mu → Prop) → Prop
abbrev AGs := List D → Rho → Mu → (Rho → Mu → Prop) → Prop
/-- what is walked: the items, what stays while it is walked -/
abbrev AI := Rho → Mu → (List D → (Mu → Prop) → Mu → Prop) → Prop

def SimE (te : TE) (ae : AE) : Prop := ∀ {B H : Hp} {ρ : Rho} {μ : Mu} {σ : L2.St}, Base B H μ → Sl B σ ρ → ∀ {Qa : DK} {Q : VK}, (∀ B' v d H' μ', Ex B B' → Base B' H' μ' → Rep B' v d → Qa d μ' → Q v H') → ae ρ μ Qa → te σ H Q
def SimT (te : TT) (ae : AT) : Prop := ∀ {B H : Hp} {ρ : Rho} {μ : Mu} {σ : L2.St}, Base B H μ → Sl B σ ρ → ∀ {Qa : Bool → Mu → Prop} {Q : Bool → Hp → Prop}, (∀ B' b H' μ', Ex B B' → Base B' H' μ' → Qa b μ' → Q b H') → ae ρ μ Qa → te σ H Q
def SimA (te : TA) (ae : AA) : Prop := ∀ {B H : Hp} {ρ : Rho} {μ : Mu} {σ : L2.St}, Base B H μ → Sl B σ ρ → ∀ {Qa : List D → Mu → Prop} {Q : List V → Hp → Prop}, (∀ B' v d H' μ', Ex B B' → Base B' H' μ' → RepA B' v d → Qa d μ' → Q v H') → ae ρ μ Qa → te σ H Q
def SimO (te : TO) (ae : AO) : Prop := ∀ {B H : Hp} {ρ : Rho} {μ : Mu} {σ : L2.St}, Base B H μ → Sl B σ ρ → ∀ {Qa : Option Int → Mu → Prop} {Q : Option Int → Hp → Prop}, (∀ B' b H' μ', Ex B B' → Base B' H' μ' → Qa b μ' → Q b H') → ae ρ μ Qa → te σ H Q
structure EndsS (B : Hp) (A : EndsA) (E : Ends) : Prop where
  nx : ∀ B' H' ρ' μ' σ', Ex B B' → Base B' H' μ' → Sl B' σ' ρ' → A.nx ρ' μ' → E.nx σ' H'
  rt : ∀ B' v d H' μ', Ex B B' → Base B' H' μ' → Rep B' v d → A.rt d μ' → E.rt v H'
  bk : ∀ B' H' ρ' μ' σ', Ex B B' → Base B' H' μ' → Sl B' σ' ρ' → A.bk ρ' μ' → E.bk σ' H'
  ct : ∀ B' H' ρ' μ' σ', Ex B B' → Base B' H' μ' → Sl B' σ' ρ' → A.ct ρ' μ' → E.ct σ' H'
theorem EndsS.up {B B' : Hp} {A : EndsA} {E : Ends} (h : EndsS B A E) (e : Ex B B') : EndsS B' A E :=
  ⟨fun B2 H' ρ' μ' σ' e2 => h.nx B2 H' ρ' μ' σ' (e.trans e2), fun B2 v d H' μ' e2 => h.rt B2 v d H' μ' (e.trans e2), fun B2 H' ρ' μ' σ' e2 => h.bk B2 H' ρ' μ' σ' (e.trans e2), fun B2 H' ρ' μ' σ' e2 => h.ct B2 H' ρ' μ' σ' (e.trans e2)⟩
def SimS (ts : TS) (as : AS) : Prop := ∀ {B H : Hp} {ρ : Rho} {μ : Mu} {σ : L2.St}, Base B H μ → Sl B σ ρ → ∀ {A : EndsA} {E : Ends}, EndsS B A E → as A ρ μ → ts E σ H
/-- the slots out of S stand as they stood -/
def Off (S : List Nat) (σ σ' : L2.St) : Prop := σ'.length = σ.length ∧ ∀ i, i ∉ S → σ'[i]? = σ[i]?
def SimG (tg : TG) (S : List Nat) (ag : AG) : Prop := ∀ {B H : Hp} {ρ : Rho} {μ : Mu} {σ : L2.St} {v : V} {d : D}, Base B H μ → Sl B σ ρ → Rep B v d → ∀ {Qa : Rho → Mu → Prop} {Q : L2.St → Hp → Prop}, (∀ B' H' ρ' μ' σ', Ex B B' → Base B' H' μ' → Sl B' σ' ρ' → Off S σ σ' → Qa ρ' μ' → Q σ' H') → ag d ρ μ Qa → tg v σ H Q
def SimGs (tg : TGs) (S : List Nat) (ag : AGs) : Prop := ∀ {B H : Hp} {ρ : Rho} {μ : Mu} {σ : L2.St} {v : List V} {d : List D}, Base B H μ → Sl B σ ρ → RepA B v d → ∀ {Qa : Rho → Mu → Prop} {Q : L2.St → Hp → Prop}, (∀ B' H' ρ' μ' σ', Ex B B' → Base B' H' μ' → Sl B' σ' ρ' → Off S σ σ' → Qa ρ' μ' → Q σ' H') → ag d ρ μ Qa → tg v σ H Q
theorem Off.refl (S : List Nat) (σ : L2.St) : Off S σ σ := ⟨rfl, fun _ _ => rfl⟩
theorem Off.app {S T : List Nat} {σ σ1 σ2 : L2.St} (a : Off S σ σ1) (b : Off T σ1 σ2) : Off (S ++ T) σ σ2 := ⟨b.1.trans a.1, fun i hi => by
  rw [List.mem_append, not_or] at hi
  rw [b.2 i hi.2, a.2 i hi.1]⟩
theorem wipe_at {σ : L2.St} : ∀ {ws : List Nat} {i : Nat}, i ∈ ws → i < σ.length → (L2.wipe σ ws)[i]? = some none
  | [], i, h, _ => by cases h
  | w :: ws, i, h, hl => by
    unfold L2.wipe
    have hl' : i < (L2.wipe σ ws).length := by rw [L2.wipe_length]; exact hl
    by_cases e : w = i
    · subst e
      rw [List.getElem?_set_self hl']
    · rw [List.getElem?_set_ne e]
      exact wipe_at ((List.mem_cons.mp h).resolve_left fun z => e z.symm) hl
theorem wipe_off {σ : L2.St} : ∀ {ws : List Nat} {i : Nat}, i ∉ ws → (L2.wipe σ ws)[i]? = σ[i]?
  | [], i, _ => rfl
  | w :: ws, i, h => by
    rw [List.mem_cons, not_or] at h
    unfold L2.wipe
    rw [List.getElem?_set_ne (fun z => h.1 z.symm)]
    exact wipe_off h.2
theorem Off.wipe {S ws : List Nat} {σ σ' : L2.St} (h : Off S (L2.wipe σ ws) σ') (hs : ∀ i ∈ S, i ∈ ws) : L2.wipe σ' ws = L2.wipe σ ws := by
  refine List.ext_getElem? fun i => ?_
  have hl : σ'.length = σ.length := h.1.trans (L2.wipe_length σ ws)
  by_cases hi : i ∈ ws
  · by_cases hlt : i < σ.length
    · rw [wipe_at hi (by omega), wipe_at hi hlt]
    · rw [List.getElem?_eq_none (by rw [L2.wipe_length]; omega), List.getElem?_eq_none (by rw [L2.wipe_length]; omega)]
  · rw [wipe_off hi, wipe_off hi, h.2 i (fun z => hi (hs i z)), wipe_off hi]
def SimI (ti : TI) (ai : AI) : Prop := ∀ {B H : Hp} {ρ : Rho} {μ : Mu} {σ : L2.St}, Base B H μ → Sl B σ ρ → ∀ {Ra : List D → (Mu → Prop) → Mu → Prop} {R : It → Hp → Prop},
  (∀ B' H' μ' xs st (J : It) (G : Hp → Prop) (Y : Nat → Hp → V → Hp → Prop), Ex B B' → Base B' H' μ' → Walk J xs.length G Y → (∀ B2 H2 μ2, Ex B' B2 → Base B2 H2 μ2 → st μ2 → G H2) →
    (∀ B2 H2 μ2 i x d H3, Ex B' B2 → Base B2 H2 μ2 → st μ2 → xs[i]? = some d → Y i H2 x H3 → ∃ B3, Ex B2 B3 ∧ Base B3 H3 μ2 ∧ Rep B3 x d) → Ra xs st μ' → R J H') → ai ρ μ Ra → ti σ H R
def QE (X : Cx) (e : Expr) (ae : AE) : Prop := ∃ te, PE X e te ∧ SimE te ae
def QT (X : Cx) (e : Expr) (ae : AT) : Prop := ∃ te, PT X e te ∧ SimT te ae
def QW (X : Cx) (e : Expr) (ae : AT) : Prop := ∃ te, PW X e te ∧ SimT te ae
def QA (X : Cx) (e : List Expr) (ae : AA) : Prop := ∃ te, PA X e te ∧ SimA te ae
def QO (X : Cx) (e : Option Expr) (ae : AO) : Prop := ∃ te, PO X e te ∧ SimO te ae
def QS (X : Cx) (e : Stmt) (ae : AS) : Prop := ∃ te, PS X e te ∧ SimS te ae
def QSs (X : Cx) (e : List Stmt) (ae : AS) : Prop := ∃ te, PSs X e te ∧ SimS te ae
def QG (X : Cx) (e : Expr) (S : List Nat) (ae : AG) : Prop := ∃ te, PG X e te ∧ SimG te S ae
def QGs (X : Cx) (e : List Expr) (S : List Nat) (ae : AGs) : Prop := ∃ te, PGs X e te ∧ SimGs te S ae
def QI (X : Cx) (tg e : Expr) (ae : AI) : Prop := ∃ te, PI X tg e te ∧ SimI te ae
def QTs (X : Cx) (e : List Expr) (ae : AT) : Prop := ∃ te, PTs X e te ∧ SimT te ae
/-- an operation on values -/
def SimR (r : R2) (f : D → D → Mu → DK → Prop) : Prop := ∀ {B H : Hp} {μ : Mu} {x y : V} {d e : D}, Base B H μ → Rep B x d → Rep B y e → ∀ {Qa : DK} {Q : VK}, (∀ B' v d H' μ', Ex B B' → Base B' H' μ' → Rep B' v d → Qa d μ' → Q v H') → f d e μ Qa → r x y H Q
def SimU (r : V → Hp → VK → Prop) (f : D → Mu → DK → Prop) : Prop := ∀ {B H : Hp} {μ : Mu} {x : V} {d : D}, Base B H μ → Rep B x d → ∀ {Qa : DK} {Q : VK}, (∀ B' v d H' μ', Ex B B' → Base B' H' μ' → Rep B' v d → Qa d μ' → Q v H') → f d μ Qa → r x H Q
def SimC (r : List V → Hp → VK → Prop) (f : List D → Mu → DK → Prop) : Prop := ∀ {B H : Hp} {μ : Mu} {x : List V} {d : List D}, Base B H μ → RepA B x d → ∀ {Qa : DK} {Q : VK}, (∀ B' v d H' μ', Ex B B' → Base B' H' μ' → Rep B' v d → Qa d μ' → Q v H') → f d μ Qa → r x H Q
def SimM (r : V → List V → Hp → VK → Prop) (f : D → List D → Mu → DK → Prop) : Prop := ∀ {B H : Hp} {μ : Mu} {x : V} {xs : List V} {d : D} {ds : List D}, Base B H μ → Rep B x d → RepA B xs ds → ∀ {Qa : DK} {Q : VK}, (∀ B' v d H' μ', Ex B B' → Base B' H' μ' → Rep B' v d → Qa d μ' → Q v H') → f d ds μ Qa → r x xs H Q
abbrev F2 := D → D → Mu → DK → Prop
abbrev F1 := D → Mu → DK → Prop
abbrev FC := List D → Mu → DK → Prop
abbrev FM := D → List D → Mu → DK → Prop
def OpQ (X : Cx) (g : Value → Value → Sem Value) (f : F2) : Prop := ∃ r, OpR X g r ∧ SimR r f
def UnQ (X : Cx) (g : Value → Sem Value) (f : F1) : Prop := ∃ r, UnR X g r ∧ SimU r f
def CallQ (X : Cx) (g : Value) (f : FC) : Prop := ∃ r, CallR X g r ∧ SimC r f
def IxQ (X : Cx) (f : F2) : Prop := ∃ r, IxR X r ∧ SimR r f
def MtQ (X : Cx) (id : String) (f : FM) : Prop := ∃ r, MtR X id r ∧ SimM r f

/-! ### expressions -/
def aV (i : Nat) : AE := fun ρ μ Q => match ρ[i]? with
  | some (some d) => Q d μ
  | _ => False
def aC (d : D) : AE := fun _ μ Q => Q d μ
def aOp (f : F2) (a b : AE) : AE := fun ρ μ Q => a ρ μ fun x μ1 => b ρ μ1 fun y μ2 => f x y μ2 Q
def aUn (f : F1) (a : AE) : AE := fun ρ μ Q => a ρ μ fun x μ1 => f x μ1 Q
def aI (c : Int → Int → Prop) (g : Int → Int → D) : F2 := fun x y μ Q => match x, y with
  | .int i, .int j => c i j ∧ Q (g i j) μ
  | _, _ => False
def aI0 (g : Int → Int → D) : F2 := fun x y μ Q => match x, y with
  | .int i, .int j => Q (g i j) μ
  | _, _ => False
def aNil : AA := fun _ μ Q => Q [] μ
def aCons (a : AE) (b : AA) : AA := fun ρ μ Q => a ρ μ fun x μ1 => b ρ μ1 fun xs μ2 => Q (x :: xs) μ2
def aTup (a : AA) : AE := fun ρ μ Q => a ρ μ fun xs μ1 => xs.length ≤ 100000 ∧ Q (.tup xs) μ1
def aLst (a : AA) : AE := fun ρ μ Q => a ρ μ fun xs μ1 => xs.length ≤ 100000 ∧ ∀ p, μ1 p = none → Q (.ptr p) (updM μ1 p (.lst xs))
def aCB (f : FC) (a : AA) : AE := fun ρ μ Q => a ρ μ fun xs μ1 => f xs μ1 Q
section
variable {X : Cx} {ρ : Rho} {μ : Mu} {a b c e o i : Expr} {es : List Expr} {pos p : Pos} {aa ab ac : AE} {ta tb : AT} {as : AA}
theorem sim_c {v : V} {d : D} (h : ∀ B, Rep B v d) : SimE (tC v) (aC d) := fun {B _ _ _ _} hb _ {_ _} k q => k B _ _ _ _ (Ex.refl B) hb (h B) q
theorem qv (i : Nat) {x : Str} (hN : X.N[i]? = some x := by rfl) (hv : Vis X.env.scope x := by first | exact Or.inl rfl | exact Or.inr (Or.inl rfl) | exact Or.inr (Or.inr rfl)) (hd : (x == ("__debug__" : Str)) = false := by decide)
    (hcd : (x == ("__classdict__" : Str)) = false := by decide) : QE X (.Name x pos) (aV i) := ⟨_, pe_var hN hv hd hcd, fun {B _ ρ _ _} hb hs {_ _} k q => by
  unfold aV at q
  split at q
  · rename_i d hd
    obtain ⟨v, h1, h2⟩ := hs.at hd
    exact ⟨v, h1, k B v d _ _ (Ex.refl B) hb h2 q⟩
  · exact q.elim⟩
theorem qe_int {i : Int} {j} : QE X (.Constant (.int i) j pos) (aC (.int i)) := ⟨_, pe_int, sim_c fun _ => .int i⟩
theorem qe_bl {i : Bool} {j} : QE X (.Constant (.bool i) j pos) (aC (.bl i)) := ⟨_, pe_bl, sim_c fun _ => .bl i⟩
theorem qe_str {i : Str} {j} : QE X (.Constant (.str i) j pos) (aC (.str i)) := ⟨_, pe_str, sim_c fun _ => .str i⟩
theorem qe_non {j} : QE X (.Constant .none j pos) (aC .non) := ⟨_, pe_non, sim_c fun _ => .non⟩
theorem sim_op {r : R2} {f : F2} {t u : TE} (hr : SimR r f) (ha : SimE t aa) (hb : SimE u ab) : SimE (tOp r t u) (aOp f aa ab) := fun {B _ _ _ _} b0 s0 {_ _} k q =>
  ha b0 s0 (fun B1 x dx H1 μ1 e1 b1 r1 q1 => hb b1 (s0.up e1) (fun B2 y dy H2 μ2 e2 b2 r2 q2 => hr b2 (r1.up e2) r2 (fun B3 v d H3 μ3 e3 => k B3 v d H3 μ3 (e1.trans (e2.trans e3))) q2) q1) q
theorem sim_un {r : V → Hp → VK → Prop} {f : F1} {t : TE} (hr : SimU r f) (ha : SimE t aa) : SimE (tUn r t) (aUn f aa) := fun {B _ _ _ _} b0 s0 {_ _} k q =>
  ha b0 s0 (fun B1 x dx H1 μ1 e1 b1 r1 q1 => hr b1 r1 (fun B3 v d H3 μ3 e3 => k B3 v d H3 μ3 (e1.trans e3)) q1) q
theorem qe_op {op : Operator} {f : F2} (ho : OpQ X (binaryOp op) f) (ha : QE X a aa) (hb : QE X b ab) : QE X (.BinOp a op b pos) (aOp f aa ab) := by
  obtain ⟨r, h1, h2⟩ := ho
  obtain ⟨t, p1, s1⟩ := ha
  obtain ⟨u, p2, s2⟩ := hb
  exact ⟨_, pe_op h1 p1 p2, sim_op h2 s1 s2⟩
theorem qe_un {op : UnaryOp} {f : F1} (ho : UnQ X (unaryOp op) f) (ha : QE X a aa) : QE X (.UnaryOp op a pos) (aUn f aa) := by
  obtain ⟨r, h1, h2⟩ := ho
  obtain ⟨t, p1, s1⟩ := ha
  exact ⟨_, pe_un h1 p1, sim_un h2 s1⟩
theorem qe_cmpR {op : CmpOp} {f : F2} (ho : OpQ X (compareOp op) f) (ha : QE X a aa) (hb : QE X b ab) (hm : behindInMarks op b = false) : QE X (.Compare a [op] [b] pos) (aOp f aa ab) := by
  obtain ⟨r, h1, h2⟩ := ho
  obtain ⟨t, p1, s1⟩ := ha
  obtain ⟨u, p2, s2⟩ := hb
  exact ⟨_, pe_cmpR h1 p1 p2 hm, sim_op h2 s1 s2⟩
def aTest (a : AE) : AT := fun ρ μ Q => a ρ μ fun x μ1 => match x with
  | .bl b => Q b μ1
  | _ => False
theorem sim_test {t : TE} (h : SimE t aa) : SimT (tTest t) (aTest aa) := fun {B _ _ _ _} b0 s0 {_ _} k q =>
  h b0 s0 (fun B1 x dx H1 μ1 e1 b1 r1 q1 => by
    cases r1 <;> first | exact q1.elim | exact ⟨_, rfl, k _ _ _ _ e1 b1 q1⟩) q
theorem sim_B {t : TE} (h : SimE t aa) : SimT (tB t) (aTest aa) := sim_test h
theorem qt_cmpR {op : CmpOp} {f : F2} (ho : OpQ X (compareOp op) f) (ha : QE X a aa) (hb : QE X b ab) (hm : behindInMarks op b = false) : QT X (.Compare a [op] [b] pos) (aTest (aOp f aa ab)) := by
  obtain ⟨r, h1, h2⟩ := ho
  obtain ⟨t, p1, s1⟩ := ha
  obtain ⟨u, p2, s2⟩ := hb
  exact ⟨_, pt_cmpR h1 p1 p2 hm, sim_test (sim_op h2 s1 s2)⟩
def aChain (f g : F2) (a b c : AE) : AE := fun ρ μ Q => a ρ μ fun x μ1 => b ρ μ1 fun y μ2 => f x y μ2 fun z μ3 => match z with
  | .bl k => if k = true then c ρ μ3 fun u μ4 => g y u μ4 Q else Q (.bl false) μ3
  | _ => False
theorem sim_chain {r r' : R2} {f g : F2} {t u w : TE} (hr : SimR r f) (hr' : SimR r' g) (ha : SimE t aa) (hb : SimE u ab) (hc : SimE w ac) : SimE (tChain r r' t u w) (aChain f g aa ab ac) := fun {B _ _ _ _} b0 s0 {_ _} k q =>
  ha b0 s0 (fun B1 x dx H1 μ1 e1 b1 r1 q1 => hb b1 (s0.up e1) (fun B2 y dy H2 μ2 e2 b2 r2 q2 => hr b2 (r1.up e2) r2 (fun B3 v d H3 μ3 e3 b3 r3 q3 => by
    cases r3 <;> first | exact q3.elim | skip
    rename_i kk
    refine ⟨kk, rfl, ?_⟩
    cases kk with
    | true => exact hc b3 (s0.up (e1.trans (e2.trans e3))) (fun B4 v d H4 μ4 e4 b4 r4 q4 => hr' b4 ((r2.up e3).up e4) r4 (fun B5 v d H5 μ5 e5 => k B5 v d H5 μ5 (e1.trans (e2.trans (e3.trans (e4.trans e5))))) q4) q3
    | false => exact k _ _ _ _ _ (e1.trans (e2.trans e3)) b3 (.bl false) q3) q2) q1) q
theorem qe_chain {op op' : CmpOp} {f g : F2} (ho : OpQ X (compareOp op) f) (ho' : OpQ X (compareOp op') g) (ha : QE X a aa) (hb : QE X b ab) (hc : QE X c ac)
    (hm : lastMarks [op, op'] [b, c] = false := by with_unfolding_all rfl) : QE X (.Compare a [op, op'] [b, c] pos) (aChain f g aa ab ac) := by
  obtain ⟨r, h1, h2⟩ := ho
  obtain ⟨r', h1', h2'⟩ := ho'
  obtain ⟨t, p1, s1⟩ := ha
  obtain ⟨u, p2, s2⟩ := hb
  obtain ⟨w, p3, s3⟩ := hc
  exact ⟨_, pe_chain h1 h1' p1 p2 p3 hm, sim_chain h2 h2' s1 s2 s3⟩
theorem qt_chain {op op' : CmpOp} {f g : F2} (ho : OpQ X (compareOp op) f) (ho' : OpQ X (compareOp op') g) (ha : QE X a aa) (hb : QE X b ab) (hc : QE X c ac)
    (hm : lastMarks [op, op'] [b, c] = false := by with_unfolding_all rfl) : QT X (.Compare a [op, op'] [b, c] pos) (aTest (aChain f g aa ab ac)) := by
  obtain ⟨r, h1, h2⟩ := ho
  obtain ⟨r', h1', h2'⟩ := ho'
  obtain ⟨t, p1, s1⟩ := ha
  obtain ⟨u, p2, s2⟩ := hb
  obtain ⟨w, p3, s3⟩ := hc
  exact ⟨_, pt_chain h1 h1' p1 p2 p3 hm, sim_test (sim_chain h2 h2' s1 s2 s3)⟩
theorem qt_val (h : QE X e aa) (he : ∀ whole, isTrue e X.env whole = (do let v ← whole; standAt e.pos; holding [v] (truthy v)) := by intro _; rfl) : QT X e (aTest aa) := by
  obtain ⟨t, p1, s1⟩ := h
  exact ⟨_, pt_val p1 he, sim_B s1⟩
def aNotT (a : AT) : AT := fun ρ μ Q => a ρ μ fun b μ1 => Q (!b) μ1
def aAndT (a b : AT) : AT := fun ρ μ Q => a ρ μ fun c μ1 => if c = true then b ρ μ1 Q else Q false μ1
def aOrT (a b : AT) : AT := fun ρ μ Q => a ρ μ fun c μ1 => if c = true then Q true μ1 else b ρ μ1 Q
theorem sim_not {t : TT} (h : SimT t ta) : SimT (tNot t) (aNotT ta) := fun {B _ _ _ _} b0 s0 {_ _} k q => h b0 s0 (fun B1 b H1 μ1 e1 b1 q1 => k _ _ _ _ e1 b1 q1) q
theorem sim_and {t u : TT} (h : SimT t ta) (g : SimT u tb) : SimT (tAnd t u) (aAndT ta tb) := fun {B _ _ _ _} b0 s0 {_ _} k q => h b0 s0 (fun B1 b H1 μ1 e1 b1 q1 => by
  cases b with
  | true => exact g b1 (s0.up e1) (fun B2 b H2 μ2 e2 => k B2 b H2 μ2 (e1.trans e2)) q1
  | false => exact k _ _ _ _ e1 b1 q1) q
theorem sim_or {t u : TT} (h : SimT t ta) (g : SimT u tb) : SimT (tOr t u) (aOrT ta tb) := fun {B _ _ _ _} b0 s0 {_ _} k q => h b0 s0 (fun B1 b H1 μ1 e1 b1 q1 => by
  cases b with
  | false => exact g b1 (s0.up e1) (fun B2 b H2 μ2 e2 => k B2 b H2 μ2 (e1.trans e2)) q1
  | true => exact k _ _ _ _ e1 b1 q1) q
theorem qt_not (h : QT X a ta) : QT X (.UnaryOp .Not a pos) (aNotT ta) := by
  obtain ⟨t, p1, s1⟩ := h
  exact ⟨_, pt_not p1, sim_not s1⟩
theorem qw_and {rest : List Expr} (h : QT X a ta) (g : QW X (.BoolOp .And (b :: rest) pos) tb) : QW X (.BoolOp .And (a :: b :: rest) pos) (aAndT ta tb) := by
  obtain ⟨t, p1, s1⟩ := h
  obtain ⟨u, p2, s2⟩ := g
  exact ⟨_, pw_and p1 p2, sim_and s1 s2⟩
theorem qw_and1 (h : QT X a ta) : QW X (.BoolOp .And [a] pos) ta := by
  obtain ⟨t, p1, s1⟩ := h
  exact ⟨_, pw_and1 p1, s1⟩
theorem qw_or {rest : List Expr} (h : QT X a ta) (g : QW X (.BoolOp .Or (b :: rest) pos) tb) : QW X (.BoolOp .Or (a :: b :: rest) pos) (aOrT ta tb) := by
  obtain ⟨t, p1, s1⟩ := h
  obtain ⟨u, p2, s2⟩ := g
  exact ⟨_, pw_or p1 p2, sim_or s1 s2⟩
theorem qw_or1 (h : QT X a ta) : QW X (.BoolOp .Or [a] pos) ta := by
  obtain ⟨t, p1, s1⟩ := h
  exact ⟨_, pw_or1 p1, s1⟩
theorem QW.pt (h : QW X e ta) : QT X e ta := by
  obtain ⟨t, p1, s1⟩ := h
  exact ⟨_, p1.pt, s1⟩
def aAndV (a b : AE) : AE := fun ρ μ Q => a ρ μ fun x μ1 => match x with
  | .bl c => if c = true then b ρ μ1 Q else Q (.bl false) μ1
  | _ => False
def aOrV (a b : AE) : AE := fun ρ μ Q => a ρ μ fun x μ1 => match x with
  | .bl c => if c = true then Q (.bl true) μ1 else b ρ μ1 Q
  | _ => False
def aNotV (a : AE) : AE := fun ρ μ Q => a ρ μ fun x μ1 => match x with
  | .bl c => Q (.bl (!c)) μ1
  | _ => False
def aIfE (t : AT) (a b : AE) : AE := fun ρ μ Q => t ρ μ fun c μ1 => if c = true then a ρ μ1 Q else b ρ μ1 Q
theorem qe_and {rest : List Expr} (h : QE X a aa) (g : QE X (.BoolOp .And (b :: rest) pos) ab) : QE X (.BoolOp .And (a :: b :: rest) pos) (aAndV aa ab) := by
  obtain ⟨t, p1, s1⟩ := h
  obtain ⟨u, p2, s2⟩ := g
  refine ⟨_, pe_and p1 p2, fun {B _ _ _ _} b0 s0 {_ _} k q => s1 b0 s0 (fun B1 b d H1 μ1 e1 b1 r1 q1 => ?_) q⟩
  cases r1 <;> first | exact q1.elim | skip
  rename_i c
  refine ⟨c, rfl, ?_⟩
  cases c with
  | true => exact s2 b1 (s0.up e1) (fun B2 b d H2 μ2 e2 => k B2 b d H2 μ2 (e1.trans e2)) q1
  | false => exact k _ _ _ _ _ e1 b1 (.bl _) q1
theorem qe_or {rest : List Expr} (h : QE X a aa) (g : QE X (.BoolOp .Or (b :: rest) pos) ab) : QE X (.BoolOp .Or (a :: b :: rest) pos) (aOrV aa ab) := by
  obtain ⟨t, p1, s1⟩ := h
  obtain ⟨u, p2, s2⟩ := g
  refine ⟨_, pe_or p1 p2, fun {B _ _ _ _} b0 s0 {_ _} k q => s1 b0 s0 (fun B1 b d H1 μ1 e1 b1 r1 q1 => ?_) q⟩
  cases r1 <;> first | exact q1.elim | skip
  rename_i c
  refine ⟨c, rfl, ?_⟩
  cases c with
  | false => exact s2 b1 (s0.up e1) (fun B2 b d H2 μ2 e2 => k B2 b d H2 μ2 (e1.trans e2)) q1
  | true => exact k _ _ _ _ _ e1 b1 (.bl _) q1
theorem qe_one {op} (h : QE X a aa) : QE X (.BoolOp op [a] pos) aa := by
  obtain ⟨t, p1, s1⟩ := h
  exact ⟨_, pe_one p1, s1⟩
theorem qe_not (h : QE X a aa) : QE X (.UnaryOp .Not a pos) (aNotV aa) := by
  obtain ⟨t, p1, s1⟩ := h
  refine ⟨_, pe_not p1, fun {B _ _ _ _} b0 s0 {_ _} k q => s1 b0 s0 (fun B1 b d H1 μ1 e1 b1 r1 q1 => ?_) q⟩
  cases r1 <;> first | exact q1.elim | skip
  rename_i c
  exact ⟨c, rfl, k _ _ _ _ _ e1 b1 (.bl _) q1⟩
theorem qe_ifExp (hc : QT X c ta) (ha : QE X a aa) (hb : QE X b ab) : QE X (.IfExp c a b pos) (aIfE ta aa ab) := by
  obtain ⟨t, p1, s1⟩ := hc
  obtain ⟨u, p2, s2⟩ := ha
  obtain ⟨w, p3, s3⟩ := hb
  refine ⟨_, pe_ifExp p1 p2 p3, fun {B _ _ _ _} b0 s0 {_ _} k q => s1 b0 s0 (fun B1 b H1 μ1 e1 b1 q1 => ?_) q⟩
  cases b with
  | true => exact s2 b1 (s0.up e1) (fun B2 b d H2 μ2 e2 => k B2 b d H2 μ2 (e1.trans e2)) q1
  | false => exact s3 b1 (s0.up e1) (fun B2 b d H2 μ2 e2 => k B2 b d H2 μ2 (e1.trans e2)) q1
theorem qa_nil : QA X [] aNil := ⟨_, pa_nil, fun {B _ _ _ _} b0 s0 {_ _} k q => k B _ _ _ _ (Ex.refl B) b0 .nil q⟩
theorem qa_cons (h : QE X e aa) (g : QA X es as) (hs : starEach (e :: es) X.env = (false, eval e X.env) :: starEach es X.env := by rfl) : QA X (e :: es) (aCons aa as) := by
  obtain ⟨t, p1, s1⟩ := h
  obtain ⟨u, p2, s2⟩ := g
  exact ⟨_, pa_cons p1 p2 hs, fun {B _ _ _ _} b0 s0 {_ _} k q => s1 b0 s0 (fun B1 b d H1 μ1 e1 b1 r1 q1 => s2 b1 (s0.up e1) (fun B2 b d H2 μ2 e2 b2 r2 q2 => k B2 _ _ H2 μ2 (e1.trans e2) b2 (.cons (r1.up e2) r2) q2) q1) q⟩
theorem qe_tup {x1} (h : QA X es as) : QE X (.Tuple es x1 pos) (aTup as) := by
  obtain ⟨t, p1, s1⟩ := h
  refine ⟨_, pe_tup p1, fun {B _ _ _ _} b0 s0 {_ _} k q => s1 b0 s0 (fun B1 b d H1 μ1 e1 b1 r1 q1 => ⟨sz_of (by rw [r1.len]; exact q1.1), fun p hp => ?_⟩) q⟩
  have eb : Ex B1 (upd B1 p (.tup b)) := Ex.new (b1.bfresh hp)
  exact k _ _ _ _ _ (e1.trans eb) (b1.tup hp) (.tup upd_same (r1.up eb)) q1.2
theorem qe_lst (h : QA X es as) : QE X (.List es pos) (aLst as) := by
  obtain ⟨t, p1, s1⟩ := h
  refine ⟨_, pe_lst p1, fun {B _ _ _ _} b0 s0 {_ _} k q => s1 b0 s0 (fun B1 b d H1 μ1 e1 b1 r1 q1 => ⟨sz_of (by rw [r1.len]; exact q1.1), fun p hp => ?_⟩) q⟩
  exact k _ _ _ _ _ e1 (b1.new (c := .lst d) hp ⟨b, upd_same, r1⟩) (.ptr p) (q1.2 p (b1.fresh hp))
theorem qe_callB {id : String} {f : FC} {x : Str} (hc : CallQ X (.builtin id) f) (hg : Gl X x) (hm : X.mg x = none) (hv : bootBuiltins x = some (.builtin id)) (ha : QA X (e :: es) as) (hn : x ≠ "__name__" := by decide) (hdb : (x == ("__debug__" : Str)) = false := by decide)
    (he : starEach (e :: es) X.env = (false, eval e X.env) :: starEach es X.env := by rfl) (hpl : (backTo pos (starEach es X.env)).any (·.1) = false := by rfl) : QE X (.Call (.Name x p) (e :: es) [] pos) (aCB f as) := by
  obtain ⟨r, h1, h2⟩ := hc
  obtain ⟨t, p1, s1⟩ := ha
  exact ⟨_, pe_callB h1 hg hm hv p1 hn hdb he hpl, fun {B _ _ _ _} b0 s0 {_ _} k q => s1 b0 s0 (fun B1 b d H1 μ1 e1 b1 r1 q1 => h2 b1 r1 (fun B2 b d H2 μ2 e2 => k B2 _ _ H2 μ2 (e1.trans e2)) q1) q⟩
theorem qe_callTy {T : String} {f : FC} {x : Str} (hc : CallQ X (.type T) f) (hg : Gl X x) (hm : X.mg x = none) (hv : bootBuiltins x = some (.type T)) (ha : QA X (e :: es) as) (hn : x ≠ "__name__" := by decide) (hdb : (x == ("__debug__" : Str)) = false := by decide)
    (he : starEach (e :: es) X.env = (false, eval e X.env) :: starEach es X.env := by rfl) (hpl : (backTo pos (starEach es X.env)).any (·.1) = false := by rfl) : QE X (.Call (.Name x p) (e :: es) [] pos) (aCB f as) := by
  obtain ⟨r, h1, h2⟩ := hc
  obtain ⟨t, p1, s1⟩ := ha
  exact ⟨_, pe_callTy h1 hg hm hv p1 hn hdb he hpl, fun {B _ _ _ _} b0 s0 {_ _} k q => s1 b0 s0 (fun B1 b d H1 μ1 e1 b1 r1 q1 => h2 b1 r1 (fun B2 b d H2 μ2 e2 => k B2 _ _ H2 μ2 (e1.trans e2)) q1) q⟩
theorem qe_ix {f : F2} (hr : IxQ X f) (ha : QE X a aa) (hb : QE X b ab) (hs : PlainIx b) : QE X (.Subscript a b pos) (aOp f aa ab) := by
  obtain ⟨r, h1, h2⟩ := hr
  obtain ⟨t, p1, s1⟩ := ha
  obtain ⟨u, p2, s2⟩ := hb
  exact ⟨_, pe_ix h1 p1 p2 hs, sim_op h2 s1 s2⟩
def aPart (a : AE) : AO := fun ρ μ Q => a ρ μ fun x μ1 => match x with
  | .int i => Q (some i) μ1
  | _ => False
def aNoPart : AO := fun _ μ Q => Q none μ
theorem qo_none : QO X none aNoPart := ⟨_, po_none, fun {B _ _ _ _} b0 s0 {_ _} k q => k B _ _ _ (Ex.refl B) b0 q⟩
theorem qo_some (h : QE X e aa) : QO X (some e) (aPart aa) := by
  obtain ⟨t, p1, s1⟩ := h
  refine ⟨_, po_some p1, fun {B _ _ _ _} b0 s0 {_ _} k q => s1 b0 s0 (fun B1 b d H1 μ1 e1 b1 r1 q1 => ?_) q⟩
  cases r1 <;> first | exact q1.elim | skip
  exact ⟨_, rfl, k _ _ _ _ e1 b1 q1⟩
abbrev FS := D → Option Int → Option Int → Mu → DK → Prop
def SimSl (r : V → Option Int → Option Int → Hp → VK → Prop) (f : FS) : Prop := ∀ {B H : Hp} {μ : Mu} {x : V} {d : D} {lo hi : Option Int}, Base B H μ → Rep B x d → ∀ {Qa : DK} {Q : VK}, (∀ B' v d H' μ', Ex B B' → Base B' H' μ' → Rep B' v d → Qa d μ' → Q v H') → f d lo hi μ Qa → r x lo hi H Q
def SlQ (X : Cx) (f : FS) : Prop := ∃ r, SlR X r ∧ SimSl r f
def aSl (f : FS) (a : AE) (l h : AO) : AE := fun ρ μ Q => a ρ μ fun x μ1 => l ρ μ1 fun i μ2 => h ρ μ2 fun j μ3 => f x i j μ3 Q
theorem qe_slice {f : FS} {lo hi : Option Expr} {al ah : AO} {p2 : Pos} (hr : SlQ X f) (he : QE X e aa) (hl : QO X lo al) (hh : QO X hi ah) : QE X (.Subscript e (.Slice lo hi none p2) pos) (aSl f aa al ah) := by
  obtain ⟨r, h1, h2⟩ := hr
  obtain ⟨t, p1, s1⟩ := he
  obtain ⟨u, p2, s2⟩ := hl
  obtain ⟨w, p3, s3⟩ := hh
  exact ⟨_, pe_slice h1 p1 p2 p3, fun {B _ _ _ _} b0 s0 {_ _} k q => s1 b0 s0 (fun B1 b d H1 μ1 e1 b1 r1 q1 => s2 b1 (s0.up e1) (fun B2 l H2 μ2 e2 b2 q2 => s3 b2 (s0.up (e1.trans e2)) (fun B3 l H3 μ3 e3 b3 q3 => h2 b3 (r1.up (e2.trans e3)) (fun B4 b d H4 μ4 e4 => k B4 _ _ H4 μ4 (((e1.trans e2).trans e3).trans e4)) q3) q2) q1) q⟩
end
end DL

set_option maxHeartbeats 4000000
/-! Statements, loops, comprehensions, calls over values. -/
namespace DL
open PySem PySem.Spec PyProof.Rows L2 Evl Gd
section
variable {X : Cx}
/-- the one reading that the computing one stands for -/
def cE (ae : AE) : TE := fun σ H Q => ∃ (B : Hp) (ρ : Rho) (μ : Mu) (Qa : DK), Base B H μ ∧ Sl B σ ρ ∧ (∀ B' v d H' μ', Ex B B' → Base B' H' μ' → Rep B' v d → Qa d μ' → Q v H') ∧ ae ρ μ Qa
def cT (ae : AT) : TT := fun σ H Q => ∃ (B : Hp) (ρ : Rho) (μ : Mu) (Qa : Bool → Mu → Prop), Base B H μ ∧ Sl B σ ρ ∧ (∀ B' b H' μ', Ex B B' → Base B' H' μ' → Qa b μ' → Q b H') ∧ ae ρ μ Qa
def cG (S : List Nat) (ag : AG) : TG := fun v σ H Q => ∃ (B : Hp) (ρ : Rho) (μ : Mu) (d : D) (Qa : Rho → Mu → Prop), Base B H μ ∧ Sl B σ ρ ∧ Rep B v d ∧ (∀ B' H' ρ' μ' σ', Ex B B' → Base B' H' μ' → Sl B' σ' ρ' → Off S σ σ' → Qa ρ' μ' → Q σ' H') ∧ ag d ρ μ Qa
theorem simcE {ae : AE} : SimE (cE ae) ae := fun {_ _ _ _ _} b s {_ _} k q => ⟨_, _, _, _, b, s, k, q⟩
theorem simcT {ae : AT} : SimT (cT ae) ae := fun {_ _ _ _ _} b s {_ _} k q => ⟨_, _, _, _, b, s, k, q⟩
theorem simcG {S : List Nat} {ae : AG} : SimG (cG S ae) S ae := fun {_ _ _ _ _ _ _} b s r {_ _} k q => ⟨_, _, _, _, _, b, s, r, k, q⟩
theorem QE.can {e : Expr} {ae : AE} (h : QE X e ae) : PE X e (cE ae) := by
  obtain ⟨t, p, s⟩ := h
  exact ⟨fun pins s' σ H Q I ⟨B, ρ, μ, Qa, b, sl, k, q⟩ => p.run pins s' σ H Q I (s b sl k q)⟩
theorem QT.can {e : Expr} {ae : AT} (h : QT X e ae) : PT X e (cT ae) := by
  obtain ⟨t, p, s⟩ := h
  exact ⟨fun pins s' σ H Q I ⟨B, ρ, μ, Qa, b, sl, k, q⟩ => p.run pins s' σ H Q I (s b sl k q)⟩
theorem QTs.can {e : List Expr} {ae : AT} (h : QTs X e ae) : PTs X e (cT ae) := by
  obtain ⟨t, p, s⟩ := h
  exact ⟨fun pins s' σ H Q I ⟨B, ρ, μ, Qa, b, sl, k, q⟩ => p.run pins s' σ H Q I (s b sl k q)⟩
theorem QG.can {e : Expr} {S : List Nat} {ae : AG} (h : QG X e S ae) : PG X e (cG S ae) := by
  obtain ⟨t, p, s⟩ := h
  exact ⟨fun pins s' σ H v u Q I r ⟨B, ρ, μ, d, Qa, b, sl, rp, k, q⟩ => p.run pins s' σ H v u Q I r (s b sl rp k q)⟩
end

/-! ### targets -/
def agName (i : Nat) : AG := fun d ρ μ Q => Q (ρ.set i (some d)) μ
def agNil : AGs := fun ds ρ μ Q => match ds with
  | [] => Q ρ μ
  | _ => False
def agCons (g : AG) (u : AGs) : AGs := fun ds ρ μ Q => match ds with
  | d :: r => g d ρ μ fun ρ' μ' => u r ρ' μ' Q
  | _ => False
def agTup (n : Nat) (g : AGs) : AG := fun d ρ μ Q => match d.items with
  | some xs => xs.length = n ∧ g xs ρ μ Q
  | none => False
section
variable {X : Cx} {e : Expr} {es : List Expr} {pos : Pos} {g : AG} {gs : AGs} {S S2 : List Nat}
theorem qg_name {i : Nat} {x : Str} (hN : X.N.Nodup) (hi : X.N[i]? = some x) (hx : Loc X.env.scope x) (hf : X.fn x = true ∨ X.env.scope.names.lookup x = some .local := by first | exact .inl rfl | exact .inr rfl | assumption) : QG X (.Name x pos) [i] (agName i) :=
  ⟨_, pg_name hN hi hx hf, fun {B _ _ _ _ _ _} b s r {_ _} k q => k B _ _ _ _ (Ex.refl B) b (s.set (.some r) i) ⟨List.length_set, fun j hj => List.getElem?_set_ne (fun z => hj (by rw [z]; exact List.mem_cons_self))⟩ q⟩
theorem qgs_nil : QGs X [] [] agNil := ⟨_, pgs_nil, fun {B _ _ _ _ _ _} b s r {_ _} k q => by
  cases r with
  | nil => exact ⟨rfl, k B _ _ _ _ (Ex.refl B) b s (Off.refl _ _) q⟩
  | cons _ _ => exact q.elim⟩
theorem qgs_cons (h : QG X e S g) (u : QGs X es S2 gs) (hs : (assignEach (e :: es) X.env).map (·.2) = assign e X.env :: (assignEach es X.env).map (·.2) := by rfl) : QGs X (e :: es) (S ++ S2) (agCons g gs) := by
  obtain ⟨t, p1, s1⟩ := h
  obtain ⟨t2, p2, s2⟩ := u
  refine ⟨_, pgs_cons p1 p2 hs, fun {B _ _ _ _ _ _} b s r {_ _} k q => ?_⟩
  cases r with
  | nil => exact q.elim
  | cons h r => exact ⟨_, _, rfl, s1 b s h (fun B' H' ρ' μ' σ' e1 b1 sl1 o1 q1 => s2 b1 sl1 (r.up e1) (fun B2 H2 ρ2 μ2 σ2 e2 b2 sl2 o2 => k B2 H2 ρ2 μ2 σ2 (e1.trans e2) b2 sl2 (o1.app o2)) q1) q⟩
theorem qg_tup {k n : Nat} (hc : X.calm = true) (h : QGs X es S gs) (hn : (assignEach es X.env).length = n := by rfl) (hst : (assignEach es X.env).findIdx? (·.1) = none := by rfl) : QG X (.Tuple es k pos) S (agTup n gs) := by
  obtain ⟨t, p1, s1⟩ := h
  refine ⟨_, pg_tup hc p1 hn hst, fun {B H _ _ _ _ d} b s r {_ _} k q => ?_⟩
  unfold agTup at q
  split at q
  · rename_i xs hd
    obtain ⟨a, vs, rfl, h1, h2⟩ := rep_items (K := X.K) r hd
    exact ⟨a, vs, rfl, ex_t b.ex h1, by rw [h2.len]; exact q.1, s1 b s h2 k q.2⟩
  · exact q.elim
end

/-! ### statements -/
def aNext : AS := fun A ρ μ => A.nx ρ μ
def aSeq (t u : AS) : AS := fun A ρ μ => t { A with nx := u A } ρ μ
def aIf (c : AT) (t u : AS) : AS := fun A ρ μ => c ρ μ fun b μ1 => if b = true then t A ρ μ1 else u A ρ μ1
def aRet (a : AE) : AS := fun A ρ μ => a ρ μ A.rt
def aRetN : AS := fun A ρ μ => A.rt .non μ
def aDrop (a : AE) : AS := fun A ρ μ => a ρ μ fun _ μ1 => A.nx ρ μ1
def aAsg (a : AE) (g : AG) : AS := fun A ρ μ => a ρ μ fun d μ1 => g d ρ μ1 A.nx
def aCont : AS := fun A ρ μ => A.ct ρ μ
def aBreak : AS := fun A ρ μ => A.bk ρ μ
def aNever : AS := fun _ _ _ => False
def aPar (i j : Nat) (a : AA) : AS := fun A ρ μ => a ρ μ fun ds μ1 => match ds with
  | [x, y] => A.nx ((ρ.set i (some x)).set j (some y)) μ1
  | _ => False
section
variable {X : Cx} {st : Stmt} {rest sa sb : List Stmt} {e c : Expr} {pos : Pos} {s u : AS} {t : AT} {a : AE}
theorem ends_seq {B : Hp} {A : EndsA} {E : Ends} {t : TS} (h : EndsS B A E) (hu : SimS t u) : EndsS B { A with nx := u A } { E with nx := t E } :=
  ⟨fun B' H' ρ' μ' σ' e1 b1 sl1 q => hu b1 sl1 (h.up e1) q, h.rt, h.bk, h.ct⟩
theorem qss_nil : QSs X [] aNext := ⟨_, pss_nil, fun {B _ _ _ _} b sl {_ _} h q => h.nx B _ _ _ _ (Ex.refl B) b sl q⟩
theorem qss_one (h : QS X st s) : QSs X [st] s := by
  obtain ⟨t, p1, s1⟩ := h
  exact ⟨_, pss_one p1, s1⟩
theorem qss_cons (h : QS X st s) (g : QSs X rest u) : QSs X (st :: rest) (aSeq s u) := by
  obtain ⟨t, p1, s1⟩ := h
  obtain ⟨t2, p2, s2⟩ := g
  exact ⟨_, pss_cons p1 p2, fun {B _ _ _ _} b sl {_ _} h q => s1 b sl (ends_seq h s2) q⟩
theorem qs_if (h : QT X c t) (ha : QSs X sa s) (hb : QSs X sb u) : QS X (.If c sa sb pos) (aIf t s u) := by
  obtain ⟨t, p1, s1⟩ := h
  obtain ⟨t2, p2, s2⟩ := ha
  obtain ⟨t3, p3, s3⟩ := hb
  refine ⟨_, ps_if p1 p2 p3, fun {B _ _ _ _} b sl {_ _} h q => s1 b sl (fun B' k H' μ' e1 b1 q1 => ?_) q⟩
  cases k with
  | true => exact s2 b1 (sl.up e1) (h.up e1) q1
  | false => exact s3 b1 (sl.up e1) (h.up e1) q1
theorem qs_ret (h : QE X e a) : QS X (.Return (some e) pos) (aRet a) := by
  obtain ⟨t, p1, s1⟩ := h
  exact ⟨_, ps_ret p1, fun {B _ _ _ _} b sl {_ _} h q => s1 b sl (fun B' v d H' μ' e1 b1 r1 q1 => h.rt B' v d H' μ' e1 b1 r1 q1) q⟩
theorem qs_retN : QS X (.Return none pos) aRetN := ⟨_, ps_retN, fun {B _ _ _ _} b sl {_ _} h q => h.rt B _ _ _ _ (Ex.refl B) b .non q⟩
theorem qs_expr (h : QE X e a) (hs : swapsWith e none pos.line X.env = pure false := by rfl) : QS X (.Expr e pos) (aDrop a) := by
  obtain ⟨t, p1, s1⟩ := h
  exact ⟨_, ps_expr p1 hs, fun {B _ _ _ _} b sl {_ _} h q => s1 b sl (fun B' v d H' μ' e1 b1 r1 q1 => h.nx B' H' _ _ _ e1 b1 (sl.up e1) q1) q⟩
theorem sim_asg {te : TE} {tg : TG} {S : List Nat} {g : AG} (s1 : SimE te a) (s2 : SimG tg S g) : SimS (tAsg te tg) (aAsg a g) := fun {B _ _ _ _} b sl {_ _} h q =>
  s1 b sl (fun B' v d H' μ' e1 b1 r1 q1 => s2 b1 (sl.up e1) r1 (fun B2 H2 ρ2 μ2 σ2 e2 b2 sl2 o2 => h.nx B2 H2 ρ2 μ2 σ2 (e1.trans e2) b2 sl2) q1) q
theorem qs_set {i : Nat} {x : Str} {pos' : Pos} (hN : X.N.Nodup) (hi : X.N[i]? = some x) (hx : Loc X.env.scope x) (he : QE X e a) (hs : swapsWith e (some (.Name x pos')) pos.line X.env = pure false := by rfl) (hf : X.fn x = true ∨ X.env.scope.names.lookup x = some .local := by first | exact .inl rfl | exact .inr rfl | assumption) :
    QS X (.Assign [.Name x pos'] e pos) (aAsg a (agName i)) := by
  obtain ⟨t, p1, s1⟩ := he
  exact ⟨_, ps_set hN hi hx p1 hs hf, sim_asg (S := [i]) s1 fun {B _ _ _ _ _ _} b s r {_ _} k q => k B _ _ _ _ (Ex.refl B) b (s.set (.some r) i) ⟨List.length_set, fun j hj => List.getElem?_set_ne (fun z => hj (by rw [z]; exact List.mem_cons_self))⟩ q⟩
theorem qs_asg {tg : Expr} {S : List Nat} {g : AG} (he : QE X e a) (hg : QG X tg S g) (hs : swapsWithSole [tg] e pos.line X.env = pure false := by rfl) (hw : swappedStores [tg] e X.env = pure none := by rfl)
    (h1 : (assignEach [tg] X.env).map (·.2) = [assign tg X.env] := by rfl) : QS X (.Assign [tg] e pos) (aAsg a g) := by
  obtain ⟨t, p1, s1⟩ := he
  obtain ⟨t2, p2, s2⟩ := hg
  exact ⟨_, ps_asg p1 p2 hs hw h1, sim_asg s1 s2⟩
theorem qs_par {i j : Nat} {x y : Str} {ea eb : Expr} {ta : AA} {px py pt : Pos} {kt k2 pt2} (hc : X.calm = true) (hN : X.N.Nodup) (hi : X.N[i]? = some x) (hj : X.N[j]? = some y) (hij : i ≠ j)
    (hx : X.env.scope.names.lookup x = some .local) (hy : X.env.scope.names.lookup y = some .local) (ha : QA X [ea, eb] ta)
    (hw : swappedStores [.Tuple [.Name x px, .Name y py] kt pt] (.Tuple [ea, eb] k2 pt2) X.env = pure (some [x, y]))
    (hs : swapsWithSole [.Tuple [.Name x px, .Name y py] kt pt] (.Tuple [ea, eb] k2 pt2) pos.line X.env = pure false := by rfl) :
    QS X (.Assign [.Tuple [.Name x px, .Name y py] kt pt] (.Tuple [ea, eb] k2 pt2) pos) (aPar i j ta) := by
  obtain ⟨t, p1, s1⟩ := ha
  refine ⟨_, ps_par hc hN hi hj hij hx hy p1 hw hs, fun {B _ _ _ _} b sl {_ _} h q => s1 b sl (fun B' v d H' μ' e1 b1 r1 q1 => ?_) q⟩
  unfold aPar at q1
  split at q1
  · rename_i x y
    cases r1 with
    | cons r1 r2 =>
      cases r2 with
      | cons r2 r3 =>
        cases r3
        exact ⟨_, _, rfl, h.nx B' _ _ _ _ e1 b1 (((sl.up e1).set (.some r1) i).set (.some r2) j) q1⟩
  · exact q1.elim
theorem qs_continue : QS X (.Continue pos) aCont := ⟨_, ps_continue, fun {B _ _ _ _} b sl {_ _} h q => h.ct B _ _ _ _ (Ex.refl B) b sl q⟩
theorem qs_break : QS X (.Break pos) aBreak := ⟨_, ps_break, fun {B _ _ _ _} b sl {_ _} h q => h.bk B _ _ _ _ (Ex.refl B) b sl q⟩
theorem qs_pass : QS X (.Pass pos) aNext := ⟨_, ps_pass, fun {B _ _ _ _} b sl {_ _} h q => h.nx B _ _ _ _ (Ex.refl B) b sl q⟩
theorem qss_never {sts : List Stmt} : QSs X sts aNever := ⟨tNever, ⟨fun _ _ _ _ _ _ h => h.elim⟩, fun {_ _ _ _ _} _ _ {_ _} _ q => q.elim⟩
end

/-! ### loops -/
def aFor (w : AI) (g : AG) (s : AS) : AS := fun A ρ μ => w ρ μ fun xs stays μ1 => ∃ Inv : Nat → Rho → Mu → Prop, Inv 0 ρ μ1 ∧ (∀ i ρ' μ', i ≤ xs.length → Inv i ρ' μ' → stays μ') ∧
  (∀ i x ρ' μ', xs[i]? = some x → Inv i ρ' μ' → g x ρ' μ' fun ρ2 μ2 => s { A with nx := Inv (i + 1), ct := Inv (i + 1), bk := A.nx } ρ2 μ2) ∧ (∀ ρ' μ', Inv xs.length ρ' μ' → A.nx ρ' μ')
def aWhile (t : AT) (s : AS) : AS := fun A ρ μ => ∃ W : Nat → Rho → Mu → Prop, (∃ m, W m ρ μ) ∧ ∀ m ρ μ, W m ρ μ → t ρ μ fun b μ1 =>
  if b = true then s { A with nx := fun ρ' μ' => ∃ m', m' < m ∧ W m' ρ' μ', ct := fun ρ' μ' => ∃ m', m' < m ∧ W m' ρ' μ', bk := A.nx } ρ μ1 else A.nx ρ μ1
def aLc (w : AI) (g : AG) (t : AT) (a : AE) (ws : List Nat) : AE := fun ρ μ Q => w ρ μ fun xs stays μ1 => ∀ p, μ1 p = none → ∃ Inv : Nat → List D → Mu → Prop, Inv 0 [] (updM μ1 p (.lst [])) ∧ (∀ i acc μ', i ≤ xs.length → Inv i acc μ' → stays μ' ∧ μ' p = some (.lst acc) ∧ acc.length ≤ 100000) ∧
  (∀ i x acc μ', xs[i]? = some x → Inv i acc μ' → acc.length < 100000 ∧ g x (wipeD ρ ws) μ' fun ρ2 μ2 => t ρ2 μ2 fun b μ3 =>
    if b = true then a ρ2 μ3 fun d μ4 => μ4 p = some (.lst acc) ∧ Inv (i + 1) (acc ++ [d]) (updM μ4 p (.lst (acc ++ [d]))) else Inv (i + 1) acc μ3) ∧ (∀ acc μ', Inv xs.length acc μ' → Q (.ptr p) μ')
section
variable {X : Cx} {iter tg elt c : Expr} {body : List Stmt} {pos : Pos} {w : AI} {g : AG} {s : AS} {t : AT} {a : AE} {S : List Nat}
theorem qs_for (hp : PassesOwn (model X.prog X.w) X.A X.env X.xe) (hc : X.calm = true) (hi : QI X tg iter w) (hg : QG X tg S g) (hb : QSs X body s)
    (hs : ∀ x, foldedSetIterable iter X.env x = pure x := by intro _; rfl) : QS X (.For tg iter body [] pos) (aFor w g s) := by
  obtain ⟨t1, p1, s1⟩ := hi
  obtain ⟨t2, p2, s2⟩ := hg
  obtain ⟨t3, p3, s3⟩ := hb
  refine ⟨_, ps_for hp hc p1 p2 p3 hs, fun {B _ _ _ _} b sl {A E} h q => s1 b sl (fun B1 H1 μ1 xs st J G Y e1 b1 wk hG hY q1 => ?_) q⟩
  obtain ⟨Inv, i0, ist, ith, iend⟩ := q1
  refine for_it wk (fun i σ' H' => ∃ B' ρ' μ', Ex B1 B' ∧ Base B' H' μ' ∧ Sl B' σ' ρ' ∧ Inv i ρ' μ') ⟨B1, _, _, Ex.refl B1, b1, sl.up e1, i0⟩ (fun i σ' H' hi ⟨B', ρ', μ', e2, b2, sl2, q2⟩ => hG B' H' μ' e2 b2 (ist i ρ' μ' hi q2)) (fun i x σ' H' H2 hi ⟨B', ρ', μ', e2, b2, sl2, q2⟩ y => ?_) (fun σ' H' ⟨B', ρ', μ', e2, b2, sl2, q2⟩ => h.nx B' H' ρ' μ' σ' (e1.trans e2) b2 sl2 (iend ρ' μ' q2))
  have hx := List.getElem?_eq_getElem hi
  obtain ⟨B3, e3, b3, r3⟩ := hY B' H' μ' i x _ H2 e2 b2 (ist i ρ' μ' (Nat.le_of_lt hi) q2) hx y
  refine s2 b3 (sl2.up e3) r3 (fun B4 H4 ρ4 μ4 σ4 e4 b4 sl4 o4 q4 => ?_) (ith i _ ρ' μ' hx q2)
  have e14 : Ex B1 B4 := (e2.trans e3).trans e4
  refine s3 b4 sl4 ⟨?_, ?_, ?_, ?_⟩ q4
  · exact fun B5 H5 ρ5 μ5 σ5 e5 b5 sl5 q5 => ⟨B5, ρ5, μ5, e14.trans e5, b5, sl5, q5⟩
  · exact (h.up (e1.trans e14)).rt
  · exact fun B5 H5 ρ5 μ5 σ5 e5 b5 sl5 q5 => (h.up (e1.trans e14)).nx B5 H5 ρ5 μ5 σ5 e5 b5 sl5 q5
  · exact fun B5 H5 ρ5 μ5 σ5 e5 b5 sl5 q5 => ⟨B5, ρ5, μ5, e14.trans e5, b5, sl5, q5⟩
theorem qs_while (hp : PassesOwn (model X.prog X.w) X.A X.env X.xe) (hc : QT X c t) (hb : QSs X body s) : QS X (.While c body [] pos) (aWhile t s) := by
  obtain ⟨t1, p1, s1⟩ := hc
  obtain ⟨t2, p2, s2⟩ := hb
  refine ⟨_, ps_while hp p1 p2, fun {B _ _ _ _} b sl {A E} h q => ?_⟩
  obtain ⟨W, ⟨m, w0⟩, tn⟩ := q
  refine ⟨fun m σ' H' => ∃ B' ρ' μ', Ex B B' ∧ Base B' H' μ' ∧ Sl B' σ' ρ' ∧ W m ρ' μ', ⟨m, B, _, _, Ex.refl B, b, sl, w0⟩, fun m σ' H' ⟨B', ρ', μ', e2, b2, sl2, q2⟩ => ?_⟩
  refine s1 b2 sl2 (fun B3 k H3 μ3 e3 b3 q3 => ?_) (tn m ρ' μ' q2)
  have e13 := e2.trans e3
  cases k with
  | true =>
    refine ⟨fun σ' H' => ∃ m', m' < m ∧ ∃ B' ρ' μ', Ex B B' ∧ Base B' H' μ' ∧ Sl B' σ' ρ' ∧ W m' ρ' μ', fun σ' H' h => h, s2 b3 (sl2.up e3) (A := { A with nx := fun ρ' μ' => ∃ m', m' < m ∧ W m' ρ' μ', ct := fun ρ' μ' => ∃ m', m' < m ∧ W m' ρ' μ', bk := A.nx }) ⟨?_, (h.up e13).rt, (h.up e13).nx, ?_⟩ q3⟩
    · exact fun B5 H5 ρ5 μ5 σ5 e5 b5 sl5 ⟨m', hm, q5⟩ => ⟨m', hm, B5, ρ5, μ5, e13.trans e5, b5, sl5, q5⟩
    · exact fun B5 H5 ρ5 μ5 σ5 e5 b5 sl5 ⟨m', hm, q5⟩ => ⟨m', hm, B5, ρ5, μ5, e13.trans e5, b5, sl5, q5⟩
  | false => exact (h.up e13).nx B3 H3 _ _ _ (Ex.refl B3) b3 (sl2.up e3) q3
theorem sim_lc {t1 : TI} {t2 : TG} {t3 : TT} {t4 : TE} {ws : List Nat} (s1 : SimI t1 w) (s2 : SimG t2 S g) (hS : ∀ i ∈ S, i ∈ ws) (s3 : SimT t3 t) (s4 : SimE t4 a) : SimE (tLc t1 t2 t3 t4 ws) (aLc w g t a ws) := fun {B _ ρ _ σ} b sl {Qa Q} k q => by
  refine s1 b sl (fun B1 H1 μ1 xs st J G Y e1 b1 wk hG hY q1 => ?_) q
  intro p hp
  obtain ⟨Inv, i0, ist, ith, iend⟩ := q1 p (b1.fresh hp)
  refine lc_it wk (fun i H' => ∃ B' acc μ', Ex B1 B' ∧ Base B' H' μ' ∧ Inv i acc μ') ⟨B1, [], _, Ex.refl B1, b1.new (c := .lst []) hp ⟨[], upd_same, .nil⟩, i0⟩ (fun i H' hi ⟨B', acc, μ', e2, b2, q2⟩ => hG B' H' μ' e2 b2 (ist i acc μ' hi q2).1) (fun i x H' H2 hi ⟨B', acc, μ', e2, b2, q2⟩ y => ?_)
    (fun H' ⟨B', acc, μ', e2, b2, q2⟩ => k B' _ _ H' μ' (e1.trans e2) b2 (.ptr p) (iend acc μ' q2))
  have hx := List.getElem?_eq_getElem hi
  obtain ⟨B3, e3, b3, r3⟩ := hY B' H' μ' i x _ H2 e2 b2 (ist i acc μ' (Nat.le_of_lt hi) q2).1 hx y
  obtain ⟨hl, th⟩ := ith i _ acc μ' hx q2
  have e13 := e2.trans e3
  refine s2 b3 ((sl.wipe ws).up (e1.trans e13)) r3 (fun B4 H4 ρ4 μ4 σ4 e4 b4 sl4 o4 q4 => ⟨o4.wipe hS, ?_⟩) th
  · refine s3 b4 sl4 (fun B5 kk H5 μ5 e5 b5 q5 => ?_) q4
    have e15 := (e13.trans e4).trans e5
    cases kk with
    | true =>
      refine s4 b5 (sl4.up e5) (fun B6 v d H6 μ6 e6 b6 r6 q6 => ?_) q5
      obtain ⟨vs, h1, h2⟩ := (b6.cell _ _ q6.1).2
      exact ⟨vs, h1, sz_lt (by rw [h2.len]; exact hl), B6, _, _, e15.trans e6, b6.mut (c := .lst (acc ++ [d])) q6.1 ⟨_, upd_same, h2.app (.cons r6 .nil)⟩, q6.2⟩
    | false => exact ⟨B5, _, _, e15, b5, q5⟩
end
end DL

set_option maxHeartbeats 4000000
/-! for i, x in enumerate(t), t a tuple. -/
namespace Gd
open PySem PySem.Spec PyProof.Rows L2
open AutoSeq1 (wpAny_loadPart')
theorem meets_enumerate_newB1 {v : Value} {o : Obj} {H : Heap → Prop} (B : Begins v o H) :
    Meets (Builtin.«enumerate.__new__» ⟨[.type "enumerate", v], []⟩) (fun _ R s => H s.heap ∧
      R (.ok (.ret (.ref (s.heap.push o).objs.size))) { s with heap := (s.heap.push o).push { cls := .type "enumerate", data := .fields #[.none, .bool false, .ref s.heap.objs.size, rawInt 0, .none, .none] } }) :=
  .of_wp fun prog w A R s h => by
    obtain ⟨hp, g, d, tk, os⟩ := s; obtain ⟨h1, h⟩ := h
    have hsub := sub_enumerate
    wp_walk
    refine wpAny_stack_any fun st => wpAny_pure ?_
    split
    · rename_i c _ _ _ _ _
      cases (c == Value.type "enumerate")
      · wp_walk using B.iter _ _ _ _ _ _ h1
        exact ⟨_, rfl, h⟩
      · wp_walk using B.iter _ _ _ _ _ _ h1
        exact ⟨_, rfl, h⟩
    · wp_walk using B.iter _ _ _ _ _ _ h1
      exact ⟨_, rfl, h⟩
section
variable {prog : Program} {w : World} {A : Around} {E : Value → Shared → Prop} {s : Shared}
theorem call_enumerate_tuple {l : Addr} {items : Array Value} {Q : Value → Shared → Prop} (hL : s.heap.IsTuple l items)
    (h : ∀ h', IsEnum h' (s.heap.objs.size + 1) s.heap.objs.size 0 .none → h'.IsTupleIter s.heap.objs.size l 0 → h'.objs.size = s.heap.objs.size + 2 →
      (∀ b o, s.heap.get? b = some o → h'.get? b = some o) → Q (.ref (s.heap.objs.size + 1)) { s with heap := h' }) :
    wpAny (model prog w) A (call (.type "enumerate") [.ref l]) Q E s := by
  have B := begins_tuple l items
  refine callType_new F.called_enumerate (by decide) (F.typeCall_enumerate_1 _) (F.newCall_enumerate_1 _) (fun obj => F.args_object_init_2 obj _) F.entry_enumerate_new
    (meets_enumerate_newB1 B) ⟨hL, ?_⟩
  have hz : (s.heap.push { cls := .type "tuple_iterator", data := .fields #[.ref l, .int 0 0] }).objs.size = s.heap.objs.size + 1 := Heap.size_push ..
  show _ ∧ _
  rw [hz]
  have he : IsEnum ((s.heap.push { cls := .type "tuple_iterator", data := .fields #[.ref l, .int 0 0] }).push
      { cls := .type "enumerate", data := .fields #[.none, .bool false, .ref s.heap.objs.size, rawInt 0, .none, .none] }) (s.heap.objs.size + 1) s.heap.objs.size 0 .none := by
    have := Heap.get?_push_size (s.heap.push { cls := .type "tuple_iterator", data := .fields #[.ref l, .int 0 0] })
      (o := { cls := .type "enumerate", data := .fields #[.none, .bool false, .ref s.heap.objs.size, rawInt 0, .none, .none] }) rfl
    rw [hz] at this; exact this
  refine ⟨⟨_, he, rfl⟩, h _ he ⟨_, Heap.get?_push_of_some _ (Heap.get?_push_size _ rfl), rfl, rfl⟩ (by rw [Heap.size_push, hz]) fun b o x => Heap.get?_push_of_some _ (Heap.get?_push_of_some _ x)⟩
end
/-- the tuple at a, each item in a new pair with its place -/
def IteT (K : PySem.W.Frag) (a : Addr) : It :=
  ⟨fun i H => ∃ (xs : List V) (x : V), SqT K H a xs ∧ xs[i]? = some x, fun i H v H' => ∃ T x, v = .ref T ∧ H T = none ∧ H' = upd H T (.tup [.int (i : Nat), x]) ∧ ∀ xs, SqT K H a xs → xs[i]? = some x, fun i H => ∃ xs : List V, SqT K H a xs ∧ xs.length ≤ i⟩
theorem turn_enumT {P : Program} {w : World} {K : PySem.W.Frag} {elts : List Expr} {kk : Nat} {tpos : Pos} (a e it : Addr) (hai : a ≠ it) (hea : e ≠ a) :
    Turn P w K (.Tuple elts kk tpos) (IteT K a) [e, it] e (fun i h => (∃ old, IsEnum h e it ((i : Nat) : Int) old) ∧ h.IsTupleIter it a i ∧ e ≠ it) where
  mem := by simp
  obj := fun i h st b hb => by
    obtain ⟨⟨old, he⟩, ⟨o, ho, hc, hd⟩, _⟩ := st
    have e' : b = e ∨ b = it := by simpa using hb
    rcases e' with z | z
    · rw [z]; exact ⟨_, he, fun v q => nomatch q⟩
    · rw [z]; exact ⟨o, ho, fun v q => by rw [hd] at q; cases q⟩
  keep := fun i h h' st k => let ⟨⟨old, he⟩, hi, hne⟩ := st; ⟨⟨old, k e (by simp) _ he⟩, hi.at fun o q => k it (by simp) o q, hne⟩
  item := by
    intro X hP hw hK hc i pins s σ H E I hf st hg
    subst hP hw hK
    obtain ⟨⟨old, he⟩, hit, hne⟩ := st
    obtain ⟨xs, x, hq, hx⟩ := hg
    obtain ⟨its, rv, p, hz⟩ := I.tuple hq
    obtain ⟨u, hu, ru⟩ := rv.get hx
    have hel : e < s.heap.objs.size := Heap.lt_size he
    have hil : it < s.heap.objs.size := by obtain ⟨_, q, _⟩ := hit; exact Heap.lt_size q
    refine wpAny_pyNext_enum_itemD (fp := [it, a]) (Draws.tuple (by first | exact I.ok.hd hc | exact (show X.A.in1.handled = none from I.ok.hd hc)) it a hai its.toArray) he ⟨hit, show s.heap.IsTuple a its.toArray from p⟩ (by
      have := (List.getElem?_eq_some_iff.mp hu).1
      simpa using this) hne (by simp [hne, hea]) fun y h' tk hy ho st' hT hsz hk => ?_
    have hy' : y = u := by
      have : its.toArray[i]? = some u := by simpa using hu
      rw [this] at hy
      exact (Option.some.inj hy).symm
    subst hy'
    obtain ⟨hit', hpt'⟩ := st'
    refine ⟨_, rfl, wpAny_letOwnedTupleGo_enum (s := { s with heap := h', toks := tk + 1 }) ho fun h'' he' sb => ?_⟩
    have hT2 : h''.get? s.heap.objs.size = some { cls := .type "tuple", data := .seq #[.int i tk, y] } := (sb.2 _ (Nat.ne_of_gt hel)).trans hT
    have new : ObjOk X.prog X.w (upd H s.heap.objs.size (.tup [.int (i : Nat), x])) h'' s.heap.objs.size (.tup [.int (i : Nat), x]) :=
      ⟨by show 2 ≤ sizeLine; decide, [.int i tk, y], .cons ⟨_, rfl⟩ (.cons ru .nil), ⟨_, hT2, rfl, _, rfl⟩⟩
    have I1 : Inv X pins σ (upd H s.heap.objs.size (.tup [.int (i : Nat), x])) { s with heap := h'', toks := tk + 1 } :=
      I.turnedNew (ch := [e, it]) (fun b ob hb q => (sb.2 b (fun z => hb (by simp [z]))).trans (hk b ob (fun z => hb (by simp [z])) (fun z => hb (by simp [z])) q)) hf (Nat.le_refl _) new
    refine ⟨.ref s.heap.objs.size, _, I1, rfl, ⟨_, x, rfl, I.hok.fresh (Nat.le_refl _), rfl, fun ys hy => by rw [I.tuple_inj hy hq]; exact hx⟩, ⟨⟨y, ?_⟩, hit'.at fun o q => (sb.2 it (Ne.symm hne)).trans q, hne⟩, fun b hb => ?_⟩
    · have e1 : ((i + 1 : Nat) : Int) = (i : Int) + 1 := by omega
      rw [e1]; exact he'
    · have hb' : b < s.heap.objs.size := by
        have e' : b = e ∨ b = it := by simpa using hb
        rcases e' with z | z
        · rw [z]; exact hel
        · rw [z]; exact hil
      rw [upd_ne (Nat.ne_of_lt hb')]
      exact (hf b hb).1
  done := by
    intro X hP hw hK hc i pins s σ H E I hf st hg
    subst hP hw hK
    obtain ⟨⟨old, he⟩, hit, hne⟩ := st
    obtain ⟨xs, hq, hx⟩ := hg
    obtain ⟨its, rv, p, hz⟩ := I.tuple hq
    obtain ⟨f0, f1, f2, f3, f4, f5⟩ := hf it (by simp)
    have hl := rv.length
    have hp : s.heap.IsTuple a its.toArray := p
    refine wpAny_pyNext_enum_endD (fp := [it, a]) (n := 0) (P := fun _ _ => True) (St := fun _ h => h.IsTupleIter it a i ∧ h.IsTuple a its.toArray) ⟨fun j h st => by
        obtain ⟨⟨o, q, _⟩, _⟩ := st
        exact ⟨o, q⟩, fun j h h' st hk => ⟨st.1.at fun o e => hk it (by simp) o e, st.2.at fun o e => hk a (by simp) o e⟩, fun j s Q E hi st hQ => absurd hi (Nat.not_lt_zero _), fun s Q E st hE =>
        wpAny_nextOf_tuple_end (by first | exact I.ok.hd hc | exact (show X.A.in1.handled = none from I.ok.hd hc)) st.1 st.2 (by simp; omega) hE⟩ he ⟨hit, hp⟩ fun h' eb => ⟨rfl, I.turned (t' := s.toks) (fun b o hb q => eb b o hb q) f0 f1 f3 f4 f5⟩
  self := fun A i s Q E st h => let ⟨⟨_, he⟩, _⟩ := st; wpAny_pyIter_enum he h
def iEnumT (K : PySem.W.Frag) (ta : TA) : TI := fun σ H R => ta σ H fun vs H1 => ∃ a xs, vs = [.ref a] ∧ SqT K H1 a xs ∧ R (IteT K a) H1
theorem pi_enumT {X : Cx} {e : Expr} {ta : TA} {p pos tpos : Pos} {elts : List Expr} {kk : Nat} (hg : Gl X "enumerate") (hm : X.mg "enumerate" = none) (ha : PA X [e] ta) (hs : starEach [e] X.env = [(false, eval e X.env)] := by rfl) :
    PI X (.Tuple elts kk tpos) (.Call (.Name "enumerate" p) [e] [] pos) (iEnumT X.K ta) := by
  refine ⟨fun pins s σ H R I h => ?_⟩
  refine Call_ (ld_blt I hg hm boot_enumerate (PyProof.Rows.callWith_type1 (thn (ha.run pos pins s σ H _ I h) fun us s1 ⟨vs, H1, I1, r1, q1⟩ => ?_) hs rfl))
  obtain ⟨a, xs, ex, hq, q⟩ := q1
  subst ex
  cases r1 with
  | cons r rr =>
    cases rr
    cases r
    obtain ⟨its, rv, p', hz⟩ := I1.tuple hq
    have hla : a < s1.heap.objs.size := by obtain ⟨_, q, _⟩ := (show s1.heap.IsTuple a its.toArray from p'); exact Heap.lt_size q
    refine call_enumerate_tuple (show s1.heap.IsTuple a its.toArray from p') fun h' he hit hsz hk => wpAny_pyIter_enum he ?_
    have I2 : Inv X pins σ H1 { s1 with heap := h' } := I1.kept (t' := s1.toks) hk
    refine ⟨s1.heap.objs.size + 1, [s1.heap.objs.size + 1, s1.heap.objs.size], _, _, H1, rfl, I2, turn_enumT a (s1.heap.objs.size + 1) s1.heap.objs.size (Nat.ne_of_lt hla) (fun z => Nat.lt_irrefl a (Nat.lt_of_lt_of_le hla (by rw [← z]; exact Nat.le_succ _))), ⟨⟨.none, he⟩, hit, Nat.succ_ne_self _⟩, fun b hb => ?_, q⟩
    have e' : b = s1.heap.objs.size + 1 ∨ b = s1.heap.objs.size := by simpa using hb
    have hle : s1.heap.objs.size ≤ b := by
      rcases e' with z | z
      · rw [z]; exact Nat.le_add_right _ _
      · rw [z]; exact Nat.le_refl _
    exact I1.fpOk hle (I1.hok.fresh hle)
theorem walk_enumT {K : PySem.W.Frag} {a : Addr} {xs : List V} : Walk (IteT K a) xs.length (fun H => SqT K H a xs) (YPair (fun i => some (.int (i : Nat))) (fun i => xs[i]?)) := by
  refine ⟨fun i _ hi q => ⟨xs, xs[i], q, by simp [hi]⟩, fun _ q => ⟨xs, q, Nat.le_refl _⟩, fun i H v H' _ q y => ?_⟩
  obtain ⟨T, x, h1, h2, h3, h4⟩ := y
  exact ⟨T, .int (i : Nat), x, h1, h2, h3, rfl, h4 xs q⟩
end Gd

set_option maxHeartbeats 4000000
namespace DL
open PySem PySem.Spec PyProof.Rows L2 Evl Gd
/-! ### comprehensions -/
section
variable {X : Cx}
theorem qe_lc {elt tg iter : Expr} {ifs : List Expr} {scope : Scope} {own : List (Str × Nat)} {pos : Pos} {w : AI} {g : AG} {S : List Nat} {t : AT} {a : AE} (hc : X.calm = true) (hN : X.N.Nodup) (hi : QI X tg iter w) (ok : BlkOk X.N X.env.scope scope own)
    (hg : ∀ (s : Shared) (H : Hp) (C : Addr) (cl : List (Str × Addr)) (fp : List Addr), QG (X.blk s H scope (compEnvC scope cl C X.env) fp) tg S g) (ht : ∀ (s : Shared) (H : Hp) (C : Addr) (cl : List (Str × Addr)) (fp : List Addr), QTs (X.blk s H scope (compEnvC scope cl C X.env) fp) ifs t)
    (he : ∀ (s : Shared) (H : Hp) (C : Addr) (cl : List (Str × Addr)) (fp : List Addr), QE (X.blk s H scope (compEnvC scope cl C X.env) fp) elt a) (hS : ∀ i ∈ S, i ∈ own.map (·.2) := by decide) (hs : ∀ x, foldedSetIterable iter X.env x = pure x := by intro _; rfl) :
    QE X (.ListComp elt [⟨tg, iter, ifs, 0⟩] scope pos) (aLc w g t a (own.map (·.2))) := by
  obtain ⟨t1, p1, s1⟩ := hi
  exact ⟨_, pe_lc hc hN p1 ok (fun s H C cl fp => (hg s H C cl fp).can) (fun s H C cl fp => (ht s H C cl fp).can) (fun s H C cl fp => (he s H C cl fp).can) hs, sim_lc s1 simcG hS simcT simcE⟩
theorem qs_setLc {i : Nat} {y : Str} {py spos : Pos} {elt tg iter : Expr} {ifs : List Expr} {scope : Scope} {own : List (Str × Nat)} {pos : Pos} {w : AI} {g : AG} {S : List Nat} {t : AT} {a : AE} (hc : X.calm = true) (hN : X.N.Nodup) (hy : X.N[i]? = some y) (hyl : X.env.scope.names.lookup y = some .local)
    (hsw : swapsWith (.ListComp elt [⟨tg, iter, ifs, 0⟩] scope pos) (some (.Name y py)) spos.line X.env = pure true) (hi : QI X tg iter w) (ok : BlkOk X.N X.env.scope scope own)
    (hg : ∀ (s : Shared) (H : Hp) (C : Addr) (cl : List (Str × Addr)) (fp : List Addr), QG (X.blk s H scope (compEnvC scope cl C X.env) fp) tg S g) (ht : ∀ (s : Shared) (H : Hp) (C : Addr) (cl : List (Str × Addr)) (fp : List Addr), QTs (X.blk s H scope (compEnvC scope cl C X.env) fp) ifs t)
    (he : ∀ (s : Shared) (H : Hp) (C : Addr) (cl : List (Str × Addr)) (fp : List Addr), QE (X.blk s H scope (compEnvC scope cl C X.env) fp) elt a) (hS : ∀ i ∈ S, i ∈ own.map (·.2) := by decide) (hs : ∀ x, foldedSetIterable iter X.env x = pure x := by intro _; rfl) :
    QS X (.Assign [.Name y py] (.ListComp elt [⟨tg, iter, ifs, 0⟩] scope pos) spos) (aAsg (aLc w g t a (own.map (·.2))) (agName i)) := by
  obtain ⟨t1, p1, s1⟩ := hi
  exact ⟨_, ps_setLc hc hN hy hyl hsw p1 ok (fun s H C cl fp => (hg s H C cl fp).can) (fun s H C cl fp => (ht s H C cl fp).can) (fun s H C cl fp => (he s H C cl fp).can) hs,
    sim_asg (S := [i]) (sim_lc s1 simcG hS simcT simcE) fun {B _ _ _ _ _ _} b s r {_ _} k q => k B _ _ _ _ (Ex.refl B) b (s.set (.some r) i) ⟨List.length_set, fun j hj => List.getElem?_set_ne (fun z => hj (by rw [z]; exact List.mem_cons_self))⟩ q⟩
def aYes : AT := fun _ μ Q => Q true μ
theorem qts_nil : QTs X [] aYes := ⟨_, pts_nil, fun {B _ _ _ _} b _ {_ _} k q => k B _ _ _ (Ex.refl B) b q⟩
theorem qts_one {c : Expr} {t : AT} (h : QT X c t) : QTs X [c] t := by
  obtain ⟨t1, p1, s1⟩ := h
  exact ⟨_, pts_one p1, s1⟩
end
/-! ### what is walked -/
def Cell.items : Cell → Option (List D)
  | .lst xs => some xs
  | .lsr xs => some xs
  | _ => none
theorem cell_items {B H : Hp} {K : PySem.W.Frag} {a : Addr} {c : Cell} {ds : List D} (h : CellRep B H a c) (hd : c.items = some ds) : ∃ vs, SqL K H a vs ∧ RepA B vs ds := by
  cases c <;> first | (cases hd; done) | skip
  · cases hd
    obtain ⟨vs, h1, h2⟩ := h
    exact ⟨vs, sq_of h1, h2⟩
  · cases hd
    obtain ⟨vs, h1, h2⟩ := h
    exact ⟨vs, .inl h1, h2⟩
/-- a list's items -/
def listM (μ : Mu) (a : Addr) : Option (List D) := (μ a).bind Cell.items
theorem listM_rep {B H : Hp} {K : PySem.W.Frag} {μ : Mu} {a : Addr} {ds : List D} (b : Base B H μ) (h : listM μ a = some ds) : ∃ vs, SqL K H a vs ∧ RepA B vs ds := by
  unfold listM at h
  cases e : μ a with
  | none => rw [e] at h; cases h
  | some c =>
    rw [e] at h
    exact cell_items (b.cell a c e).2 h
/-- a list or a tuple -/
def seqAt (μ : Mu) : D → Option (List D)
  | .ptr a => listM μ a
  | d => d.items
/-- the list that it leads to -/
def ptrList (μ : Mu) : D → Option (List D)
  | .ptr a => listM μ a
  | _ => none
theorem ptrList_rep {B H : Hp} {K : PySem.W.Frag} {μ : Mu} {v : V} {d : D} {ds : List D} (b : Base B H μ) (r : Rep B v d) (h : ptrList μ d = some ds) : ∃ a vs, v = .ref a ∧ d = .ptr a ∧ SqL K H a vs ∧ RepA B vs ds := by
  cases r <;> first | (cases h; done) | skip
  rename_i a
  obtain ⟨vs, h1, h2⟩ := listM_rep (K := K) b h
  exact ⟨a, vs, rfl, rfl, h1, h2⟩
def aIList (a : AE) : AI := fun ρ μ R => a ρ μ fun x μ1 => match ptrList μ1 x with
  | some xs => R xs (fun μ2 => ptrList μ2 x = some xs) μ1
  | none => False
def aITup (a : AE) : AI := fun ρ μ R => a ρ μ fun x μ1 => match x.items with
  | some xs => R xs (fun _ => True) μ1
  | none => False
def rngD (lo : Int) (n : Nat) : List D := (List.range n).map fun i => .int (lo + (i : Nat))
theorem rngD_len (lo : Int) (n : Nat) : (rngD lo n).length = n := by unfold rngD; simp
theorem rngD_at {lo : Int} {n i : Nat} {d : D} (h : (rngD lo n)[i]? = some d) : d = .int (lo + (i : Nat)) ∧ i < n := by
  unfold rngD at h
  rw [List.getElem?_map] at h
  cases e : (List.range n)[i]? with
  | none => rw [e] at h; cases h
  | some j =>
    rw [e] at h
    have := List.getElem?_eq_some_iff.mp e
    obtain ⟨h1, h2⟩ := this
    rw [List.getElem_range] at h2
    subst h2
    cases h
    exact ⟨rfl, by simpa using h1⟩
def aIRng1 (a : AA) : AI := fun ρ μ R => a ρ μ fun xs μ1 => match xs with
  | [.int n] => -(2 ^ 62) ≤ n ∧ n < 2 ^ 62 ∧ R (rngD 0 n.toNat) (fun _ => True) μ1
  | _ => False
def aIRng2 (a : AA) : AI := fun ρ μ R => a ρ μ fun xs μ1 => match xs with
  | [.int m, .int n] => (-(2 ^ 62) ≤ m ∧ m < 2 ^ 62 ∧ -(2 ^ 62) ≤ n ∧ n < 2 ^ 62) ∧ R (rngD m (n - m).toNat) (fun _ => True) μ1
  | _ => False
def enumD (xs : List D) : List D := xs.zipIdx.map fun p => .tup [.int (p.2 : Nat), p.1]
theorem enumD_len (xs : List D) : (enumD xs).length = xs.length := by unfold enumD; simp
theorem enumD_at {xs : List D} {i : Nat} {d : D} (h : (enumD xs)[i]? = some d) : ∃ x, xs[i]? = some x ∧ d = .tup [.int (i : Nat), x] := by
  unfold enumD at h
  rw [List.getElem?_map, List.getElem?_zipIdx] at h
  cases e : xs[i]? with
  | none => rw [e] at h; cases h
  | some x =>
    rw [e] at h
    cases h
    exact ⟨x, rfl, by simp⟩
def aIEnum (a : AA) : AI := fun ρ μ R => a ρ μ fun xs μ1 => match xs with
  | [x] => (match ptrList μ1 x with
    | some ys => R (enumD ys) (fun μ2 => ptrList μ2 x = some ys) μ1
    | none => False)
  | _ => False
def aIEnumT (a : AA) : AI := fun ρ μ R => a ρ μ fun xs μ1 => match xs with
  | [d] => match d.items with
    | some ys => R (enumD ys) (fun _ => True) μ1
    | none => False
  | _ => False
theorem walk_listG {K : PySem.W.Frag} {a : Addr} {n : Nat} : Walk (Itl K a) n (fun H => ∃ vs, SqL K H a vs ∧ vs.length = n) (fun i H x H' => H' = H ∧ ∀ vs, SqL K H a vs → vs[i]? = some x) :=
  ⟨fun i _ hi ⟨vs, q, e⟩ => ⟨vs, vs[i]'(by omega), q, List.getElem?_eq_getElem (by omega)⟩, fun _ ⟨vs, q, e⟩ => ⟨vs, q, by omega⟩, fun _ _ _ _ _ _ y => y⟩
theorem walk_tupG {K : PySem.W.Frag} {a : Addr} {n : Nat} : Walk (Itt K a) n (fun H => ∃ vs, SqT K H a vs ∧ vs.length = n) (fun i H x H' => H' = H ∧ ∀ vs, SqT K H a vs → vs[i]? = some x) :=
  ⟨fun i _ hi ⟨vs, q, e⟩ => ⟨vs, vs[i]'(by omega), q, List.getElem?_eq_getElem (by omega)⟩, fun _ ⟨vs, q, e⟩ => ⟨vs, q, by omega⟩, fun _ _ _ _ _ _ y => y⟩
theorem walk_enumG {K : PySem.W.Frag} {a : Addr} {n : Nat} : Walk (Ite K a) n (fun H => ∃ vs, SqL K H a vs ∧ vs.length = n) (fun i H v H' => ∃ T x, v = .ref T ∧ H T = none ∧ H' = upd H T (.tup [.int (i : Nat), x]) ∧ ∀ xs, SqL K H a xs → xs[i]? = some x) :=
  ⟨fun i _ hi ⟨vs, q, e⟩ => ⟨vs, vs[i]'(by omega), q, List.getElem?_eq_getElem (by omega)⟩, fun _ ⟨vs, q, e⟩ => ⟨vs, q, by omega⟩, fun _ _ _ _ _ _ y => y⟩
theorem walk_enumTG {K : PySem.W.Frag} {a : Addr} {n : Nat} : Walk (IteT K a) n (fun H => ∃ vs, SqT K H a vs ∧ vs.length = n) (fun i H v H' => ∃ T x, v = .ref T ∧ H T = none ∧ H' = upd H T (.tup [.int (i : Nat), x]) ∧ ∀ xs, SqT K H a xs → xs[i]? = some x) :=
  ⟨fun i _ hi ⟨vs, q, e⟩ => ⟨vs, vs[i]'(by omega), q, List.getElem?_eq_getElem (by omega)⟩, fun _ ⟨vs, q, e⟩ => ⟨vs, q, by omega⟩, fun _ _ _ _ _ _ y => y⟩
theorem pair_new {B2 H2 : Hp} {μ2 : Mu} {u v : V} {T : Addr} {p q : D} (b2 : Base B2 H2 μ2) (hT : H2 T = none) (hp : Rep B2 u p) (hq : Rep B2 v q) : ∃ B3, Ex B2 B3 ∧ Base B3 (upd H2 T (.tup [u, v])) μ2 ∧ Rep B3 (.ref T) (.tup [p, q]) := by
  have eb : Ex B2 (upd B2 T (.tup [u, v])) := Ex.new (b2.bfresh hT)
  exact ⟨_, eb, b2.tup hT, .tup upd_same (.cons (hp.up eb) (.cons (hq.up eb) .nil))⟩
section
variable {X : Cx} {tg l e a b : Expr} {es : List Expr} {pos p : Pos} {al : AE} {ta : AA}
theorem qi_list (h : QE X l al) : QI X tg l (aIList al) := by
  obtain ⟨t1, p1, s1⟩ := h
  refine ⟨_, pi_list p1, fun {B _ _ _ _} b sl {Ra R} k q => s1 b sl (fun B1 v d H1 μ1 e1 b1 r1 q1 => ?_) q⟩
  split at q1
  · rename_i xs hl
    obtain ⟨a, vs, rfl, rfl, h1, h2⟩ := ptrList_rep (K := X.K) b1 r1 hl
    refine ⟨a, rfl, ⟨vs, h1⟩, k B1 H1 μ1 xs _ _ _ _ e1 b1 walk_listG (fun B2 H2 μ2 e2 b2 st => ?_) (fun B2 H2 μ2 i x d H3 e2 b2 st hx y => ?_) q1⟩
    · obtain ⟨ws, h3, h4⟩ := listM_rep (K := X.K) b2 st
      exact ⟨ws, h3, h4.len⟩
    · obtain ⟨ws, h3, h4⟩ := listM_rep (K := X.K) b2 st
      obtain ⟨rfl, y⟩ := y
      obtain ⟨u, h5, h6⟩ := h4.at hx
      have := y ws h3
      rw [h5] at this
      cases this
      exact ⟨B2, Ex.refl B2, b2, h6⟩
  · exact q1.elim
theorem qi_tup (h : QE X l al) : QI X tg l (aITup al) := by
  obtain ⟨t1, p1, s1⟩ := h
  refine ⟨_, pi_tup p1, fun {B _ _ _ _} b sl {Ra R} k q => s1 b sl (fun B1 v d H1 μ1 e1 b1 r1 q1 => ?_) q⟩
  split at q1
  · rename_i xs hl
    obtain ⟨a, vs, rfl, h1, h2⟩ := rep_items (K := X.K) r1 hl
    refine ⟨a, rfl, ⟨vs, ex_t b1.ex h1⟩, k B1 H1 μ1 xs _ _ _ _ e1 b1 walk_tupG (fun B2 H2 μ2 e2 b2 st => ⟨vs, ex_t (e2.trans b2.ex) h1, h2.len⟩) (fun B2 H2 μ2 i x d H3 e2 b2 st hx y => ?_) q1⟩
    obtain ⟨rfl, y⟩ := y
    obtain ⟨u, h5, h6⟩ := h2.at hx
    have := y vs (ex_t (e2.trans b2.ex) h1)
    rw [h5] at this
    cases this
    exact ⟨B2, Ex.refl B2, b2, h6.up e2⟩
  · exact q1.elim
theorem qi_enum {elts : List Expr} {kk : Nat} {tpos : Pos} (hg : Gl X "enumerate") (hm : X.mg "enumerate" = none) (ha : QA X [e] ta) (hs : starEach [e] X.env = [(false, eval e X.env)] := by rfl) : QI X (.Tuple elts kk tpos) (.Call (.Name "enumerate" p) [e] [] pos) (aIEnum ta) := by
  obtain ⟨t1, p1, s1⟩ := ha
  refine ⟨_, pi_enum hg hm p1 hs, fun {B _ _ _ _} b sl {Ra R} k q => s1 b sl (fun B1 v d H1 μ1 e1 b1 r1 q1 => ?_) q⟩
  cases r1 with
  | nil => exact q1.elim
  | cons r1 rr =>
    cases rr with
    | cons _ _ => exact q1.elim
    | nil =>
      have q1 : match ptrList μ1 _ with
        | some ys => Ra (enumD ys) (fun μ2 => ptrList μ2 _ = some ys) μ1
        | none => False := q1
      split at q1
      · rename_i xs hl
        obtain ⟨a, vs, rfl, rfl, h1, h2⟩ := ptrList_rep (K := X.K) b1 r1 hl
        refine ⟨a, vs, rfl, h1, k B1 H1 μ1 (enumD xs) _ _ _ _ e1 b1 (by rw [enumD_len]; exact walk_enumG) (fun B2 H2 μ2 e2 b2 st => ?_) (fun B2 H2 μ2 i x d H3 e2 b2 st hx y => ?_) q1⟩
        · obtain ⟨ws, h3, h4⟩ := listM_rep (K := X.K) b2 st
          exact ⟨ws, h3, h4.len⟩
        · obtain ⟨ws, h3, h4⟩ := listM_rep (K := X.K) b2 st
          obtain ⟨T, x, rfl, hT, rfl, y⟩ := y
          obtain ⟨d', hd', rfl⟩ := enumD_at hx
          obtain ⟨u, h5, h6⟩ := h4.at hd'
          have := y ws h3
          rw [h5] at this
          cases this
          exact pair_new b2 hT (.int _) h6
      · exact q1.elim
theorem qi_enumT {elts : List Expr} {kk : Nat} {tpos : Pos} (hg : Gl X "enumerate") (hm : X.mg "enumerate" = none) (ha : QA X [e] ta) (hs : starEach [e] X.env = [(false, eval e X.env)] := by rfl) : QI X (.Tuple elts kk tpos) (.Call (.Name "enumerate" p) [e] [] pos) (aIEnumT ta) := by
  obtain ⟨t1, p1, s1⟩ := ha
  refine ⟨_, pi_enumT hg hm p1 hs, fun {B _ _ _ _} b sl {Ra R} k q => s1 b sl (fun B1 v d H1 μ1 e1 b1 r1 q1 => ?_) q⟩
  cases r1 with
  | nil => exact q1.elim
  | cons r1 rr =>
    cases rr with
    | cons _ _ => exact q1.elim
    | nil =>
      rename_i d0
      have q1 : match d0.items with
        | some ys => Ra (enumD ys) (fun _ => True) μ1
        | none => False := q1
      split at q1
      · rename_i xs hl
        obtain ⟨a, vs, rfl, h1, h2⟩ := rep_items (K := X.K) r1 hl
        refine ⟨a, vs, rfl, ex_t b1.ex h1, k B1 H1 μ1 (enumD xs) _ _ _ _ e1 b1 (by rw [enumD_len]; exact walk_enumTG) (fun B2 H2 μ2 e2 b2 st => ?_) (fun B2 H2 μ2 i x d H3 e2 b2 st hx y => ?_) q1⟩
        · exact ⟨vs, ex_t (e2.trans b2.ex) h1, h2.len⟩
        · obtain ⟨T, x, rfl, hT, rfl, y⟩ := y
          obtain ⟨d', hd', rfl⟩ := enumD_at hx
          obtain ⟨u, h5, h6⟩ := h2.at hd'
          have := y vs (ex_t (e2.trans b2.ex) h1)
          rw [h5] at this
          cases this
          exact pair_new b2 hT (.int _) (h6.up e2)
      · exact q1.elim
theorem qi_range1 (hg : Gl X "range") (hm : X.mg "range" = none) (ha : QA X [a] ta) (hs : starEach [a] X.env = [(false, eval a X.env)] := by rfl) : QI X tg (.Call (.Name "range" p) [a] [] pos) (aIRng1 ta) := by
  obtain ⟨t1, p1, s1⟩ := ha
  refine ⟨_, pi_range1 hg hm p1 hs, fun {B _ _ _ _} b sl {Ra R} k q => s1 b sl (fun B1 v d H1 μ1 e1 b1 r1 q1 => ?_) q⟩
  unfold aIRng1 at q1
  split at q1
  · rename_i n
    cases r1 with
    | cons r1 rr =>
      cases rr
      cases r1
      refine ⟨n, rfl, q1.1, q1.2.1, k B1 H1 μ1 _ _ _ (fun _ => True) (YFn fun i => .int (0 + i)) e1 b1 (by rw [rngD_len]; exact walk_range) (fun _ _ _ _ _ _ => trivial) (fun B2 H2 μ2 i x d H3 e2 b2 st hx y => ?_) q1.2.2⟩
      obtain ⟨rfl, rfl⟩ := y
      obtain ⟨rfl, _⟩ := rngD_at hx
      exact ⟨B2, Ex.refl B2, b2, .int _⟩
  · exact q1.elim
theorem qi_range2 (hg : Gl X "range") (hm : X.mg "range" = none) (ha : QA X [a, b] ta) (hs : starEach [a, b] X.env = [(false, eval a X.env), (false, eval b X.env)] := by rfl) (hs2 : starEach [b] X.env = [(false, eval b X.env)] := by rfl) : QI X tg (.Call (.Name "range" p) [a, b] [] pos) (aIRng2 ta) := by
  obtain ⟨t1, p1, s1⟩ := ha
  refine ⟨_, pi_range2 hg hm p1 hs hs2, fun {B _ _ _ _} b sl {Ra R} k q => s1 b sl (fun B1 v d H1 μ1 e1 b1 r1 q1 => ?_) q⟩
  unfold aIRng2 at q1
  split at q1
  · rename_i m n
    cases r1 with
    | cons r1 rr =>
      cases rr with
      | cons r2 rr =>
        cases rr
        cases r1
        cases r2
        refine ⟨m, n, rfl, q1.1, k B1 H1 μ1 _ _ _ (fun _ => True) (YFn fun i => .int (m + i)) e1 b1 (by rw [rngD_len]; exact walk_range) (fun _ _ _ _ _ _ => trivial) (fun B2 H2 μ2 i x d H3 e2 b2 st hx y => ?_) q1.2⟩
        obtain ⟨rfl, rfl⟩ := y
        obtain ⟨rfl, _⟩ := rngD_at hx
        exact ⟨B2, Ex.refl B2, b2, .int _⟩
  · exact q1.elim
end
end DL

set_option maxHeartbeats 4000000
namespace DL
open PySem PySem.Spec PyProof.Rows L2 Evl Gd
section
variable {X : Cx}
theorem oq_I {g : Value → Value → Sem Value} {C : Int → Int → Prop} {gv : Int → Int → V} {gd : Int → Int → D} (h : OpR X g (rI C gv)) (hr : ∀ B i j, Rep B (gv i j) (gd i j)) : OpQ X g (aI C gd) :=
  ⟨_, h, fun {B _ _ _ _ _ _} b rx ry {_ _} k q => by
    cases rx <;> first | exact q.elim | skip
    cases ry <;> first | exact q.elim | skip
    exact ⟨_, _, rfl, rfl, q.1, k _ _ _ _ _ (Ex.refl _) b (hr _ _ _) q.2⟩⟩
theorem oq_I0 {g : Value → Value → Sem Value} {gv : Int → Int → V} {gd : Int → Int → D} (h : OpR X g (rI0 gv)) (hr : ∀ B i j, Rep B (gv i j) (gd i j)) : OpQ X g (aI0 gd) :=
  ⟨_, h, fun {B _ _ _ _ _ _} b rx ry {_ _} k q => by
    cases rx <;> first | exact q.elim | skip
    cases ry <;> first | exact q.elim | skip
    exact ⟨_, _, rfl, rfl, k _ _ _ _ _ (Ex.refl _) b (hr _ _ _) q⟩⟩
theorem oq_add : OpQ X (binaryOp .Add) (aI0 fun i j => .int (i + j)) := oq_I0 op_add fun _ _ _ => .int _
theorem oq_sub : OpQ X (binaryOp .Sub) (aI0 fun i j => .int (i - j)) := oq_I0 op_sub fun _ _ _ => .int _
theorem oq_mul : OpQ X (binaryOp .Mult) (aI CMul fun i j => .int (i * j)) := oq_I op_mul fun _ _ _ => .int _
theorem oq_mulW : OpQ X (binaryOp .Mult) (aI CMulW fun i j => .int (i * j)) := oq_I op_mulW fun _ _ _ => .int _
theorem oq_fdiv : OpQ X (binaryOp .FloorDiv) (aI CDiv fun i j => .int (i / j)) := oq_I op_fdiv fun _ _ _ => .int _
theorem oq_fdivW : OpQ X (binaryOp .FloorDiv) (aI CDivW fun i j => .int (i / j)) := oq_I op_fdivW fun _ _ _ => .int _
theorem oq_fdivN : OpQ X (binaryOp .FloorDiv) (aI CDivN fun i j => .int (i.fdiv j)) := oq_I op_fdivN fun _ _ _ => .int _
theorem oq_mod : OpQ X (binaryOp .Mod) (aI (fun _ j => 0 < j) fun i j => .int (i % j)) := oq_I op_mod fun _ _ _ => .int _
theorem oq_modN : OpQ X (binaryOp .Mod) (aI (fun _ j => j ≠ 0) fun i j => .int (i.fmod j)) := oq_I op_modN fun _ _ _ => .int _
theorem oq_pow : OpQ X (binaryOp .Pow) (aI CPow fun i j => .int (i ^ j.toNat)) := oq_I op_pow fun _ _ _ => .int _
theorem oq_shl : OpQ X (binaryOp .LShift) (aI CPow fun i j => .int (i * 2 ^ j.toNat)) := oq_I op_shl fun _ _ _ => .int _
theorem oq_shr : OpQ X (binaryOp .RShift) (aI (fun _ j => 0 ≤ j) fun i j => .int (i / 2 ^ j.toNat)) := oq_I op_shr fun _ _ _ => .int _
theorem oq_and : OpQ X (binaryOp .BitAnd) (aI0 fun i j => .int (Builtin.bitAnd i j)) := oq_I0 op_and fun _ _ _ => .int _
theorem oq_lt : OpQ X (compareOp .Lt) (aI0 fun i j => .bl (decide (i < j))) := oq_I0 op_lt fun _ _ _ => .bl _
theorem oq_le : OpQ X (compareOp .LtE) (aI0 fun i j => .bl (decide (i ≤ j))) := oq_I0 op_le fun _ _ _ => .bl _
theorem oq_gt : OpQ X (compareOp .Gt) (aI0 fun i j => .bl (decide (j < i))) := oq_I0 op_gt fun _ _ _ => .bl _
theorem oq_ge : OpQ X (compareOp .GtE) (aI0 fun i j => .bl (decide (j ≤ i))) := oq_I0 op_ge fun _ _ _ => .bl _
def aU (g : Int → D) : F1 := fun x μ Q => match x with
  | .int i => Q (g i) μ
  | _ => False
theorem uq_neg : UnQ X (unaryOp .USub) (aU fun i => .int (-i)) := ⟨_, un_neg, fun {B _ _ _ _} b rx {_ _} k q => by
  cases rx <;> first | exact q.elim | skip
  exact ⟨_, rfl, k _ _ _ _ _ (Ex.refl _) b (.int _) q⟩⟩
/-- scalars -/
def D.v : D → Option V
  | .non => some .non
  | .bl b => some (.bl b)
  | .int i => some (.int i)
  | .str z => some (.str z)
  | _ => none
theorem rep_v {B : Hp} {x : V} {d : D} {u : V} (h : Rep B x d) (e : d.v = some u) : x = u := by
  cases h <;> first | (cases e; rfl) | cases e
def D.eq2 : D → D → Option Bool
  | .int i, .int j => some (decide (i = j))
  | .str i, .str j => some (decide (i = j))
  | .bl i, .bl j => some (decide (i = j))
  | .non, .non => some true
  | .non, .int _ => some false
  | .int _, .non => some false
  | .non, .str _ => some false
  | .str _, .non => some false
  | .non, .bl _ => some false
  | .bl _, .non => some false
  | .int _, .str _ => some false
  | .str _, .int _ => some false
  | .bl _, .str _ => some false
  | .str _, .bl _ => some false
  | _, _ => none
theorem eq2_ok {B : Hp} {x y : V} {d e : D} {b : Bool} (hx : Rep B x d) (hy : Rep B y e) (h : d.eq2 e = some b) : scal x y = true ∧ decide (x = y) = b := by
  cases hx <;> cases hy <;> first | (cases h; done) | skip
  all_goals (cases h; refine ⟨rfl, ?_⟩; simp)
def aEq : F2 := fun x y μ Q => match x.eq2 y with
  | some b => Q (.bl b) μ
  | none => False
def aNe : F2 := fun x y μ Q => match x.eq2 y with
  | some b => Q (.bl (!b)) μ
  | none => False
theorem oq_eq : OpQ X (compareOp .Eq) aEq := ⟨_, op_eq, fun {B _ _ _ _ _ _} b rx ry {_ _} k q => by
  unfold aEq at q
  split at q
  · rename_i c hc
    obtain ⟨h1, h2⟩ := eq2_ok rx ry hc
    exact ⟨h1, k _ _ _ _ _ (Ex.refl _) b (by rw [h2]; exact .bl c) q⟩
  · exact q.elim⟩
theorem oq_ne : OpQ X (compareOp .NotEq) aNe := ⟨_, op_ne, fun {B _ _ _ _ _ _} b rx ry {_ _} k q => by
  unfold aNe at q
  split at q
  · rename_i c hc
    obtain ⟨h1, h2⟩ := eq2_ok rx ry hc
    exact ⟨h1, k _ _ _ _ _ (Ex.refl _) b (by rw [h2]; exact .bl _) q⟩
  · exact q.elim⟩
def D.isNon : D → Bool
  | .non => true
  | _ => false
theorem isNon_ok {B : Hp} {x : V} {d : D} (h : Rep B x d) : decide (x = .non) = d.isNon := by
  cases h <;> first | rfl | (simp [D.isNon])
def aIsN : F2 := fun x y μ Q => match y with
  | .non => Q (.bl x.isNon) μ
  | _ => False
def aNotN : F2 := fun x y μ Q => match y with
  | .non => Q (.bl (!x.isNon)) μ
  | _ => False
theorem oq_isN : OpQ X (compareOp .Is) aIsN := ⟨_, op_isN, fun {B _ _ _ _ _ _} b rx ry {_ _} k q => by
  cases ry <;> first | exact q.elim | skip
  exact ⟨rfl, k _ _ _ _ _ (Ex.refl _) b (by rw [isNon_ok rx]; exact .bl _) q⟩⟩
theorem oq_notN : OpQ X (compareOp .IsNot) aNotN := ⟨_, op_notN, fun {B _ _ _ _ _ _} b rx ry {_ _} k q => by
  cases ry <;> first | exact q.elim | skip
  exact ⟨rfl, k _ _ _ _ _ (Ex.refl _) b (by rw [isNon_ok rx]; exact .bl _) q⟩⟩
/-! texts -/
def aAddS : F2 := fun x y μ Q => match x, y with
  | .str i, .str j => i.length + j.length ≤ 100000 ∧ Q (.str (i ++ j)) μ
  | _, _ => False
theorem oq_add_str : OpQ X (binaryOp .Add) aAddS := ⟨_, op_add_str, fun {B _ _ _ _ _ _} b rx ry {_ _} k q => by
  cases rx <;> first | exact q.elim | skip
  cases ry <;> first | exact q.elim | skip
  exact ⟨_, _, rfl, rfl, sz_of q.1, k _ _ _ _ _ (Ex.refl _) b (.str _) q.2⟩⟩
def aInSg (neg : Bool) : F2 := fun x y μ Q => match x, y with
  | .str i, .str j => ∃ c, i = ⟨#[c]⟩ ∧ Q (.bl (if neg then !decide (c ∈ j.cps.toList) else decide (c ∈ j.cps.toList))) μ
  | _, _ => False
theorem oq_in_sign : OpQ X (compareOp .In) (aInSg false) := ⟨_, op_in_sign, fun {B _ _ _ _ _ _} b rx ry {_ _} k q => by
  cases rx <;> first | exact q.elim | skip
  cases ry <;> first | exact q.elim | skip
  obtain ⟨c, rfl, q⟩ := q
  exact ⟨_, _, rfl, rfl, k _ _ _ _ _ (Ex.refl _) b (.bl _) q⟩⟩
/-! subscripts -/
def aIxL : F2 := fun x y μ Q => match ptrList μ x, y with
  | some xs, .int i => (match atI xs i with
    | some d => Q d μ
    | none => False)
  | _, _ => False
def aIxT : F2 := fun x y μ Q => match x.items, y with
  | some xs, .int i => (match atI xs i with
    | some d => Q d μ
    | none => False)
  | _, _ => False
theorem RepA.atI {B : Hp} {vs : List V} {ds : List D} {i : Int} {d : D} (r : RepA B vs ds) (h : L2.atI ds i = some d) : ∃ v, L2.atI vs i = some v ∧ Rep B v d := by
  unfold L2.atI at h ⊢
  rw [r.len]
  cases e : ixN ds.length i with
  | none => rw [e] at h; cases h
  | some j =>
    rw [e] at h
    exact r.at h
theorem iq_list : IxQ X aIxL := ⟨_, ix_list, fun {B _ _ _ _ _ _} b rx ry {_ _} k q => by
  unfold aIxL at q
  split at q
  · rename_i _ _ xs i hl
    obtain ⟨a, vs, rfl, rfl, h1, h2⟩ := ptrList_rep (K := X.K) b rx hl
    cases ry
    split at q
    · rename_i d hd
      obtain ⟨v, h3, h4⟩ := h2.atI hd
      exact ⟨a, vs, i, v, rfl, rfl, h1, h3, k _ _ _ _ _ (Ex.refl _) b h4 q⟩
    · exact q.elim
  · exact q.elim⟩
theorem iq_tup : IxQ X aIxT := ⟨_, ix_tup, fun {B _ _ _ _ _ _} b rx ry {_ _} k q => by
  unfold aIxT at q
  split at q
  · rename_i _ _ xs i hl
    obtain ⟨a, vs, rfl, h1, h2⟩ := rep_items (K := X.K) rx hl
    cases ry
    split at q
    · rename_i d hd
      obtain ⟨v, h3, h4⟩ := h2.atI hd
      exact ⟨a, vs, i, v, rfl, rfl, ex_t b.ex h1, h3, k _ _ _ _ _ (Ex.refl _) b h4 q⟩
    · exact q.elim
  · exact q.elim⟩
def aIxS : F2 := fun x y μ Q => match x, y with
  | .str z, .int i => z.length ≤ 100000 ∧ (match atI z.cps.toList i with
    | some c => Q (.str ⟨#[c]⟩) μ
    | none => False)
  | _, _ => False
theorem iq_str : IxQ X aIxS := ⟨_, ix_str, fun {B _ _ _ _ _ _} b rx ry {_ _} k q => by
  cases rx <;> first | exact q.elim | skip
  cases ry <;> first | exact q.elim | skip
  obtain ⟨q0, q⟩ := q
  split at q
  · rename_i c hc
    exact ⟨_, _, c, rfl, rfl, sz_of q0, hc, k _ _ _ _ _ (Ex.refl _) b (.str _) q⟩
  · exact q.elim⟩
/-! slices -/
def cutD (xs : List D) (lo hi : Option Int) : List D := (xs.drop (HT.sIx xs.length 0 lo)).take (HT.sIx xs.length xs.length hi - HT.sIx xs.length 0 lo)
theorem RepA.cut {B : Hp} {vs : List V} {ds : List D} (r : RepA B vs ds) (lo hi : Option Int) : RepA B (cutV vs lo hi) (cutD ds lo hi) := by
  unfold cutV cutD
  rw [r.len]
  exact (r.drop _).take _
def aSlL : FS := fun x lo hi μ Q => match ptrList μ x with
  | some xs => ∀ p, μ p = none → Q (.ptr p) (updM μ p (.lst (cutD xs lo hi)))
  | none => False
theorem slq_list : SlQ X aSlL := ⟨_, sl_list, fun {B _ _ _ _ _ _} b rx {_ _} k q => by
  unfold aSlL at q
  split at q
  · rename_i xs hl
    obtain ⟨a, vs, rfl, rfl, h1, h2⟩ := ptrList_rep (K := X.K) b rx hl
    exact ⟨a, vs, rfl, h1, fun p hp => k _ _ _ _ _ (Ex.refl _) (b.new (c := .lst (cutD xs _ _)) hp ⟨_, upd_same, h2.cut _ _⟩) (.ptr p) (q p (b.fresh hp))⟩
  · exact q.elim⟩
/-- a slice of a tuple: told as a tuple of unknown make -/
def aSlT : FS := fun x lo hi μ Q => match x with
  | .tup xs => Q (.tup (cutD xs lo hi)) μ
  | .tuz xs => if HT.sIx xs.length 0 lo = 0 ∧ HT.sIx xs.length xs.length hi = xs.length then Q (.tuz xs) μ else Q (.tup (cutD xs lo hi)) μ
  | _ => False
theorem cutD_all {xs : List D} {lo hi : Option Int} (h : HT.sIx xs.length 0 lo = 0 ∧ HT.sIx xs.length xs.length hi = xs.length) : cutD xs lo hi = xs := by
  unfold cutD
  rw [h.1, h.2]
  simp
theorem slq_tup : SlQ X aSlT := ⟨_, sl_tupA, fun {B _ _ _ _ lo hi} b rx {_ _} k q => by
  cases rx <;> first | exact q.elim | skip
  · rename_i a vs ds h1 h2
    refine ⟨a, vs, rfl, ex_t b.ex (st_of h1), fun hw => ?_, fun hw p hp => ?_⟩
    · rw [h2.len] at hw
      have q : _ := q
      simp only [aSlT] at q
      rw [cutD_all hw] at q
      exact k _ _ _ _ _ (Ex.refl _) b (.tup h1 h2) q
    · exact k _ _ _ _ _ (Ex.new (b.bfresh hp)) (b.tup hp) (.tup upd_same ((h2.cut _ _).up (Ex.new (b.bfresh hp)))) q
  · rename_i a o vs ds h1 ho h2
    simp only [aSlT] at q
    refine ⟨a, vs, rfl, ex_t b.ex (.inl (.inr ⟨o, h1⟩)), fun hw => ?_, fun hw p hp => ?_⟩
    · rw [h2.len] at hw
      rw [if_pos hw] at q
      exact k _ _ _ _ _ (Ex.refl _) b (.tuz h1 ho h2) q
    · rw [h2.len] at hw
      rw [if_neg hw] at q
      exact k _ _ _ _ _ (Ex.new (b.bfresh hp)) (b.tup hp) (.tup upd_same ((h2.cut _ _).up (Ex.new (b.bfresh hp)))) q⟩
def aSlS : FS := fun x lo hi μ Q => match x with
  | .str z => z.length ≤ 100000 ∧ Q (.str (cutS z lo hi)) μ
  | _ => False
theorem slq_str : SlQ X aSlS := ⟨_, sl_str, fun {B _ _ _ _ lo hi} b rx {_ _} k q => by
  cases rx <;> first | exact q.elim | skip
  exact ⟨_, rfl, sz_of q.1, k _ _ _ _ _ (Ex.refl _) b (.str _) q.2⟩⟩
/-! sums of lists and tuples -/
def aCat : F2 := fun x y μ Q => match x, y with
  | .ptr a, .ptr b => (match μ a, μ b with
    | some (.lst xs), some (.lst ys) => xs.length + ys.length ≤ 100000 ∧ ∀ p, μ p = none → Q (.ptr p) (updM μ p (.lst (xs ++ ys)))
    | _, _ => False)
  | _, _ => False
theorem oq_cat : OpQ X (binaryOp .Add) aCat := ⟨_, op_cat, fun {B _ _ _ _ _ _} b rx ry {_ _} k q => by
  cases rx <;> first | exact q.elim | skip
  cases ry <;> first | exact q.elim | skip
  rename_i a a'
  unfold aCat at q
  simp only at q
  split at q
  · rename_i xs ys h1 h2
    obtain ⟨vs, g1, r1⟩ := (b.cell _ _ h1).2
    obtain ⟨ws, g2, r2⟩ := (b.cell _ _ h2).2
    exact ⟨a, a', vs, ws, rfl, rfl, g1, g2, sz_of (by rw [r1.len, r2.len]; exact q.1), fun p hp => k _ _ _ _ _ (Ex.refl _) (b.new (c := .lst (xs ++ ys)) hp ⟨_, upd_same, r1.app r2⟩) (.ptr p) (q.2 p (b.fresh hp))⟩
  · exact q.elim⟩
def aCatT : F2 := fun x y μ Q => match x, y with
  | .tup xs, .tup ys => xs.length + ys.length ≤ 100000 ∧ Q (.tup (xs ++ ys)) μ
  | _, _ => False
theorem oq_catT : OpQ X (binaryOp .Add) aCatT := ⟨_, op_catA, fun {B _ _ _ _ _ _} b rx ry {_ _} k q => by
  cases rx <;> first | exact q.elim | skip
  cases ry <;> first | exact q.elim | skip
  rename_i a vs xs g1 r1 a' ws ys g2 r2
  refine ⟨a, a', vs, ws, rfl, rfl, ex_t b.ex (st_of g1), ex_t b.ex (st_of g2), sz_of (by rw [r1.len, r2.len]; exact q.1), fun e => ?_, fun _ e => ?_, fun _ _ p hp => ?_⟩
  · subst e
    cases r1
    exact k _ _ _ _ _ (Ex.refl _) b (.tup g2 r2) q.2
  · subst e
    cases r2
    have q2 := q.2
    rw [List.append_nil] at q2
    exact k _ _ _ _ _ (Ex.refl _) b (.tup g1 r1) q2
  · exact k _ _ _ _ _ (Ex.new (b.bfresh hp)) (b.tup hp) (.tup upd_same ((r1.app r2).up (Ex.new (b.bfresh hp)))) q.2⟩
/-! built-ins -/
def aLenS : FC := fun xs μ Q => match xs with
  | [x] => (match seqAt μ x with
    | some ys => Q (.int (ys.length : Nat)) μ
    | none => False)
  | _ => False
theorem seq_rep {B H : Hp} {K : PySem.W.Frag} {μ : Mu} {v : V} {d : D} {ds : List D} (b : Base B H μ) (r : Rep B v d) (h : seqAt μ d = some ds) : ∃ a vs, v = .ref a ∧ (SqL K H a vs ∨ SqT K H a vs) ∧ RepA B vs ds := by
  cases r <;> first | (cases h; done) | skip
  · rename_i a
    obtain ⟨vs, h1, h2⟩ := listM_rep (K := K) b h
    exact ⟨a, vs, rfl, .inl h1, h2⟩
  · rename_i a vs ds' h1 h2
    cases h
    exact ⟨a, vs, rfl, .inr (ex_t b.ex (st_of h1)), h2⟩
  · rename_i a o vs ds' h1 ho h2
    cases h
    exact ⟨a, vs, rfl, .inr (ex_t b.ex (.inl (.inr ⟨o, h1⟩))), h2⟩
theorem one_rep {B : Hp} {vs : List V} {d : D} (r : RepA B vs [d]) : ∃ v, vs = [v] ∧ Rep B v d := by
  cases r with
  | cons h r => cases r; exact ⟨_, rfl, h⟩
theorem two_rep {B : Hp} {vs : List V} {d e : D} (r : RepA B vs [d, e]) : ∃ v u, vs = [v, u] ∧ Rep B v d ∧ Rep B u e := by
  cases r with
  | cons h r =>
    obtain ⟨u, rfl, h2⟩ := one_rep r
    exact ⟨_, u, rfl, h, h2⟩
theorem cq_len : CallQ X (.builtin "len") aLenS := ⟨_, call_len_seq, fun {B _ _ _ _} b r {_ _} k q => by
  unfold aLenS at q
  split at q
  · obtain ⟨v, rfl, r1⟩ := one_rep r
    split at q
    · rename_i ys h
      obtain ⟨a, vs, rfl, h1, h2⟩ := seq_rep (K := X.K) b r1 h
      exact ⟨a, vs, rfl, h1, k _ _ _ _ _ (Ex.refl _) b (by rw [h2.len]; exact .int _) q⟩
    · exact q.elim
  · exact q.elim⟩
def aLenStr : FC := fun xs μ Q => match xs with
  | [.str z] => z.length ≤ 100000 ∧ Q (.int (z.length : Nat)) μ
  | _ => False
theorem cq_len_str : CallQ X (.builtin "len") aLenStr := ⟨_, call_len_str, fun {B _ _ _ _} b r {_ _} k q => by
  unfold aLenStr at q
  split at q
  · obtain ⟨v, rfl, r1⟩ := one_rep r
    cases r1
    exact ⟨_, rfl, sz_of q.1, k _ _ _ _ _ (Ex.refl _) b (.int _) q.2⟩
  · exact q.elim⟩
def aListOf : FC := fun xs μ Q => match xs with
  | [x] => (match seqAt μ x with
    | some ys => ∀ p, μ p = none → Q (.ptr p) (updM μ p (.lst ys))
    | none => False)
  | _ => False
theorem cq_list_of : CallQ X (.type "list") aListOf := ⟨_, call_list_of, fun {B _ _ _ _} b r {_ _} k q => by
  unfold aListOf at q
  split at q
  · obtain ⟨v, rfl, r1⟩ := one_rep r
    split at q
    · rename_i ys h
      obtain ⟨a, vs, rfl, h1, h2⟩ := seq_rep (K := X.K) b r1 h
      exact ⟨a, vs, rfl, h1, fun p hp => k _ _ _ _ _ (Ex.refl _) (b.new (c := .lst ys) hp ⟨_, upd_same, h2⟩) (.ptr p) (q p (b.fresh hp))⟩
    · exact q.elim
  · exact q.elim⟩
/-- tuple(list) -/
def aTupleOf : FC := fun xs μ Q => match xs with
  | [x] => (match ptrList μ x with
    | some ys => Q (.tup ys) μ
    | none => False)
  | _ => False
theorem cq_tuple_of : CallQ X (.type "tuple") aTupleOf := ⟨_, call_tuple_of, fun {B _ _ _ _} b r {_ _} k q => by
  unfold aTupleOf at q
  split at q
  · obtain ⟨v, rfl, r1⟩ := one_rep r
    split at q
    · rename_i ys h
      obtain ⟨a, vs, rfl, rfl, h1, h2⟩ := ptrList_rep (K := X.K) b r1 h
      exact ⟨a, vs, rfl, .inl ⟨h1, fun p hp => k _ _ _ _ _ (Ex.new (b.bfresh hp)) (b.tup hp) (.tup upd_same (h2.up (Ex.new (b.bfresh hp)))) q⟩⟩
    · exact q.elim
  · exact q.elim⟩
def ints? : List D → Option (List Int)
  | [] => some []
  | .int i :: r => (ints? r).map (i :: ·)
  | _ => none
theorem ints_ok {B : Hp} : ∀ {ds : List D} {is : List Int}, ints? ds = some is → ds = is.map D.int
  | [], is, h => by cases h; rfl
  | .int i :: r, is, h => by
    unfold ints? at h
    cases e : ints? r with
    | none => rw [e] at h; cases h
    | some js =>
      rw [e] at h
      cases h
      rw [ints_ok (B := B) e]
      rfl
  | .non :: _, _, h => by cases h
  | .bl _ :: _, _, h => by cases h
  | .str _ :: _, _, h => by cases h
  | .tup _ :: _, _, h => by cases h
  | .tuz _ :: _, _, h => by cases h
  | .ptr _ :: _, _, h => by cases h
  | .ty _ :: _, _, h => by cases h
theorem ints_map (is : List Int) : ints? (is.map D.int) = some is := by
  induction is with
  | nil => rfl
  | cons i is ih => rw [List.map_cons, ints?, ih]; rfl
def aSum : FC := fun xs μ Q => match xs with
  | [x] => (match (ptrList μ x).bind ints? with
    | some is => Q (.int is.sum) μ
    | none => False)
  | _ => False
theorem cq_sum (hc : X.calm = true) : CallQ X (.builtin "sum") aSum := ⟨_, cr_sum hc, fun {B _ _ _ _} b r {_ _} k q => by
  unfold aSum at q
  split at q
  · obtain ⟨v, rfl, r1⟩ := one_rep r
    split at q
    · rename_i is h
      obtain ⟨ys, h1, h2⟩ := Option.bind_eq_some_iff.mp h
      obtain ⟨a, vs, rfl, rfl, g1, g2⟩ := ptrList_rep (K := X.K) b r1 h1
      rw [ints_ok (B := B) h2] at g2
      rw [reps_int g2] at g1
      exact ⟨a, is, rfl, g1, k _ _ _ _ _ (Ex.refl _) b (.int _) q⟩
    · exact q.elim
  · exact q.elim⟩
def bls? : List D → Option (List Bool)
  | [] => some []
  | .bl i :: r => (bls? r).map (i :: ·)
  | _ => none
theorem bls_ok {B : Hp} : ∀ {ds : List D} {is : List Bool}, bls? ds = some is → ds = is.map D.bl
  | [], is, h => by cases h; rfl
  | .bl i :: r, is, h => by
    unfold bls? at h
    cases e : bls? r with
    | none => rw [e] at h; cases h
    | some js =>
      rw [e] at h
      cases h
      rw [bls_ok (B := B) e]
      rfl
  | .non :: _, _, h => by cases h
  | .int _ :: _, _, h => by cases h
  | .str _ :: _, _, h => by cases h
  | .tup _ :: _, _, h => by cases h
  | .tuz _ :: _, _, h => by cases h
  | .ptr _ :: _, _, h => by cases h
  | .ty _ :: _, _, h => by cases h
theorem bls_map (is : List Bool) : bls? (is.map D.bl) = some is := by
  induction is with
  | nil => rfl
  | cons i is ih => rw [List.map_cons, bls?, ih]; rfl
def aAll : FC := fun xs μ Q => match xs with
  | [x] => (match (ptrList μ x).bind bls? with
    | some is => Q (.bl (is.all id)) μ
    | none => False)
  | _ => False
theorem cq_all (hc : X.calm = true) : CallQ X (.builtin "all") aAll := ⟨_, cr_all hc, fun {B _ _ _ _} b r {_ _} k q => by
  unfold aAll at q
  split at q
  · obtain ⟨v, rfl, r1⟩ := one_rep r
    split at q
    · rename_i is h
      obtain ⟨ys, h1, h2⟩ := Option.bind_eq_some_iff.mp h
      obtain ⟨a, vs, rfl, rfl, g1, g2⟩ := ptrList_rep (K := X.K) b r1 h1
      rw [bls_ok (B := B) h2] at g2
      rw [reps_bl g2] at g1
      exact ⟨a, is, rfl, g1, k _ _ _ _ _ (Ex.refl _) b (.bl _) q⟩
    · exact q.elim
  · exact q.elim⟩
def aInt1 : FC := fun xs μ Q => match xs with
  | [.int i] => Q (.int i) μ
  | [.bl b] => Q (.int (if b then 1 else 0)) μ
  | _ => False
theorem cq_int1 : CallQ X (.type "int") aInt1 := ⟨_, call_int1, fun {B _ _ _ _} b r {_ _} k q => by
  unfold aInt1 at q
  split at q
  · obtain ⟨v, rfl, r1⟩ := one_rep r
    cases r1
    exact .inl ⟨_, rfl, k _ _ _ _ _ (Ex.refl _) b (.int _) q⟩
  · obtain ⟨v, rfl, r1⟩ := one_rep r
    cases r1
    exact .inr ⟨_, rfl, k _ _ _ _ _ (Ex.refl _) b (.int _) q⟩
  · exact q.elim⟩
def aMin2 : FC := fun xs μ Q => match xs with
  | [.int i, .int j] => Q (.int (if j < i then j else i)) μ
  | _ => False
theorem cq_min2 (hc : X.calm = true) : CallQ X (.builtin "min") aMin2 := ⟨_, call_min2 hc, fun {B _ _ _ _} b r {_ _} k q => by
  unfold aMin2 at q
  split at q
  · obtain ⟨v, u, rfl, r1, r2⟩ := two_rep r
    cases r1
    cases r2
    exact ⟨_, _, rfl, k _ _ _ _ _ (Ex.refl _) b (.int _) q⟩
  · exact q.elim⟩
end
end DL

set_option maxHeartbeats 4000000
/-! len(x) by an own __len__; readings of several classes. -/
namespace Gd
open PySem PySem.Spec PyProof.Rows L2

theorem PE_any {X : Cx} {e : Expr} {ι : Type} {t : ι → TE} (h : ∀ i, PE X e (t i)) : PE X e (fun σ H Q => ∃ i, t i σ H Q) :=
  ⟨fun pins s σ H Q I ⟨i, q⟩ => (h i).run pins s σ H Q I q⟩
theorem PE_in {X : Cx} {e : Expr} {ι : Type} {p : ι → Prop} {t : ι → TE} (h : ∀ i, p i → PE X e (t i)) : PE X e (fun σ H Q => ∃ i, p i ∧ t i σ H Q) :=
  ⟨fun pins s σ H Q I ⟨i, w, q⟩ => (h i w).run pins s σ H Q I q⟩
theorem PE_or {X : Cx} {e : Expr} {t u : TE} (h : PE X e t) (h2 : PE X e u) : PE X e (fun σ H Q => t σ H Q ∨ u σ H Q) :=
  ⟨fun pins s σ H Q I q => q.elim (h.run pins s σ H Q I) (h2.run pins s σ H Q I)⟩
theorem CallR_in {X : Cx} {f : Value} {ι : Type} {p : ι → Prop} {r : ι → List V → Hp → VK → Prop} (h : ∀ i, p i → CallR X f (r i)) : CallR X f (fun xs H Q => ∃ i, p i ∧ r i xs H Q) :=
  fun pins s σ H xs us Q I rv ⟨i, w, q⟩ => h i w pins s σ H xs us Q I rv q

/-- len(x), x an instance of the class at C, whose own __len__ is at f -/
def rLenO (C : Addr) (sp : Sp) (E : XK) : List V → Hp → VK → Prop := fun xs H Q => ∃ a dx fs, xs = [.ref a] ∧ H a = some (.ins C dx fs) ∧ sp [.ref a] H (fun v H1 => ∃ n : Nat, v = .int n ∧ n ≤ 16777216 ∧ Q (.int n) H1) E
theorem call_lenO {X : Cx} {CX : CXT} {k : Nat} {C f : Addr} {fd : FuncData} {ps : List Str} {sp : Sp} {E : XK} (hs : PySem.W.findIn X.K (.ref C) "__len__" = some (some (.ref f))) (hf : PySem.W.typeIn X.K (.ref f) = some (.type "function"))
    (F : FnOk X.prog X.w X.K X.mg X.base CX k f fd ps sp) (hr : Room (k + 1) X.A) (hb : Binds X.K fd ps []) (hx : Passes CX X E) : CallR X (.builtin "len") (rLenO C sp E) := by
  intro pins s σ H xs us Q I r h
  obtain ⟨a, dx, fs, rfl, hH, hq⟩ := h
  obtain ⟨u, rfl, ru⟩ := vals1 r
  obtain rfl : u = Value.ref a := ru
  obtain ⟨mA, O, _, _, _, _⟩ := ins_get I.hok hH
  obtain ⟨od, J, _⟩ := O.look
  refine Calls.call_function_entry kind_len plain_len entry_len (args_len1 _) ?_
  unfold Builtin.«len»
  refine wpAny_bind (m := oneArg "len" _) (wpAny_pure ?_)
  have hl : ([Value.ref a] ++ []).length = ps.length := F.len _ _ _ _ hq
  refine wpAny_bind (m := callSpecial? (.ref a) (PySem.Str.ofString "__len__")) (PySem.W.special_fn I.kIn J hs hf (wpAny_call (codeAny_mono (F.run X.A.in1 X.stack s H ⟨[.ref a], []⟩ [.ref a] [.ref a] _ E hr.in1 I.env0.in1 (hb s [.ref a] I.kIn hl) (.cons rfl .nil) hq) fun r s' hq => ?_)))
  cases r with
  | error er => exact hx pins σ H s er s' I hq
  | ok fl =>
    cases fl with
    | ret u =>
      obtain ⟨v, H', I3, rv, n, rfl, hn, q3⟩ := I.after hq
      obtain ⟨t, rfl⟩ := rv
      refine wpAny_bind (wpAny_holding (wpAny_pure ?_))
      refine wpAny_bind (wpAny_letGo ?_)
      show wpAny _ _ (if ((n : Nat) : Int) < 0 then _ else _) _ _ _
      rw [if_neg (by omega)]
      show wpAny _ _ (if ((n : Nat) : Int) ≥ 2 ^ 63 then _ else _) _ _ _
      rw [if_neg (by omega)]
      exact wpAny_bind (wpAny_mkInt (wpAny_pure ⟨_, rfl, .int n, H', I3.tok _, ⟨_, rfl⟩, q3⟩))
    | next => exact False.elim hq
    | brk => exact False.elim hq
    | cont => exact False.elim hq
end Gd

set_option maxHeartbeats 4000000
/-! super().m(..) of a plain class as a statement of a method's body. -/
namespace Gd
open PySem PySem.Spec PyProof.Rows L2

structure SupScope (N P : List Str) (sc : Scope) : Prop where
  kind : sc.kind = .function
  co : sc.isCoroutine = false
  gen : sc.isGenerator = false
  nd : N.Nodup
  pre : N.take P.length = P
  par : ∀ x ∈ P, sc.names.lookup x = some .local
  nocell : ∀ y ∈ sc.names, y.2 ≠ .cell
  free : ∀ y ∈ sc.names, y.2 = .free → y.1 = ("__class__" : Str)

/-- the context of the body of a method that closes over its class (the cell at cc) -/
def supCx (CX : CXT) (P : Program) (w : World) (K : PySem.W.Frag) (mg : Str → Option Value) (base : Heap) (N : List Str) (qual : Str) (scope : Scope) (f : Addr) (cd : Value) (cc : Addr) (A : Around) (outer : List Env) (s : Shared) (H : Hp) (E : XK) : Cx where
  prog := P
  w := w
  K := K
  mg := mg
  base := base
  A := A.deeper (PySem.W.ksEnv qual scope s.heap.objs.size f cd cc)
  N := N
  s_0 := s
  H_0 := H
  env := PySem.W.ksEnv qual scope s.heap.objs.size f cd cc
  outer := outer
  stack := PySem.W.ksEnv qual scope s.heap.objs.size f cd cc :: outer
  ex := []
  calm := true
  fn := fun _ => false
  pn := []
  xe := fun e s' => wpAny (model P w) (A.deeper (PySem.W.ksEnv qual scope s.heap.objs.size f cd cc)) (leaving (PySem.W.ksEnv qual scope s.heap.objs.size f cd cc) e) (fun _ s'' => CX outer H s E e s'') (fun e' s'' => CX outer H s E e' s'') s'

theorem look1 {x a : Str} {c d : Addr} (h : ([(a, d)] : List (Str × Addr)).lookup x = some c) : x = a ∧ c = d := by
  simp only [List.lookup_cons, List.lookup_nil] at h
  split at h
  · rename_i e
    exact ⟨beq_iff_eq.mp e, (Option.some.inj h).symm⟩
  · cases h
theorem look_nodup {β : Type} {y : Str} {u : β} : ∀ {l : List (Str × β)}, (l.map Prod.fst).Nodup → (y, u) ∈ l → l.lookup y = some u
  | [], _, h => by cases h
  | (a, b) :: l, nd, h => by
    rw [List.map_cons, List.nodup_cons] at nd
    rcases List.mem_cons.mp h with e | h
    · cases e
      simp [List.lookup_cons]
    · have ne : y ≠ a := fun e => nd.1 (List.mem_map.mpr ⟨(y, u), h, by rw [e]⟩)
      rw [List.lookup_cons, show (y == a) = false from by simp [ne]]
      exact look_nodup nd.2 h
theorem rev_zip {ps : List Str} {us : List Value} {i : Nat} {y : Str} {u : Value} (nd : ps.Nodup) (hl : us.length = ps.length) (hp : ps[i]? = some y) (hu : us[i]? = some u) : (ps.zip us).reverse.lookup y = some u := by
  refine look_nodup ?_ (List.mem_reverse.mpr ?_)
  · rw [List.map_reverse, List.map_fst_zip (Nat.le_of_eq hl.symm)]
    exact (List.reverse_perm ps).nodup_iff.mpr nd
  · have h1 : (ps.zip us)[i]? = some (y, u) := by
      rw [List.getElem?_zip_eq_some]
      exact ⟨hp, hu⟩
    exact List.mem_of_getElem? h1

theorem sup_start {CX : CXT} {P : Program} {w : World} {K : PySem.W.Frag} {mg : Str → Option Value} {base : Heap} {N ps : List Str} {qual : Str} {scope : Scope} {f cc : Addr} {cd : Value} {A : Around} {outer : List Env} {s : Shared} {H : Hp} {E : XK} {us : List Value} {vs : List V}
    {h1 : Heap} {tk : Nat} {cl : Value} {cld : Option Addr} {v0 : Option Value} {csl : Array (Option Value)}
    (S : SupScope N ps scope) (hcc : K.lookup cc = some ⟨cl, cld, .cell v0, csl⟩) (hd : A.handled = none) (e0 : Env0 P w K mg base A outer s H) (hl : vs.length = ps.length) (r : Vals vs us)
    (hns : h1.Ns s.heap.objs.size fun x => (ps.zip us).reverse.lookup x) (kp : ∀ b o, s.heap.get? b = some o → h1.get? b = some o) :
    Inv (supCx CX P w K mg base N qual scope f cd cc A outer s H E) [] (L2.start N vs) H { s with heap := h1, toks := tk } := by
  have hpl : ps.length ≤ N.length := by
    have q := congrArg List.length S.pre
    rw [List.length_take] at q
    omega
  have ndP : ps.Nodup := by
    rw [← S.pre]
    exact S.nd.sublist (List.take_sublist _ _)
  have noA : ∀ b : Addr, b ∉ (supCx CX P w K mg base N qual scope f cd cc A outer s H E).ex := fun b z => absurd (show b ∈ ([] : List Addr) from z) (by simp)
  have bC : base.get? cc = some ⟨cl, cld, .cell v0, csl⟩ := e0.mod.kin _ _ hcc
  have cellOnly : ∀ {y : Str} {c : Addr}, ([("__class__", cc)] : List (Str × Addr)).lookup y = some c → y = "__class__" ∧ c = cc := fun h => look1 h
  refine ⟨⟨e0.mod, S.kind, rfl, rfl, Nat.le_refl _, fun y z c e1 e2 => ?_, fun y hy => ?_, fun y c z _ => ?_, fun _ => hd, Around.frames_deeper e0.frames, .inr ⟨rfl, rfl⟩, fun b z => absurd z (noA b), e0.bs, e0.bsz, fun b _ _ => noA b, fun b z => absurd z (noA b), e0.funs, e0.frf⟩,
    rfl, e0.bare, Un.kept kp, ⟨_, hns, fun i y v e1 e2 e3 => ?_⟩, fun y c e => ?_, e0.hok.fresh (Nat.le_refl _), fun y c e => ?_, fun p hp => absurd (show p ∈ ([] : List (Addr × Obj)) from hp) (by simp), e0.hok.kept kp, ?_⟩
  · rw [(cellOnly e1).1, (cellOnly e2).1]
  · have hy : scope.names.lookup y = some .cell ∨ scope.names.lookup y = some .free := hy
    rcases hy with hy | hy
    · exact absurd rfl (S.nocell _ (PySem.mem_of_lookup hy))
    · have := S.free _ (PySem.mem_of_lookup hy) rfl
      have e : y = "__class__" := this
      subst e
      exact ⟨cc, rfl⟩
  · have z : false = true := z
    cases z
  · have hi : i < vs.length := by
      unfold L2.start at e2
      by_cases hi : i < vs.length
      · exact hi
      · rw [List.getElem?_append_right (by simpa using hi)] at e2
        rw [List.getElem?_replicate] at e2
        split at e2 <;> cases e2
    have ha : vs[i]? = some v := by
      unfold L2.start at e2
      rw [List.getElem?_append_left (by simpa using hi), List.getElem?_map] at e2
      cases e : vs[i]? with
      | none => rw [e] at e2; cases e2
      | some a => rw [e] at e2; cases e2; rfl
    obtain ⟨u, hu, rv⟩ := r.get ha
    have hp : ps[i]? = some y := by
      rw [← S.pre, List.getElem?_take_of_lt (by omega)]
      exact e1
    have k := S.par y (List.mem_of_getElem? hp)
    exact ⟨u, rv, .inl ⟨k, rev_zip ndP (r.length.symm.trans hl) hp hu⟩⟩
  · rw [(cellOnly e).2]
    exact ⟨v0, _, kp _ _ (e0.bs _ _ bC).1, rfl⟩
  · rw [(cellOnly e).2]
    exact (e0.bs _ _ bC).2
  · unfold L2.start
    show _ = N.length
    rw [List.length_append, List.length_map, List.length_replicate]
    omega

/-- a block within the activation c -/
structure PSA (X : Cx) (c : Code) (st : List Stmt) (t : TS) : Prop where
  run : ∀ (pins : List (Addr × Obj)) (s : Shared) (σ : L2.St) (H : Hp) (D : Ends), Inv X pins σ H s → t D σ H → _root_.PySem.wpAt (model X.prog X.w) X.A c (execs st X.env) (SP X pins D) X.xe s
section
variable {X : Cx} {c : Code} {st : Stmt} {rest : List Stmt} {t u : TS}
theorem psa_of {l : List Stmt} (h : PSs X l t) : PSA X c l t := ⟨fun pins s σ H D I q => _root_.PySem.wpAt_of_wpAny (h.run pins s σ H D I q)⟩
theorem psa_cons (h1 : PS X st t) (h2 : PSA X c rest u) : PSA X c (st :: rest) (tSeq t u) := by
  refine ⟨fun pins s σ H D I h => ?_⟩
  refine ks_wpAt_execs_cons (_root_.PySem.wpAt_of_wpAny (thn (h1.run pins s σ H { D with nx := u D } I h) fun f s1 q => ?_))
  cases f with
  | next =>
    obtain ⟨σ', H', I', q⟩ := q
    exact h2.run pins s1 σ' H' D I' q
  | ret v => exact q
  | brk => exact q
  | cont => exact q
end

/-- what super() of the class at D, held by the cell cc, asks of the written part: name is found at f2 behind D -/
structure SupAt (P : Program) (K : PySem.W.Frag) (mg : Str → Option Value) (f cda cc D C f2 : Addr) (sf name : Str) : Prop where
  fn : ∃ (oc : Value) (od : Option Addr) (fd : FuncData) (osl : Array (Option Value)) (ar : Arg), K.lookup f = some ⟨oc, od, .func fd, osl⟩ ∧ (fd.params.posonlyargs ++ fd.params.args).head? = some ar ∧ ar.arg = sf
  code : ∃ (ccl : Value) (cdd : Option Addr) (vs : Array Value) (ccs : Array (Option Value)) (file : Str) (tf : Tok), K.lookup cda = some ⟨ccl, cdd, .fields vs, ccs⟩ ∧ vs[2]? = some (.str file tf) ∧ ((P.main.file : Str) == file) = true
  cell : ∃ (cl : Value) (cld : Option Addr) (csl : Array (Option Value)), K.lookup cc = some ⟨cl, cld, .cell (some (.ref D)), csl⟩
  cls : ∃ cdD, PySem.W.clsIn K D = some cdD
  sub : PySem.W.mroIn K C (.ref D) = some true
  sup : mg "super" = none
  top : (P.main.scope.names.lookup ("super" : Str)).isSome = false
  opq : PySem.W.nsIn K cStatics "thirdparty.any" = some none
  to : PySem.W.ks_superIn K C D name = some (some (.ref f2))
  isf : PySem.W.typeIn K (.ref f2) = some (.type "function")
  mf : PySem.W.fnIn K f2 = true

/-- super().name(..): the method at f2 with self, whose class is at C -/
def tSup (C : Addr) (sp : Sp) (dvs : List V) (E : XK) (ta : TA) (u : TS) : TS := fun D σ H => ∃ a dx fs, σ[0]? = some (some (.ref a)) ∧ H a = some (.ins C dx fs) ∧ ta σ H fun vs H1 => sp (.ref a :: (vs ++ dvs)) H1 (fun _ H2 => u D σ H2) E
theorem psa_super {pl : Sem Bool} {X : Cx} {CX : CXT} {k : Nat} {body : List Stmt} {rest : List Stmt} {u : TS} {q : Str} {scope : Scope} {L f cda cc D C f2 : Addr} {self name : Str} {fd2 : FuncData} {ps : List Str} {sp : Sp} {ds : List Value} {dvs : List V} {E : XK} {e : Expr} {es : List Expr} {ta : TA} {p0 p1 p2 p3 p4 : Pos}
    (hX : X.env = PySem.W.ksEnv q scope L f (.ref cda) cc) (hks : scope.names.lookup ("super" : Str) = some .globalImplicit) (hkc : scope.names.lookup ("__class__" : Str) = some .free) (hka : scope.names.lookup self = some .local) (hk : scope.kind = .function)
    (hN : X.N[0]? = some self) (Sa : SupAt X.prog X.K X.mg f cda cc D C f2 self name) (F : FnOk X.prog X.w X.K X.mg X.base CX k f2 fd2 ps sp) (hr : Room k X.A) (hb : Binds X.K fd2 ps ds) (hdv : Vals dvs ds) (hx : Passes CX X E) (ha : PA X (e :: es) ta) (hu : PSA X (.func body X.env) rest u)
    (hpl : (backTo p3 (starEach es X.env)).any (·.1) = false) (he0 : starEach (e :: es) X.env = (false, eval e X.env) :: starEach es X.env)
    (hev : eval (.Call (.Attribute (.Call (.Name "super" p0) [] [] p1) name p2) (e :: es) [] p3) X.env = (do
      let ov ← attributeBase (.Call (.Name "super" p0) [] [] p1) name X.env (eval (.Call (.Name "super" p0) [] [] p1) X.env)
      standAt p2.atName
      let (f, first) ← holding [ov] (getMethod ov name pl)
      callWith p3 f first (backTo p3 (starEach (e :: es) X.env)) []))
    (hat : (name == ("__class__" : Str)) = false) (hsw : ∀ env : Env, swapsWith (.Call (.Attribute (.Call (.Name "super" p0) [] [] p1) name p2) (e :: es) [] p3) none p4.line env = pure false := by intro env; rfl) (hboot : bootBuiltins "super" = some (.type "super") := by decide +kernel) :
    PSA X (.func body X.env) (.Expr (.Call (.Attribute (.Call (.Name "super" p0) [] [] p1) name p2) (e :: es) [] p3) p4 :: rest) (tSup C sp dvs E ta u) := by
  refine ⟨fun pins s σ H Dn I hq => ?_⟩
  obtain ⟨a, dx, fs, hσ, hH, hq⟩ := hq
  obtain ⟨oc, od, fd, osl, ar, hf, hp, har⟩ := Sa.fn
  obtain ⟨ccl, cdd, vs, ccs, file, tf, hcode, hvs, hfile⟩ := Sa.code
  obtain ⟨cl, cld, csl, hcell⟩ := Sa.cell
  obtain ⟨cdD, hD⟩ := Sa.cls
  subst har
  have X0 : X.K.In s.heap := I.kIn
  obtain ⟨oD, hD1, hD2⟩ : ∃ oD, s.heap.get? D = some oD ∧ oD.data = .cls cdD := by
    unfold PySem.W.clsIn at hD
    split at hD
    · rename_i c d cd' sl ho
      cases hD
      exact ⟨_, X0 _ _ ho, rfl⟩
    · cases hD
  refine ks_wpAt_execs_cons (ks_wpAt_Expr_any ?_ I.quiet (hsw _))
  refine ks_wpAt_MethodCall ?_ hev
  rw [hX]
  refine ks_wpAt_super_base (env := PySem.W.ksEnv q scope L f (.ref cda) cc) hks hkc hat rfl (X0 _ _ hf) rfl hp rfl (X0 _ _ hcode) rfl hvs hfile Sa.top ?_
  obtain ⟨mb, hm1, hm2⟩ := I.mod.blt
  refine PySem.W.ks_loadName_global hk hks (Calls.loadGlobal_builtin (by first | exact I.mod.glob.keeps I.bk | (rw [← hX, I.ok.glob]; exact I.mod.glob.keeps I.bk)) Sa.sup (by first | exact hm1.keeps I.bk | (rw [← hX, I.ok.blt]; exact hm1.keeps I.bk)) ((hm2 _ (by decide)).trans hboot) ⟨rfl, ?_⟩)
  refine wpAny_loadName_free hk hkc rfl ⟨_, X0 _ _ hcell, rfl⟩ ?_
  obtain ⟨m, hns, hl⟩ := id I.loc
  obtain ⟨ua, ra, la⟩ := hl 0 ar.arg (.ref a) hN hσ (by rw [hX]; exact .inl hka)
  obtain rfl : ua = Value.ref a := ra
  have hma : m ar.arg = some (.ref a) := by
    rcases la with ⟨_, h⟩ | ⟨h, _⟩
    · exact h
    · rw [hX] at h
      have h : scope.names.lookup ar.arg = some .cell ∨ scope.names.lookup ar.arg = some .free := h
      rw [hka] at h
      rcases h with h | h <;> cases h
  refine wpAny_loadName_local hk hka (by rw [hX] at hns; exact hns) hma ?_
  obtain ⟨hh, g, d, t, os⟩ := s
  refine ks_wpAny_isType_cls hD1 hD2 ⟨rfl, ?_⟩
  obtain ⟨hdx, hfl, hne, hox, _⟩ := I.hok a _ hH
  have hsub := Sa.sub
  refine ks_wpAny_call_super hD1 hD2 hox rfl (fun c e => by cases e) (PySem.W.looks_mroIn X0 hsub) (fun h' eh k => ?_)
  have I1 : Inv X pins σ H ⟨h', g, d, t, os⟩ := I.kept (t' := t) k
  have X1 : X.K.In h' := I1.kIn
  obtain ⟨of, hof, hofc⟩ : ∃ of, h'.get? f2 = some of ∧ of.cls = .type "function" := by
    have ht' : (X.K.lookup f2).map (·.cls) = some (.type "function") := Sa.isf
    cases z : X.K.lookup f2 with
    | none => rw [z] at ht'; cases ht'
    | some of => rw [z] at ht'; exact ⟨of, X1 _ _ z, Option.some.inj ht'⟩
  obtain ⟨cdC, hcC, hm⟩ : ∃ cdC, PySem.W.clsIn X.K C = some cdC ∧ PySem.W.alongIn X.K name ((cdC.mro.dropWhile (· != .ref D)).drop 1) = some (some (.ref f2)) := by
    have hm := Sa.to
    unfold PySem.W.ks_superIn at hm
    cases hc : PySem.W.clsIn X.K C with
    | none => rw [hc] at hm; cases hm
    | some cd => rw [hc] at hm; exact ⟨cd, rfl, hm⟩
  have neC : a ≠ C := by
    intro e2
    unfold PySem.W.clsIn at hcC
    split at hcC
    · rename_i c d cd' sl ho
      have e3 := X0 _ _ ho
      rw [← e2] at e3
      have e4 : hh.get? a = some (PySem.W.instObj C dx) := hox
      have e5 : hh.get? a = some ⟨c, d, .cls cd', sl⟩ := e3
      rw [e5] at e4
      cases e4
    · cases hcC
  refine ks_wpAny_getMethod_super eh (PySem.W.looks_opaque X1 Sa.opq) (l₀ := cdC.mro) ?_ rfl X1 hm hof hofc neC hat ?_
  · exact fun A Q E s k q => wpAny_bind ((PySem.W.looks_clsIn X1 hcC) A _ E s k (wpAny_pure q))
  have I2 : Inv X pins σ H ⟨h'.push (PySem.W.methodObj (.ref f2) (.ref a)), g, d, t + 1, os⟩ := I1.kept (t' := t + 1) fun b o e => Heap.get?_push_of_some _ e
  have hq0 : (h'.push (PySem.W.methodObj (.ref f2) (.ref a))).get? h'.objs.size = some (PySem.W.methodObj (.ref f2) (.ref a)) := Heap.get?_push_size _ rfl
  have I3 : Inv X ((h'.objs.size, PySem.W.methodObj (.ref f2) (.ref a)) :: pins) σ H ⟨h'.push (PySem.W.methodObj (.ref f2) (.ref a)), g, d, t + 1, os⟩ := I2.pins_of fun p hp => by
    rcases List.mem_cons.mp hp with rfl | hp
    · refine ⟨hq0, I1.hok.fresh (Nat.le_refl _), fun z => ?_, I1.nofs (Nat.le_refl _), fun v z => by cases z⟩
      have := I1.lt
      rw [← z] at this
      exact Nat.lt_irrefl _ this
    · exact I2.pin p (List.mem_append_right _ hp)
  show wpAny _ _ (PySem.callWith p3 (.ref h'.objs.size) [] (backTo p3 (starEach (e :: es) _)) []) _ _ _
  rw [← hX]
  rw [he0]
  have go := ha.run p3 _ _ σ H _ I3 hq
  rw [he0] at go
  refine PySem.W.callWith_of (P := PySem.W.MethP X.K h'.objs.size f2 (.ref a)) (by show ((false || (backTo p3 (starEach es X.env)).any (·.1)) || false) = false; rw [hpl]; rfl) (PySem.W.keeps_M Sa.mf) (Calls.evalArgs_plain ?_)
  refine thn go fun us s1 ⟨zs, H1, I4, rz, q4⟩ => ?_
  have hq1 : s1.heap.get? h'.objs.size = some (PySem.W.methodObj (.ref f2) (.ref a)) := (I4.pin (h'.objs.size, PySem.W.methodObj (.ref f2) (.ref a)) (List.mem_append_right _ List.mem_cons_self)).1
  have I5 : Inv X pins σ H1 s1 := I4.pins_of fun p hp => I4.pin p (List.mem_append_right _ (List.mem_cons_of_mem _ hp))
  refine ⟨⟨hq1, I5.kIn⟩, ?_⟩
  have r2 : Vals (V.ref a :: (zs ++ dvs)) (Value.ref a :: us ++ ds) := .cons rfl (rz.append hdv)
  have hl2 : (Value.ref a :: us ++ ds).length = ps.length := by
    have e3 := r2.length
    rw [F.len _ _ _ _ q4] at e3
    exact e3.symm
  refine wpAny_call (ks_codeAny_call_bound hq1 (codeAny_mono (F.run X.A X.stack s1 H1 ⟨Value.ref a :: us, []⟩ (Value.ref a :: us ++ ds) _ _ E hr I5.env0 (hb s1 (Value.ref a :: us) I5.kIn hl2) r2 q4) fun r s' hq' => ?_))
  cases r with
  | error e => exact hx pins σ H1 s1 e s' I5 hq'
  | ok fl =>
    cases fl with
    | ret u2 =>
      obtain ⟨v, H2, I6, rv, q6⟩ := I5.after hq'
      exact hu.run pins s' σ H2 Dn I6 q6
    | next => exact False.elim hq'
    | brk => exact False.elim hq'
    | cont => exact False.elim hq'

/-- THE RULE: a def whose closure is its class alone -/
theorem ok_super {CX : CXT} {P : Program} {w : World} {K : PySem.W.Frag} {mg : Str → Option Value} {base : Heap} {k : Nat} {f cc : Addr} {name qual : Str} {params : Arguments} {body : List Stmt} {scope : Scope} {dV kV doc pm cdv ct oc cl : Value} {an od cld : Option Addr}
    {osl csl : Array (Option Value)} {v0 : Option Value} {N ps : List Str} {sp : Sp} (lk : K.lookup f = some ⟨oc, od, .func (PySem.W.ksFn name qual params body scope dV kV doc pm an cdv ct cc), osl⟩) (hcd : PySem.W.codeIn K cdv qual = true) (hcc : K.lookup cc = some ⟨cl, cld, .cell v0, csl⟩)
    (S : SupScope N ps scope) (len : ∀ vs H Q E, sp vs H Q E → vs.length = ps.length)
    (hbody : ∀ (A : Around) (outer : List Env) (s : Shared) (H : Hp) (vs : List V) (Q : VK) (E : XK), Room k (A.deeper (PySem.W.ksEnv qual scope s.heap.objs.size f cdv cc)) → sp vs H Q E →
      ∃ t, PSA (supCx CX P w K mg base N qual scope f cdv cc A outer s H E) (.func body (PySem.W.ksEnv qual scope s.heap.objs.size f cdv cc)) body t ∧ t { nx := fun _ H' => Q .non H', rt := Q } (L2.start N vs) H) :
    FnOk P w K mg base CX (k + 1) f (PySem.W.ksFn name qual params body scope dV kV doc pm an cdv ct cc) ps sp := by
  refine ⟨len, fun A outer s H args us vs Q E hr e0 hb r hs => ?_⟩
  have KX : K.In s.heap := e0.mod.kin.keeps fun b o e => (e0.bs b o e).1
  have lim : s.heap.NoLimit := e0.mod.nolimit.keeps fun b o e => (e0.bs b o e).1
  have hl : us.length = ps.length := r.length.symm.trans (len _ _ _ _ hs)
  refine ks_codeAny_call_defAt (fd := PySem.W.ksFn name qual params body scope dV kV doc pm an cdv ct cc) (body := body) (binds := ps.zip us) hr.depth (KX _ _ lk) rfl lim (PySem.W.codeRec_of KX hcd) rfl hb S.nocell (fun y hy => S.par _ (List.of_mem_zip hy).1) (fun h₀ hns kp => ?_) S.co S.gen S.kind
  obtain ⟨t, ht, hq⟩ := hbody A outer s H vs Q E (hr.deeper _) hs
  have I := sup_start (CX := CX) (P := P) (w := w) (N := N) (qual := qual) (f := f) (cd := cdv) (E := E) (tk := s.toks + (ps.zip us).length) S hcc hr.hd e0 (len _ _ _ _ hs) r hns kp
  refine ks_wpAt_mono (ht.run [] _ (L2.start N vs) H _ I hq) (fun fl s' hfl => ?_) fun e s' he => he
  have fin : ∀ {σ' : L2.St} {H' : Hp} {v : V} {u : Value}, Inv (supCx CX P w K mg base N qual scope f cdv cc A outer s H E) [] σ' H' s' → RelV v u → Q v H' → CE outer P w H s Q u s' :=
    fun {σ' H' v u} J rv q => ⟨v, H', J.os, J.bare, J.base, J.hok, rv, q⟩
  cases fl with
  | ret u =>
    obtain ⟨v, σ', H', J, rv, q⟩ := hfl
    exact fin J rv q
  | next =>
    obtain ⟨σ', H', J, q⟩ := hfl
    exact fin (v := V.non) (u := Value.none) J rfl q
  | brk =>
    obtain ⟨_, _, _, q⟩ := hfl
    exact False.elim q
  | cont =>
    obtain ⟨_, _, _, q⟩ := hfl
    exact False.elim q
end Gd

set_option maxHeartbeats 4000000
/-! Properties, len, methods of one of several classes. -/
namespace Gd
open PySem PySem.Spec PyProof.Rows L2 Evl TL
/-! ### properties, len, a method of any of the classes -/
section
variable {X : Cx} {k : Nat} {fd : FuncData} {ps : List Str} {sp : Sp} {e : Expr} {te : TE} {pos : Pos} {CS : Addr → Prop}
def tPropIn (CS : Addr → Prop) (sp : Sp) (te : TE) : TE := fun σ H Q => te σ H fun x H1 => ∃ C, CS C ∧ ∃ a dx fs, x = .ref a ∧ H1 a = some (.ins C dx fs) ∧ sp [.ref a] H1 Q E0
theorem pe_propIn {f : Str} {g : Addr} (h : ∀ C, CS C → Cls X.K C ∧ ∃ p, PropOf X.K C f p g) (F : FnOk X.prog X.w X.K X.mg X.base CX0 k g fd ps sp) (hr : Room (k + 1) X.A) (hb : L2.Binds X.K fd ps []) (he : PE X e te)
    (hab : attributeBase e f X.env (eval e X.env) = eval e X.env := by rfl) : PE X (.Attribute e f pos) (tPropIn CS sp te) := by
  refine ⟨fun pins s σ H Q I q => ?_⟩
  refine attr_of hab (thn (he.run pins s σ H _ I q) fun u s1 ⟨x, H1, I1, rx, C, hC, a, dx, fs, ex, ea, q⟩ => ?_)
  subst ex
  obtain rfl : u = Value.ref a := rx
  obtain ⟨c, p, hp⟩ := h C hC
  exact getprop_ok I1 ea c hp F hr hb .nil pass0 q
theorem ev_propIn {σ : L2.St} {H : Hp} {a C dx : Addr} {fs : List (Str × V)} {v : V} (h : Ev te σ H (.ref a)) (hC : CS C) (h1 : H a = some (.ins C dx fs)) (hs : SpIs sp [.ref a] H v) : Ev (tPropIn CS sp te) σ H v := fun H1 e Q q =>
  h H1 e _ fun H2 e2 => ⟨C, hC, a, dx, fs, rfl, e2 _ _ (e _ _ h1), hs H2 (e.trans e2) Q (fun H3 e3 => q H3 (e2.trans e3)) E0⟩
theorem eu_propIn {σ : L2.St} {H : Hp} {a C dx : Addr} {fs : List (Str × V)} {P : V → Hp → Prop} (h : Ev te σ H (.ref a)) (hC : CS C) (h1 : H a = some (.ins C dx fs)) (hs : ∀ H1, Ex H H1 → ∀ Q : VK, (∀ v H2, Ex H1 H2 → P v H2 → Q v H2) → ∀ E, sp [.ref a] H1 Q E) : EvP (tPropIn CS sp te) σ H P := fun H1 e Q q =>
  h H1 e _ fun H2 e2 => ⟨C, hC, a, dx, fs, rfl, e2 _ _ (e _ _ h1), hs H2 (e.trans e2) Q (fun v H3 e3 w => q v H3 (e2.trans e3) w) E0⟩
def rLenIn (CS : Addr → Prop) (sp : Sp) : List V → Hp → VK → Prop := fun xs H Q => ∃ C, CS C ∧ rLenO C sp E0 xs H Q
theorem call_lenIn {f : Addr} (h : ∀ C, CS C → PySem.W.findIn X.K (.ref C) "__len__" = some (some (.ref f))) (hf : PySem.W.typeIn X.K (.ref f) = some (.type "function")) (F : FnOk X.prog X.w X.K X.mg X.base CX0 k f fd ps sp) (hr : Room (k + 1) X.A) (hb : L2.Binds X.K fd ps []) :
    CallR X (.builtin "len") (rLenIn CS sp) := CallR_in fun C hC => call_lenO (h C hC) hf F hr hb pass0
def tMethIn (CS : Addr → Prop) (m : Str) (sp : Sp) (ta : TE) (t : TA) : TE := fun σ H Q => ∃ C, CS C ∧ tMeth C m sp [] E0 ta t σ H Q
theorem pe_methIn {pl : Sem Bool} {o : Expr} {es : List Expr} {m : Str} {f : Addr} {ta : TE} {t : TA} {apos : Pos} (h : ∀ C, CS C → Cls X.K C ∧ Meth X.K C m f) (F : FnOk X.prog X.w X.K X.mg X.base CX0 k f fd ps sp) (hr : Room k X.A) (hb : L2.Binds X.K fd ps []) (he : PE X o ta) (ha : PA X (e :: es) t)
    (hst : starEach (e :: es) X.env = (false, eval e X.env) :: starEach es X.env := by rfl) (hpl : (backTo pos (starEach es X.env)).any (·.1) = false := by rfl)
    (ht : eval (.Call (.Attribute o m apos) (e :: es) [] pos) X.env = (do
      let ov ← eval o X.env
      standAt apos.atName
      let (f, first) ← holding [ov] (getMethod ov m pl)
      callWith pos f first (backTo pos (starEach (e :: es) X.env)) (backToKw pos (keywordEach [] X.env))) := by rfl) :
    PE X (.Call (.Attribute o m apos) (e :: es) [] pos) (tMethIn CS m sp ta t) :=
  PE_in fun C hC => pe_meth he (h C hC).1 (h C hC).2 F hr hb .nil pass0 ha hst hpl ht
end

end Gd

set_option maxHeartbeats 4000000
namespace DL
open PySem PySem.Spec PyProof.Rows L2 Evl Gd
/-! ### dicts -/
section
variable {κ : Type} [DecidableEq κ]
def lookD (kvs : List (κ × D)) (k : κ) : Option D := (kvs.find? fun kv => decide (kv.1 = k)).map (·.2)
def putD (kvs : List (κ × D)) (k : κ) (v : D) : List (κ × D) :=
  if (kvs.any fun kv => decide (kv.1 = k)) = true then kvs.map (fun kv => if kv.1 = k then (kv.1, v) else kv) else kvs ++ [(k, v)]
inductive OptRep (B : Hp) : Option V → Option D → Prop
  | none : OptRep B none none
  | some {v : V} {d : D} (h : Rep B v d) : OptRep B (some v) (some d)
theorem kv_look {B : Hp} {k : κ} : ∀ {ws : List (κ × V)} {kvs : List (κ × D)}, KvRep B ws kvs → OptRep B (valV ws k) (lookD kvs k)
  | _, _, .nil => .none
  | (k1, v) :: ws, (k2, d) :: kvs, .cons h r => by
    obtain ⟨h1, h2⟩ := h
    have h1 : k1 = k2 := h1
    subst h1
    unfold valV lookD
    rw [List.find?_cons, List.find?_cons]
    by_cases e : k1 = k
    · simp only [e, decide_true]
      exact .some h2
    · simp only [e, decide_false]
      exact kv_look r
theorem kv_any {B : Hp} {k : κ} : ∀ {ws : List (κ × V)} {kvs : List (κ × D)}, KvRep B ws kvs → (ws.any fun kv => decide (kv.1 = k)) = (kvs.any fun kv => decide (kv.1 = k))
  | _, _, .nil => rfl
  | (k1, v) :: ws, (k2, d) :: kvs, .cons h r => by
    have h1 : k1 = k2 := h.1
    subst h1
    rw [List.any_cons, List.any_cons, kv_any r]
theorem kv_map {B : Hp} {k : κ} {v : V} {d : D} (hv : Rep B v d) : ∀ {ws : List (κ × V)} {kvs : List (κ × D)}, KvRep B ws kvs → KvRep B (ws.map fun kv => if kv.1 = k then (kv.1, v) else kv) (kvs.map fun kv => if kv.1 = k then (kv.1, d) else kv)
  | _, _, .nil => .nil
  | (k1, u) :: ws, (k2, e) :: kvs, .cons h r => by
    have h1 : k1 = k2 := h.1
    subst h1
    rw [List.map_cons, List.map_cons]
    refine .cons ?_ (kv_map hv r)
    by_cases z : k1 = k
    · show (if k1 = k then (k1, v) else (k1, u)).1 = (if k1 = k then (k1, d) else (k1, e)).1 ∧ Rep B (if k1 = k then (k1, v) else (k1, u)).2 (if k1 = k then (k1, d) else (k1, e)).2
      rw [if_pos z, if_pos z]
      exact ⟨rfl, hv⟩
    · show (if k1 = k then (k1, v) else (k1, u)).1 = (if k1 = k then (k1, d) else (k1, e)).1 ∧ Rep B (if k1 = k then (k1, v) else (k1, u)).2 (if k1 = k then (k1, d) else (k1, e)).2
      rw [if_neg z, if_neg z]
      exact ⟨rfl, h.2⟩
theorem kv_app {B : Hp} : ∀ {ws us : List (κ × V)} {kvs ks : List (κ × D)}, KvRep B ws kvs → KvRep B us ks → KvRep B (ws ++ us) (kvs ++ ks)
  | _, _, _, _, .nil, h => h
  | _, _, _, _, .cons h r, k => .cons h (kv_app r k)
theorem kv_put {B : Hp} {k : κ} {v : V} {d : D} {ws : List (κ × V)} {kvs : List (κ × D)} (h : KvRep B ws kvs) (hv : Rep B v d) : KvRep B (putK ws k v) (putD kvs k d) := by
  unfold putK putD
  rw [kv_any h]
  split
  · exact kv_map hv h
  · exact kv_app h (.cons ⟨rfl, hv⟩ .nil)
theorem kv_len {B : Hp} : ∀ {ws : List (κ × V)} {kvs : List (κ × D)}, KvRep B ws kvs → ws.length = kvs.length
  | _, _, .nil => rfl
  | _, _, .cons _ r => by rw [List.length_cons, List.length_cons, kv_len r]
end
def D.key : D → Option Key
  | .int i => some (.inl i)
  | .str z => some (.inr z)
  | _ => none
theorem key_ok {B : Hp} {v : V} {d : D} {k : Key} (r : Rep B v d) (h : d.key = some k) : v = kV k := by
  cases r <;> first | (cases h; done) | (cases h; rfl)
def keys? : List D → Option (List Key)
  | [] => some []
  | d :: r => match d.key, keys? r with
    | some k, some ks => some (k :: ks)
    | _, _ => none
theorem keys_ok {B : Hp} : ∀ {vs : List V} {ds : List D} {ks : List Key}, RepA B vs ds → keys? ds = some ks → vs = ks.map kV
  | _, _, ks, .nil, h => by cases h; rfl
  | _, d :: ds, ks, .cons r rr, h => by
    unfold keys? at h
    split at h
    · rename_i k ks' h1 h2
      cases h
      rw [key_ok r h1, keys_ok rr h2]
      rfl
    · cases h
def D.keyT : D → Option (List Key)
  | .tup xs => keys? xs
  | _ => none
theorem keyT_ok {B : Hp} {v : V} {d : D} {k : List Key} (r : Rep B v d) (h : d.keyT = some k) : ∃ b, v = .ref b ∧ B b = some (.tup (k.map kV)) := by
  cases r <;> first | (cases h; done) | skip
  rename_i a vs ds h1 h2
  exact ⟨a, rfl, by rw [h1, keys_ok h2 h]⟩
/-- what the dict holds at a key -/
def dGetM (μ : Mu) (x y : D) : Option (Option D) := match x with
  | .ptr p => (match μ p with
    | some (.dk kvs) => y.key.map (lookD kvs)
    | some (.dt kvs) => y.keyT.map (lookD kvs)
    | _ => none)
  | _ => none
theorem dget_ok {B H : Hp} {μ : Mu} {x y : V} {d e : D} {o : Option D} (b : Base B H μ) (rx : Rep B x d) (ry : Rep B y e) (h : dGetM μ d e = some o) : ∃ a r, x = .ref a ∧ DGet H a y r ∧ OptRep B r o ∧ IsD H a := by
  cases rx <;> first | (cases h; done) | skip
  rename_i a
  unfold dGetM at h
  simp only at h
  split at h
  · rename_i kvs hm
    obtain ⟨ws, h1, h2⟩ := (b.cell a _ hm).2
    obtain ⟨k, hk, rfl⟩ := Option.map_eq_some_iff.mp h
    exact ⟨a, _, rfl, .inl ⟨ws, k, .inl h1, key_ok ry hk, rfl⟩, kv_look h2, .inl ⟨ws, .inl h1⟩⟩
  · rename_i kvs hm
    obtain ⟨ws, h1, h2⟩ := (b.cell a _ hm).2
    obtain ⟨k, hk, rfl⟩ := Option.map_eq_some_iff.mp h
    obtain ⟨t, rfl, ht⟩ := keyT_ok ry hk
    exact ⟨a, _, rfl, .inr ⟨ws, k, t, .inl h1, rfl, b.ex _ _ ht, rfl⟩, kv_look h2, .inr ⟨ws, .inl h1⟩⟩
  · cases h
/-- the cell behind d[k] = v -/
def dPutM (μ : Mu) (x y v : D) : Option (Addr × Cell) := match x with
  | .ptr p => (match μ p with
    | some (.dk kvs) => if kvs.length < 100000 then y.key.map fun k => (p, .dk (putD kvs k v)) else none
    | some (.dt kvs) => if kvs.length < 100000 then y.keyT.map fun k => (p, .dt (putD kvs k v)) else none
    | _ => none)
  | _ => none
theorem dput_ok {B H : Hp} {μ : Mu} {x y v : V} {d e f : D} {p : Addr} {c : Cell} (b : Base B H μ) (rx : Rep B x d) (ry : Rep B y e) (rv : Rep B v f) (h : dPutM μ d e f = some (p, c)) : ∃ H', x = .ref p ∧ DPut H p y v H' ∧ Base B H' (updM μ p c) := by
  cases rx <;> first | (cases h; done) | skip
  rename_i a
  unfold dPutM at h
  simp only at h
  split at h
  · rename_i kvs hm
    obtain ⟨ws, h1, h2⟩ := (b.cell a _ hm).2
    split at h
    · rename_i hl
      obtain ⟨k, hk, h⟩ := Option.map_eq_some_iff.mp h
      cases h
      exact ⟨_, rfl, .inl ⟨ws, k, h1, key_ok ry hk, sz_lt (by rw [kv_len h2]; exact hl), rfl⟩, b.mut (c := .dk _) hm ⟨_, upd_same, kv_put h2 rv⟩⟩
    · cases h
  · rename_i kvs hm
    obtain ⟨ws, h1, h2⟩ := (b.cell a _ hm).2
    split at h
    · rename_i hl
      obtain ⟨k, hk, h⟩ := Option.map_eq_some_iff.mp h
      cases h
      obtain ⟨t, rfl, ht⟩ := keyT_ok ry hk
      exact ⟨_, rfl, .inr ⟨ws, k, t, h1, rfl, b.ex _ _ ht, sz_lt (by rw [kv_len h2]; exact hl), rfl⟩, b.mut (c := .dt _) hm ⟨_, upd_same, kv_put h2 rv⟩⟩
    · cases h
  · cases h
def aDGet (a b : AE) : AE := fun ρ μ Q => a ρ μ fun x μ1 => b ρ μ1 fun y μ2 => match dGetM μ2 x y with
  | some (some d) => Q d μ2
  | _ => False
def aDIn (neg : Bool) (b a : AE) : AE := fun ρ μ Q => b ρ μ fun y μ1 => a ρ μ1 fun x μ2 => match dGetM μ2 x y with
  | some o => Q (.bl (if neg then !o.isSome else o.isSome)) μ2
  | none => False
def isDict (μ : Mu) : D → Bool
  | .ptr p => (match μ p with
    | some (.dk _) => true
    | some (.dt _) => true
    | _ => false)
  | _ => false
theorem isDict_ok {B H : Hp} {μ : Mu} {x : V} {d : D} (b : Base B H μ) (rx : Rep B x d) (h : isDict μ d = true) : ∃ a, x = .ref a ∧ IsD H a := by
  cases rx <;> first | (cases h; done) | skip
  rename_i a
  unfold isDict at h
  simp only at h
  split at h
  · rename_i kvs hm
    obtain ⟨ws, h1, h2⟩ := (b.cell a _ hm).2
    exact ⟨a, rfl, .inl ⟨ws, .inl h1⟩⟩
  · rename_i kvs hm
    obtain ⟨ws, h1, h2⟩ := (b.cell a _ hm).2
    exact ⟨a, rfl, .inr ⟨ws, .inl h1⟩⟩
  · cases h
def aDGet2 (a b c : AE) : AE := fun ρ μ Q => a ρ μ fun x μ1 => isDict μ1 x = true ∧ b ρ μ1 fun y μ2 => c ρ μ2 fun z μ3 => match dGetM μ3 x y with
  | some o => Q (o.getD z) μ3
  | _ => False
def asDPut (a b c : AE) : AS := fun A ρ μ => c ρ μ fun v μ1 => a ρ μ1 fun x μ2 => b ρ μ2 fun y μ3 => match dPutM μ3 x y v with
  | some (p, k) => A.nx ρ (updM μ3 p k)
  | none => False
def aDNewK : AE := fun _ μ Q => ∀ p, μ p = none → Q (.ptr p) (updM μ p (.dk []))
def aDNewT : AE := fun _ μ Q => ∀ p, μ p = none → Q (.ptr p) (updM μ p (.dt []))
def QC (X : Cx) (op : CmpOp) (a b : Expr) (ae : AE) : Prop := ∃ te, PC X op a b te ∧ SimE te ae
section
variable {X : Cx} {o i c e value : Expr} {es : List Expr} {pos pos' p : Pos} {ad ay az av : AE} {as : AA}
theorem qe_dget (hu : X.A.units + 1 < cLine) (ho : QE X o ad) (hi : QE X i ay) (hs : NoSl i) : QE X (.Subscript o i pos) (aDGet ad ay) := by
  obtain ⟨t1, p1, s1⟩ := ho
  obtain ⟨t2, p2, s2⟩ := hi
  refine ⟨_, pe_dget hu p1 p2 hs, fun {B _ _ _ _} b sl {_ _} k q => s1 b sl (fun B1 v d H1 μ1 e1 b1 r1 q1 => s2 b1 (sl.up e1) (fun B2 u y H2 μ2 e2 b2 r2 q2 => ?_) q1) q⟩
  split at q2
  · rename_i d' hd
    obtain ⟨a, r, rfl, h1, h2, _⟩ := dget_ok b2 (r1.up e2) r2 hd
    cases h2 with
    | some h2 => exact ⟨a, _, rfl, h1, k _ _ _ _ _ (e1.trans e2) b2 h2 q2⟩
  · exact q2.elim
theorem qc_din (hu : X.A.units + 1 < cLine) (hi : QE X i ay) (ho : QE X o ad) : QC X .In i o (aDIn false ay ad) := by
  obtain ⟨t1, p1, s1⟩ := ho
  obtain ⟨t2, p2, s2⟩ := hi
  refine ⟨_, pc_din hu p2 p1, fun {B _ _ _ _} b sl {_ _} k q => s2 b sl (fun B1 v d H1 μ1 e1 b1 r1 q1 => s1 b1 (sl.up e1) (fun B2 u y H2 μ2 e2 b2 r2 q2 => ?_) q1) q⟩
  split at q2
  · rename_i o' hd
    obtain ⟨a, r, rfl, h1, h2, _⟩ := dget_ok b2 r2 (r1.up e2) hd
    refine ⟨a, r, rfl, h1, k _ _ _ _ _ (e1.trans e2) b2 ?_ q2⟩
    cases h2 <;> exact .bl _
  · exact q2.elim
theorem qc_dnotin (hu : X.A.units + 1 < cLine) (hi : QE X i ay) (ho : QE X o ad) : QC X .NotIn i o (aDIn true ay ad) := by
  obtain ⟨t1, p1, s1⟩ := ho
  obtain ⟨t2, p2, s2⟩ := hi
  refine ⟨_, pc_dnotin hu p2 p1, fun {B _ _ _ _} b sl {_ _} k q => s2 b sl (fun B1 v d H1 μ1 e1 b1 r1 q1 => s1 b1 (sl.up e1) (fun B2 u y H2 μ2 e2 b2 r2 q2 => ?_) q1) q⟩
  split at q2
  · rename_i o' hd
    obtain ⟨a, r, rfl, h1, h2, _⟩ := dget_ok b2 r2 (r1.up e2) hd
    refine ⟨a, r, rfl, h1, k _ _ _ _ _ (e1.trans e2) b2 ?_ q2⟩
    cases h2 <;> exact .bl _
  · exact q2.elim
theorem qe_cmp {op : CmpOp} {a b : Expr} {ae : AE} (h : QC X op a b ae) (h1 : behindInMarks op b = false := by first | exact nobehind _ (by decide) (by decide) | rfl) : QE X (.Compare a [op] [b] pos) ae := by
  obtain ⟨t, p1, s1⟩ := h
  exact ⟨_, pe_cmp p1 h1, s1⟩
theorem qt_cmp {op : CmpOp} {a b : Expr} {ae : AE} (h : QC X op a b ae) (h1 : behindInMarks op b = false := by first | exact nobehind _ (by decide) (by decide) | rfl) : QT X (.Compare a [op] [b] pos) (aTest ae) := by
  obtain ⟨t, p1, s1⟩ := h
  exact ⟨_, pt_cmp p1 h1, sim_B s1⟩
theorem qs_dput (hu : X.A.units + 1 < cLine) (ho : QE X o ad) (hi : QE X i ay) (hv : QE X value av) (hs : swapsWith value (some (.Subscript o i pos')) pos.line X.env = pure false) : QS X (.Assign [.Subscript o i pos'] value pos) (asDPut ad ay av) := by
  obtain ⟨t1, p1, s1⟩ := ho
  obtain ⟨t2, p2, s2⟩ := hi
  obtain ⟨t3, p3, s3⟩ := hv
  refine ⟨_, ps_dput hu p1 p2 p3 hs, fun {B _ _ _ _} b sl {_ _} h q => s3 b sl (fun B1 v d H1 μ1 e1 b1 r1 q1 => s1 b1 (sl.up e1) (fun B2 u y H2 μ2 e2 b2 r2 q2 => s2 b2 (sl.up (e1.trans e2)) (fun B3 w z H3 μ3 e3 b3 r3 q3 => ?_) q2) q1) q⟩
  split at q3
  · rename_i p kk hd
    obtain ⟨H', rfl, h1, h2⟩ := dput_ok b3 (r2.up e3) r3 (r1.up (e2.trans e3)) hd
    exact ⟨p, H', rfl, h1, h.nx _ _ _ _ _ ((e1.trans e2).trans e3) h2 (sl.up ((e1.trans e2).trans e3)) q3⟩
  · exact q3.elim
theorem qe_dget2 {apos cpos : Pos} {f : Expr} (hu : X.A.units + 1 < cLine) (ho : QE X o ad) (hi : QE X i ay) (hx : QE X f az) (m : M2 X o "get" apos i f cpos) : QE X (.Call (.Attribute o "get" apos) [i, f] [] cpos) (aDGet2 ad ay az) := by
  obtain ⟨t1, p1, s1⟩ := ho
  obtain ⟨t2, p2, s2⟩ := hi
  obtain ⟨t3, p3, s3⟩ := hx
  refine ⟨_, pe_dget2 hu p1 p2 p3 m, fun {B _ _ _ _} b sl {_ _} k q => s1 b sl (fun B1 v d H1 μ1 e1 b1 r1 q1 => ?_) q⟩
  obtain ⟨a, rfl, hd⟩ := isDict_ok b1 r1 q1.1
  refine ⟨a, rfl, hd, s2 b1 (sl.up e1) (fun B2 u y H2 μ2 e2 b2 r2 q2 => s3 b2 (sl.up (e1.trans e2)) (fun B3 w z H3 μ3 e3 b3 r3 q3 => ?_) q2) q1.2⟩
  split at q3
  · rename_i o hg
    obtain ⟨a', r, ea, h1, h2, _⟩ := dget_ok b3 (r1.up (e2.trans e3)) (r2.up e3) hg
    cases ea
    refine ⟨r, h1, k _ _ _ _ _ ((e1.trans e2).trans e3) b3 ?_ q3⟩
    cases h2 with
    | none => exact r3
    | some h => exact h
  · exact q3.elim
theorem qe_dnewK : QE X (.Dict [] [] pos) aDNewK := ⟨_, pe_dnewK, fun {B _ _ _ _} b sl {_ _} k q => fun p hp => k _ _ _ _ _ (Ex.refl _) (b.new (c := .dk []) hp ⟨[], upd_same, .nil⟩) (.ptr p) (q p (b.fresh hp))⟩
theorem qe_dnewT : QE X (.Dict [] [] pos) aDNewT := ⟨_, pe_dnewT, fun {B _ _ _ _} b sl {_ _} k q => fun p hp => k _ _ _ _ _ (Ex.refl _) (b.new (c := .dt []) hp ⟨[], upd_same, .nil⟩) (.ptr p) (q p (b.fresh hp))⟩
/-! displays -/
def aPairs : List (AE × AE) → Rho → Mu → (List (D × D) → Mu → Prop) → Prop
  | [], _, μ, Q => Q [] μ
  | (a, b) :: r, ρ, μ, Q => a ρ μ fun x μ1 => b ρ μ1 fun y μ2 => aPairs r ρ μ2 fun ps μ3 => Q ((x, y) :: ps) μ3
def kvs? : List (D × D) → Option (List (Key × D))
  | [] => some []
  | (x, y) :: r => match x.key, kvs? r with
    | some k, some l => some ((k, y) :: l)
    | _, _ => none
def mergeD (kvs more : List (Key × D)) : List (Key × D) := more.foldl (fun acc kv => putD acc kv.1 kv.2) kvs
def aDisp (l : List (AE × AE)) : AE := fun ρ μ Q => ∀ p, μ p = none → aPairs l ρ (updM μ p (.dk [])) fun ps μ2 => μ2 p = some (.dk []) ∧ ps.length ≤ 15 ∧ match kvs? ps with
  | some kvs => Q (.ptr p) (updM μ2 p (.dk (mergeD [] kvs)))
  | none => False
inductive QPs (X : Cx) (pos : Pos) : List (Option Expr) → List Expr → List (AE × AE) → Prop
  | nil : QPs X pos [] [] []
  | cons {k v : Expr} {ks : List (Option Expr)} {vs : List Expr} {a b : AE} {l : List (AE × AE)} : QE X k a → QE X v b → QPs X pos ks vs l → QPs X pos (some k :: ks) (v :: vs) ((a, b) :: l)
def PairsRep (B : Hp) (ps : List (V × V)) (qs : List (D × D)) : Prop := Paired (fun (p : V × V) (q : D × D) => Rep B p.1 q.1 ∧ Rep B p.2 q.2) ps qs
def SimPs (ts : List (TE × TE)) (as : List (AE × AE)) : Prop := ∀ {B H : Hp} {ρ : Rho} {μ : Mu} {σ : L2.St}, Base B H μ → Sl B σ ρ → ∀ {Qa : List (D × D) → Mu → Prop} {Q : List (V × V) → Hp → Prop}, (∀ B' v d H' μ', Ex B B' → Base B' H' μ' → PairsRep B' v d → Qa d μ' → Q v H') → aPairs as ρ μ Qa → tPairs ts σ H Q
theorem pps_of {ks : List (Option Expr)} {vs : List Expr} {l : List (AE × AE)} (h : QPs X pos ks vs l) : ∃ ts, PPs X pos ks vs ts ∧ SimPs ts l := by
  induction h with
  | nil => exact ⟨_, pps_nil, fun {B _ _ _ _} b sl {_ _} k q => k B [] [] _ _ (Ex.refl B) b .nil q⟩
  | @cons k v ks vs a c l h1 h2 _ ih =>
    obtain ⟨t1, p1, s1⟩ := h1
    obtain ⟨t2, p2, s2⟩ := h2
    obtain ⟨ts, p3, s3⟩ := ih
    refine ⟨_, pps_cons p1 p2 p3, fun {B _ _ _ _} b sl {_ _} k q => s1 b sl (fun B1 v d H1 μ1 e1 b1 r1 q1 => s2 b1 (sl.up e1) (fun B2 u y H2 μ2 e2 b2 r2 q2 => s3 b2 (sl.up (e1.trans e2)) (fun B3 w z H3 μ3 e3 b3 r3 q3 => ?_) q2) q1) q⟩
    exact k B3 _ _ H3 μ3 ((e1.trans e2).trans e3) b3 (.cons ⟨r1.up (e2.trans e3), r2.up e3⟩ r3) q3
theorem kvs_ok {B : Hp} : ∀ {ps : List (V × V)} {qs : List (D × D)} {kvs : List (Key × D)}, PairsRep B ps qs → kvs? qs = some kvs → ∃ ws : List (Key × V), ps = ws.map (fun kv => (kV kv.1, kv.2)) ∧ KvRep B ws kvs
  | _, _, kvs, .nil, h => by cases h; exact ⟨[], rfl, .nil⟩
  | (u, v) :: ps, (x, y) :: qs, kvs, .cons h r, hk => by
    unfold kvs? at hk
    split at hk
    · rename_i k l h1 h2
      cases hk
      obtain ⟨ws, e1, e2⟩ := kvs_ok r h2
      exact ⟨(k, v) :: ws, by rw [List.map_cons, ← e1, ← key_ok h.1 h1], .cons ⟨rfl, h.2⟩ e2⟩
    · cases hk
theorem merge_ok {B : Hp} : ∀ {ws : List (Key × V)} {kvs : List (Key × D)} {w0 : List (Key × V)} {k0 : List (Key × D)}, KvRep B w0 k0 → KvRep B ws kvs → KvRep B (mergeK w0 ws) (mergeD k0 kvs)
  | _, _, _, _, h0, .nil => h0
  | (k1, v) :: ws, (k2, d) :: kvs, _, _, h0, .cons h r => by
    have h1 : k1 = k2 := h.1
    subst h1
    show KvRep B (mergeK (putK _ k1 v) ws) (mergeD (putD _ k1 d) kvs)
    exact merge_ok (kv_put h0 h.2) r
theorem pairs_len {B : Hp} {ps : List (V × V)} {qs : List (D × D)} (h : PairsRep B ps qs) : ps.length = qs.length := Paired.length h
theorem qe_disp {keys : List (Option Expr)} {values : List Expr} {l : List (AE × AE)} (h : QPs X pos keys values l) (hall : keys.all (·.isSome) = true) (hl : keys.length = values.length) (h0 : keys ≠ []) (h15 : keys.length ≤ 15) : QE X (.Dict keys values pos) (aDisp l) := by
  obtain ⟨ts, p1, s1⟩ := pps_of h
  refine ⟨_, pe_disp p1 hall hl h0 h15, fun {B _ _ _ _} b sl {_ _} k q => fun p hp => s1 (b.new (c := .dk []) hp ⟨[], upd_same, .nil⟩) sl (fun B1 ps qs H1 μ1 e1 b1 r1 q1 => ?_) (q p (b.fresh hp))⟩
  obtain ⟨h1, h2, q1⟩ := q1
  obtain ⟨w0, g1, g2⟩ := (b1.cell p _ h1).2
  cases g2
  refine ⟨g1, ?_⟩
  split at q1
  · rename_i kvs hk
    obtain ⟨ws, e2, e3⟩ := kvs_ok r1 hk
    have hlen := pairs_len r1
    rw [e2, List.length_map] at hlen
    exact ⟨ws, e2, by omega, k _ _ _ _ _ e1 (b1.mut (c := .dk (mergeD [] kvs)) h1 ⟨_, upd_same, merge_ok .nil e3⟩) (.ptr p) q1⟩
  · exact q1.elim
/-! ### methods of lists -/
def aBM (f : FM) (a : AE) (as : AA) : AE := fun ρ μ Q => a ρ μ fun x μ1 => (ptrList μ1 x).isSome = true ∧ as ρ μ1 fun xs μ2 => f x xs μ2 Q
def aAppend : FM := fun x xs μ Q => match x, xs with
  | .ptr p, [d] => (match μ p with
    | some (.lst ys) => ys.length < 100000 ∧ Q .non (updM μ p (.lst (ys ++ [d])))
    | _ => False)
  | _, _ => False
def aPopAt : FM := fun x xs μ Q => match x, xs with
  | .ptr p, [.int i] => (match μ p with
    | some (.lst ys) => -(2 ^ 63) ≤ i ∧ i < 2 ^ 63 ∧ (match seqIndex? i ys.length with
      | some k => (match ys[k]? with
        | some y => Q y (updM μ p (.lst (ys.eraseIdx k)))
        | none => False)
      | none => False)
    | _ => False)
  | _, _ => False
theorem mq_append : MtQ X "list.append" aAppend := ⟨_, mt_append, fun {B _ _ _ _ _ _} b rx r {_ _} k q => by
  unfold aAppend at q
  split at q
  · rename_i p d
    obtain ⟨v, rfl, r1⟩ := one_rep r
    cases rx
    split at q
    · rename_i ys hm
      obtain ⟨vs, h1, h2⟩ := (b.cell p _ hm).2
      exact ⟨p, vs, v, rfl, rfl, h1, sz_lt (by rw [h2.len]; exact q.1), k _ _ _ _ _ (Ex.refl _) (b.mut (c := .lst (ys ++ [d])) hm ⟨_, upd_same, h2.app (.cons r1 .nil)⟩) .non q.2⟩
    · exact q.elim
  · exact q.elim⟩
theorem mq_popAt : MtQ X "list.pop" aPopAt := ⟨_, mt_popAt, fun {B _ _ _ _ _ _} b rx r {_ _} k q => by
  unfold aPopAt at q
  split at q
  · rename_i p i
    obtain ⟨v, rfl, r1⟩ := one_rep r
    cases rx
    cases r1
    split at q
    · rename_i ys hm
      obtain ⟨vs, h1, h2⟩ := (b.cell p _ hm).2
      obtain ⟨q0, q1, q⟩ := q
      split at q
      · rename_i kk hk
        split at q
        · rename_i y hy
          obtain ⟨u, g1, g2⟩ := h2.at hy
          exact ⟨p, vs, i, kk, u, rfl, rfl, h1, q0, q1, by rw [h2.len]; exact hk, g1, k _ _ _ _ _ (Ex.refl _) (b.mut (c := .lst (ys.eraseIdx kk)) hm ⟨_, upd_same, h2.erase kk⟩) g2 q⟩
        · exact q.elim
      · exact q.elim
    · exact q.elim
  · exact q.elim⟩
theorem qe_bmL {id : String} {name : Str} {f : FM} {apos cpos : Pos} (pa : PlainAttrs "list") (slot : Slot "list" name id) (hty : typeOf (.builtin id) = pure (.type "method_descriptor")) (hm : MtQ X id f) (ho : QE X o ad) (ha : QA X (e :: es) as)
    (hp : ∀ {t1 : TE} {t2 : TA} {r : V → List V → Hp → VK → Prop}, MtR X id r → PE X o t1 → PA X (e :: es) t2 → PE X (.Call (.Attribute o name apos) (e :: es) [] cpos) (tBM X.K "list" r t1 t2)) : QE X (.Call (.Attribute o name apos) (e :: es) [] cpos) (aBM f ad as) := by
  obtain ⟨r, h1, h2⟩ := hm
  obtain ⟨t1, p1, s1⟩ := ho
  obtain ⟨t2, p2, s2⟩ := ha
  refine ⟨_, hp h1 p1 p2, fun {B _ _ _ _} b sl {_ _} k q => s1 b sl (fun B1 v d H1 μ1 e1 b1 r1 q1 => ⟨?_, s2 b1 (sl.up e1) (fun B2 u y H2 μ2 e2 b2 r2 q2 => h2 b2 (r1.up e2) r2 (fun B3 v d H3 μ3 e3 => k B3 v d H3 μ3 ((e1.trans e2).trans e3)) q2) q1.2⟩) q⟩
  obtain ⟨ys, hy⟩ := Option.isSome_iff_exists.mp q1.1
  obtain ⟨a, vs, rfl, _, g1, _⟩ := ptrList_rep (K := X.K) b1 r1 hy
  exact .inl ⟨rfl, vs, g1⟩
def rSetA : D → D → D → Mu → (Mu → Prop) → Prop := fun o i v μ Q => match o, i with
  | .ptr p, .int k => (match μ p with
    | some (.lst xs) => (match ixN xs.length k with
      | some j => Q (updM μ p (.lst (xs.set j v)))
      | none => False)
    | _ => False)
  | _, _ => False
def agSub (a b : AE) : AG := fun v ρ μ Q => a ρ μ fun o μ1 => b ρ μ1 fun i μ2 => rSetA o i v μ2 fun μ3 => Q ρ μ3
end
end DL

set_option maxHeartbeats 4000000
namespace DL
open PySem PySem.Spec PyProof.Rows L2 Evl Gd
section
variable {X : Cx} {o i c e value : Expr} {es : List Expr} {pos pos' p : Pos} {ad ay az av : AE} {as : AA}
theorem qe_append {apos cpos : Pos} (ho : QE X o ad) (ha : QA X (e :: es) as) (hbase : attributeBase o "append" X.env (eval o X.env) = eval o X.env := by rfl)
    (hfew : ((backTo cpos (starEach (e :: es) X.env)).all (fun x => !x.1) && (backToKw cpos (keywordEach [] X.env)).all (fun x => x.1.isSome)
      && decide ((e :: es).length + ([] : List Keyword).length + (if ([] : List Keyword).isEmpty then 0 else 1) < 30)) = true := by rfl)
    (hline : (apos.endLine == cpos.line) = true := by rfl) (hs : starEach (e :: es) X.env = (false, eval e X.env) :: starEach es X.env := by rfl) (hplain : (backTo cpos (starEach es X.env)).any (·.1) = false := by rfl) :
    QE X (.Call (.Attribute o "append" apos) (e :: es) [] cpos) (aBM aAppend ad as) :=
  qe_bmL PySem.F.plainAttrs_list PySem.F.slot_list_append PySem.F.type_list_append mq_append ho ha fun h1 p1 p2 => pe_bm PySem.F.plainAttrs_list PySem.F.slot_list_append PySem.F.type_list_append h1 p1 p2 hbase hfew hline hs hplain
theorem qe_popAt {apos cpos : Pos} (ho : QE X o ad) (ha : QA X (e :: es) as) (hbase : attributeBase o "pop" X.env (eval o X.env) = eval o X.env := by rfl)
    (hfew : ((backTo cpos (starEach (e :: es) X.env)).all (fun x => !x.1) && (backToKw cpos (keywordEach [] X.env)).all (fun x => x.1.isSome)
      && decide ((e :: es).length + ([] : List Keyword).length + (if ([] : List Keyword).isEmpty then 0 else 1) < 30)) = true := by rfl)
    (hline : (apos.endLine == cpos.line) = true := by rfl) (hs : starEach (e :: es) X.env = (false, eval e X.env) :: starEach es X.env := by rfl) (hplain : (backTo cpos (starEach es X.env)).any (·.1) = false := by rfl) :
    QE X (.Call (.Attribute o "pop" apos) (e :: es) [] cpos) (aBM aPopAt ad as) :=
  qe_bmL PySem.F.plainAttrs_list PySem.F.slot_list_pop PySem.F.type_list_pop mq_popAt ho ha fun h1 p1 p2 => pe_bm PySem.F.plainAttrs_list PySem.F.slot_list_pop PySem.F.type_list_pop h1 p1 p2 hbase hfew hline hs hplain
theorem qg_sub (ho : QE X o ad) (hi : QE X i ay) (ha : ∀ v, assign (.Subscript o i pos) X.env v = (do
      let ov ← holding [v] (eval o X.env)
      let iv ← holding [v, ov] (eval i X.env)
      standAt pos
      holding [v, ov, iv] (setItem ov iv v)
      release [v, ov, iv] []) := by intro _; rfl) : QG X (.Subscript o i pos) [] (agSub ad ay) := by
  obtain ⟨t1, p1, s1⟩ := ho
  obtain ⟨t2, p2, s2⟩ := hi
  refine ⟨_, pg_sub p1 p2 set_list ha, fun {B _ _ _ _ v d} b sl r {_ _} k q => s1 b sl (fun B1 v1 d1 H1 μ1 e1 b1 r1 q1 => s2 b1 (sl.up e1) (fun B2 v2 d2 H2 μ2 e2 b2 r2 q2 => ?_) q1) q⟩
  unfold rSetA at q2
  split at q2
  · rename_i p kk
    cases r1
    cases r2
    split at q2
    · rename_i xs hm
      split at q2
      · rename_i j hj
        obtain ⟨vs, h1, h2⟩ := (b2.cell p _ hm).2
        exact ⟨p, vs, kk, j, rfl, rfl, h1, by rw [h2.len]; exact hj, k _ _ _ _ _ (e1.trans e2) (b2.mut (c := .lst (xs.set j d)) hm ⟨_, upd_same, h2.set (r.up (e1.trans e2)) j⟩) (sl.up (e1.trans e2)) (Off.refl _ _) q2⟩
      · exact q2.elim
    · exact q2.elim
  · exact q2.elim
end
/-! ### promises over values -/
abbrev Ct := List D → Mu → DK → Prop
def spOf (ct : Ct) : Sp := fun vs H Q _ => ∃ (B : Hp) (μ : Mu) (ds : List D) (Qa : DK), Base B H μ ∧ RepA B vs ds ∧ ct ds μ Qa ∧ ∀ B' v d H' μ', Ex B B' → Base B' H' μ' → Rep B' v d → Qa d μ' → Q v H'
def aCall (ct : Ct) (a : AA) : AE := fun ρ μ Q => a ρ μ fun ds μ1 => ct ds μ1 Q
/-- the wish of a body -/
def EndA (Q : DK) : EndsA := { nx := fun _ μ' => ∃ μ1, Mle μ1 μ' ∧ Q .non μ1, rt := fun d μ' => ∃ μ1, Mle μ1 μ' ∧ Q d μ1 }
section
variable {P : Program} {w : World} {K : PySem.W.Frag} {mg : Str → Option Value} {base : Heap}
theorem okD {x qual : Str} {st : Stmt} {f : Addr} {fd : FuncData} {N ps : List Str} {k : Nat} {ct : Ct} (F : Fun K x qual st f fd) (S : FnScope N ps (defScope st)) (len : ∀ ds μ Q, ct ds μ Q → ds.length = ps.length)
    (body : ∀ (cdv : Value) (A : Around) (outer : List Env) (s : Shared) (H : Hp) (E : XK), Room k (A.deeper (envOfC qual (defScope st) s.heap.objs.size f cdv)) →
      ∃ au, QSs (cxOf CX0 P w K mg base N qual (defScope st) f cdv A outer s H E).nox (defBody st) au ∧ ∀ ds μ Q, ct ds μ Q → au (EndA Q) (startD N ds) μ) : FnOk P w K mg base CX0 (k + 1) f fd ps (spOf ct) := by
  refine F.ok S (fun vs H Q E h => ?_) (fun cdv A outer s H vs Q E hr h => ?_)
  · obtain ⟨B, μ, ds, Qa, b, r, hc, _⟩ := h
    rw [r.len]
    exact len _ _ _ hc
  · obtain ⟨B, μ, ds, Qa, b, r, hc, kk⟩ := h
    obtain ⟨au, ⟨t, p1, s1⟩, h2⟩ := body cdv A outer s H E hr
    refine ⟨t, p1, s1 b (Sl.start r) (A := EndA Qa) ⟨fun B' H' ρ' μ' σ' e1 b1 sl1 q1 => ?_, fun B' v d H' μ' e1 b1 r1 q1 => ?_, fun _ _ _ _ _ _ _ _ q => q.elim, fun _ _ _ _ _ _ _ _ q => q.elim⟩ (h2 ds μ Qa hc)⟩
    · obtain ⟨μ1, hle, q1⟩ := q1
      exact kk B' _ _ H' μ1 e1 (b1.drop hle) .non q1
    · obtain ⟨μ1, hle, q1⟩ := q1
      exact kk B' _ _ H' μ1 e1 (b1.drop hle) r1 q1
end
section
variable {X : Cx} {k : Nat} {ps : List Str} {ct : Ct} {x : Str} {p pos : Pos} {e o : Expr} {es : List Expr} {as : AA} {ad : AE}
theorem sim_call {t : TA} (s1 : SimA t as) {E : XK} : SimE (tCall (spOf ct) [] E t) (aCall ct as) := fun {B _ _ _ _} b sl {_ _} kk q => s1 b sl (fun B1 v d H1 μ1 e1 b1 r1 q1 => by
  show spOf ct (v ++ []) H1 _ E
  rw [List.append_nil]
  exact ⟨B1, μ1, d, _, b1, r1, q1, fun B' v d H' μ' e2 => kk B' v d H' μ' (e1.trans e2)⟩) q
theorem qe_df (D : Df X.prog X.w X.K X.mg X.base CX0 k x ps (spOf ct)) (hr : Room k X.A) (hg : Gl X x) (ha : QA X (e :: es) as) (hdb : (x == ("__debug__" : Str)) = false := by decide)
    (he : starEach (e :: es) X.env = (false, eval e X.env) :: starEach es X.env := by rfl) (hpl : (backTo pos (starEach es X.env)).any (·.1) = false := by rfl) : QE X (.Call (.Name x p) (e :: es) [] pos) (aCall ct as) := by
  obtain ⟨t, p1, s1⟩ := ha
  exact ⟨_, pe_df D hr hg p1 pass0 hdb he hpl, sim_call s1⟩
theorem qe_df0 (D : Df X.prog X.w X.K X.mg X.base CX0 k x ps (spOf ct)) (hr : Room k X.A) (hg : Gl X x) (hdb : (x == ("__debug__" : Str)) = false := by decide) : QE X (.Call (.Name x p) [] [] pos) (aCall ct aNil) :=
  ⟨_, pe_df0 D hr hg pass0 hdb, sim_call fun {B _ _ _ _} b0 s0 {_ _} k q => k B _ _ _ _ (Ex.refl B) b0 .nil q⟩
/-! ### globals -/
theorem qe_gI {i : Int} {t : Tok} (hg : Gl X x) (hm : X.mg x = some (.int i t)) (hd : (x == ("__debug__" : Str)) = false := by decide) : QE X (.Name x pos) (aC (.int i)) := ⟨_, pe_gI hg hm hd, sim_c fun _ => .int i⟩
theorem qe_gS {z : Str} {t : Tok} (hg : Gl X x) (hm : X.mg x = some (.str z t)) (hd : (x == ("__debug__" : Str)) = false := by decide) : QE X (.Name x pos) (aC (.str z)) := ⟨_, pe_gS hg hm hd, sim_c fun _ => .str z⟩
theorem qe_gR {a : Addr} (hg : Gl X x) (hm : X.mg x = some (.ref a)) (hd : (x == ("__debug__" : Str)) = false := by decide) : QE X (.Name x pos) (aC (.ptr a)) := ⟨_, pe_gR hg hm hd, sim_c fun _ => .ptr a⟩
theorem qe_bT {T : String} (hg : Gl X x) (hm : X.mg x = none) (hv : bootBuiltins x = some (.type T)) (hn : x ≠ "__name__" := by decide) (hd : (x == ("__debug__" : Str)) = false := by decide) : QE X (.Name x pos) (aC (.ty T)) := ⟨_, pe_bT hg hm hv hn hd, sim_c fun _ => .ty T⟩
/-! ### isinstance of built-in classes -/
def tyOf (μ : Mu) : D → Option String
  | .non => some "NoneType"
  | .bl _ => some "bool"
  | .int _ => some "int"
  | .str _ => some "str"
  | .tup _ => some "tuple"
  | .tuz _ => some "tuple"
  | .ptr a => (match μ a with
    | some (.lst _) => some "list"
    | some (.lsr _) => some "list"
    | some (.dk _) => some "dict"
    | some (.dt _) => some "dict"
    | _ => none)
  | .ty _ => none
theorem tyOf_ok {K : PySem.W.Frag} {B H : Hp} {μ : Mu} {v : V} {d : D} {t : String} (b : Base B H μ) (r : Rep B v d) (h : tyOf μ d = some t) : TyX K H v (.type t) := by
  cases r with
  | non => cases h; exact .base .non
  | bl c => cases h; exact .base (.bl c)
  | int c => cases h; exact .base (.int c)
  | str c => cases h; exact .base (.str c)
  | ty n => cases h
  | tup h1 r => cases h; exact .base (.tup (b.ex _ _ h1))
  | tuz h1 ho r => cases h; exact .fTuple (b.ex _ _ h1)
  | ptr a =>
    unfold tyOf at h
    simp only at h
    split at h
    · rename_i ds hm
      cases h
      obtain ⟨vs, h1, h2⟩ := (b.cell a _ hm).2
      exact .base (.lst h1)
    · rename_i ds hm
      cases h
      obtain ⟨vs, h1, h2⟩ := (b.cell a _ hm).2
      rcases h1 with h1 | ⟨o, h1⟩
      · exact .base (.lst h1)
      · exact .base (.frz h1)
    · rename_i ds hm
      cases h
      obtain ⟨vs, h1, h2⟩ := (b.cell a _ hm).2
      exact .base (.dK h1)
    · rename_i ds hm
      cases h
      obtain ⟨vs, h1, h2⟩ := (b.cell a _ hm).2
      exact .base (.dT h1)
    · cases h
def kitD : String → String → Option Bool
  | "NoneType", "int" => some false | "bool", "int" => some true | "int", "int" => some true | "str", "int" => some false | "tuple", "int" => some false | "list", "int" => some false | "dict", "int" => some false
  | "NoneType", "bool" => some false | "bool", "bool" => some true | "int", "bool" => some false | "str", "bool" => some false | "tuple", "bool" => some false | "list", "bool" => some false | "dict", "bool" => some false
  | "NoneType", "str" => some false | "bool", "str" => some false | "int", "str" => some false | "str", "str" => some true | "tuple", "str" => some false | "list", "str" => some false | "dict", "str" => some false
  | "NoneType", "tuple" => some false | "bool", "tuple" => some false | "int", "tuple" => some false | "str", "tuple" => some false | "tuple", "tuple" => some true | "list", "tuple" => some false | "dict", "tuple" => some false
  | _, _ => none
theorem kitD_ok {a t : String} {r : Bool} (h : kitD a t = some r) : kitB a t = some r := by
  unfold kitD at h
  split at h <;> first | (cases h; decide +kernel) | cases h
def aIsi : FC := fun xs μ Q => match xs with
  | [x, .ty T] => (match (tyOf μ x).bind (kitD · T) with
    | some b => Q (.bl b) μ
    | none => False)
  | _ => False
theorem cq_isi : CallQ X (.builtin "isinstance") aIsi := ⟨_, call_isi, fun {B _ _ _ _} b r {_ _} k q => by
  unfold aIsi at q
  split at q
  · rename_i x T
    obtain ⟨v, u, rfl, r1, r2⟩ := two_rep r
    cases r2
    split at q
    · rename_i c h
      obtain ⟨t, h1, h2⟩ := Option.bind_eq_some_iff.mp h
      exact ⟨v, .ty T, _, _, c, rfl, .ty _, tyOf_ok b r1 h1, kit_ty (kitD_ok h2), k _ _ _ _ _ (Ex.refl _) b (.bl c) q⟩
    · exact q.elim
  · exact q.elim⟩
/-! ### fields -/
def aFld (K : PySem.W.Frag) (f : Str) (a : AE) : AE := fun ρ μ Q => a ρ μ fun x μ1 => match x with
  | .ptr p => (match μ1 p with
    | some (.ins C fs) => Cls K C ∧ NoAttr K C f ∧ (match fs.lookup f with
      | some d => Q d μ1
      | none => False)
    | _ => False)
  | _ => False
theorem kv_lookup {B : Hp} {f : Str} : ∀ {ws : List (Str × V)} {fs : List (Str × D)} {d : D}, KvRep B ws fs → fs.lookup f = some d → ∃ v, ws.lookup f = some v ∧ Rep B v d
  | _, _, d, .nil, h => by cases h
  | (k1, v) :: ws, (k2, e) :: fs, d, .cons h r, hl => by
    have h1 : k1 = k2 := h.1
    subst h1
    rw [List.lookup_cons] at hl ⊢
    cases z : f == k1 with
    | true =>
      rw [z] at hl
      cases hl
      exact ⟨v, rfl, h.2⟩
    | false =>
      rw [z] at hl
      exact kv_lookup r hl
theorem qe_fld {f : Str} (he : QE X e ad) (hb : attributeBase e f X.env (eval e X.env) = eval e X.env) : QE X (.Attribute e f pos) (aFld X.K f ad) := by
  obtain ⟨t, p1, s1⟩ := he
  refine ⟨_, pe_fld p1 hb, fun {B _ _ _ _} b sl {_ _} k q => s1 b sl (fun B1 v d H1 μ1 e1 b1 r1 q1 => ?_) q⟩
  cases r1 <;> first | exact q1.elim | skip
  rename_i a
  simp only at q1
  split at q1
  · rename_i C fs hm
    obtain ⟨c1, c2, q1⟩ := q1
    split at q1
    · rename_i d hl
      obtain ⟨dx, ws, h1, h2⟩ := (b1.cell a _ hm).2
      obtain ⟨v, h3, h4⟩ := kv_lookup h2 hl
      exact ⟨a, C, dx, ws, v, rfl, h1, c1, c2, h3, k _ _ _ _ _ e1 b1 h4 q1⟩
    · exact q1.elim
  · exact q1.elim
def putFD (f : Str) (v : D) : List (Str × D) → List (Str × D)
  | [] => [(f, v)]
  | (g, x) :: r => if f = g then (g, v) :: r else (g, x) :: putFD f v r
/-- e.p, a property of the class -/
def aProp (CS : Addr → Prop) (ct : Ct) (a : AE) : AE := fun ρ μ Q => a ρ μ fun x μ1 => match x with
  | .ptr p => (match μ1 p with
    | some (.ins C fs) => CS C ∧ ct [.ptr p] μ1 Q
    | _ => False)
  | _ => False
theorem qe_propIn {fd : FuncData} {CS : Addr → Prop} {f : Str} {g : Addr} (h : ∀ C, CS C → Cls X.K C ∧ ∃ p, PropOf X.K C f p g) (F : FnOk X.prog X.w X.K X.mg X.base CX0 k g fd ps (spOf ct)) (hr : Room (k + 1) X.A) (hb : L2.Binds X.K fd ps []) (he : QE X e ad)
    (hab : attributeBase e f X.env (eval e X.env) = eval e X.env := by rfl) : QE X (.Attribute e f pos) (aProp CS ct ad) := by
  obtain ⟨t, p1, s1⟩ := he
  refine ⟨_, pe_propIn h F hr hb p1 hab, fun {B _ _ _ _} b sl {_ _} k q => s1 b sl (fun B1 v d H1 μ1 e1 b1 r1 q1 => ?_) q⟩
  cases r1 <;> first | exact q1.elim | skip
  rename_i a
  simp only at q1
  split at q1
  · rename_i C fs hm
    obtain ⟨dx, ws, h1, h2⟩ := (b1.cell a _ hm).2
    exact ⟨C, q1.1, a, dx, ws, rfl, h1, B1, μ1, _, _, b1, .cons (.ptr a) .nil, q1.2, fun B' v d H' μ' e2 => k B' v d H' μ' (e1.trans e2)⟩
  · exact q1.elim
/-- o.m(..) -/
def aMeth (CS : Addr → Prop) (m : Str) (ct : Ct) (a : AE) (as : AA) : AE := fun ρ μ Q => a ρ μ fun x μ1 => match x with
  | .ptr p => (match μ1 p with
    | some (.ins C fs) => CS C ∧ fs.lookup m = none ∧ as ρ μ1 fun ds μ2 => ct (.ptr p :: ds) μ2 Q
    | _ => False)
  | _ => False
theorem kv_lookup0 {B : Hp} {f : Str} : ∀ {ws : List (Str × V)} {fs : List (Str × D)}, KvRep B ws fs → fs.lookup f = none → ws.lookup f = none
  | _, _, .nil, h => rfl
  | (k1, v) :: ws, (k2, e) :: fs, .cons h r, hl => by
    have h1 : k1 = k2 := h.1
    subst h1
    rw [List.lookup_cons] at hl ⊢
    cases z : f == k1 with
    | true => rw [z] at hl; cases hl
    | false =>
      rw [z] at hl
      exact kv_lookup0 r hl
end
/-! ### data of any depth -/
mutual
def D.pd (f : Addr → Option PyData) : D → Option PyData
  | .non => some .none
  | .bl b => some (.bool b)
  | .int i => some (.int i)
  | .str z => some (.str z)
  | .tup xs => (D.pds f xs).map .tuple
  | .tuz xs => (D.pds f xs).map .tuple
  | .ptr a => f a
  | .ty _ => none
def D.pds (f : Addr → Option PyData) : List D → Option (List PyData)
  | [] => some []
  | d :: r => match d.pd f, D.pds f r with
    | some x, some xs => some (x :: xs)
    | _, _ => none
end
theorem pd_ok {K : PySem.W.Frag} {B H : Hp} {f : Addr → Option PyData} (eb : Ex B H) (hf : ∀ a x, f a = some x → Dp K H (.ref a) x) : ∀ (d : D) (v : V) (x : PyData), Rep B v d → d.pd f = some x → Dp K H v x := by
  intro d
  refine D.rec (motive_1 := fun d => ∀ (v : V) (x : PyData), Rep B v d → d.pd f = some x → Dp K H v x) (motive_2 := fun ds => ∀ (vs : List V) (xs : List PyData), RepA B vs ds → D.pds f ds = some xs → DpAll K H vs xs) ?_ ?_ ?_ ?_ ?_ ?_ ?_ ?_ ?_ ?_ d
  · intro v x r h; cases r; unfold D.pd at h; cases h; exact .non
  · intro b v x r h; cases r; unfold D.pd at h; cases h; exact .bl b
  · intro b v x r h; cases r; unfold D.pd at h; cases h; exact .int b
  · intro b v x r h; cases r; unfold D.pd at h; cases h; exact .str b
  · intro xs ih v x r h
    cases r with
    | tup h1 r =>
      unfold D.pd at h
      obtain ⟨ys, h2, rfl⟩ := Option.map_eq_some_iff.mp h
      exact .tup (st_of (eb _ _ h1)) (ih _ _ r h2)
  · intro xs ih v x r h
    cases r with
    | @tuz _ o _ _ h1 ho r =>
      unfold D.pd at h
      obtain ⟨ys, h2, rfl⟩ := Option.map_eq_some_iff.mp h
      exact .tup (.inl (.inr ⟨o, eb _ _ h1⟩)) (ih _ _ r h2)
  · intro a v x r h; cases r; unfold D.pd at h; exact hf a x h
  · intro n v x r h; unfold D.pd at h; cases h
  · intro vs xs r h; cases r; unfold D.pds at h; cases h; exact .nil
  · intro d ds ih1 ih2 vs xs r h
    cases r with
    | cons r1 r2 =>
      unfold D.pds at h
      split at h
      · rename_i y ys h1 h2
        cases h
        exact .cons (ih1 _ _ r1 h1) (ih2 _ _ r2 h2)
      · cases h
theorem pds_ok {K : PySem.W.Frag} {B H : Hp} {f : Addr → Option PyData} (eb : Ex B H) (hf : ∀ a x, f a = some x → Dp K H (.ref a) x) : ∀ (ds : List D) (vs : List V) (xs : List PyData), RepA B vs ds → D.pds f ds = some xs → DpAll K H vs xs
  | [], _, _, .nil, h => by unfold D.pds at h; cases h; exact .nil
  | d :: ds, _, xs, .cons r1 r2, h => by
    unfold D.pds at h
    split at h
    · rename_i y ys h1 h2
      cases h
      exact .cons (pd_ok eb hf d _ _ r1 h1) (pds_ok eb hf ds _ _ r2 h2)
    · cases h
/-- what a list at an address holds, up to n lists deep -/
def pdn (μ : Mu) : Nat → Addr → Option PyData
  | 0, _ => none
  | n + 1, a => match listM μ a with
    | some ds => (D.pds (pdn μ n) ds).map .list
    | none => none
theorem pdn_ok {K : PySem.W.Frag} {B H : Hp} {μ : Mu} (b : Base B H μ) : ∀ (n : Nat) (a : Addr) (x : PyData), pdn μ n a = some x → Dp K H (.ref a) x
  | 0, a, x, h => by cases h
  | n + 1, a, x, h => by
    unfold pdn at h
    split at h
    · rename_i ds hd
      obtain ⟨xs, h1, rfl⟩ := Option.map_eq_some_iff.mp h
      obtain ⟨vs, h2, h3⟩ := listM_rep (K := K) b hd
      exact .lst h2 (pds_ok b.ex (pdn_ok b n) ds vs xs h3 h1)
    · cases h
def deep (μ : Mu) (d : D) : Option PyData := d.pd (pdn μ 3)
theorem deep_ok {K : PySem.W.Frag} {B H : Hp} {μ : Mu} {v : V} {d : D} {x : PyData} (b : Base B H μ) (r : Rep B v d) (h : deep μ d = some x) : Dp K H v x := pd_ok b.ex (pdn_ok b 3) d v x r h
def aEqD : F2 := fun x y μ Q => match deep μ x, deep μ y with
  | some d, some e => SeqAt.shaped d = true ∧ SeqAt.shaped e = true ∧ Q (.bl (PyData.eqv d e)) μ
  | _, _ => False
def aNeD : F2 := fun x y μ Q => match deep μ x, deep μ y with
  | some d, some e => SeqAt.shaped d = true ∧ SeqAt.shaped e = true ∧ Q (.bl (!PyData.eqv d e)) μ
  | _, _ => False
section
variable {X : Cx}
theorem oq_eqD (hu : X.A.units + 64 < cLine) : OpQ X (compareOp .Eq) aEqD := ⟨_, op_eqD hu, fun {B _ _ _ _ _ _} b rx ry {_ _} k q => by
  unfold aEqD at q
  split at q
  · rename_i d e h1 h2
    exact ⟨d, e, deep_ok b rx h1, deep_ok b ry h2, q.1, q.2.1, k _ _ _ _ _ (Ex.refl _) b (.bl _) q.2.2⟩
  · exact q.elim⟩
theorem oq_neD (hu : X.A.units + 64 < cLine) : OpQ X (compareOp .NotEq) aNeD := ⟨_, op_neD hu, fun {B _ _ _ _ _ _} b rx ry {_ _} k q => by
  unfold aNeD at q
  split at q
  · rename_i d e h1 h2
    exact ⟨d, e, deep_ok b rx h1, deep_ok b ry h2, q.1, q.2.1, k _ _ _ _ _ (Ex.refl _) b (.bl _) q.2.2⟩
  · exact q.elim⟩
def aRepr : FC := fun xs μ Q => match xs with
  | [x] => (match x.v, deep μ x with
    | none, some d => PyData.showable d = true ∧ PyData.hasDict d = false ∧ d.depth ≤ 100 ∧ d.shown.length ≤ sizeLine ∧ Q (.str d.shown) μ
    | _, _ => False)
  | _ => False
theorem cq_repr {k : Nat} (ca : Calm X.A) (hr : Room k X.A) : CallQ X (.builtin "repr") aRepr := ⟨_, call_repr ca hr, fun {B _ _ _ _} b r {_ _} k q => by
  unfold aRepr at q
  split at q
  · obtain ⟨v, rfl, r1⟩ := one_rep r
    split at q
    · rename_i d hv hd
      obtain ⟨q1, q2, q3, q4, q5⟩ := q
      have hdp := deep_ok (K := X.K) b r1 hd
      cases r1 <;> first | (cases hv; done) | skip
      · cases hd
      · exact ⟨_, d, rfl, hdp, q1, q2, q3, q4, k _ _ _ _ _ (Ex.refl _) b (.str _) q5⟩
      · exact ⟨_, d, rfl, hdp, q1, q2, q3, q4, k _ _ _ _ _ (Ex.refl _) b (.str _) q5⟩
      · exact ⟨_, d, rfl, hdp, q1, q2, q3, q4, k _ _ _ _ _ (Ex.refl _) b (.str _) q5⟩
    · exact q.elim
  · exact q.elim⟩
end
end DL

set_option maxHeartbeats 4000000
/-! dict(xs), xs a tuple of pairs whose keys are ints and texts: the tuple is one of which it is known that it has no dict of its own (made by tuple(list)). -/
namespace Gd
open PySem PySem.Spec PyProof.Rows L2
/-- a tuple that was made, and has no dict -/
def TupZ (H : Hp) (a : Addr) (xs : List V) : Prop := ∃ o : Obj, o.dict = none ∧ H a = some (.frz o (.tup xs))
theorem TupZ.sq {K : PySem.W.Frag} {H : Hp} {a : Addr} {xs : List V} (h : TupZ H a xs) : SqT K H a xs := by
  obtain ⟨o, _, e⟩ := h
  exact .inl (.inr ⟨o, e⟩)
theorem TupZ.rd {H : Hp} {a : Addr} {xs : List V} (h : TupZ H a xs) : Rd H a (.tup xs) := by
  obtain ⟨o, _, e⟩ := h
  exact .inr ⟨o, e⟩
section
variable {X : Cx}
/-- tuple(l) of a list -/
theorem call_tuple_z : CallR X (.type "tuple") (fun xs H Q => ∃ p ys, xs = [.ref p] ∧ SqL X.K H p ys ∧ ∀ l o, H l = none → Obj.dict o = none → Q (.ref l) (upd H l (.frz o (.tup ys)))) := by
  intro pins s σ H xs us Q I r h
  obtain ⟨p, ys, rfl, hq, q⟩ := h
  obtain ⟨u, rfl, rx⟩ := vals1 r
  cases rx
  obtain ⟨its, r', pl, hz⟩ := I.list hq
  have hlen := r'.length
  refine call_tuple_list pl.isList (fun h' kp => ?_) (by simp only [List.size_toArray] <;> omega)
  have I1 : Inv X pins σ H { s with heap := h' } := I.kept (t' := s.toks) kp
  have e0 : (h'.push { cls := .type "tuple", data := .seq its.toArray }).get? h'.objs.size = some { cls := .type "tuple", data := .seq its.toArray } := Heap.get?_push_size _ rfl
  have I2 : Inv X pins σ (upd H h'.objs.size (.frz { cls := .type "tuple", data := .seq its.toArray } (.tup ys))) { s with heap := h'.push { cls := .type "tuple", data := .seq its.toArray } } :=
    I1.laid (t' := s.toks) (fun b o e => Heap.get?_push_of_some _ e) (Nat.le_refl _) (show ObjOk X.prog X.w _ _ _ (.frz _ (.tup ys)) from ⟨e0, hz, its, r', IsTup.new _ _⟩)
  exact ⟨.ref h'.objs.size, _, I2, rfl, q _ _ (I1.hok.fresh (Nat.le_refl _)) rfl⟩
/-- dict(t) of a tuple of pairs (key, value): later pairs win, the place is the first one's -/
theorem call_dictT (hcalm : X.calm = true) : CallR X (.type "dict") (fun xs H Q => ∃ (a : Addr) (ps : List Addr) (kvs : List (Key × V)), xs = [.ref a] ∧ TupZ H a (ps.map V.ref) ∧ Paired (fun p kv => SqT X.K H p [kV kv.1, kv.2]) ps kvs ∧
    ∀ p, H p = none → Q (.ref p) (upd H p (.dK (mergeK [] kvs)))) := by
  intro pins s σ H xs us Q I r q
  obtain ⟨a, ps, kvs, ex, hq, hp, q⟩ := q
  subst ex
  obtain ⟨u, eu, rx⟩ := vals1 r
  subst eu
  cases rx
  obtain ⟨o, od, e⟩ := hq
  obtain ⟨ho, hz, its, rv, pl⟩ := (show s.heap.get? a = some o ∧ _ from I.hok _ _ e)
  have ei := refs_at rv
  subst ei
  rw [List.length_map] at hz
  obtain ⟨prs, rel, hl, hpr⟩ := pairs_of I hp
  obtain ⟨o', ho', hc, n, hdat⟩ := pl
  rw [ho] at ho'
  obtain rfl := Option.some.inj ho'
  obtain ⟨pv, hpv⟩ : ∃ pv : List (Value × Value), pv.length = prs.length ∧ ∀ (j : Nat) (q : Key × Value), prs[j]? = some q → ∃ b u, ps[j]? = some b ∧ pv[j]? = some (u, q.2) ∧ IsTup s.heap b #[u, q.2] ∧ keyIs q.1 u = true := by
    have key : ∀ (m : Nat) (ps : List Addr) (prs : List (Key × Value)), prs.length = m → (∀ (j : Nat) (q : Key × Value), prs[j]? = some q → ∃ (b : Addr) (u : Value), ps[j]? = some b ∧ IsTup s.heap b #[u, q.2] ∧ keyIs q.1 u = true) →
        ∃ pv : List (Value × Value), pv.length = prs.length ∧ ∀ (j : Nat) (q : Key × Value), prs[j]? = some q → ∃ b u, ps[j]? = some b ∧ pv[j]? = some (u, q.2) ∧ IsTup s.heap b #[u, q.2] ∧ keyIs q.1 u = true := by
      intro m
      induction m with
      | zero =>
        intro ps prs h0 _
        obtain rfl := List.length_eq_zero_iff.mp h0
        exact ⟨[], rfl, fun j q e => by simp at e⟩
      | succ m ih =>
        intro ps prs h0 hh
        obtain ⟨q0, rest, rfl⟩ : ∃ q0 rest, prs = q0 :: rest := by
          cases prs with
          | nil => simp at h0
          | cons q0 rest => exact ⟨q0, rest, rfl⟩
        obtain ⟨b0, u0, e1, e2, e3⟩ := hh 0 q0 rfl
        obtain ⟨pv, l, hpv⟩ := ih ps.tail rest (by simpa using h0) fun j q e => by
          obtain ⟨b, u, e1, e2, e3⟩ := hh (j + 1) q (by simpa using e)
          exact ⟨b, u, by rw [List.getElem?_tail]; exact e1, e2, e3⟩
        refine ⟨(u0, q0.2) :: pv, by simp [l], fun j q e => ?_⟩
        cases j with
        | zero =>
          obtain rfl : q0 = q := Option.some.inj e
          exact ⟨b0, u0, e1, rfl, e2, e3⟩
        | succ j =>
          obtain ⟨b, u, f1, f2, f3, f4⟩ := hpv j q (by simpa using e)
          exact ⟨b, u, by rw [List.getElem?_tail] at f1; exact f1, by simpa using f2, f3, f4⟩
    exact key prs.length ps prs rfl hpr
  have pvl := hpv.1
  have get : ∀ (j : Nat) (k v : Value), pv[j]? = some (k, v) → ∃ q : Key × Value, prs[j]? = some q ∧ q.2 = v ∧ ∃ b, ps[j]? = some b ∧ IsTup s.heap b #[k, v] ∧ keyIs q.1 k = true := by
    intro j k v hj
    have lt : j < prs.length := by
      rw [← pvl]
      exact (List.getElem?_eq_some_iff.mp hj).1
    obtain ⟨b, u, f1, f2, f3, f4⟩ := hpv.2 j prs[j] (List.getElem?_eq_getElem lt)
    rw [hj] at f2
    obtain ⟨rfl, rfl⟩ := Prod.mk.inj (Option.some.inj f2)
    exact ⟨prs[j], List.getElem?_eq_getElem lt, rfl, b, f1, f3, f4⟩
  refine PySem.call_dict_pairs (knd := mixKind X.prog X.w) (kvs := prs) (PairArg.tuple a (ps.map Value.ref).toArray (fun j => ps.getD j 0) pv) (I.ok.hd hcalm) (show PlainSeq "tuple" s.heap a _ ∧ PairItems s.heap _ _ pv from ⟨⟨o, n, ho, hc, od, hdat⟩, by simp [pvl, hl], fun j k v hj => ?_⟩) ⟨by rw [pvl], fun j k v hj => ?_⟩ (by rw [pvl, hl]; exact hz) fun h' tk hd' k => ?_
  · obtain ⟨q, e1, e2, b, e3, e4, e5⟩ := get j k v hj
    refine ⟨?_, .inl ?_⟩
    · simp [e3, List.getD_eq_getElem?_getD]
    · show s.heap.IsTuple (ps.getD j 0) #[k, v]
      rw [List.getD_eq_getElem?_getD, e3]
      exact e4
  · obtain ⟨q, e1, e2, b, e3, e4, e5⟩ := get j k v hj
    exact ⟨q.1, by rw [e1, ← e2], e5⟩
  · have hm : (s.heap.objs.size == sysModules) = false := beq_eq_false_iff_ne.mpr (Nat.ne_of_gt I.big)
    have hlen : (mergeK [] kvs).length ≤ sizeLine := by
      refine Nat.le_trans (length_mergeK kvs []) ?_
      rw [List.length_nil, Nat.zero_add, rel.length, hl]
      exact hz
    exact ⟨.ref s.heap.objs.size, upd H s.heap.objs.size (.dK (mergeK [] kvs)), I.laid (t' := tk) (fun b o e => k b o (by simp) e) (Nat.le_refl _) (show ObjOk X.prog X.w _ _ _ (.dK (mergeK [] kvs)) from ⟨hlen, hm, merged [] prs, KV.merge rel .nil, hd'⟩), rfl, q _ (I.hok.fresh (Nat.le_refl _))⟩
end
end Gd

set_option maxHeartbeats 4000000
namespace DL
open PySem PySem.Spec PyProof.Rows L2 Evl Gd
theorem updM_comm {μ : Mu} {a b : Addr} {x y : Cell} (h : a ≠ b) : updM (updM μ a x) b y = updM (updM μ b y) a x := by
  funext c
  unfold updM
  by_cases h1 : c = b
  · by_cases h2 : c = a
    · exact absurd (h2.symm.trans h1) h
    · rw [if_pos h1, if_neg h2, if_pos h1]
  · by_cases h2 : c = a
    · rw [if_neg h1, if_pos h2, if_pos h2]
    · rw [if_neg h1, if_neg h2, if_neg h2, if_neg h1]
theorem fresh_upd {μ : Mu} {p q : Addr} {c : Cell} (h : updM μ p c q = none) : q ≠ p ∧ μ q = none := by
  by_cases e : q = p
  · subst e
    rw [updM_same] at h
    cases h
  · rw [updM_ne e] at h
    exact ⟨e, h⟩
theorem fresh_ne {μ : Mu} {p q : Addr} {c : Cell} (h : μ q = none) (hp : μ p = some c) : q ≠ p := fun e => by rw [e, hp] at h; cases h
theorem Mle.upd {μ μ' : Mu} {p : Addr} {c : Cell} (h : Mle μ μ') : Mle (updM μ p c) (updM μ' p c) := fun a o e => by
  by_cases z : a = p
  · subst z
    rw [updM_same] at e ⊢
    exact e
  · rw [updM_ne z] at e ⊢
    exact h a o e
/-- data of at most n levels, without lists -/
def D.flat : Nat → D → Bool
  | _, .non => true
  | _, .bl _ => true
  | _, .int _ => true
  | _, .str z => PyData.strOk z
  | n + 1, .tup xs => xs.all (D.flat n)
  | n + 1, .tuz xs => xs.all (D.flat n)
  | _, _ => false
def D.py (d : D) : PyData := (d.pd fun _ => none).getD .none
theorem pds_of {f : Addr → Option PyData} {g : D → PyData} : ∀ {xs : List D}, (∀ x ∈ xs, x.pd f = some (g x)) → D.pds f xs = some (xs.map g)
  | [], _ => by unfold D.pds; rfl
  | x :: xs, h => by
    unfold D.pds
    rw [h x (List.mem_cons_self ..), pds_of fun y hy => h y (List.mem_cons_of_mem _ hy)]
    rfl
theorem all_lay {g : D → PyData} : ∀ {xs : List D}, (∀ x ∈ xs, (g x).canLay0 = true) → PyData.canLayAll0 (xs.map g) = true
  | [], _ => by unfold PyData.canLayAll0; rfl
  | x :: xs, h => by
    rw [List.map_cons]
    unfold PyData.canLayAll0
    rw [h x (List.mem_cons_self ..), all_lay fun y hy => h y (List.mem_cons_of_mem _ hy)]
    rfl
theorem all_depth {g : D → PyData} {n : Nat} : ∀ {xs : List D}, (∀ x ∈ xs, (g x).depth ≤ n) → PyData.depthAll (xs.map g) ≤ n
  | [], _ => by unfold PyData.depthAll; exact Nat.zero_le _
  | x :: xs, h => by
    rw [List.map_cons]
    unfold PyData.depthAll
    have h1 := h x (List.mem_cons_self ..)
    have h2 := all_depth (g := g) (n := n) (xs := xs) fun y hy => h y (List.mem_cons_of_mem _ hy)
    omega
theorem flat_ok : ∀ (n : Nat) (d : D), d.flat n = true → (∀ f, d.pd f = some d.py) ∧ d.py.canLay0 = true ∧ d.py.depth ≤ n
  | n, .non, _ => ⟨fun f => by unfold D.py D.pd; rfl, by unfold D.py D.pd; rfl, by unfold D.py D.pd; exact Nat.zero_le _⟩
  | n, .bl b, _ => ⟨fun f => by unfold D.py D.pd; rfl, by unfold D.py D.pd; rfl, by unfold D.py D.pd; exact Nat.zero_le _⟩
  | n, .int b, _ => ⟨fun f => by unfold D.py D.pd; rfl, by unfold D.py D.pd; rfl, by unfold D.py D.pd; exact Nat.zero_le _⟩
  | n, .str b, h => ⟨fun f => by unfold D.py D.pd; rfl, by
      unfold D.py D.pd
      cases n <;> exact h, by unfold D.py D.pd; exact Nat.zero_le _⟩
  | n + 1, .tup xs, h => by
    have h : xs.all (D.flat n) = true := h
    have hx : ∀ x ∈ xs, x.flat n = true := fun x hx => List.all_eq_true.mp h x hx
    have e : ∀ f, (D.tup xs).pd f = some (.tuple (xs.map D.py)) := fun f => by
      unfold D.pd
      rw [pds_of fun x h1 => (flat_ok n x (hx x h1)).1 f]
      rfl
    have e2 : (D.tup xs).py = .tuple (xs.map D.py) := by unfold D.py; rw [e]; rfl
    rw [e2]
    refine ⟨e, ?_, ?_⟩
    · unfold PyData.canLay0
      exact all_lay fun x h1 => (flat_ok n x (hx x h1)).2.1
    · unfold PyData.depth
      have := all_depth (g := D.py) (n := n) (xs := xs) fun x h1 => (flat_ok n x (hx x h1)).2.2
      omega
  | n + 1, .tuz xs, h => by
    have h : xs.all (D.flat n) = true := h
    have hx : ∀ x ∈ xs, x.flat n = true := fun x hx => List.all_eq_true.mp h x hx
    have e : ∀ f, (D.tuz xs).pd f = some (.tuple (xs.map D.py)) := fun f => by
      unfold D.pd
      rw [pds_of fun x h1 => (flat_ok n x (hx x h1)).1 f]
      rfl
    have e2 : (D.tuz xs).py = .tuple (xs.map D.py) := by unfold D.py; rw [e]; rfl
    rw [e2]
    refine ⟨e, ?_, ?_⟩
    · unfold PyData.canLay0
      exact all_lay fun x h1 => (flat_ok n x (hx x h1)).2.1
    · unfold PyData.depth
      have := all_depth (g := D.py) (n := n) (xs := xs) fun x h1 => (flat_ok n x (hx x h1)).2.2
      omega
  | 0, .tup _, h => by cases h
  | 0, .tuz _, h => by cases h
  | 0, .ptr _, h => by cases h
  | _ + 1, .ptr _, h => by cases h
  | 0, .ty _, h => by cases h
  | _ + 1, .ty _, h => by cases h
theorem py_tup {n : Nat} {xs : List D} (h : (D.tup xs).flat n = true) : (D.tup xs).py = .tuple (xs.map D.py) := by
  cases n with
  | zero => cases h
  | succ n =>
    have h : xs.all (D.flat n) = true := h
    have e : (D.tup xs).pd (fun _ => none) = some (.tuple (xs.map D.py)) := by
      unfold D.pd
      rw [pds_of fun x h1 => (flat_ok n x (List.all_eq_true.mp h x h1)).1 _]
      rfl
    show ((D.tup xs).pd fun _ => none).getD .none = _
    rw [e]
    rfl
theorem py_tuz {n : Nat} {xs : List D} (h : (D.tuz xs).flat n = true) : (D.tuz xs).py = .tuple (xs.map D.py) := by
  cases n with
  | zero => cases h
  | succ n =>
    have h : xs.all (D.flat n) = true := h
    have e : (D.tuz xs).pd (fun _ => none) = some (.tuple (xs.map D.py)) := by
      unfold D.pd
      rw [pds_of fun x h1 => (flat_ok n x (List.all_eq_true.mp h x h1)).1 _]
      rfl
    show ((D.tuz xs).pd fun _ => none).getD .none = _
    rw [e]
    rfl
theorem deep_flat {n : Nat} {d : D} {μ : Mu} (h : d.flat n = true) : deep μ d = some d.py := (flat_ok n d h).1 _
theorem deep_list {n : Nat} {μ : Mu} {a : Addr} {ys : List D} (hl : listM μ a = some ys) (h : ∀ y ∈ ys, y.flat n = true) : deep μ (.ptr a) = some (.list (ys.map D.py)) := by
  unfold deep D.pd pdn
  rw [hl]
  show (D.pds (pdn μ 2) ys).map PyData.list = _
  rw [pds_of fun x h1 => (flat_ok n x (h x h1)).1 _]
  rfl
theorem shaped_flat {n : Nat} {d : D} (h : d.flat n = true) (hn : n ≤ 64) : SeqAt.shaped d.py = true := by
  obtain ⟨_, h1, h2⟩ := flat_ok n d h
  unfold SeqAt.shaped
  rw [h1, Bool.true_and]
  exact decide_eq_true (by omega)
theorem shaped_list {n : Nat} {ys : List D} (h : ∀ y ∈ ys, y.flat n = true) (hn : n ≤ 63) : SeqAt.shaped (.list (ys.map D.py)) = true := by
  unfold SeqAt.shaped
  have h1 : (PyData.list (ys.map D.py)).canLay0 = true := by
    unfold PyData.canLay0
    exact all_lay fun x h1 => (flat_ok n x (h x h1)).2.1
  rw [h1, Bool.true_and]
  refine decide_eq_true ?_
  unfold PyData.depth
  have := all_depth (g := D.py) (n := n) (xs := ys) fun x h1 => (flat_ok n x (h x h1)).2.2
  omega
theorem shaped_nil : SeqAt.shaped (.list []) = true := by decide +kernel
/-- xs != [] -/
theorem ne_nil {n : Nat} {μ : Mu} {a e : Addr} {ys : List D} {Q : DK} (h1 : listM μ a = some ys) (h2 : listM μ e = some []) (h : ∀ y ∈ ys, y.flat n = true) (hn : n ≤ 63) : aNeD (.ptr a) (.ptr e) μ Q = Q (.bl (!ys.isEmpty)) μ := by
  unfold aNeD
  rw [deep_list h1 h, deep_list (n := 0) h2 (fun y hy => by cases hy)]
  simp only [shaped_list h hn, List.map_nil, shaped_nil, true_and]
  cases ys with
  | nil => rfl
  | cons y ys => rfl
theorem eq_nil {n : Nat} {μ : Mu} {a e : Addr} {ys : List D} {Q : DK} (h1 : listM μ a = some ys) (h2 : listM μ e = some []) (h : ∀ y ∈ ys, y.flat n = true) (hn : n ≤ 63) : aEqD (.ptr a) (.ptr e) μ Q = Q (.bl ys.isEmpty) μ := by
  unfold aEqD
  rw [deep_list h1 h, deep_list (n := 0) h2 (fun y hy => by cases hy)]
  simp only [shaped_list h hn, List.map_nil, shaped_nil, true_and]
  cases ys with
  | nil => rfl
  | cons y ys => rfl
theorem eq_flat {n m : Nat} {μ : Mu} {d e : D} {Q : DK} (h1 : d.flat n = true) (h2 : e.flat m = true) (hn : n ≤ 64) (hm : m ≤ 64) : aEqD d e μ Q = Q (.bl (PyData.eqv d.py e.py)) μ := by
  unfold aEqD
  rw [deep_flat h1, deep_flat h2]
  simp only [shaped_flat h1 hn, shaped_flat h2 hm, true_and]
theorem ne_flat {n m : Nat} {μ : Mu} {d e : D} {Q : DK} (h1 : d.flat n = true) (h2 : e.flat m = true) (hn : n ≤ 64) (hm : m ≤ 64) : aNeD d e μ Q = Q (.bl (!PyData.eqv d.py e.py)) μ := by
  unfold aNeD
  rw [deep_flat h1, deep_flat h2]
  simp only [shaped_flat h1 hn, shaped_flat h2 hm, true_and]
theorem flat_ints (n : Nat) (is : List Int) : ∀ y ∈ is.map D.int, y.flat n = true := fun y hy => by
  obtain ⟨i, _, rfl⟩ := List.mem_map.mp hy
  cases n <;> rfl
theorem atI_nat' {α : Type} {xs : List α} {i : Nat} {d : α} (h : xs[i]? = some d) : L2.atI xs (i : Int) = some d := atI_nat h
end DL
namespace DL
/-- what stands out of l stands on -/
def MleX (l : List PySem.Addr) (μ μ' : Mu) : Prop := ∀ a, a ∉ l → ∀ o, μ a = some o → μ' a = some o
theorem MleX.refl (l : List PySem.Addr) (μ : Mu) : MleX l μ μ := fun _ _ _ h => h
theorem MleX.mle {μ μ' : Mu} (h : MleX [] μ μ') : Mle μ μ' := fun a o e => h a (by simp) o e
theorem MleX.put {l : List PySem.Addr} {μ μ' : Mu} {q : PySem.Addr} {x : Cell} (h : MleX (q :: l) μ μ') (hq : μ' q = some x) : MleX l (updM μ q x) μ' := fun a ha o e => by
  by_cases z : a = q
  · subst z
    rw [updM_same] at e
    cases e
    exact hq
  · rw [updM_ne z] at e
    exact h a (by simp [z, ha]) o e
theorem MleX.upd {l : List PySem.Addr} {μ μ' : Mu} {p : PySem.Addr} {c : Cell} (h : MleX l μ μ') (hp : p ∈ l) : MleX l μ (updM μ' p c) := fun a ha o e => by
  rw [updM_ne (fun z => ha (by rw [z]; exact hp))]
  exact h a ha o e
theorem MleX.new {l : List PySem.Addr} {μ μ' : Mu} {p : PySem.Addr} {c : Cell} (h : MleX l μ μ') (hp : μ' p = none) : MleX l μ (updM μ' p c) := fun a ha o e => by
  have := h a ha o e
  rw [updM_ne (fun z => by rw [z, hp] at this; cases this)]
  exact this
theorem MleX.both {l : List PySem.Addr} {μ μ' : Mu} {p : PySem.Addr} {c : Cell} (h : MleX (p :: l) μ μ') : MleX l (updM μ p c) (updM μ' p c) := fun a ha o e => by
  by_cases z : a = p
  · subst z
    rw [updM_same] at e ⊢
    exact e
  · rw [updM_ne z] at e ⊢
    exact h a (by simp [z, ha]) o e
theorem MleX.free {l : List PySem.Addr} {μ μ' : Mu} {p : PySem.Addr} {c : Cell} (h : MleX l μ μ') (hp : μ p = none) : MleX l μ (updM μ' p c) := fun a ha o e => by
  rw [updM_ne (fun z => by rw [z, hp] at e; cases e)]
  exact h a ha o e
theorem MleX.trans {l : List PySem.Addr} {a b c : Mu} (h : MleX l a b) (k : MleX l b c) : MleX l a c := fun x hx o e => k x hx o (h x hx o e)
theorem MleX.mono {l m : List PySem.Addr} {a b : Mu} (h : MleX l a b) (k : ∀ x ∈ l, x ∈ m) : MleX m a b := fun x hx o e => h x (fun z => hx (k x z)) o e
theorem MleX.get {l : List PySem.Addr} {a b : Mu} (h : MleX l a b) {x : PySem.Addr} (hx : x ∉ l) {o : Cell} (e : a x = some o) : b x = some o := h x hx o e
theorem MleX.list {l : List PySem.Addr} {a b : Mu} (h : MleX l a b) {x : PySem.Addr} (hx : x ∉ l) {xs : List D} (e : listM a x = some xs) : listM b x = some xs := by
  unfold listM at e ⊢
  cases z : a x with
  | none => rw [z] at e; cases e
  | some o => rw [h x hx o z]; rw [z] at e; exact e
theorem MleX.live {l : List PySem.Addr} {a b : Mu} (h : MleX l a b) {x : PySem.Addr} (hx : x ∉ l) (e : b x = none) : a x = none := by
  cases z : a x with
  | none => rfl
  | some o => rw [h x hx o z] at e; cases e
theorem list_cell {μ : Mu} {p : PySem.Addr} {xs : List D} (h : μ p = some (.lst xs)) : listM μ p = some xs := by
  unfold listM
  rw [h]
  rfl
theorem seq_nat {j n : Nat} (h : j < n) : PySem.seqIndex? (j : Int) n = some j := by
  rw [PySem.seqIndex_of (by omega) (by omega)]
  rfl
theorem erase_perm0 {α : Type} : ∀ (l : List α) (j : Nat) (h : j < l.length), (l[j] :: l.eraseIdx j).Perm l
  | [], j, h => absurd h (Nat.not_lt_zero _)
  | x :: l, 0, h => List.Perm.refl _
  | x :: l, j + 1, h => by
    have h' : j < l.length := Nat.lt_of_succ_lt_succ h
    show (l[j] :: x :: l.eraseIdx j).Perm (x :: l)
    exact (List.Perm.swap _ _ _).trans ((erase_perm0 l j h').cons x)
theorem erase_perm {α : Type} (l : List α) (j : Nat) (h : j < l.length) (zs : List α) : (l.eraseIdx j ++ (zs ++ [l[j]])).Perm (l ++ zs) := by
  have h1 : (l[j] :: l.eraseIdx j).Perm l := erase_perm0 l j h
  have h2 : (l.eraseIdx j ++ (zs ++ [l[j]])).Perm (l[j] :: (l.eraseIdx j ++ zs)) := by
    rw [← List.append_assoc]
    exact List.perm_append_singleton _ _
  exact h2.trans (h1.append_right zs)
end DL
namespace DL
open PySem PySem.Spec PyProof.Rows L2 Evl Gd
def aMulS : F2 := fun x y μ Q => match x, y with
  | .str z, .int k => MulOk z k ∧ Q (.str (Txt.mul z k)) μ
  | _, _ => False
theorem oq_repS {X : Cx} : OpQ X (binaryOp .Mult) aMulS := ⟨_, op_mulS, fun {B _ _ _ _ _ _} b rx ry {_ _} k q => by
  cases rx <;> first | exact q.elim | skip
  cases ry <;> first | exact q.elim | skip
  exact ⟨_, _, rfl, rfl, q.1, k _ _ _ _ _ (Ex.refl _) b (.str _) q.2⟩⟩
/-- a comprehension whose elements change nothing -/
theorem aLc_pure {w : AI} {a : AE} {j : Nat} {ws : List Nat} {ρ : Rho} {μ μ1 : Mu} {Q : DK} (f : D → D) (xs : List D) (st : Mu → Prop) (hw : ∀ R : List D → (Mu → Prop) → Mu → Prop, R xs st μ1 → w ρ μ R) (hl : xs.length ≤ 90000) (hst : ∀ μ', Mle μ1 μ' → st μ')
    (he : ∀ x μ', x ∈ xs → Mle μ1 μ' → ∀ Q' : DK, (∀ μ'', Mle μ' μ'' → Q' (f x) μ'') → a ((wipeD ρ ws).set j (some x)) μ' Q') (hR : ∀ p μ', μ1 p = none → Mle μ1 μ' → μ' p = some (.lst (xs.map f)) → Q (.ptr p) μ') : aLc w (agName j) aYes a ws ρ μ Q := by
  refine hw _ ?_
  intro p hp
  refine ⟨fun i acc μ' => acc = (xs.take i).map f ∧ μ' p = some (.lst acc) ∧ Mle μ1 μ' ∧ i ≤ xs.length, ⟨rfl, updM_same, Mle.new hp, Nat.zero_le _⟩, fun i acc μ' hi ⟨e1, e2, e3, _⟩ => ⟨hst μ' e3, e2, ?_⟩, fun i x acc μ' hx ⟨e1, e2, e3, _⟩ => ⟨?_, ?_⟩, fun acc μ' ⟨e1, e2, e3, _⟩ => ?_⟩
  · rw [e1, List.length_map, List.length_take]; omega
  · rw [e1, List.length_map, List.length_take]; omega
  · show a ((wipeD ρ ws).set j (some x)) μ' _
    refine he x μ' (List.mem_of_getElem? hx) e3 _ fun μ'' e4 => ?_
    have hi := (List.getElem?_eq_some_iff.mp hx).1
    refine ⟨e4 _ _ e2, ?_, updM_same, fun b o hb => ?_, hi⟩
    · rw [List.take_add_one, hx, List.map_append, e1]; rfl
    · have := e4 _ _ (e3 b o hb)
      rw [updM_ne (fun z => by rw [z, hp] at hb; cases hb)]
      exact this
  · rw [List.take_length] at e1
    subst e1
    exact hR p μ' hp e3 e2
end DL
namespace DL
theorem at_zero {α : Type} {x : α} {xs : List α} : L2.atI (x :: xs) 0 = some x := L2.atI_nat (xs := x :: xs) (j := 0) rfl
theorem at_last {α : Type} {x : α} {xs : List α} : L2.atI (xs ++ [x]) (-1) = some x := by
  unfold L2.atI L2.ixN
  rw [if_neg (by decide), if_pos (by rw [List.length_append, List.length_singleton]; omega)]
  show (xs ++ [x])[((-1 : Int) + ((xs ++ [x]).length : Int)).toNat]? = some x
  rw [show ((-1 : Int) + ((xs ++ [x]).length : Int)).toNat = xs.length by rw [List.length_append, List.length_singleton]; omega]
  simp
end DL
namespace DL
open PySem PySem.Spec PyProof.Rows L2 Evl Gd
/-- tuple(list), a tuple that has no dict -/
def aTupleZ : FC := fun xs μ Q => match xs with
  | [x] => (match ptrList μ x with
    | some ys => Q (.tuz ys) μ
    | none => False)
  | _ => False
theorem cq_tuple_z {X : Cx} : CallQ X (.type "tuple") aTupleZ := ⟨_, call_tuple_z, fun {B _ _ _ _} b r {_ _} k q => by
  unfold aTupleZ at q
  split at q
  · obtain ⟨v, rfl, r1⟩ := one_rep r
    split at q
    · rename_i ys h
      obtain ⟨a, vs, rfl, rfl, h1, h2⟩ := ptrList_rep (K := X.K) b r1 h
      exact ⟨a, vs, rfl, h1, fun p o hp ho => k _ _ _ _ _ (Ex.new (b.bfresh hp)) (b.tup hp) (.tuz upd_same ho (h2.up (Ex.new (b.bfresh hp)))) q⟩
    · exact q.elim
  · exact q.elim⟩
theorem cutD_take {xs : List D} {n : Nat} : DL.cutD xs none (some (n : Int)) = xs.take n := by
  unfold DL.cutD
  rw [HT.sIx_none, HT.sIx_nat, List.drop_zero, Nat.sub_zero, List.take_eq_take_iff]
  omega
end DL

set_option maxHeartbeats 4000000
/-! t[::-1] of a tuple. -/
namespace Gd
open PySem PySem.Spec PyProof.Rows L2 HT
theorem adjust_rev (n : Nat) : Builtin.Slice.sliceAdjust none none (-1) (n : Int) = ((n : Int) - 1, -1) := rfl
theorem places_rev (n : Nat) : Builtin.Slice.slicePlaces ((n : Int) - 1) (-1) (-1) = n := by
  unfold Builtin.Slice.slicePlaces
  have h1 : ¬ ((-1 : Int) > 0) := by omega
  simp only [h1, if_false, Int.neg_neg, Int.ediv_one]
  split <;> omega
theorem filterMap_cg {α β : Type} {f g : α → Option β} : ∀ {l : List α}, (∀ x ∈ l, f x = g x) → l.filterMap f = l.filterMap g
  | [], _ => rfl
  | a :: l, h => by
    rw [List.filterMap_cons, List.filterMap_cons, h a List.mem_cons_self, filterMap_cg fun x hx => h x (List.mem_cons_of_mem _ hx)]
theorem all_at {α : Type} : ∀ l : List α, (List.range l.length).filterMap (fun m => l[m]?) = l := fun l => by
  have key : ∀ n, n ≤ l.length → (List.range n).filterMap (fun m => l[m]?) = l.take n := fun n => by
    induction n with
    | zero => intro _; simp
    | succ n ih =>
      intro h
      rw [List.range_succ, List.filterMap_append, ih (by omega), List.take_add_one]
      have : l[n]? = some l[n] := List.getElem?_eq_getElem (by omega)
      simp [this]
  rw [key _ (Nat.le_refl _), List.take_length]
theorem pick_rev (xs : Array Value) : ((List.range xs.size).filterMap fun (m : Nat) => xs[(((xs.size : Int) - 1) + (m : Int) * (-1)).toNat]?).toArray = xs.toList.reverse.toArray := by
  congr 1
  have e : ∀ m ∈ List.range xs.size, xs[(((xs.size : Int) - 1) + (m : Int) * (-1)).toNat]? = xs.toList.reverse[m]? := by
    intro m hm
    have hm := List.mem_range.mp hm
    rw [List.getElem?_reverse (by simpa using hm), Array.getElem?_toList, Array.length_toList]
    congr 1
    omega
  rw [filterMap_cg e]
  have hl : xs.size = xs.toList.reverse.length := by simp
  rw [hl]
  exact all_at _
section
variable {prog : Program} {w : World} {A : Around} {E : Value → Shared → Prop} {s : Shared}
theorem sliceApplied_rev {sl : Addr} {vs : Value} {n : Nat} {Q : Int × Int × Nat → Shared → Prop} (hs : s.heap.IsSliceOf sl .none .none vs) (ps : IsPart vs (some (-1))) (h : Q ((n : Int) - 1, -1, n) s) : wpAny (model prog w) A (Builtin.Slice.sliceApplied (.ref sl) (pure (n : Int))) Q E s := by
  obtain ⟨os, hos, hcs, hds⟩ := id hs
  unfold Builtin.Slice.sliceApplied Builtin.Slice.sliceFields
  refine wpAny_bind (wpAny_bind (wpAny_field hos hds (x := .none) rfl (wpAny_bind (wpAny_field hos hds (x := .none) rfl (wpAny_bind (wpAny_field hos hds (x := vs) rfl (wpAny_pure ?_)))))))
  refine wpAny_bind (slicePart_ ps ?_)
  show wpAny _ _ (if ((-1 : Int) == 0) = true then _ else _) _ _ s
  rw [if_neg (by decide)]
  refine wpAny_bind (slicePart_none (wpAny_bind (slicePart_none (wpAny_bind (wpAny_pure ?_)))))
  show wpAny _ _ (match Builtin.Slice.sliceAdjust none none (-1) (n : Int) with | (lo, hi) => pure (lo, (-1 : Int), Builtin.Slice.slicePlaces lo hi (-1))) _ _ s
  rw [adjust_rev n]
  show wpAny _ _ (pure ((n : Int) - 1, (-1 : Int), Builtin.Slice.slicePlaces ((n : Int) - 1) (-1) (-1))) _ _ s
  rw [places_rev]
  exact wpAny_pure h
theorem getItem_tuple_rev {t sl : Addr} {items : Array Value} {vs : Value} {Q : Value → Shared → Prop} (ht : IsTup s.heap t items) (hs : s.heap.IsSliceOf sl .none .none vs) (ps : IsPart vs (some (-1)))
    (h : Q (.ref s.heap.objs.size) { s with heap := s.heap.push { cls := .type "tuple", data := .seq items.toList.reverse.toArray } }) (hsz : items.size ≤ sizeLine) : wpAny (model prog w) A (getItem (.ref t) (.ref sl)) Q E s := by
  have htake : sizeOk (.seq items.toList.reverse.toArray) := by
    show items.toList.reverse.toArray.size ≤ sizeLine
    rw [List.size_toArray, List.length_reverse, Array.length_toList]
    exact hsz
  obtain ⟨os, hos, hcs, hds⟩ := id hs
  have hTs : s.TypeIs (.ref sl) "slice" := ⟨os, hos, hcs⟩
  unfold getItem
  try with_reducible refine wpAny_holding ?_
  first | refine wpAny_bind (wpAny_pure ?_) | skip
  refine wpAny_bind (wpAny_sequenceKey ht.typeIs (by decide) ?_)
  refine wpAny_bind (wpAny_callSpecial?_slot (name := Str.ofString "__getitem__") ht.typeIs PyProof.Rows.slot_tuple_getitem
    (wpAny_call_entry PyProof.Rows.slot_tuple_getitem ht.typeIs entry_tuple_getitem ?_ (args_tuple_getitem _ _)))
  show wpAny _ _ (Builtin.Tuple.tupleItemsOf (.ref t) >>= _) _ _ s
  refine wpAny_bind (tupleItemsOf_ ht ?_)
  refine wpAny_bind (wpAny_typeOf hTs ?_)
  rw [if_pos (by decide)]
  refine wpAny_bind (sliceApplied_rev hs ps ?_)
  have hno : ¬ ((((items.size : Int) - 1) == 0 && (-1 : Int) == 1 && items.size == items.size) = true) := by
    intro q
    rw [Bool.and_eq_true, Bool.and_eq_true] at q
    exact absurd q.1.2 (by decide)
  show wpAny _ _ (if (((items.size : Int) - 1) == 0 && (-1 : Int) == 1 && items.size == items.size) = true then _ else _) _ _ s
  rw [if_neg hno, pick_rev]
  first
    | exact wpAny_bind (m := Builtin.Tuple.tupleExact _) (wpAny_newObj_type (wpAny_pure ⟨_, rfl, wpAny_pure h⟩) htake)
    | exact wpAny_bind (m := Builtin.Tuple.tupleExact _) (wpAny_newObj_type (wpAny_bind (wpAny_pure (wpAny_pure ⟨_, rfl, wpAny_pure h⟩))) htake)
    | exact wpAny_bind (wpAny_bind (m := Builtin.Tuple.tupleExact _) (wpAny_newObj_type (wpAny_pure (wpAny_pure ⟨_, rfl, wpAny_pure h⟩)) htake))
    | exact wpAny_bind (wpAny_bind (m := Builtin.Tuple.tupleExact _) (wpAny_newObj_type (wpAny_pure ⟨_, rfl, wpAny_pure h⟩) htake))
end
section
variable {X : Cx}
def tRevT (K : PySem.W.Frag) (te : TE) : TE := fun σ H Q => te σ H fun x H1 => ∃ a xs, x = .ref a ∧ SqT K H1 a xs ∧ ∀ p, H1 p = none → Q (.ref p) (upd H1 p (.tup xs.reverse))
theorem pe_revT {e : Expr} {te : TE} {k : Nat} {p1 p2 p3 pos : Pos} (he : PE X e te) : PE X (.Subscript e (.Slice none none (some (.UnaryOp .USub (.Constant (.int 1) k p1) p2)) p3) pos) (tRevT X.K te) := by
  refine ⟨fun pins s σ H Q I h => ?_⟩
  refine Subscript_ (thn (he.run pins s σ H _ I h) fun v s1 ⟨x, H1, I1, r1, q1⟩ => ?_)
  obtain ⟨a, xs, ex, hx, q⟩ := q1
  subst ex
  cases r1
  have hst : PO X (some (.UnaryOp .USub (.Constant (.int 1) k p1) p2)) (tPart (tUn (rU fun i => .int (-i)) (tC (.int 1)))) := po_some (pe_un un_neg pe_int)
  refine wpAny_Slice (thn (po_none.run pins s1 σ H1 (fun o H2 => o = none ∧ H2 = H1) I1 ⟨rfl, rfl⟩) fun vl s2 ⟨l, H2, I2, pl, el, e2⟩ => ?_)
  subst el e2
  refine thn (po_none.run pins s2 σ H2 (fun o H3 => o = none ∧ H3 = H2) I2 ⟨rfl, rfl⟩) fun vu s3 ⟨u, H3, I3, pu, eu, e3⟩ => ?_
  subst eu e3
  refine thn (hst.run pins s3 σ H3 (fun o H4 => o = some (-1) ∧ H4 = H3) I3 ⟨1, rfl, -1, rfl, rfl, rfl⟩) fun vs s4 ⟨o, H4, I4, ps, eo, e4⟩ => ?_
  subst eo e4
  cases pl
  cases pu
  have I5 : Inv X pins σ H4 { s4 with heap := s4.heap.push { cls := .type "slice", data := .fields #[.none, .none, vs] } } := I4.kept (t' := s4.toks) fun b ob q => Heap.get?_push_of_some _ q
  obtain ⟨its, r, ht, hz⟩ := I5.tuple hx
  have hlen := r.length
  show wpAny (model X.prog X.w) X.A (subscriptTail e (.Slice none none (some (.UnaryOp .USub (.Constant (.int 1) k p1) p2)) p3) (.ref a) (.ref s4.heap.objs.size)) (EP X pins σ Q) X.xe { s4 with heap := s4.heap.push { cls := .type "slice", data := .fields #[.none, .none, vs] } }
  refine tail_any (ops := [.ref a, .ref s4.heap.objs.size]) ht.typeIs (PyProof.Rows.slot_tuple_getitem.lookup) ?_ (by with_unfolding_all rfl)
  refine getItem_tuple_rev ht (Heap.IsSliceOf.new _ .none .none vs) ps ?_ (by rw [List.size_toArray]; omega)
  refine ⟨.ref _, _, I5.laid (t' := s4.toks) (o := .tup xs.reverse) (fun b ob q => Heap.get?_push_of_some _ q) (Nat.le_refl _) ?_, rfl, q _ (I5.hok.fresh (Nat.le_refl _))⟩
  exact ⟨by rw [List.length_reverse]; exact hz, _, r.reverse, IsTup.new _ _⟩
end
end Gd

set_option maxHeartbeats 4000000
/-! Over values: is of an int and a bool, texts asked, written tuples and dicts, fields stored, own comparisons. -/
namespace DL
open PySem PySem.Spec PyProof.Rows L2 Evl Gd
section
variable {X : Cx}
theorem op_isIB : OpR X (compareOp .Is) (fun x y H Q => ∃ (i : Int) (b : Bool), x = .int i ∧ y = .bl b ∧ Q (.bl false) H) := by
  intro pins s σ H x y v u Q I rx ry h
  obtain ⟨i, b, rfl, rfl, q⟩ := h
  obtain ⟨t, rfl⟩ := rx
  cases (show u = Value.bool b from ry)
  exact wpAny_is_other rfl (fun z => nomatch z) ⟨.bl false, H, I, rfl, q⟩
/-- an int is True, is False -/
def aIsB : F2 := fun x y μ Q => match x, y with
  | .int _, .bl _ => Q (.bl false) μ
  | _, _ => False
theorem oq_isB : OpQ X (compareOp .Is) aIsB := ⟨_, op_isIB, fun {B _ _ _ _ _ _} b rx ry {_ _} k q => by
  cases rx <;> first | exact q.elim | skip
  cases ry <;> first | exact q.elim | skip
  exact ⟨_, _, rfl, rfl, k _ _ _ _ _ (Ex.refl _) b (.bl _) q⟩⟩
theorem flats_str (l : List Str) : (l.map V.str).all flatV = true := by
  rw [List.all_map]
  exact List.all_eq_true.mpr fun _ _ => rfl
/-- a text in a written tuple of texts -/
def aInW (a : Addr) (zs : List Str) : F2 := fun x y μ Q => match x, y with
  | .str z, .ptr b => b = a ∧ Q (.bl (inV (.str z) (zs.map V.str))) μ
  | _, _ => False
theorem oq_inW {a : Addr} {zs : List Str} (h : ∀ H : Hp, SqT X.K H a (zs.map V.str)) : OpQ X (compareOp .In) (aInW a zs) := ⟨_, op_in_seq, fun {B _ _ _ _ _ _} b rx ry {_ _} k q => by
  cases rx <;> first | exact q.elim | skip
  cases ry <;> first | exact q.elim | skip
  obtain ⟨rfl, q⟩ := q
  exact ⟨_, _, rfl, .inr (h _), rfl, flats_str zs, k _ _ _ _ _ (Ex.refl _) b (.bl _) q⟩⟩
/-- a key in a written dict, its item -/
theorem op_in_kdct : OpR X (compareOp .In) (fun x y H Q => ∃ (p : Addr) (z : Str) (v : V), x = .str z ∧ y = .ref p ∧ (p == sysModules) = false ∧ KDct X.K X.w p z v ∧ Q (.bl true) H) := by
  intro pins s σ H x y v u Q I rx ry h
  obtain ⟨p, z, v0, rfl, rfl, hp, ⟨es, n, u0, hl, hk, e, ru⟩, q⟩ := h
  exact op_in_kd ⟨hl, hk, hp⟩ pins s σ H _ _ v u Q I rx ry ⟨z, _, rfl, rfl, e, q⟩
def aInKd (K : PySem.W.Frag) (w : World) : F2 := fun x y μ Q => match x, y with
  | .str z, .ptr p => (p == sysModules) = false ∧ (∃ v, KDct K w p z v) ∧ Q (.bl true) μ
  | _, _ => False
theorem oq_inKd : OpQ X (compareOp .In) (aInKd X.K X.w) := ⟨_, op_in_kdct, fun {B _ _ _ _ _ _} b rx ry {_ _} k q => by
  cases rx <;> first | exact q.elim | skip
  cases ry <;> first | exact q.elim | skip
  obtain ⟨hp, ⟨v, hv⟩, q⟩ := q
  exact ⟨_, _, v, rfl, rfl, hp, hv, k _ _ _ _ _ (Ex.refl _) b (.bl _) q⟩⟩
theorem v_rep {B : Hp} {d : D} {v : V} (h : d.v = some v) : Rep B v d := by
  cases d <;> first | (cases h; constructor) | cases h
def aIxKd (K : PySem.W.Frag) (w : World) : F2 := fun x y μ Q => match x, y with
  | .ptr p, .str z => ∃ d v, d.v = some v ∧ KDct K w p z v ∧ Q d μ
  | _, _ => False
theorem iq_kdict : IxQ X (aIxKd X.K X.w) := ⟨_, ix_kdict, fun {B _ _ _ _ _ _} b rx ry {_ _} k q => by
  cases rx <;> first | exact q.elim | skip
  cases ry <;> first | exact q.elim | skip
  obtain ⟨d, v, hv, hk, q⟩ := q
  exact ⟨_, _, v, rfl, rfl, hk, k _ _ _ _ _ (Ex.refl _) b (v_rep hv) q⟩⟩
/-- a text asked -/
def aM0 (g : Str → D) (a : AE) : AE := fun ρ μ Q => a ρ μ fun x μ1 => match x with
  | .str z => Q (g z) μ1
  | _ => False
theorem mt_isidentifier {X : Cx} : MtR X "str.isidentifier" (fun x xs H Q => ∃ a, x = .str a ∧ xs = [] ∧ True ∧ Q (.bl (Txt.isidentifier a)) H) :=
  mt0 (C := fun _ => True) (g := fun a => .bl (Txt.isidentifier a)) fun _ _ s _ _ h => PySem.SC.isidentifier (h _ s.toks rfl)
theorem sim_m0 {t : TE} {a : AE} {g : Str → D} {gv : Str → V} (hr : ∀ B z, Rep B (gv z) (g z)) (s1 : SimE t a) : SimE (tM0 (fun x xs H Q => ∃ a, x = .str a ∧ xs = [] ∧ True ∧ Q (gv a) H) t) (aM0 g a) := fun {B _ _ _ _} b sl {_ _} k q => s1 b sl (fun B1 v d H1 μ1 e1 b1 r1 q1 => by
  cases r1 <;> first | exact q1.elim | skip
  exact ⟨⟨_, rfl⟩, _, rfl, rfl, trivial, k _ _ _ _ _ e1 b1 (hr _ _) q1⟩) q
variable {o value : Expr} {apos pos pos' : Pos} {a av : AE}
theorem qe_isascii (ho : QE X o a) (hbase : attributeBase o "isascii" X.env (eval o X.env) = eval o X.env := by rfl) (hline : (apos.endLine == pos.line) = true := by rfl) : QE X (.Call (.Attribute o "isascii" apos) [] [] pos) (aM0 (fun z => .bl (Txt.isascii z)) a) := by
  obtain ⟨t, p1, s1⟩ := ho
  exact ⟨_, pe_m0 PySem.F.slot_str_isascii PySem.F.type_str_isascii mt_isascii p1 hbase hline, sim_m0 (gv := fun z => .bl (Txt.isascii z)) (fun _ _ => .bl _) s1⟩
theorem qe_isidentifier (ho : QE X o a) (hbase : attributeBase o "isidentifier" X.env (eval o X.env) = eval o X.env := by rfl) (hline : (apos.endLine == pos.line) = true := by rfl) : QE X (.Call (.Attribute o "isidentifier" apos) [] [] pos) (aM0 (fun z => .bl (Txt.isidentifier z)) a) := by
  obtain ⟨t, p1, s1⟩ := ho
  exact ⟨_, pe_m0 PySem.F.slot_str_isidentifier PySem.F.type_str_isidentifier mt_isidentifier p1 hbase hline, sim_m0 (gv := fun z => .bl (Txt.isidentifier z)) (fun _ _ => .bl _) s1⟩
/-- o.f = value -/
def asFld (K : PySem.W.Frag) (f : Str) (a av : AE) : AS := fun A ρ μ => av ρ μ fun y μ1 => a ρ μ1 fun x μ2 => match x with
  | .ptr p => (match μ2 p with
    | some (.ins C fs) => Cls K C ∧ NoAttr K C f ∧ fs.length < 900 ∧ A.nx ρ (updM μ2 p (.ins C (putFD f y fs)))
    | _ => False)
  | _ => False
theorem kv_putF {B : Hp} {f : Str} {v : V} {d : D} (r : Rep B v d) : ∀ {ws : List (Str × V)} {fs : List (Str × D)}, KvRep B ws fs → KvRep B (L2.putF f v ws) (putFD f d fs)
  | _, _, .nil => .cons ⟨rfl, r⟩ .nil
  | (k1, x) :: ws, (k2, e) :: fs, .cons h t => by
    have h1 : k1 = k2 := h.1
    subst h1
    unfold L2.putF putFD
    by_cases z : k1 = f
    · rw [if_pos z, if_pos z.symm]
      exact .cons ⟨rfl, r⟩ t
    · rw [if_neg z, if_neg (fun y => z y.symm)]
      exact .cons h (kv_putF r t)
theorem qs_fld {f : Str} (ho : QE X o a) (hv : QE X value av) (hs : swapsWith value (some (.Attribute o f pos')) pos.line X.env = pure false) : QS X (.Assign [.Attribute o f pos'] value pos) (asFld X.K f a av) := by
  obtain ⟨t1, p1, s1⟩ := ho
  obtain ⟨t2, p2, s2⟩ := hv
  refine ⟨_, ps_fld p1 p2 hs, fun {B _ _ _ _} b sl {_ _} h q => s2 b sl (fun B1 v d H1 μ1 e1 b1 r1 q1 => s1 b1 (sl.up e1) (fun B2 x dx H2 μ2 e2 b2 r2 q2 => ?_) q1) q⟩
  cases r2 <;> first | exact q2.elim | skip
  rename_i p
  simp only at q2
  split at q2
  · rename_i C fs hm
    obtain ⟨c, n, hl, q2⟩ := q2
    obtain ⟨dx, ws, h1, h2⟩ := (b2.cell p _ hm).2
    have h3 := kv_putF (f := f) (r1.up e2) h2
    exact ⟨p, C, dx, ws, rfl, h1, c, n, by rw [kv_len h2]; omega, h.nx _ _ _ _ _ (e1.trans e2) (b2.mut (c := .ins C (putFD f d fs)) hm ⟨dx, _, upd_same, h3⟩) (sl.up (e1.trans e2)) q2⟩
  · exact q2.elim
/-- t[::-1] -/
def aRevT (a : AE) : AE := fun ρ μ Q => a ρ μ fun x μ1 => match x.items with
  | some xs => Q (.tup xs.reverse) μ1
  | none => False
theorem qe_revT {e : Expr} {k : Nat} {p1 p2 p3 : Pos} (he : QE X e a) : QE X (.Subscript e (.Slice none none (some (.UnaryOp .USub (.Constant (.int 1) k p1) p2)) p3) pos) (aRevT a) := by
  obtain ⟨t, h1, s1⟩ := he
  refine ⟨_, pe_revT h1, fun {B _ _ _ _} b sl {_ _} k q => s1 b sl (fun B1 v d H1 μ1 e1 b1 r1 q1 => ?_) q⟩
  split at q1
  · rename_i xs hx
    obtain ⟨a, vs, rfl, g1, g2⟩ := rep_items (K := X.K) r1 hx
    exact ⟨a, vs, rfl, ex_t b1.ex g1, fun p hp => k _ _ _ _ _ (e1.trans (Ex.new (b1.bfresh hp))) (b1.tup hp) (.tup upd_same (g2.rev.up (Ex.new (b1.bfresh hp)))) q1⟩
  · exact q1.elim
/-! ### own comparisons -/
/-- the class of a value, as Gcmp tells it -/
def tyG (μ : Mu) : D → Option Value
  | .int _ => some (.type "int")
  | .str _ => some (.type "str")
  | .non => some (.type "NoneType")
  | .bl _ => some (.type "bool")
  | .tup _ => some (.type "tuple")
  | .tuz _ => some (.type "tuple")
  | .ptr a => (match μ a with
    | some (.lst _) => some (.type "list")
    | some (.dk _) => some (.type "dict")
    | some (.ins C _) => some (.ref C)
    | _ => none)
  | .ty _ => none
theorem tyG_ok {K : PySem.W.Frag} {B H : Hp} {μ : Mu} {v : V} {d : D} {t : Value} (b : Base B H μ) (r : Rep B v d) (h : tyG μ d = some t) : Gd.TyB K v H t := by
  cases r with
  | non => cases h; exact .inr (.inr (.inl ⟨rfl, rfl⟩))
  | bl c => cases h; exact .inr (.inr (.inr (.inl ⟨c, rfl, rfl⟩)))
  | int c => cases h; exact .inl ⟨c, rfl, rfl⟩
  | str c => cases h; exact .inr (.inl ⟨c, rfl, rfl⟩)
  | ty n => cases h
  | tup h1 r => cases h; exact .inr (.inr (.inr (.inr (.inl ⟨_, _, rfl, st_of (b.ex _ _ h1), rfl⟩))))
  | tuz h1 ho r => cases h; exact .inr (.inr (.inr (.inr (.inl ⟨_, _, rfl, .inl (.inr ⟨_, b.ex _ _ h1⟩), rfl⟩))))
  | ptr a =>
    unfold tyG at h
    simp only at h
    split at h
    · rename_i ds hm
      cases h
      obtain ⟨vs, h1, h2⟩ := (b.cell a _ hm).2
      exact .inr (.inr (.inr (.inr (.inr (.inl ⟨_, _, rfl, sq_of h1, rfl⟩)))))
    · rename_i ds hm
      cases h
      obtain ⟨vs, h1, h2⟩ := (b.cell a _ hm).2
      exact .inr (.inr (.inr (.inr (.inr (.inr (.inl ⟨_, _, rfl, h1, rfl⟩))))))
    · rename_i C ds hm
      cases h
      obtain ⟨dx, vs, h1, h2⟩ := (b.cell a _ hm).2
      exact .inr (.inr (.inr (.inr (.inr (.inr (.inr ⟨_, _, _, _, rfl, h1, rfl⟩))))))
    · cases h
def aEqO (C : Addr) (Ts : List Value) (ct : Ct) (g : Bool → Bool) : F2 := fun x y μ Q => match x with
  | .ptr p => (match μ p with
    | some (.ins C' _) => C' = C ∧ (∃ t, tyG μ y = some t ∧ t ∈ Ts) ∧ ct [.ptr p, y] μ fun d μ1 => match d with
      | .bl b => Q (.bl (g b)) μ1
      | _ => False
    | _ => False)
  | _ => False
def aInO (C : Addr) (ct : Ct) (g : Bool → Bool) : F2 := fun y x μ Q => match x with
  | .ptr p => (match μ p with
    | some (.ins C' _) => C' = C ∧ ct [.ptr p, y] μ fun d μ1 => match d with
      | .bl b => Q (.bl (g b)) μ1
      | _ => False
    | _ => False)
  | _ => False
def aIxO (C : Addr) (ct : Ct) (a ay : AE) : AE := fun ρ μ Q => a ρ μ fun x μ1 => ay ρ μ1 fun y μ2 => match x with
  | .ptr p => (match μ2 p with
    | some (.ins C' _) => C' = C ∧ ct [.ptr p, y] μ2 Q
    | _ => False)
  | _ => False
def aLenO (C : Addr) (ct : Ct) : FC := fun xs μ Q => match xs with
  | [.ptr p] => (match μ p with
    | some (.ins C' _) => C' = C ∧ ct [.ptr p] μ fun d μ1 => match d with
      | .int n => 0 ≤ n ∧ n ≤ 16777216 ∧ Q (.int n) μ1
      | _ => False
    | _ => False)
  | _ => False
variable {k : Nat} {C f : Addr} {fd : FuncData} {ps : List Str} {ct : Ct} {Ts : List Value}
theorem sp_bl {B H : Hp} {μ : Mu} {vs : List V} {ds : List D} {Qa : DK} {Q : VK} {E : XK} {g : Bool → Bool} (b : Base B H μ) (r : RepA B vs ds) (q : ct ds μ fun d μ1 => match d with
      | .bl b => Qa (.bl (g b)) μ1
      | _ => False) (kk : ∀ B' v d H' μ', Ex B B' → Base B' H' μ' → Rep B' v d → Qa d μ' → Q v H') : spOf ct vs H (fun v H1 => ∃ b, v = .bl b ∧ Q (.bl (g b)) H1) E :=
  ⟨B, μ, ds, _, b, r, q, fun B' v d H' μ' e1 b1 r1 q1 => by
    cases r1 <;> first | exact q1.elim | skip
    exact ⟨_, rfl, kk _ _ _ _ _ e1 b1 (.bl _) q1⟩⟩
theorem oq_eqO (c : EqC X.K C f Ts) (F : FnOk X.prog X.w X.K X.mg X.base CX0 k f fd ps (spOf ct)) (hr : Room k X.A) (hb : L2.Binds X.K fd ps []) : OpQ X (compareOp .Eq) (aEqO C Ts ct id) := ⟨_, op_eqO (E := E0) c F hr hb pass0, fun {B _ _ _ _ _ _} b rx ry {_ _} kk q => by
  unfold aEqO at q
  cases rx <;> first | exact q.elim | skip
  rename_i p
  simp only at q
  split at q
  · rename_i C' fs hm
    obtain ⟨rfl, ⟨t, ht, hT⟩, q⟩ := q
    obtain ⟨dx, ws, h1, h2⟩ := (b.cell p _ hm).2
    exact ⟨p, dx, ws, t, rfl, h1, hT, tyG_ok b ry ht, sp_bl (g := id) b (.cons (.ptr p) (.cons ry .nil)) q kk⟩
  · exact q.elim⟩
theorem oq_neO (c : EqC X.K C f Ts) (F : FnOk X.prog X.w X.K X.mg X.base CX0 k f fd ps (spOf ct)) (hr : Room (k + 1) X.A) (hb : L2.Binds X.K fd ps []) : OpQ X (compareOp .NotEq) (aEqO C Ts ct (!·)) := ⟨_, op_neO (E := E0) c F hr hb pass0, fun {B _ _ _ _ _ _} b rx ry {_ _} kk q => by
  unfold aEqO at q
  cases rx <;> first | exact q.elim | skip
  rename_i p
  simp only at q
  split at q
  · rename_i C' fs hm
    obtain ⟨rfl, ⟨t, ht, hT⟩, q⟩ := q
    obtain ⟨dx, ws, h1, h2⟩ := (b.cell p _ hm).2
    exact ⟨p, dx, ws, t, rfl, h1, hT, tyG_ok b ry ht, sp_bl (g := (!·)) b (.cons (.ptr p) (.cons ry .nil)) q kk⟩
  · exact q.elim⟩
theorem oq_inO (hs : PySem.W.findIn X.K (.ref C) "__contains__" = some (some (.ref f))) (hf : PySem.W.isFn X.K (.ref f) = true) (F : FnOk X.prog X.w X.K X.mg X.base CX0 k f fd ps (spOf ct)) (hr : Room k X.A) (hb : L2.Binds X.K fd ps []) : OpQ X (compareOp .In) (aInO C ct id) := ⟨_, op_inO (E := E0) hs hf F hr hb pass0, fun {B _ _ _ _ _ _} b rx ry {_ _} kk q => by
  unfold aInO at q
  cases ry <;> first | exact q.elim | skip
  rename_i p
  simp only at q
  split at q
  · rename_i C' fs hm
    obtain ⟨rfl, q⟩ := q
    obtain ⟨dx, ws, h1, h2⟩ := (b.cell p _ hm).2
    exact ⟨p, dx, ws, rfl, h1, sp_bl (g := id) b (.cons (.ptr p) (.cons rx .nil)) q kk⟩
  · exact q.elim⟩
theorem oq_notInO (hs : PySem.W.findIn X.K (.ref C) "__contains__" = some (some (.ref f))) (hf : PySem.W.isFn X.K (.ref f) = true) (F : FnOk X.prog X.w X.K X.mg X.base CX0 k f fd ps (spOf ct)) (hr : Room k X.A) (hb : L2.Binds X.K fd ps []) : OpQ X (compareOp .NotIn) (aInO C ct (!·)) := ⟨_, op_notInO (E := E0) hs hf F hr hb pass0, fun {B _ _ _ _ _ _} b rx ry {_ _} kk q => by
  unfold aInO at q
  cases ry <;> first | exact q.elim | skip
  rename_i p
  simp only at q
  split at q
  · rename_i C' fs hm
    obtain ⟨rfl, q⟩ := q
    obtain ⟨dx, ws, h1, h2⟩ := (b.cell p _ hm).2
    exact ⟨p, dx, ws, rfl, h1, sp_bl (g := (!·)) b (.cons (.ptr p) (.cons rx .nil)) q kk⟩
  · exact q.elim⟩
theorem qe_ixO {i : Expr} {ay : AE} (hs : PySem.W.findIn X.K (.ref C) "__getitem__" = some (some (.ref f))) (hf : PySem.W.fnIn X.K f = true) (hfn : PySem.W.isFn X.K (.ref f) = true) (F : FnOk X.prog X.w X.K X.mg X.base CX0 k f fd ps (spOf ct)) (hr : Room (k + 1) X.A) (hb : L2.Binds X.K fd ps [])
    (ho : QE X o a) (hi : QE X i ay) (hsl : ∀ a iv, subscripted i true (.ref a) iv = runValue (.builtin "lifetime.subscript" ⟨[.ref a, iv], []⟩) := by intro _ _; with_unfolding_all rfl) : QE X (.Subscript o i pos) (aIxO C ct a ay) := by
  obtain ⟨t1, p1, s1⟩ := ho
  obtain ⟨t2, p2, s2⟩ := hi
  refine ⟨_, pe_subO (E := E0) hs hf hfn F hr hb pass0 p1 p2 hsl, fun {B _ _ _ _} b sl {_ _} kk q => s1 b sl (fun B1 v d H1 μ1 e1 b1 r1 q1 => s2 b1 (sl.up e1) (fun B2 u y H2 μ2 e2 b2 r2 q2 => ?_) q1) q⟩
  have r1 := r1.up e2
  cases r1 <;> first | exact q2.elim | skip
  rename_i p
  simp only at q2
  split at q2
  · rename_i C' fs hm
    obtain ⟨rfl, q2⟩ := q2
    obtain ⟨dx, ws, h1, h2⟩ := (b2.cell p _ hm).2
    exact ⟨p, dx, ws, rfl, h1, B2, μ2, _, _, b2, .cons (.ptr p) (.cons r2 .nil), q2, fun B' v d H' μ' e3 => kk B' v d H' μ' ((e1.trans e2).trans e3)⟩
  · exact q2.elim
theorem cq_lenO (hs : PySem.W.findIn X.K (.ref C) "__len__" = some (some (.ref f))) (hf : PySem.W.typeIn X.K (.ref f) = some (.type "function")) (F : FnOk X.prog X.w X.K X.mg X.base CX0 k f fd ps (spOf ct)) (hr : Room (k + 1) X.A) (hb : L2.Binds X.K fd ps []) : CallQ X (.builtin "len") (aLenO C ct) := ⟨_, call_lenO (E := E0) hs hf F hr hb pass0, fun {B _ _ _ _} b r {_ _} kk q => by
  unfold aLenO at q
  split at q
  · rename_i p
    obtain ⟨v, rfl, r1⟩ := one_rep r
    cases r1
    split at q
    · rename_i C' fs hm
      obtain ⟨rfl, q⟩ := q
      obtain ⟨dx, ws, h1, h2⟩ := (b.cell p _ hm).2
      refine ⟨p, dx, ws, rfl, h1, B, _, _, _, b, .cons (.ptr p) .nil, q, fun B' v d H' μ' e1 b1 r1 q1 => ?_⟩
      cases r1 <;> first | exact q1.elim | skip
      rename_i n
      obtain ⟨m, rfl⟩ : ∃ m : Nat, n = (m : Int) := ⟨_, (Int.toNat_of_nonneg q1.1).symm⟩
      exact ⟨m, rfl, by have := q1.2.1; omega, kk _ _ _ _ _ e1 b1 (.int _) q1.2.2⟩
    · exact q.elim
  · exact q.elim⟩
end
end DL

set_option maxHeartbeats 4000000
/-! for k, v in d.items(): d a locked dict whose keys are tuples. -/
namespace Gd
open PySem PySem.Spec PyProof.Rows L2
/-- the pairs: new tuples of the key's own tuple and the value -/
def ItiT (d : Addr) (ob : Obj) (m : List (List Key × V)) : It where
  go := fun i G => G d = some (.frz ob (.dT m)) ∧ i < m.length
  yld := fun i G x G' => ∃ (T q : Addr) (kk : List Key) (v : V), m[i]? = some (kk, v) ∧ x = .ref T ∧ G q = some (.tup (kk.map kV)) ∧ G T = none ∧ G' = upd G T (.tup [.ref q, v])
  stop := fun i G => G d = some (.frz ob (.dT m)) ∧ m.length ≤ i
section
variable {X : Cx} {pins : List (Addr × Obj)} {σ : L2.St} {H : Hp} {s : Shared} {d : Addr} {ob : Obj} {m : List (List Key × V)}
theorem frzT_full (I : Inv X pins σ H s) (h : H d = some (.frz ob (.dT m))) : (d == sysModules) = false ∧ s.heap.get? d = some ob ∧ ∃ (es : Array DictEntry) (ep : Nat), ob.data = .dict es ep ∧ DT.Raw s.heap d es ep ∧ es.size = m.length ∧
    ∀ (i : Nat) (kk : List Key) (v : V), m[i]? = some (kk, v) → ∃ (q : Addr) (hi : i < es.size), es[i].key = .ref q ∧ H q = some (.tup (kk.map kV)) ∧ RelV v es[i].val := by
  obtain ⟨g1, _, g2, xs, pr, o2, es, ep, g3, g4, g5, g6, _⟩ := I.hok d _ h
  rw [g1] at g3
  cases g3
  have hz : es.size = m.length := by
    have z1 : es.size = xs.length := size_of_entries g6
    have z2 := Paired.length pr
    omega
  refine ⟨g2, g1, es, ep, g5, ⟨_, g1, g4, g5⟩, hz, fun i kk v e => ?_⟩
  obtain ⟨b, hb, _, e2, e3⟩ := paired_get pr e
  have y := entry_at g6 i
  rw [hb] at y
  have hi : i < es.size := (Array.getElem?_eq_some_iff.mp y).1
  have y2 : es[i] = _ := (Array.getElem?_eq_some_iff.mp y).2
  exact ⟨b.2.1, hi, by rw [y2] <;> rfl, e2, by rw [y2]; exact e3⟩
end
section
variable {P : Program} {w : World} {K : PySem.W.Frag} {d : Addr} {ob : Obj} {es : Array DictEntry} {ep : Nat} {m : List (List Key × V)}
theorem turn_itemsT {elts : List Expr} {kk : Nat} {tpos : Pos} (c : Addr) (hod : ob.data = .dict es ep) : Turn P w K (.Tuple elts kk tpos) (ItiT d ob m) [c] c (fun i h => ∃ k0 v0, IsItemIter h c d i es.size ep k0 v0) where
  mem := List.mem_singleton.mpr rfl
  obj := by
    rintro i h ⟨k0, v0, e⟩ b hb
    cases List.mem_singleton.mp hb
    exact ⟨_, e, fun v z => nomatch z⟩
  keep := by
    rintro i h h' ⟨k0, v0, e⟩ k
    exact ⟨k0, v0, k c (List.mem_singleton.mpr rfl) _ e⟩
  item := by
    intro X hP hw hK hc i pins s σ H E I hf st hg
    subst hP hw hK
    have hfc := hf c (List.mem_singleton.mpr rfl)
    obtain ⟨g1, _, es2, ep2, g3, g4, g5, g6⟩ := frzT_full I hg.1
    obtain ⟨rfl, rfl⟩ := dict_ep hod g3
    have hkv : m[i]? = some (m[i]'hg.2) := List.getElem?_eq_getElem hg.2
    obtain ⟨q, hi, y1, y2, y3⟩ := g6 i _ _ hkv
    obtain ⟨k0, v0, he⟩ := st
    have lt := Heap.lt_size he
    refine DT.nextI he g4 hi fun h1 n1 n2 n3 n4 => ⟨_, rfl, wpAny_letOwnedTupleGo_items (s := { s with heap := h1 }) n1 fun h2 n5 n6 => ?_⟩
    have hT : h2.get? s.heap.objs.size = some { cls := .type "tuple", data := .seq #[es2[i].key, es2[i].val] } := (n6.2 _ (Nat.ne_of_gt lt)).trans n2
    have ok2 : ObjOk X.prog X.w (upd H s.heap.objs.size (.tup [.ref q, (m[i]'hg.2).2])) h2 s.heap.objs.size (.tup [.ref q, (m[i]'hg.2).2]) :=
      ⟨by show 2 ≤ sizeLine; decide, [es2[i].key, es2[i].val], .cons (by rw [y1]; exact rfl) (.cons y3 .nil), ⟨_, hT, rfl, _, rfl⟩⟩
    have I1 : Inv X pins σ (upd H s.heap.objs.size (.tup [.ref q, (m[i]'hg.2).2])) { s with heap := h2 } :=
      I.turnedNew (ch := [c]) (t' := s.toks) (fun b o2 hb e => (n6.2 b (fun z => hb (List.mem_singleton.mpr z))).trans (n4 b o2 (fun z => hb (List.mem_singleton.mpr z)) e)) hf (Nat.le_refl _) ok2
    refine ⟨.ref s.heap.objs.size, _, I1, rfl, ⟨_, q, _, _, hkv, rfl, y2, I.hok.fresh (Nat.le_refl _), rfl⟩, ⟨_, _, n5⟩, fun b hb => ?_⟩
    cases List.mem_singleton.mp hb
    rw [upd_ne (Nat.ne_of_lt lt)]
    exact hfc.1
  done := by
    intro X hP hw hK hc i pins s σ H E I hf st hg
    subst hP hw hK
    obtain ⟨z0, z1, z2, z3, z4, z5⟩ := hf c (List.mem_singleton.mpr rfl)
    obtain ⟨g1, _, es2, ep2, g3, g4, g5, g6⟩ := frzT_full I hg.1
    obtain ⟨rfl, rfl⟩ := dict_ep hod g3
    obtain ⟨k0, v0, he⟩ := st
    exact DT.endI (I.ok.hd hc) he g4 (by have := hg.2; omega) fun h1 eb => ⟨rfl, I.turned (t' := s.toks) (fun b o2 hb e => eb b o2 hb e) z0 z1 z3 z4 z5⟩
  self := by
    rintro A i s Q E ⟨_, _, e⟩ h
    exact PySem.W.kcp_self e h
end
def iItemsT (td : TE) : TI := fun σ G R => td σ G fun x G1 => ∃ d ob m, x = .ref d ∧ G1 d = some (.frz ob (.dT m)) ∧ R (ItiT d ob m) G1
section
variable {X : Cx} {e : Expr} {td : TE} {apos cpos : Pos}
theorem pi_itemsT {elts : List Expr} {kk : Nat} {tpos : Pos} (he : PE X e td) (hbase : attributeBase e "items" X.env (eval e X.env) = eval e X.env := by rfl) (hline : (apos.endLine == cpos.line) = true := by rfl) : PI X (.Tuple elts kk tpos) (.Call (.Attribute e "items" apos) [] [] cpos) (iItemsT td) := by
  refine ⟨fun pins s σ H R I h => ?_⟩
  refine wpAny_Call_method (T := "dict") (id := "dict.items") hbase rfl hline F.plainAttrs_dict F.slot_dict_items F.type_dict_items (thn (he.run pins s σ H _ I h) fun u s1 ⟨x, H1, I1, rx, d, ob, m, ex, hd, q⟩ => ?_)
  subst ex
  obtain rfl : u = Value.ref d := rx
  obtain ⟨g1, g2, es, ep, g3, g4, g5, g6⟩ := frzT_full I1 hd
  refine ⟨g4.typeIs, ?_, ?_⟩
  · intro a e
    cases e
    obtain ⟨o2, y1, y2, _⟩ := id g4
    exact ⟨o2, y1, y2.2.1⟩
  have I2 : Inv X pins σ H1 { s1 with heap := s1.heap.push { cls := .type "dict_items", data := .fields #[.ref d] } } := I1.kept (t' := s1.toks) fun b o2 z => Heap.get?_push_of_some _ z
  have fin : wpAny (model X.prog X.w) X.A (pyIter (.ref s1.heap.objs.size)) (PIE X pins σ (.Tuple elts kk tpos) R) X.xe { s1 with heap := s1.heap.push { cls := .type "dict_items", data := .fields #[.ref d] } } :=
    DT.iterI ⟨_, Heap.get?_push_size _ rfl, rfl, rfl⟩ (g4.push _) (pi_one (tk := s1.toks) I2 _ (turn_itemsT _ g3) ⟨.none, .none, Heap.get?_push_size _ rfl⟩ q)
  show wpAny _ _ (callWith cpos (.builtin "dict.items") [.ref d] [] []) _ X.xe s1
  exact method_meetsIn F.slot_dict_items F.entry_dict_items rfl (PySem.evalArgs_none ⟨rfl, g4.typeIs, F.args_dict_items_1 _, _, DT.meetsItems (es := es) (ep := ep) g1, g4, fin⟩)
end
end Gd

set_option maxHeartbeats 8000000
/-! set(l), l a list of ints. -/
namespace L2
open PySem PySem.Spec PyProof.Rows
section
variable {P : Program} {w : World} {A : Around} {E : Value → Shared → Prop} {s : Shared}
abbrev ob0 (w : World) : Obj := { cls := .type "set", dict := none, data := .set #[] 0 (.fresh 0 0 (!w.params.followText "set-order")) }
theorem set_of_list {l : Addr} {its : Array Value} (ns : List Int) {Q : Value → Shared → Prop} (hh : A.handled = none) (hl : s.heap.IsList l its) (hit : IntsAre its.toList ns) (hb : ns.length + 1 < scanBound)
    (h : ∀ (g : Heap) (tk c : Nat), SetR w g s.heap.objs.size (fun j => decide (j ∈ ns)) c → c ≤ ns.length → (∀ b o, s.heap.get? b = some o → g.get? b = some o) → Q (.ref s.heap.objs.size) { s with heap := g, toks := tk }) :
    wpAny (model P w) A (call (.type "set") [.ref l]) Q E s := by
  have hz : its.size = ns.length := by have y := IntsAre.length hit; rwa [Array.length_toList] at y
  obtain ⟨c0, t0, y0⟩ := F.called_set.mro; have y1 := F.called_set.made; have y2 := F.called_set.sub
  refine wpAny_call (codeAny_of_tree ?_); show wpAny _ _ (callAny (.type "set") _) _ _ _
  refine wpAny_pure ⟨Code.quiet_builtin _ (by decide +kernel), codeAny_builtin F.entry_type_call ?_⟩; rw [Around.under_plain (weight_type_call_type "set" [.ref l] []) rfl]
  have y3 := F.called_set.notType; have y4 := F.called_set.canCreate; have y5 := F.typeCall_set_1 (.ref l)
  repeat any_goals first | assumption | wp_step
  refine codeAny_mono (code_set_led1 (.ref l) (E := E) (Q₁ := fun ob s₁ => ob = .ref s.heap.objs.size ∧ s₁ = { s with heap := s.heap.push (ob0 w) }) ⟨rfl, rfl⟩) fun r s1 hr => ?_
  cases r with
  | error e => exact hr
  | ok fl =>
    cases fl with
    | ret ob =>
      obtain ⟨rfl, rfl⟩ := hr
      have hS : (s.heap.push (ob0 w)).get? s.heap.objs.size = some (ob0 w) := Heap.get?_push_size _ rfl
      have hT : Shared.TypeIs { s with heap := s.heap.push (ob0 w) } (.ref s.heap.objs.size) "set" := ⟨_, hS, rfl⟩
      have y6 := F.called_set.init.lookup; have y7 := F.called_set.init.bind (.ref s.heap.objs.size)
      repeat any_goals first | assumption | wp_step
      refine codeAny_mono (codeAny_call_builtin (R := wants (fun r s2 => r = .none ∧ ∃ g tk c, s2 = { s with heap := g, toks := tk } ∧ SetR w g s.heap.objs.size (fun j => decide (j ∈ ns)) c ∧ c ≤ ns.length ∧
          (∀ b o, s.heap.get? b = some o → g.get? b = some o)) E) F.called_set.init.plain F.entry_set_init (check_set_init_1 hT ?_)) fun r2 s2 hr2 => ?_
      · obtain ⟨⟨oc, od, odt, osl⟩, h1, h2, nl, h3⟩ := hl
        simp only at h2 h3
        subst h2; subst h3
        have h4 : (s.heap.push (ob0 w)).get? l = some { cls := .type "list", dict := od, data := .seq its nl, slots := osl } := Heap.get?_push_of_some _ h1
        have y8 := F.sub_list_set; have y9 := F.sub_list_frozenset; have y10 : (Value.type "list" == Value.type "dict") = false := by decide
        have hl1 : (s.heap.push (ob0 w)).IsList l its := ⟨_, h4, rfl, nl, rfl⟩
        unfold Builtin.«set.__init__» noKeywords Builtin.Frozenset.updateFrom
        generalize hPI : pyIter = PI
        wp_walk
        subst hPI
        refine wpAny_pyIter_list hl1 (wpAny_bind (wpAny_runValue ?_))
        have lt : l < s.heap.objs.size := Heap.lt_size h1
        have h5 : A.in1.in1.in1.handled = none := by simp [hh]
        have z1 : (s.heap.push (ob0 w)).objs.size = s.heap.objs.size + 1 := Heap.size_push ..
        have n1 : l ≠ (s.heap.push (ob0 w)).objs.size := by rw [z1]; exact Nat.ne_of_lt (Nat.lt_succ_of_lt lt)
        have n2 : s.heap.objs.size ∉ [(s.heap.push (ob0 w)).objs.size, l] := by
          rw [z1]
          intro y
          rcases List.mem_cons.mp y with y | y
          · exact Nat.ne_of_lt (Nat.lt_succ_self _) y
          · exact Nat.ne_of_gt lt (List.mem_singleton.mp y)
        have hv : ∀ (i : Nat) (v : Value), its[i]? = some v → ∃ k t, ns[i]? = some k ∧ v = .int k t := by
          intro i v e
          have hi : i < ns.length := by rw [← hz]; exact (Array.getElem?_eq_some_iff.mp e).1
          obtain ⟨t, y⟩ := PyProof.Rows.IntsAre.int_at hit i v (by rw [Array.getElem?_toList]; exact e)
          exact ⟨ns[i], t, List.getElem?_eq_getElem hi, by rw [y, List.getD_eq_getElem?_getD, List.getElem?_eq_getElem hi] <;> rfl⟩
        refine set_update_ints ((Walks.list h5 _ l n1 its).toS) s.heap.objs.size n2 ns hz hb hv (its.size - 0) 0 _ (by omega) (Nat.zero_le _) ⟨⟨_, Heap.get?_push_size _ rfl, rfl, rfl⟩, (hl1.push _)⟩ ?a1 ?a2
        case a1 => exact ⟨0, Nat.le_refl 0, setR_new_at (Heap.get?_push_of_some _ hS)⟩
        case a2 =>
          rintro ⟨g, g2, d', tk', os'⟩ c' hm hc' hS'
          have e1 : g2 = s.gens := hm.gens
          have e2 : d' = s.drawn := hm.drawn
          have e3 : os' = s.os := hm.os
          subst e1; subst e2; subst e3
          show wpAny _ _ _ _ _ _
          refine wpAny_pure ?_
          show wpAny _ _ (ret Value.none) _ _ _
          rw [hz] at hc'
          refine wpAny_pure ⟨rfl, g, tk', c', rfl, hS', hc', fun b o e => ?_⟩
          have b0 : b < s.heap.objs.size := Heap.lt_size e
          refine hm.heap b o (fun y => ?_) (Heap.get?_push_of_some _ (Heap.get?_push_of_some _ e))
          rcases List.mem_cons.mp y with y | y
          · exact Nat.ne_of_lt b0 y
          · exact Nat.ne_of_lt (Nat.lt_succ_of_lt b0) ((List.mem_singleton.mp y).trans z1)
      · cases r2 with
        | error e => exact hr2
        | ok fl2 =>
          cases fl2 with
          | ret r =>
            obtain ⟨rfl, g, tk, c, rfl, h1, h2, h3⟩ := hr2
            repeat any_goals first | assumption | wp_step
            exact h _ _ _ h1 h2 h3
          | _ => exact hr2.elim
    | _ => exact hr.elim
end
def rSetOfL (K : PySem.W.Frag) (w : World) : List V → Hp → VK → Prop := fun xs G Q => ∃ (l : Addr) (ns : List Int), xs = [V.ref l] ∧ SqL K G l (ns.map V.int) ∧ ns.length + 1 < scanBound ∧
  ∀ p c, G p = none → c ≤ ns.length → Q (.ref p) (upd G p (SetO w p (fun j => decide (j ∈ ns)) c))
theorem cr_setOfL {X : Cx} (hc : X.calm = true) : CallR X (.type "set") (rSetOfL X.K X.w) := by
  intro pins s σ H xs us Q I r h
  obtain ⟨l, ns, rfl, hl, hb, q⟩ := h
  rw [Vals.ref1 r]
  obtain ⟨its, rv, pl, hz⟩ := I.list hl
  refine set_of_list ns (I.ok.hd hc) pl.isList (by simpa using ints_of_vals rv) hb fun g tk c R hle k => ?_
  exact ⟨.ref s.heap.objs.size, upd H s.heap.objs.size (SetO X.w s.heap.objs.size (fun j => decide (j ∈ ns)) c), I.laid (t' := tk) k (Nat.le_refl _) (setO_new R), rfl, q _ c (I.hok.fresh (Nat.le_refl _)) hle⟩
end L2

set_option maxHeartbeats 4000000
/-! Over values: locked dicts, dict comprehensions, sets of ints sorted, makings, classmethods. -/
namespace DL
open PySem PySem.Spec PyProof.Rows L2 Evl Gd StX ClX
/-! ### a dict locked while it is walked -/
def aLock (a : AE) : AE := fun ρ μ Q => ∃ p, (∃ kvs, μ p = some (.dt kvs) ∧ ∀ o ws, a ρ (updM μ p (.lkt o ws kvs)) fun x μ1 => μ1 p = some (.lkt o ws kvs) ∧ Q x (updM μ1 p (.dt kvs)))
theorem qe_lock {X : Cx} {e : Expr} {a : AE} (h : QE X e a) : QE X e (aLock a) := by
  obtain ⟨t, p1, s1⟩ := h
  refine ⟨_, pe_lock p1, fun {B H _ _ _} b sl {_ _} k q => ?_⟩
  obtain ⟨p, kvs, hm, q⟩ := q
  obtain ⟨ws, h1, h2⟩ := (b.cell p _ hm).2
  refine ⟨p, .dT ws, h1, trivial, fun od => s1 (b.mut (c := .lkt od ws kvs) hm ⟨upd_same, h2⟩) sl (fun B1 v d H1 μ1 e1 b1 r1 q1 => ?_) (q od ws)⟩
  obtain ⟨g1, g2⟩ := (b1.cell p _ q1.1).2
  exact ⟨g1, k _ _ _ _ _ e1 (b1.mut (c := .dt kvs) q1.1 ⟨ws, upd_same, g2⟩) r1 q1.2⟩
/-- a tuple that stands is known -/
theorem not_tup {B H : Hp} {a : Addr} {c : Cell} {xs : List V} (h : CellRep B H a c) : H a ≠ some (.tup xs) := by
  intro e
  cases c with
  | lst ds => obtain ⟨vs, h1, h2⟩ := h; rw [e] at h1; cases h1
  | lsr ds => obtain ⟨vs, h1, h2⟩ := h; rcases h1 with h1 | ⟨o, h1⟩ <;> rw [e] at h1 <;> cases h1
  | dk ds => obtain ⟨vs, h1, h2⟩ := h; rw [e] at h1; cases h1
  | dt ds => obtain ⟨vs, h1, h2⟩ := h; rw [e] at h1; cases h1
  | ins C ds => obtain ⟨dx, vs, h1, h2⟩ := h; rw [e] at h1; cases h1
  | raw u => obtain ⟨h1, h2⟩ := h; rw [e] at h1; exact h2 xs (Option.some.inj h1).symm
  | lkk o ws kvs => have := h.1; rw [e] at this; cases this
  | lkt o ws kvs => have := h.1; rw [e] at this; cases this
theorem Base.know {B H : Hp} {μ : Mu} (b : Base B H μ) {q : Addr} {xs : List V} (h : H q = some (.tup xs)) : ∃ B', Ex B B' ∧ Base B' H μ ∧ B' q = some (.tup xs) := by
  have e : Ex B (upd B q (.tup xs)) := fun a u z => by
    by_cases y : a = q
    · subst y
      have := b.ex _ _ z
      rw [h] at this
      rw [upd_same]
      exact this
    · rw [upd_ne y]; exact z
  refine ⟨_, e, ⟨fun a u z => ?_, fun a c z => ?_⟩, upd_same⟩
  · by_cases y : a = q
    · subst y
      rw [upd_same] at z
      rw [h]
      exact z
    · rw [upd_ne y] at z; exact b.ex _ _ z
  · obtain ⟨g1, g2⟩ := b.cell a c z
    have y : a ≠ q := fun y => not_tup g2 (y ▸ h)
    exact ⟨by rw [upd_ne y]; exact g1, g2.up e⟩
def kD : Key → D
  | .inl i => .int i
  | .inr z => .str z
theorem rep_kD {B : Hp} (k : Key) : Rep B (kV k) (kD k) := by
  cases k with
  | inl i => exact .int i
  | inr z => exact .str z
theorem rep_kDs {B : Hp} : ∀ ks : List Key, RepA B (ks.map kV) (ks.map kD)
  | [] => .nil
  | k :: ks => .cons (rep_kD k) (rep_kDs ks)
/-- the keys of a locked dict of tuple keys -/
def aIKeysT (a : AE) : AI := fun ρ μ R => a ρ μ fun x μ1 => match x with
  | .ptr p => (match μ1 p with
    | some (.lkt o ws kvs) => R (kvs.map fun kv => .tup (kv.1.map kD)) (fun μ2 => μ2 p = some (.lkt o ws kvs)) μ1
    | _ => False)
  | _ => False
def aIItemsT (a : AE) : AI := fun ρ μ R => a ρ μ fun x μ1 => match x with
  | .ptr p => (match μ1 p with
    | some (.lkt o ws kvs) => R (kvs.map fun kv => .tup [.tup (kv.1.map kD), kv.2]) (fun μ2 => μ2 p = some (.lkt o ws kvs)) μ1
    | _ => False)
  | _ => False
theorem kv_at {κ : Type} {B : Hp} : ∀ {ws : List (κ × V)} {kvs : List (κ × D)} {i : Nat} {k : κ} {v : V}, KvRep B ws kvs → ws[i]? = some (k, v) → ∃ d, kvs[i]? = some (k, d) ∧ Rep B v d
  | _, _, i, k, v, .nil, h => by simp at h
  | (k1, x) :: ws, (k2, e) :: kvs, 0, k, v, .cons h r, e2 => by
    cases e2
    exact ⟨e, by show some (k2, e) = some (k1, e); rw [show k1 = k2 from h.1], h.2⟩
  | (k1, x) :: ws, (k2, e) :: kvs, i + 1, k, v, .cons h r, e2 => by
    obtain ⟨d, g1, g2⟩ := kv_at (i := i) r (by simpa using e2)
    exact ⟨d, by simpa using g1, g2⟩
theorem walk_itemsT {d : Addr} {o : Obj} {kvs : List (List Key × V)} : Walk (ItiT d o kvs) kvs.length (fun H => H d = some (.frz o (.dT kvs)))
    (fun i H x H' => ∃ (T q : Addr) (kk : List Key) (v : V), kvs[i]? = some (kk, v) ∧ x = .ref T ∧ H q = some (.tup (kk.map kV)) ∧ H T = none ∧ H' = upd H T (.tup [.ref q, v])) :=
  ⟨fun _ _ hi q => ⟨q, hi⟩, fun _ q => ⟨q, Nat.le_refl _⟩, fun _ _ _ _ _ _ y => y⟩
section
variable {X : Cx} {tg e : Expr} {a : AE} {apos cpos : Pos}
theorem qi_keysT (h : QE X e a) : QI X tg e (aIKeysT a) := by
  obtain ⟨t1, p1, s1⟩ := h
  refine ⟨_, pi_keys p1, fun {B _ _ _ _} b sl {Ra R} k q => s1 b sl (fun B1 v d H1 μ1 e1 b1 r1 q1 => ?_) q⟩
  cases r1 <;> first | exact q1.elim | skip
  rename_i p
  simp only at q1
  split at q1
  · rename_i o ws kvs hm
    obtain ⟨g1, g2⟩ := (b1.cell p _ hm).2
    refine ⟨p, o, rfl, .inr ⟨ws, g1, k B1 H1 μ1 _ (fun μ2 => μ2 p = some (.lkt o ws kvs)) _ _ _ e1 b1 (by rw [List.length_map, ← kv_len g2]; exact walk_keysT) (fun B2 H2 μ2 e2 b2 st => (show H2 p = some (.frz o (.dT ws)) ∧ KvRep B2 ws kvs from (b2.cell p _ st).2).1) (fun B2 H2 μ2 i x d H3 e2 b2 st hx y => ?_) q1⟩⟩
    obtain ⟨rfl, kk, v, q, h1, rfl, h2⟩ := y
    obtain ⟨d', h3, h4⟩ := kv_at (show H3 p = some (.frz o (.dT ws)) ∧ KvRep B2 ws kvs from (b2.cell p _ st).2).2 h1
    rw [List.getElem?_map, h3] at hx
    cases hx
    obtain ⟨B3, e3, b3, h5⟩ := b2.know h2
    exact ⟨B3, e3, b3, .tup h5 (rep_kDs kk)⟩
  · exact q1.elim
theorem qi_itemsT {elts : List Expr} {kk : Nat} {tpos : Pos} (h : QE X e a) (hbase : attributeBase e "items" X.env (eval e X.env) = eval e X.env := by rfl) (hline : (apos.endLine == cpos.line) = true := by rfl) : QI X (.Tuple elts kk tpos) (.Call (.Attribute e "items" apos) [] [] cpos) (aIItemsT a) := by
  obtain ⟨t1, p1, s1⟩ := h
  refine ⟨_, pi_itemsT p1 hbase hline, fun {B _ _ _ _} b sl {Ra R} k q => s1 b sl (fun B1 v d H1 μ1 e1 b1 r1 q1 => ?_) q⟩
  cases r1 <;> first | exact q1.elim | skip
  rename_i p
  simp only at q1
  split at q1
  · rename_i o ws kvs hm
    obtain ⟨g1, g2⟩ := (b1.cell p _ hm).2
    refine ⟨p, o, ws, rfl, g1, k B1 H1 μ1 _ (fun μ2 => μ2 p = some (.lkt o ws kvs)) _ _ _ e1 b1 (by rw [List.length_map, ← kv_len g2]; exact walk_itemsT) (fun B2 H2 μ2 e2 b2 st => (show H2 p = some (.frz o (.dT ws)) ∧ KvRep B2 ws kvs from (b2.cell p _ st).2).1) (fun B2 H2 μ2 i x d H3 e2 b2 st hx y => ?_) q1⟩
    obtain ⟨T, q, kk, v, h1, rfl, h2, hT, rfl⟩ := y
    obtain ⟨d', h3, h4⟩ := kv_at (show H2 p = some (.frz o (.dT ws)) ∧ KvRep B2 ws kvs from (b2.cell p _ st).2).2 h1
    rw [List.getElem?_map, h3] at hx
    cases hx
    obtain ⟨B3, e3, b3, h5⟩ := b2.know h2
    obtain ⟨B4, e4, b4, h6⟩ := pair_new b3 hT (.tup h5 (rep_kDs kk)) (h4.up e3)
    exact ⟨B4, e3.trans e4, b4, h6⟩
  · exact q1.elim
end
/-! ### dict comprehensions -/
def aDc (w : AI) (g : AG) (t : AT) (ak av : AE) (ws : List Nat) : AE := fun ρ μ Q => w ρ μ fun xs stays μ1 => ∀ p, μ1 p = none → ∃ Inv : Nat → List (Key × D) → Mu → Prop, Inv 0 [] (updM μ1 p (.dk [])) ∧ (∀ i acc μ', i ≤ xs.length → Inv i acc μ' → stays μ') ∧
  (∀ i x acc μ', xs[i]? = some x → Inv i acc μ' → g x (wipeD ρ ws) μ' fun ρ2 μ2 => t ρ2 μ2 fun b μ3 =>
    if b = true then ak ρ2 μ3 fun k μ4 => av ρ2 μ4 fun d μ5 => ∃ kk, k.key = some kk ∧ μ5 p = some (.dk acc) ∧ acc.length < 100000 ∧ Inv (i + 1) (putD acc kk d) (updM μ5 p (.dk (putD acc kk d))) else Inv (i + 1) acc μ3) ∧ (∀ acc μ', Inv xs.length acc μ' → Q (.ptr p) μ')
section
variable {X : Cx}
theorem dc_it {J : It} {n : Nat} {G : Hp → Prop} {Y : Nat → Hp → V → Hp → Prop} (w : Walk J n G Y) {g : TG} {tt : TT} {tk tv : TE} {vs : List Nat} {σ : L2.St} {H1 : Hp} {D : Addr} {Qd : Hp → Prop} (Pv : Nat → Hp → Prop) (h0 : Pv 0 (upd H1 D (.dK []))) (hG : ∀ i H, i ≤ n → Pv i H → G H)
    (hs : ∀ i x H H', i < n → Pv i H → Y i H x H' → g x (wipe σ vs) H' fun σ2 H2 => wipe σ2 vs = wipe σ vs ∧ tt σ2 H2 fun b H3 =>
      if b = true then tk σ2 H3 fun y H4 => tv σ2 H4 fun z H5 => ∃ kvs k, y = kV k ∧ H5 D = some (.dK kvs) ∧ kvs.length < sizeLine ∧ Pv (i + 1) (upd H5 D (.dK (putK kvs k z))) else Pv (i + 1) H3) (hd : ∀ H, Pv n H → Qd H) :
    ∃ W : Nat → Nat → Hp → Prop, (∃ m, W 0 m (upd H1 D (.dK []))) ∧ ∀ i m H, W i m H →
      (J.stop i H ∧ Qd H) ∨ (J.go i H ∧ ∃ Nx : Hp → Prop, (∀ H', Nx H' → ∃ m', m' < m ∧ W (i + 1) m' H') ∧ ∀ x H', J.yld i H x H' → g x (wipe σ vs) H' fun σ2 H2 => wipe σ2 vs = wipe σ vs ∧ tt σ2 H2 fun b H3 =>
        if b = true then tk σ2 H3 fun y H4 => tv σ2 H4 fun z H5 => ∃ kvs k, y = kV k ∧ H5 D = some (.dK kvs) ∧ kvs.length < sizeLine ∧ Nx (upd H5 D (.dK (putK kvs k z))) else Nx H3) := by
  refine ⟨fun i m H => m + i = n ∧ Pv i H, ⟨n, rfl, h0⟩, ?_⟩
  rintro i m H ⟨e, p⟩
  have y := hG i H (by omega) p
  rcases Nat.eq_zero_or_pos m with z | z
  · obtain rfl : i = n := by omega
    exact .inl ⟨w.stops H y, hd H p⟩
  · exact .inr ⟨w.goes i H (by omega) y, Pv (i + 1), fun H' p' => ⟨m - 1, by omega, by omega, p'⟩, fun x H' u => hs i x H H' (by omega) p (w.yields i H x H' (by omega) y u)⟩
theorem sim_dc {w : AI} {g : AG} {S : List Nat} {t : AT} {ak av : AE} {t1 : TI} {t2 : TG} {t3 : TT} {t4 t5 : TE} {ws : List Nat} (s1 : SimI t1 w) (s2 : SimG t2 S g) (hS : ∀ i ∈ S, i ∈ ws) (s3 : SimT t3 t) (s4 : SimE t4 ak) (s5 : SimE t5 av) : SimE (tDc t1 t2 t3 t4 t5 ws) (aDc w g t ak av ws) := fun {B _ ρ _ σ} b sl {Qa Q} k q => by
  refine s1 b sl (fun B1 H1 μ1 xs st J G Y e1 b1 wk hG hY q1 => ?_) q
  intro p hp
  obtain ⟨Inv, i0, ist, ith, iend⟩ := q1 p (b1.fresh hp)
  refine dc_it wk (fun i H' => ∃ B' acc μ', Ex B1 B' ∧ Base B' H' μ' ∧ Inv i acc μ') ⟨B1, [], _, Ex.refl B1, b1.new (c := .dk []) hp ⟨[], upd_same, .nil⟩, i0⟩ (fun i H' hi ⟨B', acc, μ', e2, b2, q2⟩ => hG B' H' μ' e2 b2 (ist i acc μ' hi q2)) (fun i x H' H2 hi ⟨B', acc, μ', e2, b2, q2⟩ y => ?_)
    (fun H' ⟨B', acc, μ', e2, b2, q2⟩ => k B' _ _ H' μ' (e1.trans e2) b2 (.ptr p) (iend acc μ' q2))
  have hx := List.getElem?_eq_getElem hi
  obtain ⟨B3, e3, b3, r3⟩ := hY B' H' μ' i x _ H2 e2 b2 (ist i acc μ' (Nat.le_of_lt hi) q2) hx y
  have e13 := e2.trans e3
  refine s2 b3 ((sl.wipe ws).up (e1.trans e13)) r3 (fun B4 H4 ρ4 μ4 σ4 e4 b4 sl4 o4 q4 => ⟨o4.wipe hS, ?_⟩) (ith i _ acc μ' hx q2)
  refine s3 b4 sl4 (fun B5 kk H5 μ5 e5 b5 q5 => ?_) q4
  have e15 := (e13.trans e4).trans e5
  cases kk with
  | true =>
    refine s4 b5 (sl4.up e5) (fun B6 v d H6 μ6 e6 b6 r6 q6 => s5 b6 (sl4.up (e5.trans e6)) (fun B7 v2 d2 H7 μ7 e7 b7 r7 q7 => ?_) q6) q5
    obtain ⟨kk, hk, hm, hl, q7⟩ := q7
    obtain ⟨us, h1, h2⟩ := (b7.cell _ _ hm).2
    exact ⟨us, kk, key_ok r6 hk, h1, sz_lt (by rw [kv_len h2]; exact hl), B7, _, _, (e15.trans e6).trans e7, b7.mut (c := .dk (putD acc kk d2)) hm ⟨_, upd_same, kv_put h2 r7⟩, q7⟩
  | false => exact ⟨B5, _, _, e15, b5, q5⟩
theorem qe_dc {kx vx tg iter : Expr} {ifs : List Expr} {scope : Scope} {own : List (Str × Nat)} {pos : Pos} {w : AI} {g : AG} {S : List Nat} {t : AT} {ak av : AE} (hc : X.calm = true) (hN : X.N.Nodup) (hi : QI X tg iter w) (ok : BlkOk X.N X.env.scope scope own)
    (hg : ∀ (s : Shared) (H : Hp) (C : Addr) (cl : List (Str × Addr)) (fp : List Addr), QG (X.blk s H scope (compEnvC scope cl C X.env) fp) tg S g) (ht : ∀ (s : Shared) (H : Hp) (C : Addr) (cl : List (Str × Addr)) (fp : List Addr), QTs (X.blk s H scope (compEnvC scope cl C X.env) fp) ifs t)
    (hk : ∀ (s : Shared) (H : Hp) (C : Addr) (cl : List (Str × Addr)) (fp : List Addr), QE (X.blk s H scope (compEnvC scope cl C X.env) fp) kx ak) (he : ∀ (s : Shared) (H : Hp) (C : Addr) (cl : List (Str × Addr)) (fp : List Addr), QE (X.blk s H scope (compEnvC scope cl C X.env) fp) vx av)
    (hS : ∀ i ∈ S, i ∈ own.map (·.2) := by decide) (hs : ∀ x, foldedSetIterable iter X.env x = pure x := by intro _; rfl) : QE X (.DictComp kx vx [⟨tg, iter, ifs, 0⟩] scope pos) (aDc w g t ak av (own.map (·.2))) := by
  obtain ⟨t1, p1, s1⟩ := hi
  exact ⟨_, pe_dc hc hN p1 ok (fun s H C cl fp => (hg s H C cl fp).can) (fun s H C cl fp => (ht s H C cl fp).can) (fun s H C cl fp => (hk s H C cl fp).can) (fun s H C cl fp => (he s H C cl fp).can) hs, sim_dc s1 simcG hS simcT simcE simcE⟩
end
/-! ### sets of ints, sorted -/
def aSetL : FC := fun xs μ Q => match xs with
  | [x] => (match ptrList μ x with
    | some ds => ∃ ns : List Int, ds = ns.map .int ∧ ns.length < 60 ∧ ∀ (u : Addr → HO) p, (∀ a xs, u a ≠ .tup xs) → μ p = none → Q (.ptr p) (updM μ p (.raw (u p)))
    | none => False)
  | _ => False
theorem ext_tup {f : Heap → Prop} {xs : List V} : HO.ext f ≠ .tup xs := fun e => nomatch e
/-- sorted(set(l)): a new list -/
def aSorted (a : AE) : AE := fun ρ μ Q => a ρ μ fun x μ1 => match x with
  | .ptr l => (match listM μ1 l with
    | some ds => ∃ ns : List Int, ds = ns.map .int ∧ ns.length < 60 ∧ ∀ (u : HO) r p (ms : List Int), (∀ xs, u ≠ .tup xs) → μ1 r = none → updM μ1 r (.raw u) p = none → ms.Pairwise (· < ·) → (∀ k : Int, k ∈ ms ↔ k ∈ ns) → Q (.ptr p) (updM (updM μ1 r (.raw u)) p (.lst (ms.map .int)))
    | none => False)
  | _ => False
theorem ints_rep {B : Hp} : ∀ ms : List Int, RepA B (ms.map V.int) (ms.map D.int)
  | [] => .nil
  | m :: ms => .cons (.int m) (ints_rep ms)
section
variable {X : Cx} {o : Expr} {es : List Expr} {p p2 pos pos2 : Pos} {a : AE}
theorem qe_sorted_set (hc : X.calm = true) (hg1 : Gl X "sorted") (hm1 : X.mg "sorted" = none) (hg2 : Gl X "set") (hm2 : X.mg "set" = none) (ho : QE X o a) (hs1 : starEach [.Call (.Name "set" p2) [o] [] pos2] X.env = (false, eval (.Call (.Name "set" p2) [o] [] pos2) X.env) :: starEach [] X.env := by rfl)
    (hs2 : starEach [o] X.env = (false, eval o X.env) :: starEach [] X.env := by rfl) : QE X (.Call (.Name "sorted" p) [.Call (.Name "set" p2) [o] [] pos2] [] pos) (aSorted a) := by
  obtain ⟨t, p1, s1⟩ := ho
  refine ⟨_, pe_callB (cr_sortedSet hc) hg1 hm1 (by decide +kernel) (pa_cons (pe_callTy (cr_setOfL hc) hg2 hm2 (by decide +kernel) (pa_cons p1 pa_nil (hs := hs2)) (he := hs2)) pa_nil (hs := hs1)) (he := hs1), fun {B _ _ _ _} b sl {_ _} k q => s1 b sl (fun B1 v d H1 μ1 e1 b1 r1 q1 => ?_) q⟩
  cases r1 <;> first | exact q1.elim | skip
  rename_i l
  simp only at q1
  split at q1
  · rename_i ds hl
    obtain ⟨ns, rfl, h60, q1⟩ := q1
    obtain ⟨vs, h1, h2⟩ := listM_rep (K := X.K) b1 hl
    obtain rfl := reps_int h2
    refine ⟨l, ns, rfl, h1, by unfold scanBound; omega, fun r c hr hle => ?_⟩
    have b2 := b1.new (c := .raw (SetO X.w r (fun j => decide (j ∈ ns)) c)) hr ⟨upd_same, fun _ => ext_tup⟩
    refine ⟨r, _, c, rfl, upd_same, by omega, fun ms p hms hk hlen hp => ?_⟩
    exact k _ _ _ _ _ e1 (b2.new (c := .lst (ms.map .int)) hp ⟨_, upd_same, ints_rep ms⟩) (.ptr p) (q1 _ r p ms (fun _ => ext_tup) (b1.fresh hr) (b2.fresh hp) hms fun kk => by rw [hk kk]; simp)
  · exact q1.elim
end
end DL

set_option maxHeartbeats 4000000
/-! Over values: instances made, classmethods, dict(t). -/
namespace Gd
open PySem PySem.Spec PyProof.Rows L2 StX ClX
section
variable {X : Cx} {CX : CXT} {k i : Nat} {f C : Addr} {sp : Sp} {E : XK} {x : Str} {e : Expr} {te : TE} {p sp_ pos : Pos}
/-- what making an instance asks -/
def MadeS (C : Addr) (sp : Sp) (E : XK) (vs : List V) (H1 : Hp) (Q : VK) : Prop := ∀ x dx, H1 x = Option.none → H1 dx = Option.none → dx ≠ x →
  sp (V.ref x :: vs) (upd (upd H1 dx (.own x)) x (.ins C dx [])) (fun v H2 => v = .non ∧ Q (.ref x) H2) E
/-- C() -/
theorem pe_makeR0 (M : Mk X.K C f) (F : FnR X.prog X.w X.K X.mg X.base CX k f sp) (hr : Room (k + 1) X.A) (hg : Gl X x) (hm : X.mg x = some (.ref C)) (hx : Passes CX X E) (hdb : (x == ("__debug__" : Str)) = false := by decide) :
    PE X (.Call (.Name x p) [] [] pos) (fun σ H Q => MadeS C sp E [] H Q) := by
  refine ⟨fun pins s σ H Q I h => ?_⟩
  refine wpAny_Call_Name_kw (ld_glob I hg hm ?_ hdb)
  exact PySem.W.callWith_K0 (first := []) I.kIn M.kp (run_makeR (us := []) (vs := []) M F hr hx I .nil h)
/-- c(*ys), c a local that holds the class -/
theorem pe_makeStar (M : Mk X.K C f) (F : FnR X.prog X.w X.K X.mg X.base CX k f sp) (hr : Room (k + 1) X.A) (hN : X.N[i]? = some x) (hv : Vis X.env.scope x) (hx : Passes CX X E) (he : PE X e te)
    (hdb : (x == ("__debug__" : Str)) = false := by decide) (hcd : (x == ("__classdict__" : Str)) = false := by decide) (hst : starEach [.Starred e sp_] X.env = [(true, eval e X.env)] := by rfl) :
    PE X (.Call (.Name x p) [.Starred e sp_] [] pos) (fun σ H Q => σ[i]? = some (some (.ref C)) ∧ te σ H fun y H1 => ∃ a xs, y = V.ref a ∧ (SqT X.K H1 a xs ∨ SqL X.K H1 a xs) ∧ MadeS C sp E xs H1 Q) := by
  refine ⟨fun pins s σ H Q I h => ?_⟩
  obtain ⟨h1, h2⟩ := h
  refine wpAny_Call_Name_kw (thn ((pe_var (pos := p) hN hv hdb hcd).run pins s σ H (fun v H1 => v = .ref C ∧ H1 = H) I ⟨.ref C, h1, rfl, rfl⟩) fun u s1 ⟨v, H1, I1, r1, e1, e2⟩ => ?_)
  subst e1; subst e2
  cases r1
  refine PySem.W.callWith_S (h₀ := X.base) I.ok.mod.kin M.kp (thn (he.run pins s1 σ _ _ I1 h2) fun v s2 ⟨y, H2, I2, ry, a, xs, ey, hxs, q⟩ => ?_) hst
  subst ey
  cases ry
  exact star_any I2 hxs fun us s3 I3 rv => ⟨I3.kIn, run_makeR M F hr hx I3 rv q⟩
end
end Gd
namespace DL
open PySem PySem.Spec PyProof.Rows L2 Evl Gd StX ClX
section
variable {P : Program} {w : World} {K : PySem.W.Frag} {mg : Str → Option Value} {base : Heap} {k : Nat} {f : Addr}
/-- def f(a, *v): what it promises, from what its body promises -/
theorem fnR_star {ct ctB : Ct} (F : FnR P w K mg base CX0 k f (fun vs H Q E => ∃ ws rest, vs = ws ++ rest ∧ ws.length = 1 ∧ rest.length ≤ sizeLine ∧ ∀ p, H p = Option.none → spOf ctB (ws ++ [V.ref p]) (upd H p (.tup rest)) Q E))
    (h : ∀ ds μ Q, ct ds μ Q → ∃ d rest, ds = d :: rest ∧ rest.length ≤ 100000 ∧ ctB [d, .tup rest] μ Q) : FnR P w K mg base CX0 k f (spOf ct) := by
  intro A outer s H us vs Q E hr e0 r hsp
  obtain ⟨B, μ, ds, Qa, b, r1, hc, kk⟩ := hsp
  obtain ⟨d, rest, rfl, hl, hc⟩ := h _ _ _ hc
  cases r1 with
  | @cons v _ vs _ r1 r2 =>
    refine F A outer s H us _ Q E hr e0 r ⟨[v], vs, rfl, rfl, sz_of (by rw [r2.len]; exact hl), fun p hp => ?_⟩
    have e1 := Ex.new (o := .tup vs) (b.bfresh hp)
    exact ⟨_, μ, _, Qa, b.tup hp, .cons (r1.up e1) (.cons (.tup upd_same (r2.up e1)) .nil), hc, fun B' v d H' μ' e2 => kk B' v d H' μ' (e1.trans e2)⟩
/-- making: the new instance is told of no field -/
def Made (C : Addr) (ct : Ct) (ds : List D) (μ : Mu) (Q : DK) : Prop := ∀ x, μ x = none → ct (.ptr x :: ds) (updM μ x (.ins C [])) fun d μ2 => d = .non ∧ Q (.ptr x) μ2
theorem made_ok {B H : Hp} {μ : Mu} {C : Addr} {ct : Ct} {vs : List V} {ds : List D} {Qa : DK} {Q : VK} {E : XK} (b : Base B H μ) (r : RepA B vs ds) (q : Made C ct ds μ Qa) (kk : ∀ B' v d H' μ', Ex B B' → Base B' H' μ' → Rep B' v d → Qa d μ' → Q v H') : MadeS C (spOf ct) E vs H Q := by
  intro x dx hx hdx ne
  have b1 : Base B (upd H dx (.own x)) μ := (b.new (c := .raw (.own x)) hdx ⟨upd_same, fun _ z => nomatch z⟩).drop (Mle.new (b.fresh hdx))
  have hx1 : (upd H dx (.own x)) x = none := by rw [upd_ne (fun z => ne z.symm)]; exact hx
  have b2 := b1.new (c := .ins C []) (o := .ins C dx []) hx1 ⟨dx, [], upd_same, .nil⟩
  refine ⟨B, _, _, _, b2, .cons (.ptr x) r, q x (b.fresh hx), fun B' v d H' μ' e1 b3 r3 q3 => ?_⟩
  obtain ⟨rfl, q3⟩ := q3
  cases r3
  exact ⟨rfl, kk _ _ _ _ _ e1 b3 (.ptr x) q3⟩
end
def aMake (C : Addr) (ct : Ct) (as : AA) : AE := fun ρ μ Q => as ρ μ fun ds μ1 => Made C ct ds μ1 Q
def aMakeStar (i : Nat) (C : Addr) (ct : Ct) (a : AE) : AE := fun ρ μ Q => ρ[i]? = some (some (.ptr C)) ∧ a ρ μ fun x μ1 => match x.items with
  | some xs => Made C ct xs μ1 Q
  | none => False
def aCMeth (C : Addr) (ct : Ct) (a : AE) (as : AA) : AE := fun ρ μ Q => a ρ μ fun x μ1 => x = .ptr C ∧ as ρ μ1 fun ds μ2 => ct (.ptr C :: ds) μ2 Q
/-- dict(t), t of pairs -/
def pairs2 : List D → Option (List (Key × D))
  | [] => some []
  | .tup [x, y] :: r => match x.key, pairs2 r with
    | some k, some l => some ((k, y) :: l)
    | _, _ => none
  | _ :: _ => none
def aDictT : FC := fun xs μ Q => match xs with
  | [.tuz ds] => (match pairs2 ds with
    | some kvs => ∀ p, μ p = none → Q (.ptr p) (updM μ p (.dk (mergeD [] kvs)))
    | none => False)
  | _ => False
theorem pairs2_ok {K : PySem.W.Frag} {B H : Hp} (eb : Ex B H) : ∀ (ds : List D) (vs : List V) (kvs : List (Key × D)), RepA B vs ds → pairs2 ds = some kvs → ∃ (ps : List Addr) (ws : List (Key × V)), vs = ps.map V.ref ∧ Paired (fun p (kv : Key × V) => SqT K H p [kV kv.1, kv.2]) ps ws ∧ KvRep B ws kvs
  | [], _, kvs, .nil, h => by
    unfold pairs2 at h
    cases h
    exact ⟨[], [], rfl, .nil, .nil⟩
  | d :: ds, v :: vs, kvs, .cons r1 r2, h => by
    unfold pairs2 at h
    split at h
    · rename_i heq; cases heq
    · rename_i x y r heq
      cases heq
      split at h
      · rename_i kk l h1 h2
        cases h
        obtain ⟨ps, ws, g1, g2, g3⟩ := pairs2_ok eb _ vs l r2 h2
        cases r1 with
        | @tup a us _ ha hr =>
          obtain ⟨u1, u2, rfl, ru1, ru2⟩ := two_rep hr
          exact ⟨a :: ps, (kk, u2) :: ws, by rw [g1]; rfl, .cons (by rw [← key_ok ru1 h1]; exact st_of (eb _ _ ha)) g2, .cons ⟨rfl, ru2⟩ g3⟩
      · cases h
    · cases h
section
variable {X : Cx} {k i : Nat} {f C : Addr} {ct : Ct} {x : Str} {e o : Expr} {es : List Expr} {as : AA} {a : AE} {p sp_ pos apos : Pos}
theorem qe_make (M : Mk X.K C f) (F : FnR X.prog X.w X.K X.mg X.base CX0 k f (spOf ct)) (hr : Room (k + 1) X.A) (hg : Gl X x) (hm : X.mg x = some (.ref C)) (ha : QA X (e :: es) as) (hdb : (x == ("__debug__" : Str)) = false := by decide)
    (he : starEach (e :: es) X.env = (false, eval e X.env) :: starEach es X.env := by rfl) (hpl : (backTo pos (starEach es X.env)).any (·.1) = false := by rfl) : QE X (.Call (.Name x p) (e :: es) [] pos) (aMake C ct as) := by
  obtain ⟨t, p1, s1⟩ := ha
  exact ⟨_, pe_makeR (E := E0) M F hr hg hm pass0 p1 hdb he hpl, fun {B _ _ _ _} b sl {_ _} kk q => s1 b sl (fun B1 v d H1 μ1 e1 b1 r1 q1 => made_ok (E := E0) b1 r1 q1 fun B' v d H' μ' e2 => kk B' v d H' μ' (e1.trans e2)) q⟩
theorem qe_make0 (M : Mk X.K C f) (F : FnR X.prog X.w X.K X.mg X.base CX0 k f (spOf ct)) (hr : Room (k + 1) X.A) (hg : Gl X x) (hm : X.mg x = some (.ref C)) (hdb : (x == ("__debug__" : Str)) = false := by decide) : QE X (.Call (.Name x p) [] [] pos) (aMake C ct aNil) :=
  ⟨_, pe_makeR0 (E := E0) M F hr hg hm pass0 hdb, fun {B _ _ _ _} b sl {_ _} kk q => made_ok (E := E0) b .nil q kk⟩
theorem qe_makeStar (M : Mk X.K C f) (F : FnR X.prog X.w X.K X.mg X.base CX0 k f (spOf ct)) (hr : Room (k + 1) X.A) (hN : X.N[i]? = some x) (hv : Vis X.env.scope x) (ho : QE X e a)
    (hdb : (x == ("__debug__" : Str)) = false := by decide) (hcd : (x == ("__classdict__" : Str)) = false := by decide) (hst : starEach [.Starred e sp_] X.env = [(true, eval e X.env)] := by rfl) : QE X (.Call (.Name x p) [.Starred e sp_] [] pos) (aMakeStar i C ct a) := by
  obtain ⟨t, p1, s1⟩ := ho
  refine ⟨_, pe_makeStar (E := E0) M F hr hN hv pass0 p1 hdb hcd hst, fun {B _ _ _ _} b sl {_ _} kk q => ?_⟩
  obtain ⟨hi, q⟩ := q
  obtain ⟨v, h1, h2⟩ := sl.at hi
  cases h2
  refine ⟨h1, s1 b sl (fun B1 v d H1 μ1 e1 b1 r1 q1 => ?_) q⟩
  split at q1
  · rename_i xs hx
    obtain ⟨a, vs, rfl, g1, g2⟩ := rep_items (K := X.K) r1 hx
    exact ⟨a, vs, rfl, .inl (ex_t b1.ex g1), made_ok (E := E0) b1 g2 q1 fun B' v d H' μ' e2 => kk B' v d H' μ' (e1.trans e2)⟩
  · exact q1.elim
theorem qe_cmeth {m : Str} {pl : Sem Bool} {g p' : Addr} {mc : Value} (he : QE X o a) (r : CRead X.K C mc) (c : CMet X.K C mc m p' g) (F : FnR X.prog X.w X.K X.mg X.base CX0 k g (spOf ct)) (hr : Room k X.A) (ha : QA X (e :: es) as)
    (hst : starEach (e :: es) X.env = (false, eval e X.env) :: starEach es X.env := by rfl) (hpl : (backTo pos (starEach es X.env)).any (·.1) = false := by rfl)
    (ht : eval (.Call (.Attribute o m apos) (e :: es) [] pos) X.env = (do
      let ov ← eval o X.env
      standAt apos.atName
      let (f, first) ← holding [ov] (getMethod ov m pl)
      callWith pos f first (backTo pos (starEach (e :: es) X.env)) (backToKw pos (keywordEach [] X.env))) := by rfl) : QE X (.Call (.Attribute o m apos) (e :: es) [] pos) (aCMeth C ct a as) := by
  obtain ⟨t1, p1, s1⟩ := he
  obtain ⟨t2, p2, s2⟩ := ha
  refine ⟨_, pe_cmeth (E := E0) (pl := pl) p1 r c F hr pass0 p2 hst hpl ht, fun {B _ _ _ _} b sl {_ _} kk q => s1 b sl (fun B1 v d H1 μ1 e1 b1 r1 q1 => ?_) q⟩
  obtain ⟨rfl, q1⟩ := q1
  cases r1
  exact ⟨rfl, s2 b1 (sl.up e1) (fun B2 vs ds H2 μ2 e2 b2 r2 q2 => ⟨B2, μ2, _, _, b2, .cons (.ptr _) r2, q2, fun B' v d H' μ' e3 => kk B' v d H' μ' ((e1.trans e2).trans e3)⟩) q1⟩
theorem cq_dictT (hc : X.calm = true) : CallQ X (.type "dict") aDictT := ⟨_, call_dictT hc, fun {B _ _ _ _} b r {_ _} kk q => by
  unfold aDictT at q
  split at q
  · rename_i ds
    obtain ⟨v, rfl, r1⟩ := one_rep r
    split at q
    · rename_i kvs hk
      cases r1 with
      | @tuz a o vs _ h1 ho h2 =>
        obtain ⟨ps, ws, rfl, g2, g3⟩ := pairs2_ok (K := X.K) b.ex _ _ _ h2 hk
        exact ⟨a, ps, ws, rfl, ⟨o, ho, b.ex _ _ h1⟩, g2, fun p hp => kk _ _ _ _ _ (Ex.refl _) (b.new (c := .dk (mergeD [] kvs)) hp ⟨_, upd_same, merge_ok .nil g3⟩) (.ptr p) (q p (b.fresh hp))⟩
    · exact q.elim
  · exact q.elim⟩
end
end DL

set_option maxHeartbeats 4000000
/-! Over values: isinstance of an own class; what a dict holds behind a put. -/
namespace DL
open PySem PySem.Spec PyProof.Rows L2 Evl Gd
structure OwnC (K : PySem.W.Frag) (C : Addr) : Prop where
  cls : Cls K C
  hcl : PySem.W.findIn K (.ref C) "__class__" = some (some (.builtin "object.__class__"))
  hob : PySem.W.mroIn K C (.type "object") = some true
  hn : PySem.W.specialIn K (.builtin "object.__class__") "__get__" = some (some (.builtin "getset_descriptor.__get__"))
  htk : PySem.W.takesIn K (.builtin "object.__class__") = some true
  yes : PySem.W.kitOne K (.ref C) (.ref C) = some true
  no : ∀ t ∈ ["NoneType", "bool", "int", "str", "tuple", "list", "dict"], PySem.W.kitOne K (.type t) (.ref C) = some false
def isO (C : Addr) (μ : Mu) : D → Option Bool
  | .non => some false
  | .bl _ => some false
  | .int _ => some false
  | .str _ => some false
  | .tup _ => some false
  | .tuz _ => some false
  | .ty _ => none
  | .ptr a => (match μ a with
    | some (.ins C' _) => if C' = C then some true else none
    | some (.lst _) => some false
    | some (.lsr _) => some false
    | some (.dk _) => some false
    | some (.dt _) => some false
    | _ => none)
def aIsiO (C : Addr) : FC := fun xs μ Q => match xs with
  | [x, .ptr c] => c = C ∧ (match isO C μ x with
    | some b => Q (.bl b) μ
    | none => False)
  | _ => False
theorem cq_isiO {X : Cx} {C : Addr} (O : OwnC X.K C) : CallQ X (.builtin "isinstance") (aIsiO C) := ⟨_, call_isi, fun {B H μ _ _} b r {_ _} k q => by
  unfold aIsiO at q
  split at q
  · rename_i x c
    obtain ⟨v, u, rfl, r1, r2⟩ := two_rep r
    cases r2
    obtain ⟨rfl, q⟩ := q
    split at q
    · rename_i bb h
      have fin : ∀ t : Value, TyX X.K H v t → PySem.W.kitOne X.K t (.ref c) = some bb → rIsi X.K [v, .ref c] H _ := fun t ht hk => ⟨v, .ref c, t, .ref c, bb, rfl, .own _, ht, hk, k _ _ _ _ _ (Ex.refl _) b (.bl bb) q⟩
      have no : ∀ t : String, tyOf μ x = some t → bb = false → t ∈ ["NoneType", "bool", "int", "str", "tuple", "list", "dict"] → rIsi X.K [v, .ref c] H _ := fun t ht e hm => fin _ (tyOf_ok b r1 ht) (by rw [e]; exact O.no t hm)
      cases x with
      | non => cases h; exact no "NoneType" rfl rfl (by decide)
      | bl y => cases h; exact no "bool" rfl rfl (by decide)
      | int y => cases h; exact no "int" rfl rfl (by decide)
      | str y => cases h; exact no "str" rfl rfl (by decide)
      | tup y => cases h; exact no "tuple" rfl rfl (by decide)
      | tuz y => cases h; exact no "tuple" rfl rfl (by decide)
      | ty y => cases h
      | ptr a =>
        cases r1
        unfold isO at h
        simp only at h
        split at h
        · rename_i C' fs hm
          split at h
          · rename_i e
            subst e
            cases h
            obtain ⟨dx, ws, h1, h2⟩ := (b.cell a _ hm).2
            exact fin (.ref C') (.base (.ins h1 O.cls O.hcl O.hn O.htk O.hob)) O.yes
          · cases h
        · rename_i hm; cases h; exact no "list" (by unfold tyOf; simp only [hm]) rfl (by decide)
        · rename_i hm; cases h; exact no "list" (by unfold tyOf; simp only [hm]) rfl (by decide)
        · rename_i hm; cases h; exact no "dict" (by unfold tyOf; simp only [hm]) rfl (by decide)
        · rename_i hm; cases h; exact no "dict" (by unfold tyOf; simp only [hm]) rfl (by decide)
        · cases h
    · exact q.elim
  · exact q.elim⟩
section
variable {κ : Type} [DecidableEq κ]
theorem look_nil (k : κ) : lookD ([] : List (κ × D)) k = none := rfl
theorem look_cons (k k' : κ) (v : D) (r : List (κ × D)) : lookD ((k, v) :: r) k' = if k = k' then some v else lookD r k' := by
  unfold lookD
  rw [List.find?_cons]
  by_cases e : k = k'
  · simp [e]
  · simp [e]
theorem any_look {kvs : List (κ × D)} {k : κ} : (kvs.any fun kv => decide (kv.1 = k)) = (lookD kvs k).isSome := by
  induction kvs with
  | nil => rfl
  | cons x r ih =>
    obtain ⟨k1, v⟩ := x
    rw [List.any_cons, look_cons, ih]
    by_cases e : k1 = k <;> simp [e]
theorem look_app (kvs : List (κ × D)) (k k' : κ) (v : D) : lookD (kvs ++ [(k, v)]) k' = (lookD kvs k').or (if k = k' then some v else none) := by
  induction kvs with
  | nil => rw [List.nil_append, look_cons]; rfl
  | cons x r ih =>
    obtain ⟨k1, u⟩ := x
    rw [List.cons_append, look_cons, look_cons, ih]
    by_cases e : k1 = k' <;> simp [e]
theorem look_map (k k' : κ) (v : D) : ∀ kvs : List (κ × D), lookD (kvs.map fun kv => if kv.1 = k then (kv.1, v) else kv) k' = if k = k' then (lookD kvs k').map (fun _ => v) else lookD kvs k'
  | [] => by simp [look_nil]
  | (k1, u) :: r => by
    rw [List.map_cons]
    by_cases e : k1 = k
    · subst e
      rw [if_pos rfl, look_cons, look_cons, look_map k1 k' v r]
      by_cases e2 : k1 = k' <;> simp [e2]
    · rw [if_neg e, look_cons, look_cons, look_map k k' v r]
      by_cases e2 : k1 = k'
      · have e3 : ¬ k = k' := fun z => e (e2.trans z.symm)
        simp [e2, e3]
      · simp [e2]
theorem look_put (kvs : List (κ × D)) (k k' : κ) (v : D) : lookD (putD kvs k v) k' = if k = k' then some v else lookD kvs k' := by
  unfold putD
  split
  · rename_i h
    rw [look_map]
    by_cases e : k = k'
    · subst e
      rw [any_look] at h
      rw [if_pos rfl, if_pos rfl]
      cases z : lookD kvs k with
      | none => rw [z] at h; cases h
      | some _ => rfl
    · rw [if_neg e, if_neg e]
  · rename_i h
    rw [look_app]
    by_cases e : k = k'
    · subst e
      rw [any_look] at h
      cases z : lookD kvs k with
      | none => simp
      | some _ => rw [z] at h; exact absurd rfl h
    · rw [if_neg e, if_neg e]
      simp
theorem put_new {kvs : List (κ × D)} {k : κ} {v : D} (h : lookD kvs k = none) : putD kvs k v = kvs ++ [(k, v)] := by
  unfold putD
  rw [any_look, h]
  rfl
theorem put_len (kvs : List (κ × D)) (k : κ) (v : D) : (putD kvs k v).length ≤ kvs.length + 1 := by
  unfold putD
  split
  · rw [List.length_map]; omega
  · rw [List.length_append, List.length_singleton]; omega
theorem look_none {kvs : List (κ × D)} {k : κ} : lookD kvs k = none ↔ k ∉ kvs.map Prod.fst := by
  induction kvs with
  | nil => simp [look_nil]
  | cons x r ih =>
    obtain ⟨k1, v⟩ := x
    rw [look_cons, List.map_cons, List.mem_cons]
    by_cases e : k1 = k
    · subst e; simp
    · rw [if_neg e, ih]
      have e' : ¬ k = k1 := fun z => e z.symm
      simp [e']
end
/-- a dict comprehension: what is there stays, what is made is told by Rel -/
theorem aDc_gen {w : AI} {g : AG} {t : AT} {ak av : AE} {ws : List Nat} {ρ : Rho} {μ μ1 : Mu} {Q : DK} (xs : List D) (st : Mu → Prop) (Rel : Nat → List (Key × D) → Prop) (hw : ∀ R : List D → (Mu → Prop) → Mu → Prop, R xs st μ1 → w ρ μ R) (hst : ∀ μ', Mle μ1 μ' → st μ') (h0 : Rel 0 []) (hl : ∀ i acc, Rel i acc → acc.length ≤ 90000)
    (ht : ∀ i x acc μ', xs[i]? = some x → Rel i acc → Mle μ1 μ' → ∀ (Nx : D → D → Mu → Prop) (Sk : Mu → Prop), (∀ k d kk μ5, k.key = some kk → Mle μ' μ5 → Rel (i + 1) (putD acc kk d) → Nx k d μ5) → (∀ μ5, Mle μ' μ5 → Rel (i + 1) acc → Sk μ5) →
      g x (wipeD ρ ws) μ' fun ρ2 μ2 => t ρ2 μ2 fun b μ3 => if b = true then ak ρ2 μ3 fun k μ4 => av ρ2 μ4 fun d μ5 => Nx k d μ5 else Sk μ3)
    (hQ : ∀ q acc μ', μ1 q = none → Mle μ1 μ' → μ' q = some (.dk acc) → Rel xs.length acc → Q (.ptr q) μ') : aDc w g t ak av ws ρ μ Q := by
  refine hw _ ?_
  intro q hq
  refine ⟨fun i acc μ' => Rel i acc ∧ μ' q = some (.dk acc) ∧ Mle μ1 μ', ⟨h0, updM_same, Mle.new hq⟩, fun i acc μ' _ ⟨_, _, e⟩ => hst μ' e, fun i x acc μ' hx ⟨e1, e2, e3⟩ => ?_, fun acc μ' ⟨e1, e2, e3⟩ => hQ q acc μ' hq e3 e2 e1⟩
  refine ht i x acc μ' hx e1 e3 (fun k d μ5 => ∃ kk, k.key = some kk ∧ μ5 q = some (.dk acc) ∧ acc.length < 100000 ∧ (Rel (i + 1) (putD acc kk d) ∧ (updM μ5 q (.dk (putD acc kk d))) q = some (.dk (putD acc kk d)) ∧ Mle μ1 (updM μ5 q (.dk (putD acc kk d))))) (fun μ3 => Rel (i + 1) acc ∧ μ3 q = some (.dk acc) ∧ Mle μ1 μ3) (fun k d kk μ5 hk e4 e5 => ?_) fun μ5 e4 e5 => ⟨e5, e4 _ _ e2, e3.trans e4⟩
  refine ⟨kk, hk, e4 _ _ e2, by have := hl _ _ e1; omega, e5, updM_same, fun b o hb => ?_⟩
  rw [updM_ne (fun z => by rw [z, hq] at hb; cases hb)]
  exact e4 _ _ (e3 b o hb)
/-- a list comprehension likewise -/
theorem aLc_gen {w : AI} {g : AG} {t : AT} {a : AE} {ws : List Nat} {ρ : Rho} {μ μ1 : Mu} {Q : DK} (xs : List D) (st : Mu → Prop) (Rel : Nat → List D → Prop) (hw : ∀ R : List D → (Mu → Prop) → Mu → Prop, R xs st μ1 → w ρ μ R) (hst : ∀ μ', Mle μ1 μ' → st μ') (h0 : Rel 0 []) (hl : ∀ i acc, Rel i acc → acc.length ≤ 90000)
    (ht : ∀ i x acc μ', xs[i]? = some x → Rel i acc → Mle μ1 μ' → ∀ (Nx : D → Mu → Prop) (Sk : Mu → Prop), (∀ d μ5, Mle μ' μ5 → Rel (i + 1) (acc ++ [d]) → Nx d μ5) → (∀ μ5, Mle μ' μ5 → Rel (i + 1) acc → Sk μ5) →
      g x (wipeD ρ ws) μ' fun ρ2 μ2 => t ρ2 μ2 fun b μ3 => if b = true then a ρ2 μ3 fun d μ5 => Nx d μ5 else Sk μ3)
    (hQ : ∀ q acc μ', μ1 q = none → Mle μ1 μ' → μ' q = some (.lst acc) → Rel xs.length acc → Q (.ptr q) μ') : aLc w g t a ws ρ μ Q := by
  refine hw _ ?_
  intro q hq
  refine ⟨fun i acc μ' => Rel i acc ∧ μ' q = some (.lst acc) ∧ Mle μ1 μ', ⟨h0, updM_same, Mle.new hq⟩, fun i acc μ' _ ⟨e1, e2, e⟩ => ⟨hst μ' e, e2, by have := hl _ _ e1; omega⟩, fun i x acc μ' hx ⟨e1, e2, e3⟩ => ⟨by have := hl _ _ e1; omega, ?_⟩, fun acc μ' ⟨e1, e2, e3⟩ => hQ q acc μ' hq e3 e2 e1⟩
  refine ht i x acc μ' hx e1 e3 (fun d μ5 => μ5 q = some (.lst acc) ∧ (Rel (i + 1) (acc ++ [d]) ∧ (updM μ5 q (.lst (acc ++ [d]))) q = some (.lst (acc ++ [d])) ∧ Mle μ1 (updM μ5 q (.lst (acc ++ [d]))))) (fun μ3 => Rel (i + 1) acc ∧ μ3 q = some (.lst acc) ∧ Mle μ1 μ3) (fun d μ5 e4 e5 => ?_) fun μ5 e4 e5 => ⟨e5, e4 _ _ e2, e3.trans e4⟩
  refine ⟨e4 _ _ e2, e5, updM_same, fun b o hb => ?_⟩
  rw [updM_ne (fun z => by rw [z, hq] at hb; cases hb)]
  exact e4 _ _ (e3 b o hb)
end DL

set_option maxHeartbeats 4000000
/-! x[y] by an own method that may raise; lists that are not the modules' table; texts of data. -/
namespace Gd
open PySem PySem.Spec PyProof.Rows L2
section
variable {X : Cx} {CX : CXT} {k : Nat} {C f : Addr} {fd : FuncData} {ps : List Str} {sp : Sp} {E : L2.St → XK} {pins : List (Addr × Obj)} {σ : L2.St} {H : Hp} {s : Shared}
theorem run_subS {A : Around} {Q : VK} {E : XK} {us : List Value} {vs : List V} (sb : Sub X k A) (F : FnOk X.prog X.w X.K X.mg X.base CX k f fd ps sp) (hb : Binds X.K fd ps []) (hx : PassesAt CX X σ E) (I : Inv X pins σ H s) (r : Vals vs us) (h : sp vs H Q E) :
    wpAny (model X.prog X.w) A (call (.ref f) us) (EP X pins σ Q) X.xe s := by
  have e := I.env0
  have e0 : Env0 X.prog X.w X.K X.mg X.base A X.stack s H := ⟨by rw [sb.fr]; exact e.frames, e.mod, e.bs, e.bsz, e.funs, e.frf, e.hok, e.bare⟩
  have hl := F.len _ _ _ _ h
  refine wpAny_call (codeAny_mono (F.run A X.stack s H ⟨us, []⟩ us vs _ E sb.room e0 (by simpa using hb s us I.kIn (by rw [List.append_nil, ← hl]; exact r.length.symm)) r h) fun r s' hq => ?_)
  cases r with
  | error e => exact hx pins H s e s' I hq
  | ok fl =>
    cases fl with
    | ret w =>
      obtain ⟨z, H', I', rz, q⟩ := I.after hq
      exact ⟨z, H', I', rz, q⟩
    | next => exact False.elim hq
    | brk => exact False.elim hq
    | cont => exact False.elim hq
def tSubS (C : Addr) (sp : Sp) (E : L2.St → XK) (to ti : TE) : TE := fun σ H Q => to σ H fun x H1 => ti σ H1 fun y H2 => ∃ a dx fs, x = .ref a ∧ H2 a = some (.ins C dx fs) ∧ sp [.ref a, y] H2 Q (E σ)
theorem pe_subS {o i : Expr} {pos : Pos} {to ti : TE} (hs : PySem.W.findIn X.K (.ref C) "__getitem__" = some (some (.ref f))) (hf : PySem.W.fnIn X.K f = true) (hfn : PySem.W.isFn X.K (.ref f) = true) (F : FnOk X.prog X.w X.K X.mg X.base CX k f fd ps sp) (hr : Room (k + 1) X.A) (hb : Binds X.K fd ps []) (hx : ∀ σ, PassesAt CX X σ (E σ))
    (ho : PE X o to) (hi : PE X i ti) (hsl : ∀ a iv, subscripted i true (.ref a) iv = runValue (.builtin "lifetime.subscript" ⟨[.ref a, iv], []⟩) := by intro _ _; with_unfolding_all rfl) : PE X (.Subscript o i pos) (tSubS C sp E to ti) := by
  refine ⟨fun pins s σ H Q I h => ?_⟩
  refine Subscript_ (thn (ho.run pins s σ H _ I h) fun u s1 ⟨x, H1, I1, rx, q1⟩ => thn (hi.run pins s1 σ H1 _ I1 q1) fun iv s2 ⟨y, H2, I2, ry, a, dx, fs, ex, ha, q⟩ => ?_)
  subst ex
  cases rx
  obtain ⟨mA, J, _⟩ := ins_get I2.hok ha
  obtain ⟨od, J, _⟩ := J.look
  obtain ⟨m, hF⟩ := I2.fr
  exact PySem.W.sub_K hF I2.ok.mod.kin J hs hf hfn (run_subS (Sub.in1 ⟨hr, rfl⟩) F hb (hx σ) I2 (.cons (show RelV (.ref a) (.ref a) from rfl) (.cons ry .nil)) q) (hsl a iv)
/-- a list display: the new list is not the modules' table -/
def tLstN (t : TA) : TE := fun σ H Q => t σ H fun xs H1 => xs.length ≤ sizeLine ∧ ∀ p, H1 p = none → p ≠ sysModules → Q (.ref p) (upd H1 p (.lst xs))
theorem pe_lstN {es : List Expr} {pos : Pos} {t : TA} (h : PA X es t) : PE X (.List es pos) (tLstN t) := by
  refine ⟨fun pins s σ H Q I hq => ?_⟩
  refine wpAny_List_spliced (thn (h.run pos pins s σ H _ I hq) fun us s1 ⟨xs, H1, I1, r, z, q⟩ => ⟨by rw [← r.length]; exact z, ?_⟩)
  exact ⟨.ref s1.heap.objs.size, upd H1 s1.heap.objs.size (.lst xs), I1.lnew (t' := s1.toks) r z, rfl, q _ I1.fresh (Nat.ne_of_gt I1.big)⟩
/-- {} -/
theorem dat_dict0 {P : Program} {w : World} {K : PySem.W.Frag} {B : Prop} {H : Hp} {a : Addr} (ha : H a = some (.dK [])) : Dat P w K B H (.ref a) (.dict []) := fun H1 e h ok X u r => by
  cases r
  obtain ⟨hl, hs, vs, kv, o, es, ep, g1, g2, g3, g4, g5, g6⟩ := (ok a _ (e _ _ ha) : ObjOk P w H1 h a (.dK []))
  cases kv
  generalize hes : es.toList = L at g5
  cases g5
  refine ⟨a :: [] ++ [], Reads.dict g1 g2.1 g3 (by rw [hes]; exact .nil) (by rw [hes]; exact .nil), fun _ hm => ?_⟩
  have hm2 : sysModules = a := by simpa using hm
  rw [← hm2] at hs
  exact absurd hs (by decide)
end
end Gd
namespace DL
open PySem PySem.Spec PyProof.Rows L2 Evl Gd
def aLstN (a : AA) : AE := fun ρ μ Q => a ρ μ fun xs μ1 => xs.length ≤ 100000 ∧ ∀ p, μ1 p = none → p ≠ sysModules → Q (.ptr p) (updM μ1 p (.lst xs))
theorem qe_lstN {X : Cx} {es : List Expr} {pos : Pos} {as : AA} (h : QA X es as) : QE X (.List es pos) (aLstN as) := by
  obtain ⟨t, p1, s1⟩ := h
  exact ⟨_, pe_lstN p1, fun {B _ _ _ _} b sl {_ _} k q => s1 b sl (fun B1 v d H1 μ1 e1 b1 r1 q1 => ⟨sz_of (by rw [r1.len]; exact q1.1), fun p hp hn => k _ _ _ _ _ e1 (b1.new (c := .lst d) hp ⟨_, upd_same, r1⟩) (.ptr p) (q1.2 p (b1.fresh hp) hn)⟩) q⟩
/-- repr, also of [{}] -/
def aRepr2 : FC := fun xs μ Q => aRepr xs μ Q ∨ ∃ a e, xs = [.ptr a] ∧ a ≠ sysModules ∧ μ a = some (.lst [.ptr e]) ∧ μ e = some (.dk []) ∧ Q (.str (PyData.list [.dict []]).shown) μ
theorem cq_repr2 {X : Cx} {k : Nat} (ca : Calm X.A) (hr : Room k X.A) : CallQ X (.builtin "repr") aRepr2 := by
  obtain ⟨r1, h1, s1⟩ := cq_repr ca hr
  refine ⟨fun xs H Q => r1 xs H Q ∨ rReprD X.prog X.w X.K xs H Q, fun pins s σ H xs us Q I r h => ?_, fun {B H μ x d} b r {Qa Q} k q => ?_⟩
  · rcases h with h | h
    · exact h1 pins s σ H xs us Q I r h
    · exact call_reprD ca hr pins s σ H xs us Q I r h
  · rcases q with q | ⟨a, e, rfl, na, ha, he, q⟩
    · exact .inl (s1 b r k q)
    · obtain ⟨v, rfl, r1⟩ := one_rep r
      cases r1
      obtain ⟨vs, g1, g2⟩ := (b.cell a _ ha).2
      obtain ⟨u, rfl, r2⟩ := one_rep g2
      cases r2
      obtain ⟨ws, g3, g4⟩ := (b.cell e _ he).2
      cases g4
      refine .inr ⟨a, .list [.dict []], rfl, dat_lst g1 (dats_cons (dat_dict0 g3) dats_nil) (fun _ => na), by decide +kernel, by decide +kernel, by decide +kernel, k _ _ _ _ _ (Ex.refl _) b (.str _) q⟩
/-! the length of texts -/
structure Pr (k : Nat) (d : PyData) : Prop where
  show_ : PyData.showable d = true
  short : PyData.leavesShort 100 d = true
  wt : PyData.weight d ≤ k
theorem Pr.mono {k m : Nat} {d : PyData} (h : Pr k d) (l : k ≤ m) : Pr m d := ⟨h.show_, h.short, Nat.le_trans h.wt l⟩
theorem pr_non : Pr 0 .none := ⟨by decide +kernel, by decide +kernel, by decide +kernel⟩
theorem pr_bl (b : Bool) : Pr 0 (.bool b) := by cases b <;> exact ⟨by decide +kernel, by decide +kernel, by decide +kernel⟩
theorem pr_all {k : Nat} : ∀ {xs : List PyData}, (∀ x ∈ xs, Pr k x) → PyData.showableAll xs = true ∧ PyData.leavesShortAll 100 xs = true ∧ PyData.weightAll xs ≤ (k + 1) * xs.length
  | [], _ => ⟨rfl, rfl, Nat.zero_le _⟩
  | x :: xs, h => by
    obtain ⟨h1, h2, h3⟩ := pr_all (xs := xs) fun y hy => h y (List.mem_cons_of_mem _ hy)
    have hx := h x List.mem_cons_self
    refine ⟨by rw [PyData.showableAll, hx.show_, h1]; rfl, by rw [PyData.leavesShortAll, hx.short, h2]; rfl, ?_⟩
    rw [PyData.weightAll, List.length_cons, Nat.mul_add, Nat.mul_one]
    have := hx.wt
    omega
theorem pr_tuple {k m : Nat} {xs : List PyData} (h : ∀ x ∈ xs, Pr k x) (hl : xs.length ≤ m) : Pr ((k + 1) * m) (.tuple xs) := by
  obtain ⟨h1, h2, h3⟩ := pr_all h
  exact ⟨by rw [PyData.showable]; exact h1, by rw [PyData.leavesShort]; exact h2, by rw [PyData.weight]; exact Nat.le_trans h3 (Nat.mul_le_mul_left _ hl)⟩
theorem pr_list {k m : Nat} {xs : List PyData} (h : ∀ x ∈ xs, Pr k x) (hl : xs.length ≤ m) : Pr ((k + 1) * m) (.list xs) := by
  obtain ⟨h1, h2, h3⟩ := pr_all h
  exact ⟨by rw [PyData.showable]; exact h1, by rw [PyData.leavesShort]; exact h2, by rw [PyData.weight]; exact Nat.le_trans h3 (Nat.mul_le_mul_left _ hl)⟩
theorem pr_len {k : Nat} {d : PyData} (h : Pr k d) (hk : k ≤ 100000) : d.shown.length ≤ sizeLine := by
  have h1 := PyData.shown_le 100 (by decide) d h.short
  have h2 : (100 + 2) * PyData.weight d ≤ 102 * 100000 := Nat.mul_le_mul_left _ (Nat.le_trans h.wt hk)
  rw [sizeLine_eq]
  omega
theorem pr_int {i : Int} (h1 : -18446744073709551616 ≤ i) (h2 : i ≤ 18446744073709551616) : Pr 70 (.int i) := by
  have hn : i.natAbs < 2 ^ 65 := by omega
  have lg : i.natAbs.log2 < 65 := by
    by_cases z : i.natAbs = 0
    · rw [z]; decide
    · exact (Nat.log2_lt z).mpr hn
  refine ⟨by rw [PyData.showable]; exact decide_eq_true (by omega), ?_, ?_⟩
  · rw [PyData.leavesShort]
    refine decide_eq_true ?_
    have e : (PyData.int i).shown = Str.ofString (toString i) := by simp only [PyData.shown]
    rw [e]
    by_cases n : i < 0
    · rw [len_text_neg n]
      have := toString_length_le (v := 0 - i) (by omega) (k := 20) (by decide) (by omega)
      omega
    · have := toString_length_le (v := i) (by omega) (k := 20) (by decide) (by omega)
      omega
  · rw [PyData.weight]
    split <;> omega
theorem pr_str {z : Str} (h : PyData.leavesShort 100 (.str z) = true) (hz : z.cps.size ≤ 100) : Pr 100 (.str z) := ⟨rfl, h, by rw [PyData.weight]; exact hz⟩
end DL

set_option maxHeartbeats 4000000
/-! Defs that show texts, over values; == of plain data; slices. -/
namespace DL
open PySem PySem.Spec PyProof.Rows L2 Evl Gd
section
variable {P : Program} {w : World} {K : PySem.W.Frag} {mg : Str → Option Value} {base : Heap}
theorem okDG {x qual : Str} {st : Stmt} {f : Addr} {fd : FuncData} {N ps : List Str} {k : Nat} {ct : Ct} (F : Fun K x qual st f fd) (S : FnScope N ps (defScope st)) (len : ∀ ds μ Q, ct ds μ Q → ds.length = ps.length)
    (body : ∀ (cdv : Value) (A : Around) (outer : List Env) (s : Shared) (H : Hp) (E : XK), Calm (A.deeper (envOfC qual (defScope st) s.heap.objs.size f cdv)) → Room k (A.deeper (envOfC qual (defScope st) s.heap.objs.size f cdv)) →
      ∃ au, QSs (cxOf CX0 P w K mg base N qual (defScope st) f cdv A outer s H E).nox (defBody st) au ∧ ∀ ds μ Q, ct ds μ Q → au (EndA Q) (startD N ds) μ) : GOk P w K mg base CX0 (k + 1) f fd ps (spOf ct) := by
  refine ok_of0 F S (fun vs H Q E h => ?_) (fun cdv A outer s H vs Q E ca hr h => ?_)
  · obtain ⟨B, μ, ds, Qa, b, r, hc, _⟩ := h
    rw [r.len]
    exact len _ _ _ hc
  · obtain ⟨B, μ, ds, Qa, b, r, hc, kk⟩ := h
    obtain ⟨au, ⟨t, p1, s1⟩, h2⟩ := body cdv A outer s H E ca hr
    refine ⟨t, p1, s1 b (Sl.start r) (A := EndA Qa) ⟨fun B' H' ρ' μ' σ' e1 b1 sl1 q1 => ?_, fun B' v d H' μ' e1 b1 r1 q1 => ?_, fun _ _ _ _ _ _ _ _ q => q.elim, fun _ _ _ _ _ _ _ _ q => q.elim⟩ (h2 ds μ Qa hc)⟩
    · obtain ⟨μ1, hle, q1⟩ := q1
      exact kk B' _ _ H' μ1 e1 (b1.drop hle) .non q1
    · obtain ⟨μ1, hle, q1⟩ := q1
      exact kk B' _ _ H' μ1 e1 (b1.drop hle) r1 q1
end
section
variable {X : Cx} {k : Nat} {ps : List Str} {ct : Ct} {x : Str} {p pos : Pos} {e o : Expr} {es : List Expr} {as : AA}
theorem qe_dfG (D : DfG X.prog X.w X.K X.mg X.base CX0 k x ps (spOf ct)) (ca : Calm X.A) (hr : Room k X.A) (hg : Gl X x) (ha : QA X (e :: es) as) (hdb : (x == ("__debug__" : Str)) = false := by decide)
    (he : starEach (e :: es) X.env = (false, eval e X.env) :: starEach es X.env := by rfl) (hpl : (backTo pos (starEach es X.env)).any (·.1) = false := by rfl) : QE X (.Call (.Name x p) (e :: es) [] pos) (aCall ct as) := by
  obtain ⟨t, p1, s1⟩ := ha
  exact ⟨_, pe_dfG D ca hr hg p1 pass0 hdb he hpl, sim_call s1⟩
end
/-! plain data -/
def D.pl : Nat → D → Bool
  | _, .int _ => true
  | _, .str z => PyData.strOk z
  | n + 1, .tup xs => xs.all (D.pl n)
  | _, _ => false
theorem pl_flat : ∀ (n : Nat) (d : D), d.pl n = true → d.flat n = true
  | 0, .int _, _ => rfl
  | _ + 1, .int _, _ => rfl
  | 0, .str z, h => h
  | _ + 1, .str z, h => h
  | n + 1, .tup xs, h => List.all_eq_true.mpr fun x hx => pl_flat n x (List.all_eq_true.mp (show xs.all (D.pl n) = true from h) x hx)
  | 0, .tup _, h => by cases h
  | 0, .non, h => by cases h
  | _ + 1, .non, h => by cases h
  | 0, .bl _, h => by cases h
  | _ + 1, .bl _, h => by cases h
  | 0, .tuz _, h => by cases h
  | _ + 1, .tuz _, h => by cases h
  | 0, .ptr _, h => by cases h
  | _ + 1, .ptr _, h => by cases h
  | 0, .ty _, h => by cases h
  | _ + 1, .ty _, h => by cases h
theorem py_int (i : Int) : (D.int i).py = .int i := by unfold D.py D.pd; rfl
theorem py_str (z : Str) : (D.str z).py = .str z := by unfold D.py D.pd; rfl
theorem eqvAll_iff {n : Nat} (ih : ∀ d e : D, d.pl n = true → e.pl n = true → (PyData.eqv d.py e.py = true ↔ d = e)) : ∀ xs ys : List D, xs.all (D.pl n) = true → ys.all (D.pl n) = true → (PyData.eqvAll (xs.map D.py) (ys.map D.py) = true ↔ xs = ys)
  | [], [], _, _ => by simp [PyData.eqvAll]
  | [], _ :: _, _, _ => by simp [PyData.eqvAll]
  | _ :: _, [], _, _ => by simp [PyData.eqvAll]
  | x :: xs, y :: ys, h1, h2 => by
    simp only [List.all_cons, Bool.and_eq_true] at h1 h2
    rw [List.map_cons, List.map_cons, PyData.eqvAll, Bool.and_eq_true, ih x y h1.1 h2.1, eqvAll_iff ih xs ys h1.2 h2.2, List.cons.injEq]
theorem eqv_iff : ∀ (n : Nat) (d e : D), d.pl n = true → e.pl n = true → (PyData.eqv d.py e.py = true ↔ d = e) := by
  intro n
  induction n with
  | zero =>
    intro d e h1 h2
    cases d <;> first | (cases h1; done) | skip
    all_goals (cases e <;> first | (cases h2; done) | skip)
    · rw [py_int, py_int, PyData.eqv, beq_iff_eq, D.int.injEq]
    · rw [py_int, py_str, PyData.eqv]; simp
    · rw [py_int, py_str, PyData.eqv]; simp
    · rw [py_str, py_str, PyData.eqv, beq_iff_eq, D.str.injEq]
  | succ n ih =>
    intro d e h1 h2
    cases d <;> first | (cases h1; done) | skip
    all_goals (cases e <;> first | (cases h2; done) | skip)
    · rw [py_int, py_int, PyData.eqv, beq_iff_eq, D.int.injEq]
    · rw [py_int, py_str, PyData.eqv]; simp
    · rw [py_int, py_tup (pl_flat _ _ h2), PyData.eqv]; simp
    · rw [py_int, py_str, PyData.eqv]; simp
    · rw [py_str, py_str, PyData.eqv, beq_iff_eq, D.str.injEq]
    · rw [py_str, py_tup (pl_flat _ _ h2), PyData.eqv]; simp
    · rw [py_int, py_tup (pl_flat _ _ h1), PyData.eqv]; simp
    · rw [py_str, py_tup (pl_flat _ _ h1), PyData.eqv]; simp
    · rw [py_tup (pl_flat _ _ h1), py_tup (pl_flat _ _ h2), PyData.eqv, eqvAll_iff ih _ _ h1 h2, D.tup.injEq]
theorem eqv_no {n : Nat} {d e : D} (h1 : d.pl n = true) (h2 : e.pl n = true) (h : d ≠ e) : PyData.eqv d.py e.py = false := by
  cases z : PyData.eqv d.py e.py with
  | false => rfl
  | true => exact absurd ((eqv_iff n d e h1 h2).mp z) h
theorem eqv_yes {n : Nat} {d : D} (h1 : d.pl n = true) : PyData.eqv d.py d.py = true := (eqv_iff n d d h1 h1).mpr rfl
/-! slices -/
theorem cutD_drop {xs : List D} {n : Nat} : cutD xs (some (n : Int)) none = xs.drop n := by
  unfold cutD
  rw [HT.sIx_none, HT.sIx_nat]
  by_cases h : n ≤ xs.length
  · rw [Nat.min_eq_left h]
    exact List.take_of_length_le (by rw [List.length_drop]; omega)
  · rw [Nat.min_eq_right (by omega), List.drop_of_length_le (Nat.le_refl _), List.drop_of_length_le (by omega)]
    simp
theorem cutD_init {xs : List D} {x : D} : cutD (xs ++ [x]) none (some (-1)) = xs := by
  unfold cutD
  rw [HT.sIx_none]
  have e : HT.sIx (xs ++ [x]).length (xs ++ [x]).length (some (-1)) = xs.length := by
    have e0 : ∀ n d : Nat, HT.sIx n d (some (-1)) = ((-1 : Int) + (n : Int)).toNat := fun n d => rfl
    rw [e0, List.length_append, List.length_singleton]
    omega
  rw [e, List.drop_zero, Nat.sub_zero]
  exact List.take_left' rfl
/-- t[1:] of what is not empty, whatever its make -/
theorem slT_tail {x : D} {xs : List D} {μ : Mu} {Q : DK} : aSlT (.tuz (x :: xs)) (some 1) none μ Q = Q (.tup xs) μ := by
  have e : HT.sIx (x :: xs).length 0 (some 1) = 1 := by
    have := HT.sIx_nat (n := (x :: xs).length) (d := 0) (k := 1)
    rw [show ((1 : Nat) : Int) = 1 from rfl] at this
    rw [this, List.length_cons]
    omega
  unfold aSlT
  simp only [e]
  rw [if_neg (by omega)]
  have : cutD (x :: xs) (some 1) none = xs := cutD_drop (n := 1)
  rw [this]
/-! texts -/
theorem repr_flat {n k : Nat} {d : D} {μ : Mu} {Q : DK} (hv : d.v = none) (h : d.flat n = true) (hn : n ≤ 64) (hp : Pr k d.py) (hk : k ≤ 100000) (q : Q (.str d.py.shown) μ) : aRepr2 [d] μ Q := .inl (by
  obtain ⟨_, f2, f3⟩ := flat_ok n d h
  show match d.v, deep μ d with
    | none, some d => PyData.showable d = true ∧ PyData.hasDict d = false ∧ d.depth ≤ 100 ∧ d.shown.length ≤ sizeLine ∧ Q (.str d.shown) μ
    | _, _ => False
  rw [hv, deep_flat h]
  exact ⟨hp.show_, PyData.hasDict_of_canLay _ f2, by omega, pr_len hp hk, q⟩)
theorem repr_deep {a : Addr} {k : Nat} {x : PyData} {μ : Mu} {Q : DK} (h : deep μ (.ptr a) = some x) (hd : x.hasDict = false) (hn : x.depth ≤ 100) (hp : Pr k x) (hk : k ≤ 100000) (q : Q (.str x.shown) μ) : aRepr2 [.ptr a] μ Q := .inl (by
  show match (D.ptr a).v, deep μ (.ptr a) with
    | none, some d => PyData.showable d = true ∧ PyData.hasDict d = false ∧ d.depth ≤ 100 ∧ d.shown.length ≤ sizeLine ∧ Q (.str d.shown) μ
    | _, _ => False
  rw [h]
  exact ⟨hp.show_, hd, hn, pr_len hp hk, q⟩)
/-- a list of flat data -/
theorem repr_list {n k : Nat} {a : Addr} {ys : List D} {μ : Mu} {Q : DK} (hl : listM μ a = some ys) (h : ∀ y ∈ ys, y.flat n = true) (hn : n ≤ 63) (hp : Pr k (.list (ys.map D.py))) (hk : k ≤ 100000) (q : Q (.str (PyData.list (ys.map D.py)).shown) μ) : aRepr2 [.ptr a] μ Q := by
  refine repr_deep (deep_list hl h) ?_ ?_ hp hk q
  · refine PyData.hasDict_of_canLay _ ?_
    unfold PyData.canLay0
    exact all_lay fun x h1 => (flat_ok n x (h x h1)).2.1
  · unfold PyData.depth
    have := all_depth (g := D.py) (n := n) (xs := ys) fun x h1 => (flat_ok n x (h x h1)).2.2
    omega
/-- a list of one list of one text -/
theorem repr_list2 {a b : Addr} {z : Str} {μ : Mu} {Q : DK} (h1 : listM μ a = some [.ptr b]) (h2 : listM μ b = some [.str z]) (hz : Pr 100 (.str z)) (q : Q (.str (PyData.list [.list [.str z]]).shown) μ) : aRepr2 [.ptr a] μ Q := by
  have e : deep μ (.ptr a) = some (.list [.list [.str z]]) := by
    unfold deep D.pd pdn
    rw [h1]
    show (D.pds (pdn μ 2) [.ptr b]).map PyData.list = _
    unfold D.pds D.pd pdn
    rw [h2]
    rfl
  have p1 : Pr 101 (.list [.str z]) := pr_list (k := 100) (m := 1) (fun x hx => by rw [List.mem_singleton.mp hx]; exact hz) (Nat.le_refl _)
  exact repr_deep e rfl (by simp only [PyData.depth, PyData.depthAll]; decide) (pr_list (k := 101) (m := 1) (fun x hx => by rw [List.mem_singleton.mp hx]; exact p1) (Nat.le_refl _)) (by decide) q
end DL

set_option maxHeartbeats 4000000
/-! The script: a list that is read, of this run or of the written part. -/
namespace DL
open PySem PySem.Spec PyProof.Rows L2 Evl Gd
def KL (K : PySem.W.Frag) (s : Addr) (is : List Int) : Prop := ∀ H : Hp, SqL K H s (is.map V.int)
def Script (K : PySem.W.Frag) (μ : Mu) (s : Addr) (is : List Int) : Prop := μ s = some (.lsr (is.map D.int)) ∨ KL K s is
theorem Script.up {K : PySem.W.Frag} {μ μ' : Mu} {s : Addr} {is : List Int} (h : Script K μ s is) (m : ∀ c, μ s = some c → μ' s = some c) : Script K μ' s is := by
  rcases h with h | h
  · exact .inl (m _ h)
  · exact .inr h
theorem script_sq {K : PySem.W.Frag} {B H : Hp} {μ : Mu} {s : Addr} {is : List Int} (b : Base B H μ) (h : Script K μ s is) : SqL K H s (is.map V.int) := by
  rcases h with h | h
  · obtain ⟨vs, h1, h2⟩ := listM_rep (K := K) (a := s) (ds := is.map D.int) b (by unfold listM; rw [h]; rfl)
    rw [reps_int h2] at h1
    exact h1
  · exact h H
def aLenK (K : PySem.W.Frag) : FC := fun xs μ Q => ∃ s is, xs = [.ptr s] ∧ Script K μ s is ∧ Q (.int (is.length : Nat)) μ
def aIxK (K : PySem.W.Frag) : F2 := fun x y μ Q => ∃ s is i j, x = .ptr s ∧ y = .int i ∧ Script K μ s is ∧ L2.atI is i = some j ∧ Q (.int j) μ
def aNeK (K : PySem.W.Frag) : F2 := fun x y μ Q => ∃ s is e, x = .ptr s ∧ y = .ptr e ∧ Script K μ s is ∧ listM μ e = some [] ∧ Q (.bl (!is.isEmpty)) μ
theorem dp_ints {K : PySem.W.Frag} {H : Hp} : ∀ is : List Int, DpAll K H (is.map V.int) (is.map PyData.int)
  | [] => .nil
  | i :: is => .cons (.int i) (dp_ints is)
section
variable {X : Cx}
theorem cq_lenK : CallQ X (.builtin "len") (aLenK X.K) := ⟨_, call_len_seq, fun {B _ _ _ _} b r {_ _} k q => by
  obtain ⟨s, is, rfl, hs, q⟩ := q
  obtain ⟨v, rfl, r1⟩ := one_rep r
  cases r1
  exact ⟨s, is.map V.int, rfl, .inl (script_sq b hs), by rw [List.length_map]; exact k _ _ _ _ _ (Ex.refl _) b (.int _) q⟩⟩
theorem iq_K : IxQ X (aIxK X.K) := ⟨_, ix_list, fun {B _ _ _ _ _ _} b rx ry {_ _} k q => by
  obtain ⟨s, is, i, j, rfl, rfl, hs, hj, q⟩ := q
  cases rx
  cases ry
  refine ⟨s, is.map V.int, i, .int j, rfl, rfl, script_sq b hs, ?_, k _ _ _ _ _ (Ex.refl _) b (.int j) q⟩
  unfold L2.atI at hj ⊢
  rw [List.length_map]
  cases e : ixN is.length i with
  | none => rw [e] at hj; cases hj
  | some m =>
    rw [e] at hj
    show (is.map V.int)[m]? = some (.int j)
    rw [List.getElem?_map, show is[m]? = some j from hj]
    rfl⟩
theorem oq_neK (hu : X.A.units + 64 < cLine) : OpQ X (compareOp .NotEq) (aNeK X.K) := ⟨_, op_neD hu, fun {B H _ _ _ _ _} b rx ry {_ _} k q => by
  obtain ⟨s, is, e, rfl, rfl, hs, he, q⟩ := q
  cases rx
  cases ry
  obtain ⟨vs, h1, h2⟩ := listM_rep (K := X.K) b he
  cases h2
  have sh : SeqAt.shaped (.list (is.map PyData.int)) = true := by
    have := shaped_list (n := 0) (ys := is.map D.int) (flat_ints 0 is) (by decide)
    rw [List.map_map] at this
    have e2 : is.map (D.py ∘ D.int) = is.map PyData.int := List.map_congr_left fun i _ => by show (D.int i).py = _; unfold D.py D.pd; rfl
    rw [e2] at this
    exact this
  refine ⟨.list (is.map PyData.int), .list [], .lst (script_sq b hs) (dp_ints is), .lst h1 .nil, sh, shaped_nil, k _ _ _ _ _ (Ex.refl _) b (.bl _) ?_⟩
  cases is with
  | nil => exact q
  | cons i is => exact q⟩
end
/-- the promise of a law, from what it promises over values -/
theorem law_of {P : Program} {w : World} {K : PySem.W.Frag} {mg : Str → Option Value} {base : Heap} {k : Nat} {f : Addr} {fd : FuncData} {ps : List Str} {ct : Ct} (F : GOk P w K mg base CX0 k f fd ps (spOf ct)) (h : ∀ μ s is, Script K μ s is → is.length ≤ 63 → ∀ Q : DK, (∀ μ', Q (.bl true) μ') → ct [.ptr s] μ Q) :
    GOk P w K mg base CX0 k f fd ps (fun vs H Q _ => ∃ (a : Addr) (ns : List Int), vs = [.ref a] ∧ Scr K H a ns ∧ ns.length ≤ 63 ∧ ∀ H', Q (.bl true) H') := by
  have conv : ∀ vs H (Q : VK) (E : XK), (∃ (a : Addr) (ns : List Int), vs = [.ref a] ∧ Scr K H a ns ∧ ns.length ≤ 63 ∧ ∀ H', Q (.bl true) H') → spOf ct vs H Q E := by
    rintro vs H Q E ⟨a, ns, rfl, hs, hl, q⟩
    rcases hs with hs | ⟨us, h1, h2, h3⟩
    · refine ⟨fun _ => none, fun b => if b = a then some (.lsr (ns.map .int)) else none, [.ptr a], fun d _ => d = .bl true, ⟨(fun _ _ z => nomatch z), fun b c z => ⟨rfl, ?_⟩⟩, .cons (.ptr a) .nil, h _ a ns (.inl (if_pos rfl)) hl _ fun _ => rfl, fun B' v d H' μ' _ _ r e => ?_⟩
      · have z2 : (if b = a then some (Cell.lsr (ns.map .int)) else none) = some c := z
        clear z
        split at z2
        · rename_i e
          subst e
          cases z2
          exact ⟨ns.map V.int, hs, ints_rep ns⟩
        · cases z2
      · subst e
        cases r
        exact q H'
    · refine ⟨fun _ => none, fun _ => none, [.ptr a], fun d _ => d = .bl true, ⟨(fun _ _ z => nomatch z), (fun b c z => nomatch z)⟩, .cons (.ptr a) .nil, h _ a ns (.inr fun H0 => Scr.sq (.inr ⟨us, h1, h2, h3⟩)) hl _ fun _ => rfl, fun B' v d H' μ' _ _ r e => ?_⟩
      subst e
      cases r
      exact q H'
  exact ⟨fun vs H Q E hv => F.many vs H Q E (conv vs H Q E hv), fun A out s H args us vs Q E ca hr e0 hb r hv => F.goes A out s H args us vs Q E ca hr e0 hb r (conv vs H Q E hv)⟩
end DL

set_option maxHeartbeats 4000000
namespace M53
open PySem PySem.Spec PyProof.Rows L2 Evl Gd DL
def top (i : Nat) : Stmt := PySem.Challenge.pw_macroasm_k53_tables_asked.main.body.getD i (.Pass ⟨0, 0, 0, 0⟩)
structure Tx (K : PySem.W.Frag) (mg : Str → Option Value) : Prop where
  b_len : mg "len" = none
  b_isinstance : mg "isinstance" = none
  b_str : mg "str" = none
  b_int : mg "int" = none
  b_bool : mg "bool" = none
  b_list : mg "list" = none
  b_tuple : mg "tuple" = none
  b_dict : mg "dict" = none
  b_set : mg "set" = none
  b_sorted : mg "sorted" = none
  b_repr : mg "repr" = none
  b_sum : mg "sum" = none
  b_all : mg "all" = none
  b_min : mg "min" = none
  b_range : mg "range" = none
  b_enumerate : mg "enumerate" = none
def kv3 (l m t : Int) : List (Key × D) := [((.inr "large" : Key), .int l), (.inr "mixed", .int m), (.inr "turn", .int t)]
theorem look_large (l m t : Int) : lookD (kv3 l m t) (.inr "large") = some (.int l) := by rfl
theorem look_mixed (l m t : Int) : lookD (kv3 l m t) (.inr "mixed") = some (.int m) := by rfl
theorem look_turn (l m t : Int) : lookD (kv3 l m t) (.inr "turn") = some (.int t) := by rfl
theorem put_large (l m t v : Int) : putD (kv3 l m t) (.inr "large") (.int v) = kv3 v m t := by rfl
theorem put_mixed (l m t v : Int) : putD (kv3 l m t) (.inr "mixed") (.int v) = kv3 l v t := by rfl
theorem kv3_len (l m t : Int) : (kv3 l m t).length = 3 := by rfl
theorem put_turn (l m t v : Int) : putD (kv3 l m t) (.inr "turn") (.int v) = kv3 l m v := by rfl
theorem pow18 : (10 : Int) ^ (18 : Int).toNat = 1000000000000000000 := by decide +kernel
def StC (c : Cell) : Prop := ∃ l m t, c = .dk (kv3 l m t)
def ctDraw : Ct := fun ds μ Q => ∃ p n c, ds = [.ptr p, .int n] ∧ μ p = some c ∧ StC c ∧ 0 < n ∧ n < 1073741824 ∧ ∀ v c', 0 ≤ v → v < n → StC c' → Q (.int v) (updM μ p c')
section
variable {P : Program} {w : World} {K : PySem.W.Frag} {mg : Str → Option Value} {base : Heap}
def N_law_draw : List Str := ["_law_m", "_law_size", "_law_found"]
abbrev s_law_draw : Stmt := top 49
theorem sc_law_draw : FnScope N_law_draw ["_law_m", "_law_size"] (defScope s_law_draw) := ⟨rfl, rfl, rfl, by decide +kernel, rfl, by decide +kernel, by decide +kernel⟩
theorem ok_law_draw {f : Addr} {fd : FuncData} (F : Fun K "_law_draw" "_law_draw" s_law_draw f fd) (T : Tx K mg) : FnOk P w K mg base CX0 1 f fd ["_law_m", "_law_size"] (spOf ctDraw) := by
  refine okD F sc_law_draw (fun ds μ Q h => ?_) (fun cdv A outer s H E hr => ?_)
  · obtain ⟨p, n, c, rfl, _⟩ := h
    rfl
  · have hu : (A.deeper (envOfC "_law_draw" (defScope s_law_draw) s.heap.objs.size f cdv)).units + 1 < cLine := by have := hr.units; omega
    refine ⟨_, (qss_cons (qs_if (qt_cmpR oq_gt (qe_dget hu (qv 0) qe_str (fun _ _ => rfl)) qe_int (nomark _))
    (qss_cons (qs_set (i := 2) sc_law_draw.nd rfl (Or.inl rfl) (qe_op oq_modN (qe_callTy cq_int1 (by rfl) T.b_int (by decide +kernel) (qa_cons (qe_dget hu (qv 0) qe_str (fun _ _ => rfl)) qa_nil)) (qv 1)))
      (qss_cons (qs_dput hu (qv 0) qe_str (qe_op oq_fdivN (qe_dget hu (qv 0) qe_str (fun _ _ => rfl)) (qv 1)) rfl)
      (qss_one (qs_ret (qv 2)))))
    qss_nil)
  (qss_cons (qs_dput hu (qv 0) qe_str (qe_op oq_add (qe_dget hu (qv 0) qe_str (fun _ _ => rfl)) qe_int) rfl)
  (qss_cons (qs_dput hu (qv 0) qe_str (qe_op oq_mod (qe_callTy cq_int1 (by rfl) T.b_int (by decide +kernel) (qa_cons (qe_op oq_add (qe_op oq_add (qe_op oq_mul (qe_dget hu (qv 0) qe_str (fun _ _ => rfl)) qe_int) (qe_op oq_mul qe_int (qe_dget hu (qv 0) qe_str (fun _ _ => rfl)))) qe_int) qa_nil)) qe_int) rfl)
  (qss_one (qs_ret (qe_op oq_modN (qe_callTy cq_int1 (by rfl) T.b_int (by decide +kernel) (qa_cons (qe_op oq_fdiv (qe_dget hu (qv 0) qe_str (fun _ _ => rfl)) qe_int) qa_nil)) (qv 1))))))), ?_⟩
    rintro ds μ Q ⟨p, n, c, rfl, hp, ⟨l, m, t, rfl⟩, h0, h1, k⟩
    show (_ : AS) (EndA Q) [some (.ptr p), some (.int n), none] μ
    simp only [aSeq, aIf, aRet, aRetN, aDrop, aAsg, aNext, aPar, agName, agTup, agCons, agNil, agSub, rSetA, aTest, aOp, aUn, aV, aC, aI, aI0, aU, aEq, aNe, aCons, aNil, aTup, aLst, aCB, aIfE, aNotV, aNotT, aAndV, aOrV, aAndT, aOrT, aChain, aIxL, aIxT, aIxS, aSl, aPart, aNoPart, aSlL, aSlT, aSlS, aCat, aCatT, aAddS, aDGet, aDIn, aDGet2, asDPut, aDNewK, aDNewT, aCall, aBM, aAppend, aPopAt, aLenS, aLenStr, aListOf, aTupleOf, aInt1, aMin2, aIsi, aIsN, aNotN, aCont, aBreak, aNever, aDisp, aPairs, kvs?, mergeD, EndA, D.eq2, D.isNon, D.key, D.items, ptrList, listM, seqAt, Cell.items, dGetM, dPutM, isDict, tyOf, kitD, updM_same, updM_upd, List.set_cons_zero, List.set_cons_succ, List.getElem?_cons_zero, List.getElem?_cons_succ, List.length_cons, List.length_nil, Option.map_some, Option.bind_some, Option.isSome_some, Option.isSome_none, Option.getD_some, Option.getD_none, List.foldl_cons, List.foldl_nil, decide_eq_true_eq, if_true, if_false, Bool.not_true, Bool.not_false, Bool.false_eq_true, true_and, and_true, Nat.reduceLT, Int.reduceLT, Int.reduceLE, ↓reduceIte, hp, look_large, look_mixed, look_turn, put_large, put_mixed, put_turn, kv3_len]
    split
    · exact ⟨by omega, ⟨by omega, by omega⟩, _, Mle.refl _, k _ _ (Int.fmod_nonneg_of_pos _ h0) (Int.fmod_lt_of_pos _ h0) ⟨_, _, _, rfl⟩⟩
    · exact ⟨.inr (by omega), .inl (by omega), by unfold CDiv; decide, by omega, _, Mle.refl _, k _ _ (Int.fmod_nonneg_of_pos _ h0) (Int.fmod_lt_of_pos _ h0) ⟨_, _, _, rfl⟩⟩
def ctBegin : Ct := fun ds μ Q => ∃ (s : Addr) (i : Int) (is : List Int), ds = [.ptr s, .int i] ∧ μ s = some (.lsr (is.map D.int)) ∧ 0 ≤ i ∧ ∀ p c, μ p = none → StC c → Q (.ptr p) (updM μ p c)
def N_law_begin : List Str := ["_law_script", "_law_spot", "_law_own"]
abbrev s_law_begin : Stmt := top 48
theorem sc_law_begin : FnScope N_law_begin ["_law_script", "_law_spot"] (defScope s_law_begin) := ⟨rfl, rfl, rfl, by decide +kernel, rfl, by decide +kernel, by decide +kernel⟩
theorem ok_law_begin {f : Addr} {fd : FuncData} (F : Fun K "_law_begin" "_law_begin" s_law_begin f fd) (T : Tx K mg) : FnOk P w K mg base CX0 1 f fd ["_law_script", "_law_spot"] (spOf ctBegin) := by
  refine okD F sc_law_begin (fun ds μ Q h => ?_) (fun cdv A outer s H E hr => ?_)
  · obtain ⟨p, n, c, rfl, _⟩ := h
    rfl
  · refine ⟨_, (qss_cons (qs_set (i := 2) sc_law_begin.nd rfl (Or.inl rfl) (qe_ifExp (qt_cmpR (oq_neD hr.units) (qv 0) (qe_lst qa_nil) (nomark _)) (qe_ix iq_list (qv 0) (qe_op oq_modN (qe_callTy cq_int1 (by rfl) T.b_int (by decide +kernel) (qa_cons (qv 1) qa_nil)) (qe_callB cq_len (by rfl) T.b_len (by decide +kernel) (qa_cons (qv 0) qa_nil))) (fun _ _ => rfl)) qe_int))
  (qss_one (qs_ret (qe_disp (QPs.cons qe_str (qe_ifExp (qt_cmpR oq_ge (qv 2) (qe_op oq_pow qe_int qe_int) (nomark _)) (qv 2) qe_int) (QPs.cons qe_str (qe_op oq_mod (qe_callTy cq_int1 (by rfl) T.b_int (by decide +kernel) (qa_cons (qe_op oq_add (qe_op oq_add (qe_op oq_mul qe_int (qv 2)) (qv 1)) qe_int) qa_nil)) qe_int) (QPs.cons qe_str qe_int QPs.nil))) rfl rfl (List.cons_ne_nil _ _) (by decide))))), ?_⟩
    rintro ds μ Q ⟨s, i, is, rfl, hs, h0, k⟩
    show (_ : AS) (EndA Q) [some (.ptr s), some (.int i), none] μ
    simp only [aSeq, aIf, aRet, aRetN, aDrop, aAsg, aNext, aPar, agName, agTup, agCons, agNil, agSub, rSetA, aTest, aOp, aUn, aV, aC, aI, aI0, aU, aEq, aNe, aCons, aNil, aTup, aLst, aCB, aIfE, aNotV, aNotT, aAndV, aOrV, aAndT, aOrT, aChain, aIxL, aIxT, aIxS, aSl, aPart, aNoPart, aSlL, aSlT, aSlS, aCat, aCatT, aAddS, aDGet, aDIn, aDGet2, asDPut, aDNewK, aDNewT, aCall, aBM, aAppend, aPopAt, aLenS, aLenStr, aListOf, aTupleOf, aInt1, aMin2, aIsi, aIsN, aNotN, aCont, aBreak, aNever, aDisp, aPairs, kvs?, mergeD, EndA, D.eq2, D.isNon, D.key, D.items, ptrList, listM, seqAt, Cell.items, dGetM, dPutM, isDict, tyOf, kitD, updM_same, updM_upd, List.set_cons_zero, List.set_cons_succ, List.getElem?_cons_zero, List.getElem?_cons_succ, List.length_cons, List.length_nil, Option.map_some, Option.bind_some, Option.isSome_some, Option.isSome_none, Option.getD_some, Option.getD_none, List.foldl_cons, List.foldl_nil, decide_eq_true_eq, if_true, if_false, Bool.not_true, Bool.not_false, Bool.false_eq_true, true_and, and_true, Nat.reduceLT, Int.reduceLT, Int.reduceLE, ↓reduceIte, pow18]
    refine ⟨by decide, fun e he => ?_⟩
    have nse : s ≠ e := (fresh_ne he hs).symm
    rw [ne_nil (n := 0) (ys := is.map .int) (by unfold listM; rw [updM_ne nse, hs]; rfl) (by unfold listM; rw [updM_same]; rfl) (flat_ints 0 is) (by decide)]
    have hs' : updM μ e (.lst []) s = some (.lsr (is.map D.int)) := by rw [updM_ne nse]; exact hs
    have hf : ∀ p (c : Cell), updM μ e (.lst []) p = none → StC c → ∃ μ1, Mle μ1 (updM (updM μ e (.lst [])) p c) ∧ Q (.ptr p) μ1 := fun p c hp hc => by
      obtain ⟨_, hp⟩ := fresh_upd hp
      exact ⟨_, (Mle.new he).upd, k p c hp hc⟩
    cases is with
    | nil =>
      simp only [aSeq, aIf, aRet, aRetN, aDrop, aAsg, aNext, aPar, agName, agTup, agCons, agNil, agSub, rSetA, aTest, aOp, aUn, aV, aC, aI, aI0, aU, aEq, aNe, aCons, aNil, aTup, aLst, aCB, aIfE, aNotV, aNotT, aAndV, aOrV, aAndT, aOrT, aChain, aIxL, aIxT, aIxS, aSl, aPart, aNoPart, aSlL, aSlT, aSlS, aCat, aCatT, aAddS, aDGet, aDIn, aDGet2, asDPut, aDNewK, aDNewT, aCall, aBM, aAppend, aPopAt, aLenS, aLenStr, aListOf, aTupleOf, aInt1, aMin2, aIsi, aIsN, aNotN, aCont, aBreak, aNever, aDisp, aPairs, kvs?, mergeD, EndA, D.eq2, D.isNon, D.key, D.items, ptrList, listM, seqAt, Cell.items, dGetM, dPutM, isDict, tyOf, kitD, updM_same, updM_upd, List.set_cons_zero, List.set_cons_succ, List.getElem?_cons_zero, List.getElem?_cons_succ, List.length_cons, List.length_nil, Option.map_some, Option.bind_some, Option.isSome_some, Option.isSome_none, Option.getD_some, Option.getD_none, List.foldl_cons, List.foldl_nil, decide_eq_true_eq, if_true, if_false, Bool.not_true, Bool.not_false, Bool.false_eq_true, true_and, and_true, Nat.reduceLT, Int.reduceLT, Int.reduceLE, ↓reduceIte, hs', List.map_nil, List.isEmpty_nil, pow18]
      exact fun p hp => ⟨by unfold CPow; decide, .inl (by decide), by decide, hf p _ hp ⟨_, _, _, rfl⟩⟩
    | cons x xs =>
      have hl : (0 : Int) < ((List.map D.int (x :: xs)).length : Int) := by rw [List.length_map, List.length_cons]; omega
      have f0 := Int.fmod_nonneg_of_pos i hl
      have f1 := Int.fmod_lt_of_pos i hl
      obtain ⟨j, hj⟩ : ∃ j : Nat, i.fmod ((List.map D.int (x :: xs)).length : Int) = (j : Int) := ⟨_, (Int.toNat_of_nonneg f0).symm⟩
      rw [hj] at f1
      have hx : j < (x :: xs).length := by rw [List.length_map] at f1; omega
      have ha : atI (List.map D.int (x :: xs)) (j : Int) = some (.int (x :: xs)[j]) := atI_nat (by rw [List.getElem?_map, List.getElem?_eq_getElem hx]; rfl)
      have ie : (List.map D.int (x :: xs)).isEmpty = false := rfl
      simp only [aSeq, aIf, aRet, aRetN, aDrop, aAsg, aNext, aPar, agName, agTup, agCons, agNil, agSub, rSetA, aTest, aOp, aUn, aV, aC, aI, aI0, aU, aEq, aNe, aCons, aNil, aTup, aLst, aCB, aIfE, aNotV, aNotT, aAndV, aOrV, aAndT, aOrT, aChain, aIxL, aIxT, aIxS, aSl, aPart, aNoPart, aSlL, aSlT, aSlS, aCat, aCatT, aAddS, aDGet, aDIn, aDGet2, asDPut, aDNewK, aDNewT, aCall, aBM, aAppend, aPopAt, aLenS, aLenStr, aListOf, aTupleOf, aInt1, aMin2, aIsi, aIsN, aNotN, aCont, aBreak, aNever, aDisp, aPairs, kvs?, mergeD, EndA, D.eq2, D.isNon, D.key, D.items, ptrList, listM, seqAt, Cell.items, dGetM, dPutM, isDict, tyOf, kitD, updM_same, updM_upd, List.set_cons_zero, List.set_cons_succ, List.getElem?_cons_zero, List.getElem?_cons_succ, List.length_cons, List.length_nil, Option.map_some, Option.bind_some, Option.isSome_some, Option.isSome_none, Option.getD_some, Option.getD_none, List.foldl_cons, List.foldl_nil, decide_eq_true_eq, if_true, if_false, Bool.not_true, Bool.not_false, Bool.false_eq_true, true_and, and_true, Nat.reduceLT, Int.reduceLT, Int.reduceLE, ↓reduceIte, hs', ie, pow18, hj, ha]
      generalize (x :: xs)[j] = y
      refine ⟨by omega, fun p hp => ⟨by unfold CPow; decide, ?_⟩⟩
      split <;> exact ⟨.inl (by decide), by decide, hf p _ hp ⟨_, _, _, rfl⟩⟩
/-! ### picking and mixing -/
def ctPick : Ct := fun ds μ Q => ∃ p c a xs, ds = [.ptr p, .ptr a] ∧ μ p = some c ∧ StC c ∧ listM μ a = some xs ∧ 0 < xs.length ∧ xs.length < 100000 ∧ ∀ d c', d ∈ xs → StC c' → Q d (updM μ p c')
theorem not_list {c : Cell} (h : StC c) : c.items = none := by
  obtain ⟨l, m, t, rfl⟩ := h
  rfl
theorem list_ne {μ : Mu} {p a : Addr} {c : Cell} {xs : List D} (h : μ p = some c) (hc : StC c) (ha : listM μ a = some xs) : a ≠ p := fun e => by
  subst e
  unfold listM at ha
  rw [h] at ha
  rw [Option.bind_some, not_list hc] at ha
  cases ha
theorem list_upd {μ : Mu} {p a : Addr} {c : Cell} (h : a ≠ p) : listM (updM μ p c) a = listM μ a := by
  unfold listM
  rw [updM_ne h]
theorem list_at {μ : Mu} {p : Addr} {xs : List D} : listM (updM μ p (.lst xs)) p = some xs := by
  unfold listM
  rw [updM_same]
  rfl
def N_law_pick : List Str := ["_law_m", "_law_items"]
abbrev s_law_pick : Stmt := top 50
theorem sc_law_pick : FnScope N_law_pick ["_law_m", "_law_items"] (defScope s_law_pick) := ⟨rfl, rfl, rfl, by decide +kernel, rfl, by decide +kernel, by decide +kernel⟩
theorem ok_law_pick {f : Addr} {fd : FuncData} (F : Fun K "_law_pick" "_law_pick" s_law_pick f fd) (T : Tx K mg) (D_law_draw : Df P w K mg base CX0 1 "_law_draw" ["_law_m", "_law_size"] (spOf ctDraw)) : FnOk P w K mg base CX0 2 f fd ["_law_m", "_law_items"] (spOf ctPick) := by
  refine okD F sc_law_pick (fun ds μ Q h => ?_) (fun cdv A outer s H E hr => ?_)
  · obtain ⟨p, c, a, xs, rfl, _⟩ := h
    rfl
  · refine ⟨_, (qss_one (qs_ret (qe_ix iq_list (qv 1) (qe_df D_law_draw (hr.mono (by decide)) rfl (qa_cons (qv 0) (qa_cons (qe_callB cq_len (by rfl) T.b_len (by decide +kernel) (qa_cons (qv 1) qa_nil)) qa_nil))) (fun _ _ => rfl)))), ?_⟩
    rintro ds μ Q ⟨p, c, a, xs, rfl, hp, hc, ha, h0, h1, k⟩
    show (_ : AS) (EndA Q) [some (.ptr p), some (.ptr a)] μ
    simp only [listM] at ha
    simp only [aSeq, aIf, aRet, aRetN, aDrop, aAsg, aNext, aPar, agName, agTup, agCons, agNil, agSub, rSetA, aTest, aOp, aUn, aV, aC, aI, aI0, aU, aEq, aNe, aCons, aNil, aTup, aLst, aCB, aIfE, aNotV, aNotT, aAndV, aOrV, aAndT, aOrT, aChain, aIxL, aIxT, aIxS, aSl, aPart, aNoPart, aSlL, aSlT, aSlS, aCat, aCatT, aAddS, aDGet, aDIn, aDGet2, asDPut, aDNewK, aDNewT, aCall, aBM, aAppend, aPopAt, aLenS, aLenStr, aListOf, aTupleOf, aInt1, aMin2, aIsi, aIsN, aNotN, aCont, aBreak, aNever, aDisp, aPairs, kvs?, mergeD, EndA, D.eq2, D.isNon, D.key, D.items, ptrList, listM, seqAt, Cell.items, dGetM, dPutM, isDict, tyOf, kitD, updM_same, updM_upd, List.set_cons_zero, List.set_cons_succ, List.getElem?_cons_zero, List.getElem?_cons_succ, List.length_cons, List.length_nil, Option.map_some, Option.bind_some, Option.isSome_some, Option.isSome_none, Option.getD_some, Option.getD_none, List.foldl_cons, List.foldl_nil, decide_eq_true_eq, if_true, if_false, Bool.not_true, Bool.not_false, Bool.false_eq_true, true_and, and_true, Nat.reduceLT, Int.reduceLT, Int.reduceLE, ↓reduceIte, ha]
    refine ⟨p, _, c, rfl, hp, hc, by omega, by omega, fun v c' v0 v1 hc' => ?_⟩
    have ha' : (updM μ p c' a).bind Cell.items = some xs := by
      rw [updM_ne (list_ne hp hc (by unfold listM; exact ha))]
      exact ha
    obtain ⟨j, rfl⟩ : ∃ j : Nat, v = (j : Int) := ⟨_, (Int.toNat_of_nonneg v0).symm⟩
    have hj : j < xs.length := by omega
    have hat : atI xs (j : Int) = some xs[j] := atI_nat (List.getElem?_eq_getElem hj)
    simp only [aSeq, aIf, aRet, aRetN, aDrop, aAsg, aNext, aPar, agName, agTup, agCons, agNil, agSub, rSetA, aTest, aOp, aUn, aV, aC, aI, aI0, aU, aEq, aNe, aCons, aNil, aTup, aLst, aCB, aIfE, aNotV, aNotT, aAndV, aOrV, aAndT, aOrT, aChain, aIxL, aIxT, aIxS, aSl, aPart, aNoPart, aSlL, aSlT, aSlS, aCat, aCatT, aAddS, aDGet, aDIn, aDGet2, asDPut, aDNewK, aDNewT, aCall, aBM, aAppend, aPopAt, aLenS, aLenStr, aListOf, aTupleOf, aInt1, aMin2, aIsi, aIsN, aNotN, aCont, aBreak, aNever, aDisp, aPairs, kvs?, mergeD, EndA, D.eq2, D.isNon, D.key, D.items, ptrList, listM, seqAt, Cell.items, dGetM, dPutM, isDict, tyOf, kitD, updM_same, updM_upd, List.set_cons_zero, List.set_cons_succ, List.getElem?_cons_zero, List.getElem?_cons_succ, List.length_cons, List.length_nil, Option.map_some, Option.bind_some, Option.isSome_some, Option.isSome_none, Option.getD_some, Option.getD_none, List.foldl_cons, List.foldl_nil, decide_eq_true_eq, if_true, if_false, Bool.not_true, Bool.not_false, Bool.false_eq_true, true_and, and_true, Nat.reduceLT, Int.reduceLT, Int.reduceLE, ↓reduceIte, ha', hat]
    exact ⟨_, Mle.refl _, k _ c' (List.getElem_mem hj) hc'⟩
def ctMixed : Ct := fun ds μ Q => ∃ p c a xs, ds = [.ptr p, .ptr a] ∧ μ p = some c ∧ StC c ∧ listM μ a = some xs ∧ xs.length < 1000 ∧ (∀ y ∈ xs, y.flat 60 = true) ∧ ∀ q c' ys, μ q = none → StC c' → ys.Perm xs → Q (.ptr q) (updM (updM μ p c') q (.lst ys))
def N_law_mixed : List Str := ["_law_m", "_law_items", "_law_rest", "_law_found"]
abbrev s_law_mixed : Stmt := top 51
theorem sc_law_mixed : FnScope N_law_mixed ["_law_m", "_law_items"] (defScope s_law_mixed) := ⟨rfl, rfl, rfl, by decide +kernel, rfl, by decide +kernel, by decide +kernel⟩
theorem ok_law_mixed {f : Addr} {fd : FuncData} (F : Fun K "_law_mixed" "_law_mixed" s_law_mixed f fd) (T : Tx K mg) (D_law_draw : Df P w K mg base CX0 1 "_law_draw" ["_law_m", "_law_size"] (spOf ctDraw)) : FnOk P w K mg base CX0 2 f fd ["_law_m", "_law_items"] (spOf ctMixed) := by
  refine okD F sc_law_mixed (fun ds μ Q h => ?_) (fun cdv A outer s H E hr => ?_)
  · obtain ⟨p, c, a, xs, rfl, _⟩ := h
    rfl
  · refine ⟨_, (qss_cons (qs_par (i := 2) (j := 3) (by rfl) sc_law_mixed.nd rfl rfl (by decide) rfl rfl (qa_cons (qe_callTy cq_list_of (by rfl) T.b_list (by decide +kernel) (qa_cons (qv 1) qa_nil)) (qa_cons (qe_lst qa_nil) qa_nil)) (by rfl))
  (qss_cons (qs_while PassesOwn.never (qt_cmpR (oq_neD hr.units) (qv 2) (qe_lst qa_nil) (nomark _))
    (qss_one (qs_expr (qe_append (qv 3) (qa_cons (qe_popAt (qv 2) (qa_cons (qe_df D_law_draw (hr.mono (by decide)) rfl (qa_cons (qv 0) (qa_cons (qe_callB cq_len (by rfl) T.b_len (by decide +kernel) (qa_cons (qv 2) qa_nil)) qa_nil))) qa_nil)) qa_nil)))))
  (qss_one (qs_ret (qv 3))))), ?_⟩
    rintro ds μ Q ⟨p, c, a, xs, rfl, hp, hc, ha, h1, hf, k⟩
    show (_ : AS) (EndA Q) [some (.ptr p), some (.ptr a), none, none] μ
    simp only [listM] at ha
    simp only [aSeq, aIf, aRet, aRetN, aDrop, aAsg, aNext, aPar, agName, agTup, agCons, agNil, agSub, rSetA, aTest, aOp, aUn, aV, aC, aI, aI0, aU, aEq, aNe, aCons, aNil, aTup, aLst, aCB, aIfE, aNotV, aNotT, aAndV, aOrV, aAndT, aOrT, aChain, aIxL, aIxT, aIxS, aSl, aPart, aNoPart, aSlL, aSlT, aSlS, aCat, aCatT, aAddS, aDGet, aDIn, aDGet2, asDPut, aDNewK, aDNewT, aCall, aBM, aAppend, aPopAt, aLenS, aLenStr, aListOf, aTupleOf, aInt1, aMin2, aIsi, aIsN, aNotN, aCont, aBreak, aNever, aDisp, aPairs, kvs?, mergeD, EndA, D.eq2, D.isNon, D.key, D.items, ptrList, listM, seqAt, Cell.items, dGetM, dPutM, isDict, tyOf, kitD, updM_same, updM_upd, List.set_cons_zero, List.set_cons_succ, List.getElem?_cons_zero, List.getElem?_cons_succ, List.length_cons, List.length_nil, Option.map_some, Option.bind_some, Option.isSome_some, Option.isSome_none, Option.getD_some, Option.getD_none, List.foldl_cons, List.foldl_nil, decide_eq_true_eq, if_true, if_false, Bool.not_true, Bool.not_false, Bool.false_eq_true, true_and, and_true, Nat.reduceLT, Int.reduceLT, Int.reduceLE, ↓reduceIte, ha]
    intro r hr0
    refine ⟨by decide, fun q hq => ?_⟩
    obtain ⟨nqr, hq⟩ := fresh_upd hq
    have nrp : r ≠ p := fresh_ne hr0 hp
    have nqp : q ≠ p := fresh_ne hq hp
    refine ⟨fun m ρ' μ' => ∃ c' ys zs, ρ' = [some (.ptr p), some (.ptr a), some (.ptr r), some (.ptr q)] ∧ m = ys.length ∧ μ' p = some c' ∧ StC c' ∧ μ' r = some (.lst ys) ∧ μ' q = some (.lst zs) ∧ (ys ++ zs).Perm xs ∧ MleX [p, q] μ μ',
      ⟨_, c, xs, [], rfl, rfl, ?_, hc, ?_, updM_same, by rw [List.append_nil], ((MleX.refl _ _).new hr0).upd (by simp)⟩, ?_⟩
    · rw [updM_ne nqp.symm, updM_ne nrp.symm]
      exact hp
    · rw [updM_ne nqr.symm]
      exact updM_same
    rintro m ρ' μ' ⟨c', ys, zs, rfl, rfl, g1, g2, g3, g4, g5, g6⟩
    simp only [aSeq, aIf, aRet, aRetN, aDrop, aAsg, aNext, aPar, agName, agTup, agCons, agNil, agSub, rSetA, aTest, aOp, aUn, aV, aC, aI, aI0, aU, aEq, aNe, aCons, aNil, aTup, aLst, aCB, aIfE, aNotV, aNotT, aAndV, aOrV, aAndT, aOrT, aChain, aIxL, aIxT, aIxS, aSl, aPart, aNoPart, aSlL, aSlT, aSlS, aCat, aCatT, aAddS, aDGet, aDIn, aDGet2, asDPut, aDNewK, aDNewT, aCall, aBM, aAppend, aPopAt, aLenS, aLenStr, aListOf, aTupleOf, aInt1, aMin2, aIsi, aIsN, aNotN, aCont, aBreak, aNever, aDisp, aPairs, kvs?, mergeD, EndA, D.eq2, D.isNon, D.key, D.items, ptrList, listM, seqAt, Cell.items, dGetM, dPutM, isDict, tyOf, kitD, updM_same, updM_upd, List.set_cons_zero, List.set_cons_succ, List.getElem?_cons_zero, List.getElem?_cons_succ, List.length_cons, List.length_nil, Option.map_some, Option.bind_some, Option.isSome_some, Option.isSome_none, Option.getD_some, Option.getD_none, List.foldl_cons, List.foldl_nil, decide_eq_true_eq, if_true, if_false, Bool.not_true, Bool.not_false, Bool.false_eq_true, true_and, and_true, Nat.reduceLT, Int.reduceLT, Int.reduceLE, ↓reduceIte]
    refine ⟨by decide, fun e he => ?_⟩
    have nre : r ≠ e := (fresh_ne he g3).symm
    have npe : p ≠ e := (fresh_ne he g1).symm
    have nqe : q ≠ e := (fresh_ne he g4).symm
    have hys : ∀ y ∈ ys, y.flat 60 = true := fun y hy => hf y (g5.mem_iff.mp (List.mem_append_left _ hy))
    have lys : ys.length + zs.length < 1000 := by
      have := g5.length_eq
      rw [List.length_append] at this
      omega
    rw [ne_nil (ys := ys) (by rw [list_upd nre]; exact list_cell g3) list_at hys (by decide)]
    cases ys with
    | nil =>
      simp only [aSeq, aIf, aRet, aRetN, aDrop, aAsg, aNext, aPar, agName, agTup, agCons, agNil, agSub, rSetA, aTest, aOp, aUn, aV, aC, aI, aI0, aU, aEq, aNe, aCons, aNil, aTup, aLst, aCB, aIfE, aNotV, aNotT, aAndV, aOrV, aAndT, aOrT, aChain, aIxL, aIxT, aIxS, aSl, aPart, aNoPart, aSlL, aSlT, aSlS, aCat, aCatT, aAddS, aDGet, aDIn, aDGet2, asDPut, aDNewK, aDNewT, aCall, aBM, aAppend, aPopAt, aLenS, aLenStr, aListOf, aTupleOf, aInt1, aMin2, aIsi, aIsN, aNotN, aCont, aBreak, aNever, aDisp, aPairs, kvs?, mergeD, EndA, D.eq2, D.isNon, D.key, D.items, ptrList, listM, seqAt, Cell.items, dGetM, dPutM, isDict, tyOf, kitD, updM_same, updM_upd, List.set_cons_zero, List.set_cons_succ, List.getElem?_cons_zero, List.getElem?_cons_succ, List.length_cons, List.length_nil, Option.map_some, Option.bind_some, Option.isSome_some, Option.isSome_none, Option.getD_some, Option.getD_none, List.foldl_cons, List.foldl_nil, decide_eq_true_eq, if_true, if_false, Bool.not_true, Bool.not_false, Bool.false_eq_true, true_and, and_true, Nat.reduceLT, Int.reduceLT, Int.reduceLE, ↓reduceIte, List.isEmpty_nil]
      exact ⟨_, (((g6.new he).put (by rw [updM_ne npe]; exact g1)).put (by rw [updM_ne nqe]; exact g4)).mle, k q c' zs hq g2 g5⟩
    | cons y ys =>
      simp only [aSeq, aIf, aRet, aRetN, aDrop, aAsg, aNext, aPar, agName, agTup, agCons, agNil, agSub, rSetA, aTest, aOp, aUn, aV, aC, aI, aI0, aU, aEq, aNe, aCons, aNil, aTup, aLst, aCB, aIfE, aNotV, aNotT, aAndV, aOrV, aAndT, aOrT, aChain, aIxL, aIxT, aIxS, aSl, aPart, aNoPart, aSlL, aSlT, aSlS, aCat, aCatT, aAddS, aDGet, aDIn, aDGet2, asDPut, aDNewK, aDNewT, aCall, aBM, aAppend, aPopAt, aLenS, aLenStr, aListOf, aTupleOf, aInt1, aMin2, aIsi, aIsN, aNotN, aCont, aBreak, aNever, aDisp, aPairs, kvs?, mergeD, EndA, D.eq2, D.isNon, D.key, D.items, ptrList, listM, seqAt, Cell.items, dGetM, dPutM, isDict, tyOf, kitD, updM_same, updM_upd, List.set_cons_zero, List.set_cons_succ, List.getElem?_cons_zero, List.getElem?_cons_succ, List.length_cons, List.length_nil, Option.map_some, Option.bind_some, Option.isSome_some, Option.isSome_none, Option.getD_some, Option.getD_none, List.foldl_cons, List.foldl_nil, decide_eq_true_eq, if_true, if_false, Bool.not_true, Bool.not_false, Bool.false_eq_true, true_and, and_true, Nat.reduceLT, Int.reduceLT, Int.reduceLE, ↓reduceIte, List.isEmpty_cons, updM_ne nre, updM_ne npe, updM_ne nqe, g3, g4]
      rw [List.length_cons] at lys
      refine ⟨p, _, c', rfl, by rw [updM_ne npe]; exact g1, g2, by omega, by omega, fun v c2 v0 v1 hc2 => ?_⟩
      obtain ⟨j, rfl⟩ : ∃ j : Nat, v = (j : Int) := ⟨_, (Int.toNat_of_nonneg v0).symm⟩
      have hj : j < (y :: ys).length := by rw [List.length_cons]; omega
      have sj : seqIndex? (j : Int) (ys.length + 1) = some j := seq_nat hj
      have yj : (y :: ys)[j]? = some (y :: ys)[j] := List.getElem?_eq_getElem hj
      simp only [aSeq, aIf, aRet, aRetN, aDrop, aAsg, aNext, aPar, agName, agTup, agCons, agNil, agSub, rSetA, aTest, aOp, aUn, aV, aC, aI, aI0, aU, aEq, aNe, aCons, aNil, aTup, aLst, aCB, aIfE, aNotV, aNotT, aAndV, aOrV, aAndT, aOrT, aChain, aIxL, aIxT, aIxS, aSl, aPart, aNoPart, aSlL, aSlT, aSlS, aCat, aCatT, aAddS, aDGet, aDIn, aDGet2, asDPut, aDNewK, aDNewT, aCall, aBM, aAppend, aPopAt, aLenS, aLenStr, aListOf, aTupleOf, aInt1, aMin2, aIsi, aIsN, aNotN, aCont, aBreak, aNever, aDisp, aPairs, kvs?, mergeD, EndA, D.eq2, D.isNon, D.key, D.items, ptrList, listM, seqAt, Cell.items, dGetM, dPutM, isDict, tyOf, kitD, updM_same, updM_upd, List.set_cons_zero, List.set_cons_succ, List.getElem?_cons_zero, List.getElem?_cons_succ, List.length_cons, List.length_nil, Option.map_some, Option.bind_some, Option.isSome_some, Option.isSome_none, Option.getD_some, Option.getD_none, List.foldl_cons, List.foldl_nil, decide_eq_true_eq, if_true, if_false, Bool.not_true, Bool.not_false, Bool.false_eq_true, true_and, and_true, Nat.reduceLT, Int.reduceLT, Int.reduceLE, ↓reduceIte, updM_ne nre, updM_ne npe, updM_ne nqe, updM_ne nrp, updM_ne nqr, updM_ne nqr.symm, updM_ne nqp, updM_ne nrp.symm, updM_ne nqp.symm, g1, g3, g4, sj, yj]
      exact ⟨by omega, by omega, by omega, _, Nat.lt_succ_self _, c2, _, _, (by rw [List.length_eraseIdx_of_lt hj]; rfl), rfl, hc2, rfl, rfl, (erase_perm _ j hj zs).trans g5, (((g6.new he).upd (by simp)).free hr0).upd (by simp)⟩
end
end M53

set_option maxHeartbeats 4000000
namespace M53
open PySem PySem.Spec PyProof.Rows L2 Evl Gd DL
/-! ### opcodes -/
def codeD (c : List Int) : D := .tup (c.map D.int)
def CodeOk (c : List Int) : Prop := 1 ≤ c.length ∧ c.length ≤ 3 ∧ ∀ x ∈ c, 0 ≤ x ∧ x ≤ 255
def Apart (a b : List Int) : Prop := ¬ a <+: b ∧ ¬ b <+: a
structure CodesOk (cs : List (List Int)) : Prop where
  ok : ∀ c ∈ cs, CodeOk c
  pf : cs.Pairwise Apart
  hd : ∀ c ∈ cs, c.head? ≠ some 200
theorem Apart.symm {a b : List Int} (h : Apart a b) : Apart b a := ⟨h.2, h.1⟩
theorem CodesOk.perm {cs ds : List (List Int)} (h : CodesOk cs) (p : ds.Perm cs) : CodesOk ds :=
  ⟨fun c hc => h.ok c (p.mem_iff.mp hc), p.symm.pairwise h.pf fun {a b} => Apart.symm, fun c hc => h.hd c (p.mem_iff.mp hc)⟩
theorem CodesOk.sub {cs ds : List (List Int)} (h : CodesOk cs) (p : ds.Sublist cs) : CodesOk ds := ⟨fun c hc => h.ok c (p.subset hc), h.pf.sublist p, fun c hc => h.hd c (p.subset hc)⟩
theorem CodesOk.snoc {cs : List (List Int)} {c : List Int} (h : CodesOk cs) (hc : CodeOk c) (ha : ∀ d ∈ cs, Apart d c) (h2 : c.head? ≠ some 200) : CodesOk (cs ++ [c]) :=
  ⟨fun d hd => by
    rcases List.mem_append.mp hd with h1 | h1
    · exact h.ok d h1
    · rw [List.mem_singleton.mp h1]; exact hc, List.pairwise_append.mpr ⟨h.pf, List.pairwise_singleton _ _, fun a ha' b hb => by rw [List.mem_singleton.mp hb]; exact ha a ha'⟩, fun d hd => by
    rcases List.mem_append.mp hd with h1 | h1
    · exact h.hd d h1
    · rw [List.mem_singleton.mp h1]; exact h2⟩
theorem apart_head {a b : Int} {r t : List Int} (h : a ≠ b) : Apart (a :: r) (b :: t) := ⟨fun ⟨u, e⟩ => h (by injection e), fun ⟨u, e⟩ => h (by injection e with e1; exact e1.symm)⟩
theorem apart_snd {a b x y : Int} {r t : List Int} (h : x ≠ y) : Apart (a :: x :: r) (b :: y :: t) := ⟨fun ⟨u, e⟩ => h (by injection e with _ e; injection e), fun ⟨u, e⟩ => h (by injection e with _ e; injection e with e1; exact e1.symm)⟩
theorem apart_thd {a b x y p q : Int} (h : p ≠ q) : Apart [a, x, p] [b, y, q] := ⟨fun ⟨u, e⟩ => h (by injection e with _ e; injection e with _ e; injection e), fun ⟨u, e⟩ => h (by injection e with _ e; injection e with _ e; injection e with e1; exact e1.symm)⟩
/-- the codes while those of low are made: mids done -/
def Mids (low : Int) (lows mids : List Int) (cs : List (List Int)) : Prop := ∀ c ∈ cs, (∃ a r, c = a :: r ∧ a ∈ lows) ∨ ∃ m r, c = low :: m :: r ∧ m ∈ mids
def LOWS : List Int := [0, 1, 2, 5, 9, 65, 127, 128, 254, 255]
theorem Mids.apart {low : Int} {lows mids : List Int} {cs : List (List Int)} (h : Mids low lows mids cs) (hl : low ∉ lows) {m : Int} (hm : m ∉ mids) (t : List Int) : ∀ d ∈ cs, Apart d (low :: m :: t) := fun d hd => by
  rcases h d hd with ⟨a, r, rfl, ha⟩ | ⟨m', r, rfl, hm'⟩
  · exact apart_head fun e => hl (e ▸ ha)
  · exact apart_snd fun e => hm (e ▸ hm')
theorem Mids.apart1 {low : Int} {lows : List Int} {cs : List (List Int)} (h : Mids low lows [] cs) (hl : low ∉ lows) : ∀ d ∈ cs, Apart d [low] := fun d hd => by
  rcases h d hd with ⟨a, r, rfl, ha⟩ | ⟨m', r, rfl, hm'⟩
  · exact apart_head fun e => hl (e ▸ ha)
  · cases hm'
theorem Mids.add {low : Int} {lows mids : List Int} {cs : List (List Int)} (h : Mids low lows mids cs) (m : Int) (t : List Int) : Mids low lows (mids ++ [m]) (cs ++ [low :: m :: t]) := fun c hc => by
  rcases List.mem_append.mp hc with h1 | h1
  · rcases h c h1 with h2 | ⟨m', r, rfl, hm'⟩
    · exact .inl h2
    · exact .inr ⟨m', r, rfl, List.mem_append_left _ hm'⟩
  · rw [List.mem_singleton.mp h1]
    exact .inr ⟨m, t, rfl, by simp⟩
theorem Mids.up {low : Int} {lows mids mids' : List Int} {cs : List (List Int)} (h : Mids low lows mids cs) (k : ∀ x ∈ mids, x ∈ mids') : Mids low lows mids' cs := fun c hc => by
  rcases h c hc with h2 | ⟨m', r, rfl, hm'⟩
  · exact .inl h2
  · exact .inr ⟨m', r, rfl, k _ hm'⟩
/-- the codes behind the lows -/
def Heads (lows : List Int) (cs : List (List Int)) : Prop := ∀ c ∈ cs, ∃ a r, c = a :: r ∧ a ∈ lows
theorem Heads.mids {lows : List Int} {cs : List (List Int)} (h : Heads lows cs) (low : Int) : Mids low lows [] cs := fun c hc => .inl (h c hc)
theorem Mids.heads {low : Int} {lows mids : List Int} {cs : List (List Int)} (h : Mids low lows mids cs) : Heads (lows ++ [low]) cs := fun c hc => by
  rcases h c hc with ⟨a, r, rfl, ha⟩ | ⟨m', r, rfl, hm'⟩
  · exact ⟨a, r, rfl, List.mem_append_left _ ha⟩
  · exact ⟨low, _, rfl, by simp⟩
theorem codeD_flat (c : List Int) : (codeD c).flat 60 = true := List.all_eq_true.mpr (flat_ints 59 c)
theorem perm_map {α β : Type} {f : α → β} {ys zs : List β} (p : ys.Perm zs) : ∀ {xs : List α}, zs = xs.map f → ∃ xs' : List α, xs'.Perm xs ∧ ys = xs'.map f := by
  induction p with
  | nil =>
    intro xs h
    cases xs with
    | nil => exact ⟨[], List.Perm.refl _, rfl⟩
    | cons _ _ => cases h
  | @cons x l1 l2 p ih =>
    intro xs h
    cases xs with
    | nil => cases h
    | cons a xs =>
      rw [List.map_cons] at h
      injection h with h1 h2
      obtain ⟨xs', p1, e1⟩ := ih h2
      exact ⟨a :: xs', p1.cons a, by rw [List.map_cons, ← e1, h1]⟩
  | swap x y l =>
    intro xs h
    match xs, h with
    | a :: b :: xs, h =>
      rw [List.map_cons, List.map_cons] at h
      injection h with h1 h2
      injection h2 with h2 h3
      exact ⟨b :: a :: xs, List.Perm.swap _ _ _, by rw [List.map_cons, List.map_cons, ← h1, ← h2, ← h3]⟩
  | trans p1 p2 i1 i2 =>
    intro xs h
    obtain ⟨xs1, q1, e1⟩ := i2 h
    obtain ⟨xs2, q2, e2⟩ := i1 e1
    exact ⟨xs2, q2.trans q1, e2⟩
theorem mids_of {a b : Int} (a0 : 0 ≤ a) (a1 : a < 2) (b0 : 0 ≤ b) (b1 : b < 3) : ∃ ms : List Int, DL.cutD [D.int 0, D.int 1, D.int 128, D.int 255] (some a) (some (2 + b)) = ms.map D.int ∧ ms.Nodup ∧ 1 ≤ ms.length ∧ ms.length ≤ 4 ∧ ∀ x ∈ ms, 0 ≤ x ∧ x ≤ 255 := by
  have ha : a = 0 ∨ a = 1 := by omega
  have hb : b = 0 ∨ b = 1 ∨ b = 2 := by omega
  rcases ha with rfl | rfl <;> rcases hb with rfl | rfl | rfl
  · exact ⟨[0, 1], rfl, by decide, by decide, by decide, by decide⟩
  · exact ⟨[0, 1, 128], rfl, by decide, by decide, by decide, by decide⟩
  · exact ⟨[0, 1, 128, 255], rfl, by decide, by decide, by decide, by decide⟩
  · exact ⟨[1], rfl, by decide, by decide, by decide, by decide⟩
  · exact ⟨[1, 128], rfl, by decide, by decide, by decide, by decide⟩
  · exact ⟨[1, 128, 255], rfl, by decide, by decide, by decide, by decide⟩
theorem int_at {is : List Int} {i : Nat} {x : D} (h : (is.map D.int)[i]? = some x) : ∃ n, is[i]? = some n ∧ x = .int n := by
  rw [List.getElem?_map] at h
  cases e : is[i]? with
  | none => rw [e] at h; cases h
  | some n => rw [e] at h; cases h; exact ⟨n, rfl, rfl⟩
theorem nodup_new {α : Type} {l : List α} (h : l.Nodup) {i : Nat} {x : α} (hx : l[i]? = some x) : x ∉ l.take i ∧ l.take (i + 1) = l.take i ++ [x] := by
  have e : l.take (i + 1) = l.take i ++ [x] := by rw [List.take_add_one, hx]; rfl
  refine ⟨fun hm => ?_, e⟩
  have h1 := h.sublist (List.take_sublist (i + 1) l)
  rw [e] at h1
  exact (List.nodup_append.mp h1).2.2 x hm x (List.mem_singleton.mpr rfl) rfl
section
variable {P : Program} {w : World} {K : PySem.W.Frag} {mg : Str → Option Value} {base : Heap}
def ctCodes : Ct := fun ds μ Q => ∃ p c, ds = [.ptr p] ∧ μ p = some c ∧ StC c ∧ ∀ q c' cs, μ q = none → StC c' → CodesOk cs → 10 ≤ cs.length → cs.length ≤ 80 → Q (.ptr q) (updM (updM μ p c') q (.lst (cs.map codeD)))
def N_law_codes : List Str := ["_law_m", "_law_found", "_law_low", "_law_mid", "_law_way"]
abbrev s_law_codes : Stmt := top 52
theorem sc_law_codes : FnScope N_law_codes ["_law_m"] (defScope s_law_codes) := ⟨rfl, rfl, rfl, by decide +kernel, rfl, by decide +kernel, by decide +kernel⟩
theorem low_new {i : Nat} {x : Int} (h : LOWS[i]? = some x) : x ∉ LOWS.take i ∧ 0 ≤ x ∧ x ≤ 255 ∧ LOWS.take (i + 1) = LOWS.take i ++ [x] := by
  have hi := (List.getElem?_eq_some_iff.mp h).1
  have : i = 0 ∨ i = 1 ∨ i = 2 ∨ i = 3 ∨ i = 4 ∨ i = 5 ∨ i = 6 ∨ i = 7 ∨ i = 8 ∨ i = 9 := by
    have : i < 10 := hi
    omega
  rcases this with rfl | rfl | rfl | rfl | rfl | rfl | rfl | rfl | rfl | rfl <;> (cases h; decide)
theorem ok_law_codes {f : Addr} {fd : FuncData} (F : Fun K "_law_codes" "_law_codes" s_law_codes f fd) (T : Tx K mg) (D_law_draw : Df P w K mg base CX0 1 "_law_draw" ["_law_m", "_law_size"] (spOf ctDraw)) (D_law_mixed : Df P w K mg base CX0 2 "_law_mixed" ["_law_m", "_law_items"] (spOf ctMixed)) : FnOk P w K mg base CX0 3 f fd ["_law_m"] (spOf ctCodes) := by
  refine okD F sc_law_codes (fun ds μ Q h => ?_) (fun cdv A outer s H E hr => ?_)
  · obtain ⟨p, c, rfl, _⟩ := h
    rfl
  · refine ⟨_, (qss_cons (qs_set (i := 1) sc_law_codes.nd rfl (Or.inl rfl) (qe_lst qa_nil))
  (qss_cons (qs_for PassesOwn.never rfl (qi_list (qe_lst (qa_cons qe_int (qa_cons qe_int (qa_cons qe_int (qa_cons qe_int (qa_cons qe_int (qa_cons qe_int (qa_cons qe_int (qa_cons qe_int (qa_cons qe_int (qa_cons qe_int qa_nil)))))))))))) (qg_name (i := 2) sc_law_codes.nd rfl (Or.inl rfl))
    (qss_one (qs_if (qt_cmpR oq_gt (qe_df D_law_draw (hr.mono (by decide)) rfl (qa_cons (qv 0) (qa_cons qe_int qa_nil))) qe_int (nomark _))
        (qss_one (qs_expr (qe_append (qv 1) (qa_cons (qe_tup (qa_cons (qv 2) qa_nil)) qa_nil))))
        (qss_one (qs_for PassesOwn.never rfl (qi_list (qe_slice slq_list (qe_lst (qa_cons qe_int (qa_cons qe_int (qa_cons qe_int (qa_cons qe_int qa_nil))))) (qo_some (qe_df D_law_draw (hr.mono (by decide)) rfl (qa_cons (qv 0) (qa_cons qe_int qa_nil)))) (qo_some (qe_op oq_add qe_int (qe_df D_law_draw (hr.mono (by decide)) rfl (qa_cons (qv 0) (qa_cons qe_int qa_nil))))))) (qg_name (i := 3) sc_law_codes.nd rfl (Or.inl rfl))
            (qss_cons (qs_set (i := 4) sc_law_codes.nd rfl (Or.inl rfl) (qe_df D_law_draw (hr.mono (by decide)) rfl (qa_cons (qv 0) (qa_cons qe_int qa_nil))))
              (qss_one (qs_set (i := 1) sc_law_codes.nd rfl (Or.inl rfl) (qe_ifExp (qt_cmpR oq_gt (qv 4) qe_int (nomark _)) (qe_op oq_cat (qv 1) (qe_lst (qa_cons (qe_tup (qa_cons (qv 2) (qa_cons (qv 3) qa_nil))) qa_nil))) (qe_op oq_cat (qv 1) (qe_lst (qa_cons (qe_tup (qa_cons (qv 2) (qa_cons (qv 3) (qa_cons qe_int qa_nil)))) (qa_cons (qe_tup (qa_cons (qv 2) (qa_cons (qv 3) (qa_cons qe_int qa_nil)))) qa_nil)))))))))))))
  (qss_one (qs_ret (qe_df D_law_mixed (hr.mono (by decide)) rfl (qa_cons (qv 0) (qa_cons (qv 1) qa_nil))))))), ?_⟩
    rintro ds μ Q ⟨p, c, rfl, hp, hc, k⟩
    show (_ : AS) (EndA Q) [some (.ptr p), none, none, none, none] μ
    simp only [aSeq, aIf, aRet, aRetN, aDrop, aAsg, aNext, aPar, agName, agTup, agCons, agNil, agSub, rSetA, aTest, aOp, aUn, aV, aC, aI, aI0, aU, aEq, aNe, aCons, aNil, aTup, aLst, aCB, aIfE, aNotV, aNotT, aAndV, aOrV, aAndT, aOrT, aChain, aIxL, aIxT, aIxS, aSl, aPart, aNoPart, aSlL, aSlT, aSlS, aCat, aCatT, aAddS, aDGet, aDIn, aDGet2, asDPut, aDNewK, aDNewT, aCall, aBM, aAppend, aPopAt, aLenS, aLenStr, aListOf, aTupleOf, aInt1, aMin2, aIsi, aIsN, aNotN, aCont, aBreak, aNever, aDisp, aPairs, kvs?, mergeD, EndA, D.eq2, D.isNon, D.key, D.items, ptrList, listM, seqAt, Cell.items, dGetM, dPutM, isDict, tyOf, kitD, updM_same, updM_upd, List.set_cons_zero, List.set_cons_succ, List.getElem?_cons_zero, List.getElem?_cons_succ, List.length_cons, List.length_nil, Option.map_some, Option.bind_some, Option.isSome_some, Option.isSome_none, Option.getD_some, Option.getD_none, List.foldl_cons, List.foldl_nil, decide_eq_true_eq, if_true, if_false, Bool.not_true, Bool.not_false, Bool.false_eq_true, true_and, and_true, Nat.reduceLT, Int.reduceLT, Int.reduceLE, ↓reduceIte, aFor]
    refine ⟨by decide, fun q0 hq0 => ⟨by decide, fun l hl => ?_⟩⟩
    obtain ⟨nlq, hl⟩ := fresh_upd hl
    have nqp := fresh_ne hq0 hp
    have nlp := fresh_ne hl hp
    simp only [aSeq, aIf, aRet, aRetN, aDrop, aAsg, aNext, aPar, agName, agTup, agCons, agNil, agSub, rSetA, aTest, aOp, aUn, aV, aC, aI, aI0, aU, aEq, aNe, aCons, aNil, aTup, aLst, aCB, aIfE, aNotV, aNotT, aAndV, aOrV, aAndT, aOrT, aChain, aIxL, aIxT, aIxS, aSl, aPart, aNoPart, aSlL, aSlT, aSlS, aCat, aCatT, aAddS, aDGet, aDIn, aDGet2, asDPut, aDNewK, aDNewT, aCall, aBM, aAppend, aPopAt, aLenS, aLenStr, aListOf, aTupleOf, aInt1, aMin2, aIsi, aIsN, aNotN, aCont, aBreak, aNever, aDisp, aPairs, kvs?, mergeD, EndA, D.eq2, D.isNon, D.key, D.items, ptrList, listM, seqAt, Cell.items, dGetM, dPutM, isDict, tyOf, kitD, updM_same, updM_upd, List.set_cons_zero, List.set_cons_succ, List.getElem?_cons_zero, List.getElem?_cons_succ, List.length_cons, List.length_nil, Option.map_some, Option.bind_some, Option.isSome_some, Option.isSome_none, Option.getD_some, Option.getD_none, List.foldl_cons, List.foldl_nil, decide_eq_true_eq, if_true, if_false, Bool.not_true, Bool.not_false, Bool.false_eq_true, true_and, and_true, Nat.reduceLT, Int.reduceLT, Int.reduceLE, ↓reduceIte]
    refine ⟨fun i ρ' μ' => ∃ q cs c' x2 x3 x4, ρ' = [some (.ptr p), some (.ptr q), x2, x3, x4] ∧ μ' p = some c' ∧ StC c' ∧ μ' q = some (.lst (cs.map codeD)) ∧ μ' l = some (.lst (LOWS.map D.int)) ∧ CodesOk cs ∧ Heads (LOWS.take i) cs ∧ i ≤ cs.length ∧ cs.length ≤ 8 * i ∧ μ q = none ∧ MleX [p] μ μ',
      ⟨q0, [], c, none, none, none, rfl, ?_, hc, ?_, updM_same, ⟨fun _ h => (by cases h), List.Pairwise.nil, fun _ h => nomatch h⟩, fun _ h => (by cases h), Nat.zero_le _, Nat.zero_le _, hq0, ((MleX.refl _ _).new hq0).free hl⟩, ?_, ?_, ?_⟩
    · rw [updM_ne nlp.symm, updM_ne nqp.symm]; exact hp
    · rw [updM_ne nlq.symm, updM_same]; rfl
    · rintro i ρ' μ' hi ⟨q, cs, c', x2, x3, x4, rfl, g1, g2, g3, g4, g5, g6, g7, g8, gq, g9⟩
      rw [g4]; rfl
    · rintro i x ρ' μ' hx ⟨q, cs, c', x2, x3, x4, rfl, g1, g2, g3, g4, g5, g6, g7, g8, gq, g9⟩
      obtain ⟨low, hlow, rfl⟩ : ∃ low, LOWS[i]? = some low ∧ x = .int low := by
        have hx : (LOWS.map D.int)[i]? = some x := hx
        rw [List.getElem?_map] at hx
        cases e : LOWS[i]? with
        | none => rw [e] at hx; cases hx
        | some low => rw [e] at hx; cases hx; exact ⟨low, rfl, rfl⟩
      obtain ⟨ln, l0, l1, lt⟩ := low_new hlow
      have l200 : ∀ t : List Int, (low :: t).head? ≠ some 200 := fun t e => by
        have e2 : low = 200 := Option.some.inj e
        have := List.mem_of_getElem? hlow
        rw [e2] at this
        exact absurd this (by decide)
      have hi10 : i < 10 := (List.getElem?_eq_some_iff.mp hlow).1
      have nqp : q ≠ p := fun e => by subst e; obtain ⟨_, _, _, rfl⟩ := g2; rw [g1] at g3; cases g3
      have nql : q ≠ l := fun e => by subst e; rw [g3] at g4; cases cs <;> cases g4
      have nlp : l ≠ p := fun e => by subst e; obtain ⟨_, _, _, rfl⟩ := g2; rw [g1] at g4; cases g4
      simp only [aSeq, aIf, aRet, aRetN, aDrop, aAsg, aNext, aPar, agName, agTup, agCons, agNil, agSub, rSetA, aTest, aOp, aUn, aV, aC, aI, aI0, aU, aEq, aNe, aCons, aNil, aTup, aLst, aCB, aIfE, aNotV, aNotT, aAndV, aOrV, aAndT, aOrT, aChain, aIxL, aIxT, aIxS, aSl, aPart, aNoPart, aSlL, aSlT, aSlS, aCat, aCatT, aAddS, aDGet, aDIn, aDGet2, asDPut, aDNewK, aDNewT, aCall, aBM, aAppend, aPopAt, aLenS, aLenStr, aListOf, aTupleOf, aInt1, aMin2, aIsi, aIsN, aNotN, aCont, aBreak, aNever, aDisp, aPairs, kvs?, mergeD, EndA, D.eq2, D.isNon, D.key, D.items, ptrList, listM, seqAt, Cell.items, dGetM, dPutM, isDict, tyOf, kitD, updM_same, updM_upd, List.set_cons_zero, List.set_cons_succ, List.getElem?_cons_zero, List.getElem?_cons_succ, List.length_cons, List.length_nil, Option.map_some, Option.bind_some, Option.isSome_some, Option.isSome_none, Option.getD_some, Option.getD_none, List.foldl_cons, List.foldl_nil, decide_eq_true_eq, if_true, if_false, Bool.not_true, Bool.not_false, Bool.false_eq_true, true_and, and_true, Nat.reduceLT, Int.reduceLT, Int.reduceLE, ↓reduceIte]
      refine ⟨p, _, c', rfl, g1, g2, by decide, by decide, fun v c2 v0 v1 hc2 => ?_⟩
      simp only [aSeq, aIf, aRet, aRetN, aDrop, aAsg, aNext, aPar, agName, agTup, agCons, agNil, agSub, rSetA, aTest, aOp, aUn, aV, aC, aI, aI0, aU, aEq, aNe, aCons, aNil, aTup, aLst, aCB, aIfE, aNotV, aNotT, aAndV, aOrV, aAndT, aOrT, aChain, aIxL, aIxT, aIxS, aSl, aPart, aNoPart, aSlL, aSlT, aSlS, aCat, aCatT, aAddS, aDGet, aDIn, aDGet2, asDPut, aDNewK, aDNewT, aCall, aBM, aAppend, aPopAt, aLenS, aLenStr, aListOf, aTupleOf, aInt1, aMin2, aIsi, aIsN, aNotN, aCont, aBreak, aNever, aDisp, aPairs, kvs?, mergeD, EndA, D.eq2, D.isNon, D.key, D.items, ptrList, listM, seqAt, Cell.items, dGetM, dPutM, isDict, tyOf, kitD, updM_same, updM_upd, List.set_cons_zero, List.set_cons_succ, List.getElem?_cons_zero, List.getElem?_cons_succ, List.length_cons, List.length_nil, Option.map_some, Option.bind_some, Option.isSome_some, Option.isSome_none, Option.getD_some, Option.getD_none, List.foldl_cons, List.foldl_nil, decide_eq_true_eq, if_true, if_false, Bool.not_true, Bool.not_false, Bool.false_eq_true, true_and, and_true, Nat.reduceLT, Int.reduceLT, Int.reduceLE, ↓reduceIte, updM_ne nqp, g3]
      split
      · refine ⟨by decide, by rw [List.length_map]; omega, q, cs ++ [[low]], c2, _, _, _, rfl, ?_, hc2, ?_, ?_, ?_, ?_, ?_, ?_, gq, (g9.upd (by simp)).free gq⟩
        · rw [updM_ne nqp.symm, updM_same]
        · rw [updM_same, List.map_append]; rfl
        · rw [updM_ne nql.symm, updM_ne nlp]; exact g4
        · exact g5.snoc ⟨Nat.le_refl 1, by show 1 ≤ 3; omega, fun y hy => by rw [List.mem_singleton.mp hy]; exact ⟨l0, l1⟩⟩ ((g6.mids low).apart1 ln) (l200 [])
        · rw [lt]
          intro d hd
          rcases List.mem_append.mp hd with h1 | h1
          · obtain ⟨a, r, e, ha⟩ := g6 d h1
            exact ⟨a, r, e, List.mem_append_left _ ha⟩
          · exact ⟨low, [], List.mem_singleton.mp h1, by simp⟩
        · rw [List.length_append, List.length_singleton]; omega
        · rw [List.length_append, List.length_singleton]; omega
      · simp only [aSeq, aIf, aRet, aRetN, aDrop, aAsg, aNext, aPar, agName, agTup, agCons, agNil, agSub, rSetA, aTest, aOp, aUn, aV, aC, aI, aI0, aU, aEq, aNe, aCons, aNil, aTup, aLst, aCB, aIfE, aNotV, aNotT, aAndV, aOrV, aAndT, aOrT, aChain, aIxL, aIxT, aIxS, aSl, aPart, aNoPart, aSlL, aSlT, aSlS, aCat, aCatT, aAddS, aDGet, aDIn, aDGet2, asDPut, aDNewK, aDNewT, aCall, aBM, aAppend, aPopAt, aLenS, aLenStr, aListOf, aTupleOf, aInt1, aMin2, aIsi, aIsN, aNotN, aCont, aBreak, aNever, aDisp, aPairs, kvs?, mergeD, EndA, D.eq2, D.isNon, D.key, D.items, ptrList, listM, seqAt, Cell.items, dGetM, dPutM, isDict, tyOf, kitD, updM_same, updM_upd, List.set_cons_zero, List.set_cons_succ, List.getElem?_cons_zero, List.getElem?_cons_succ, List.length_cons, List.length_nil, Option.map_some, Option.bind_some, Option.isSome_some, Option.isSome_none, Option.getD_some, Option.getD_none, List.foldl_cons, List.foldl_nil, decide_eq_true_eq, if_true, if_false, Bool.not_true, Bool.not_false, Bool.false_eq_true, true_and, and_true, Nat.reduceLT, Int.reduceLT, Int.reduceLE, ↓reduceIte, aIList]
        refine ⟨by decide, fun m hm => ?_⟩
        obtain ⟨nmp, hm⟩ := fresh_upd hm
        have nmq : m ≠ q := fresh_ne hm g3
        have nml : m ≠ l := fresh_ne hm g4
        refine ⟨p, _, c2, rfl, by rw [updM_ne nmp.symm, updM_same], hc2, by decide, by decide, fun a c3 a0 a1 hc3 => ?_⟩
        simp only [aSeq, aIf, aRet, aRetN, aDrop, aAsg, aNext, aPar, agName, agTup, agCons, agNil, agSub, rSetA, aTest, aOp, aUn, aV, aC, aI, aI0, aU, aEq, aNe, aCons, aNil, aTup, aLst, aCB, aIfE, aNotV, aNotT, aAndV, aOrV, aAndT, aOrT, aChain, aIxL, aIxT, aIxS, aSl, aPart, aNoPart, aSlL, aSlT, aSlS, aCat, aCatT, aAddS, aDGet, aDIn, aDGet2, asDPut, aDNewK, aDNewT, aCall, aBM, aAppend, aPopAt, aLenS, aLenStr, aListOf, aTupleOf, aInt1, aMin2, aIsi, aIsN, aNotN, aCont, aBreak, aNever, aDisp, aPairs, kvs?, mergeD, EndA, D.eq2, D.isNon, D.key, D.items, ptrList, listM, seqAt, Cell.items, dGetM, dPutM, isDict, tyOf, kitD, updM_same, updM_upd, List.set_cons_zero, List.set_cons_succ, List.getElem?_cons_zero, List.getElem?_cons_succ, List.length_cons, List.length_nil, Option.map_some, Option.bind_some, Option.isSome_some, Option.isSome_none, Option.getD_some, Option.getD_none, List.foldl_cons, List.foldl_nil, decide_eq_true_eq, if_true, if_false, Bool.not_true, Bool.not_false, Bool.false_eq_true, true_and, and_true, Nat.reduceLT, Int.reduceLT, Int.reduceLE, ↓reduceIte]
        refine ⟨p, _, c3, rfl, updM_same, hc3, by decide, by decide, fun b c4 b0 b1 hc4 => ?_⟩
        simp only [aSeq, aIf, aRet, aRetN, aDrop, aAsg, aNext, aPar, agName, agTup, agCons, agNil, agSub, rSetA, aTest, aOp, aUn, aV, aC, aI, aI0, aU, aEq, aNe, aCons, aNil, aTup, aLst, aCB, aIfE, aNotV, aNotT, aAndV, aOrV, aAndT, aOrT, aChain, aIxL, aIxT, aIxS, aSl, aPart, aNoPart, aSlL, aSlT, aSlS, aCat, aCatT, aAddS, aDGet, aDIn, aDGet2, asDPut, aDNewK, aDNewT, aCall, aBM, aAppend, aPopAt, aLenS, aLenStr, aListOf, aTupleOf, aInt1, aMin2, aIsi, aIsN, aNotN, aCont, aBreak, aNever, aDisp, aPairs, kvs?, mergeD, EndA, D.eq2, D.isNon, D.key, D.items, ptrList, listM, seqAt, Cell.items, dGetM, dPutM, isDict, tyOf, kitD, updM_same, updM_upd, List.set_cons_zero, List.set_cons_succ, List.getElem?_cons_zero, List.getElem?_cons_succ, List.length_cons, List.length_nil, Option.map_some, Option.bind_some, Option.isSome_some, Option.isSome_none, Option.getD_some, Option.getD_none, List.foldl_cons, List.foldl_nil, decide_eq_true_eq, if_true, if_false, Bool.not_true, Bool.not_false, Bool.false_eq_true, true_and, and_true, Nat.reduceLT, Int.reduceLT, Int.reduceLE, ↓reduceIte, updM_ne nmp]
        obtain ⟨ms, em, nd, m1, m4, mb⟩ := mids_of a0 a1 b0 b1
        rw [em]
        intro t ht
        have ht2 : updM (updM μ' p c2) m (.lst [D.int 0, D.int 1, D.int 128, D.int 255]) t = none ∧ t ≠ p := ⟨(fresh_upd ht).2, (fresh_upd ht).1⟩
        obtain ⟨ht2, ntp⟩ := ht2
        obtain ⟨ntm, ht2⟩ := fresh_upd ht2
        obtain ⟨_, ht2⟩ := fresh_upd ht2
        have ntq : t ≠ q := fresh_ne ht2 g3
        have ntl : t ≠ l := fresh_ne ht2 g4
        refine ⟨fun n ρ' μ2 => ∃ q' cs' c' x3 x4, ρ' = [some (.ptr p), some (.ptr q'), some (.int low), x3, x4] ∧ μ2 p = some c' ∧ StC c' ∧ μ2 q' = some (.lst (cs'.map codeD)) ∧ μ2 l = some (.lst (LOWS.map D.int)) ∧ μ2 t = some (.lst (ms.map D.int)) ∧ CodesOk cs' ∧ Mids low (LOWS.take i) (ms.take n) cs' ∧ cs.length + n ≤ cs'.length ∧ cs'.length ≤ cs.length + 2 * n ∧ μ q' = none ∧ MleX [p] μ μ2,
          ⟨q, cs, c4, x3, x4, rfl, ?_, hc4, ?_, ?_, updM_same, g5, g6.mids low, by omega, by omega, gq, ((((g9.upd (by simp)).new ?_).upd (by simp)).new ht)⟩, ?_, ?_, ?_⟩
        · rw [updM_ne ntp.symm, updM_same]
        · rw [updM_ne ntq.symm, updM_ne nqp, updM_ne nmq.symm, updM_ne nqp]; exact g3
        · rw [updM_ne ntl.symm, updM_ne nlp, updM_ne nml.symm, updM_ne nlp]; exact g4
        · rw [updM_ne nmp]; exact hm
        · rintro n ρ' μ2 _ ⟨q', cs', c', x3, x4, rfl, f1, f2, f3, f4, f5, _⟩
          rw [f5]; rfl
        · rintro n x ρ' μ2 hx ⟨q', cs', c', x3, x4, rfl, f1, f2, f3, f4, f5, f6, f7, f8, f9, fq, f10⟩
          obtain ⟨mid, hmid, rfl⟩ := int_at hx
          obtain ⟨mn, mt⟩ := nodup_new nd hmid
          have mb' := mb mid (List.mem_of_getElem? hmid)
          have hn4 : n < 4 := by have := (List.getElem?_eq_some_iff.mp hmid).1; omega
          have nqp : q' ≠ p := fun e => by subst e; obtain ⟨_, _, _, rfl⟩ := f2; rw [f1] at f3; cases f3
          simp only [aSeq, aIf, aRet, aRetN, aDrop, aAsg, aNext, aPar, agName, agTup, agCons, agNil, agSub, rSetA, aTest, aOp, aUn, aV, aC, aI, aI0, aU, aEq, aNe, aCons, aNil, aTup, aLst, aCB, aIfE, aNotV, aNotT, aAndV, aOrV, aAndT, aOrT, aChain, aIxL, aIxT, aIxS, aSl, aPart, aNoPart, aSlL, aSlT, aSlS, aCat, aCatT, aAddS, aDGet, aDIn, aDGet2, asDPut, aDNewK, aDNewT, aCall, aBM, aAppend, aPopAt, aLenS, aLenStr, aListOf, aTupleOf, aInt1, aMin2, aIsi, aIsN, aNotN, aCont, aBreak, aNever, aDisp, aPairs, kvs?, mergeD, EndA, D.eq2, D.isNon, D.key, D.items, ptrList, listM, seqAt, Cell.items, dGetM, dPutM, isDict, tyOf, kitD, updM_same, updM_upd, List.set_cons_zero, List.set_cons_succ, List.getElem?_cons_zero, List.getElem?_cons_succ, List.length_cons, List.length_nil, Option.map_some, Option.bind_some, Option.isSome_some, Option.isSome_none, Option.getD_some, Option.getD_none, List.foldl_cons, List.foldl_nil, decide_eq_true_eq, if_true, if_false, Bool.not_true, Bool.not_false, Bool.false_eq_true, true_and, and_true, Nat.reduceLT, Int.reduceLT, Int.reduceLE, ↓reduceIte]
          refine ⟨p, _, c', rfl, f1, f2, by decide, by decide, fun v c5 v0 v1 hc5 => ?_⟩
          simp only [aSeq, aIf, aRet, aRetN, aDrop, aAsg, aNext, aPar, agName, agTup, agCons, agNil, agSub, rSetA, aTest, aOp, aUn, aV, aC, aI, aI0, aU, aEq, aNe, aCons, aNil, aTup, aLst, aCB, aIfE, aNotV, aNotT, aAndV, aOrV, aAndT, aOrT, aChain, aIxL, aIxT, aIxS, aSl, aPart, aNoPart, aSlL, aSlT, aSlS, aCat, aCatT, aAddS, aDGet, aDIn, aDGet2, asDPut, aDNewK, aDNewT, aCall, aBM, aAppend, aPopAt, aLenS, aLenStr, aListOf, aTupleOf, aInt1, aMin2, aIsi, aIsN, aNotN, aCont, aBreak, aNever, aDisp, aPairs, kvs?, mergeD, EndA, D.eq2, D.isNon, D.key, D.items, ptrList, listM, seqAt, Cell.items, dGetM, dPutM, isDict, tyOf, kitD, updM_same, updM_upd, List.set_cons_zero, List.set_cons_succ, List.getElem?_cons_zero, List.getElem?_cons_succ, List.length_cons, List.length_nil, Option.map_some, Option.bind_some, Option.isSome_some, Option.isSome_none, Option.getD_some, Option.getD_none, List.foldl_cons, List.foldl_nil, decide_eq_true_eq, if_true, if_false, Bool.not_true, Bool.not_false, Bool.false_eq_true, true_and, and_true, Nat.reduceLT, Int.reduceLT, Int.reduceLE, ↓reduceIte]
          have hap := f7.apart ln mn
          split
          · refine ⟨by decide, by decide, fun u hu => ?_⟩
            obtain ⟨nup, hu⟩ := fresh_upd hu
            have nuq : u ≠ q' := fresh_ne hu f3
            simp only [aSeq, aIf, aRet, aRetN, aDrop, aAsg, aNext, aPar, agName, agTup, agCons, agNil, agSub, rSetA, aTest, aOp, aUn, aV, aC, aI, aI0, aU, aEq, aNe, aCons, aNil, aTup, aLst, aCB, aIfE, aNotV, aNotT, aAndV, aOrV, aAndT, aOrT, aChain, aIxL, aIxT, aIxS, aSl, aPart, aNoPart, aSlL, aSlT, aSlS, aCat, aCatT, aAddS, aDGet, aDIn, aDGet2, asDPut, aDNewK, aDNewT, aCall, aBM, aAppend, aPopAt, aLenS, aLenStr, aListOf, aTupleOf, aInt1, aMin2, aIsi, aIsN, aNotN, aCont, aBreak, aNever, aDisp, aPairs, kvs?, mergeD, EndA, D.eq2, D.isNon, D.key, D.items, ptrList, listM, seqAt, Cell.items, dGetM, dPutM, isDict, tyOf, kitD, updM_same, updM_upd, List.set_cons_zero, List.set_cons_succ, List.getElem?_cons_zero, List.getElem?_cons_succ, List.length_cons, List.length_nil, Option.map_some, Option.bind_some, Option.isSome_some, Option.isSome_none, Option.getD_some, Option.getD_none, List.foldl_cons, List.foldl_nil, decide_eq_true_eq, if_true, if_false, Bool.not_true, Bool.not_false, Bool.false_eq_true, true_and, and_true, Nat.reduceLT, Int.reduceLT, Int.reduceLE, ↓reduceIte, updM_ne nuq.symm, updM_ne nqp, f3]
            refine ⟨by rw [List.length_map]; omega, fun y hy => ?_⟩
            have hy' := hy
            obtain ⟨nyu, hy⟩ := fresh_upd hy
            obtain ⟨nyp, hy⟩ := fresh_upd hy
            have nyl : y ≠ l := fresh_ne hy f4
            have nyt : y ≠ t := fresh_ne hy f5
            have nul : u ≠ l := fresh_ne hu f4
            have nut : u ≠ t := fresh_ne hu f5
            refine ⟨y, cs' ++ [[low, mid]], c5, _, _, rfl, ?_, hc5, ?_, ?_, ?_, ?_, ?_, ?_, ?_, f10.live (by simpa using nyp) hy, ((f10.upd (by simp)).new (by rw [updM_ne nup]; exact hu)).new hy'⟩
            · rw [updM_ne nyp.symm, updM_ne nup.symm, updM_same]
            · rw [updM_same, List.map_append]; rfl
            · rw [updM_ne nyl.symm, updM_ne nul.symm, updM_ne nlp]; exact f4
            · rw [updM_ne nyt.symm, updM_ne nut.symm, updM_ne ntp]; exact f5
            · exact f6.snoc ⟨by show 1 ≤ 2; omega, by show 2 ≤ 3; omega, by simp; omega⟩ (hap []) (l200 _)
            · rw [mt]; exact f7.add mid []
            · rw [List.length_append, List.length_singleton]; omega
            · rw [List.length_append, List.length_singleton]; omega
          · refine ⟨by decide, by decide, by decide, fun u hu => ?_⟩
            obtain ⟨nup, hu⟩ := fresh_upd hu
            have nuq : u ≠ q' := fresh_ne hu f3
            simp only [aSeq, aIf, aRet, aRetN, aDrop, aAsg, aNext, aPar, agName, agTup, agCons, agNil, agSub, rSetA, aTest, aOp, aUn, aV, aC, aI, aI0, aU, aEq, aNe, aCons, aNil, aTup, aLst, aCB, aIfE, aNotV, aNotT, aAndV, aOrV, aAndT, aOrT, aChain, aIxL, aIxT, aIxS, aSl, aPart, aNoPart, aSlL, aSlT, aSlS, aCat, aCatT, aAddS, aDGet, aDIn, aDGet2, asDPut, aDNewK, aDNewT, aCall, aBM, aAppend, aPopAt, aLenS, aLenStr, aListOf, aTupleOf, aInt1, aMin2, aIsi, aIsN, aNotN, aCont, aBreak, aNever, aDisp, aPairs, kvs?, mergeD, EndA, D.eq2, D.isNon, D.key, D.items, ptrList, listM, seqAt, Cell.items, dGetM, dPutM, isDict, tyOf, kitD, updM_same, updM_upd, List.set_cons_zero, List.set_cons_succ, List.getElem?_cons_zero, List.getElem?_cons_succ, List.length_cons, List.length_nil, Option.map_some, Option.bind_some, Option.isSome_some, Option.isSome_none, Option.getD_some, Option.getD_none, List.foldl_cons, List.foldl_nil, decide_eq_true_eq, if_true, if_false, Bool.not_true, Bool.not_false, Bool.false_eq_true, true_and, and_true, Nat.reduceLT, Int.reduceLT, Int.reduceLE, ↓reduceIte, updM_ne nuq.symm, updM_ne nqp, f3]
            refine ⟨by rw [List.length_map]; omega, fun y hy => ?_⟩
            have hy' := hy
            obtain ⟨nyu, hy⟩ := fresh_upd hy
            obtain ⟨nyp, hy⟩ := fresh_upd hy
            have nyl : y ≠ l := fresh_ne hy f4
            have nyt : y ≠ t := fresh_ne hy f5
            have nul : u ≠ l := fresh_ne hu f4
            have nut : u ≠ t := fresh_ne hu f5
            refine ⟨y, (cs' ++ [[low, mid, 7]]) ++ [[low, mid, 0]], c5, _, _, rfl, ?_, hc5, ?_, ?_, ?_, ?_, ?_, ?_, ?_, f10.live (by simpa using nyp) hy, ((f10.upd (by simp)).new (by rw [updM_ne nup]; exact hu)).new hy'⟩
            · rw [updM_ne nyp.symm, updM_ne nup.symm, updM_same]
            · rw [updM_same, List.map_append, List.map_append, List.append_assoc]; rfl
            · rw [updM_ne nyl.symm, updM_ne nul.symm, updM_ne nlp]; exact f4
            · rw [updM_ne nyt.symm, updM_ne nut.symm, updM_ne ntp]; exact f5
            · refine (f6.snoc ⟨by show 1 ≤ 3; omega, by show 3 ≤ 3; omega, by simp; omega⟩ (hap [7]) (l200 _)).snoc ⟨by show 1 ≤ 3; omega, by show 3 ≤ 3; omega, by simp; omega⟩ (fun d hd => ?_) (l200 _)
              rcases List.mem_append.mp hd with h1 | h1
              · exact hap [0] d h1
              · rw [List.mem_singleton.mp h1]; exact apart_thd (by decide)
            · rw [mt]
              exact ((f7.add mid [7]).add mid [0]).up fun z hz => by
                rcases List.mem_append.mp hz with h | h
                · exact h
                · exact List.mem_append_right _ h
            · simp only [List.length_append, List.length_singleton]; omega
            · simp only [List.length_append, List.length_singleton]; omega
        · rintro ρ' μ2 ⟨q', cs', c', x3, x4, rfl, f1, f2, f3, f4, f5, f6, f7, f8, f9, fq, f10⟩
          rw [List.length_map] at f8 f9
          refine ⟨q', cs', c', _, _, _, rfl, f1, f2, f3, f4, f6, ?_, by omega, by omega, fq, f10⟩
          rw [lt]
          exact f7.heads
    · rintro ρ' μ' ⟨q, cs, c', x2, x3, x4, rfl, g1, g2, g3, g4, g5, g6, g7, g8, gq, g9⟩
      simp only [aSeq, aIf, aRet, aRetN, aDrop, aAsg, aNext, aPar, agName, agTup, agCons, agNil, agSub, rSetA, aTest, aOp, aUn, aV, aC, aI, aI0, aU, aEq, aNe, aCons, aNil, aTup, aLst, aCB, aIfE, aNotV, aNotT, aAndV, aOrV, aAndT, aOrT, aChain, aIxL, aIxT, aIxS, aSl, aPart, aNoPart, aSlL, aSlT, aSlS, aCat, aCatT, aAddS, aDGet, aDIn, aDGet2, asDPut, aDNewK, aDNewT, aCall, aBM, aAppend, aPopAt, aLenS, aLenStr, aListOf, aTupleOf, aInt1, aMin2, aIsi, aIsN, aNotN, aCont, aBreak, aNever, aDisp, aPairs, kvs?, mergeD, EndA, D.eq2, D.isNon, D.key, D.items, ptrList, listM, seqAt, Cell.items, dGetM, dPutM, isDict, tyOf, kitD, updM_same, updM_upd, List.set_cons_zero, List.set_cons_succ, List.getElem?_cons_zero, List.getElem?_cons_succ, List.length_cons, List.length_nil, Option.map_some, Option.bind_some, Option.isSome_some, Option.isSome_none, Option.getD_some, Option.getD_none, List.foldl_cons, List.foldl_nil, decide_eq_true_eq, if_true, if_false, Bool.not_true, Bool.not_false, Bool.false_eq_true, true_and, and_true, Nat.reduceLT, Int.reduceLT, Int.reduceLE, ↓reduceIte]
      refine ⟨p, c', q, _, rfl, g1, g2, list_cell g3, by rw [List.length_map]; simp at g8; omega, fun y hy => ?_, fun q2 c2 ys hq2 hc2 hp2 => ?_⟩
      · obtain ⟨d, _, rfl⟩ := List.mem_map.mp hy
        exact codeD_flat d
      · obtain ⟨ds, hd, rfl⟩ := perm_map hp2 rfl
        have nq2 : q2 ∉ [p] := by
          rw [List.mem_singleton]
          exact fresh_ne hq2 g1
        exact ⟨_, (g9.both).mle.upd, k q2 c2 ds (g9.live nq2 hq2) hc2 (g5.perm hd) (by rw [hd.length_eq]; simpa using g7) (by rw [hd.length_eq]; simpa using g8)⟩
end
end M53

set_option maxHeartbeats 4000000
namespace M53
open PySem PySem.Spec PyProof.Rows L2 Evl Gd DL
def LARG : Int := 18446744073709551616
def FIELDS : List Str := ["u1", "u2", "u4", "s1", "s2", "s4", "r1", "r2", "r4"]
def FldOk (d : D) : Prop := (∃ v : Int, d = .tup [.str "n", .int v] ∧ -LARG ≤ v ∧ v ≤ LARG) ∨ ∃ z, z ∈ FIELDS ∧ d = .str z
def fw : D → Int
  | .str z => (match z.cps.toList[1]? with
    | some 49 => 1
    | some 50 => 2
    | some 52 => 4
    | _ => 0)
  | _ => 0
theorem fld_facts : ∀ z ∈ FIELDS, z.length ≤ 100000 ∧ PyData.strOk z = true ∧ ∃ c, atI z.cps.toList 1 = some c ∧ ((c = 49 ∧ fw (.str z) = 1) ∨ (c = 50 ∧ fw (.str z) = 2) ∨ (c = 52 ∧ fw (.str z) = 4)) := by
  intro z hz
  unfold FIELDS at hz
  simp only [List.mem_cons, List.not_mem_nil, or_false] at hz
  rcases hz with rfl | rfl | rfl | rfl | rfl | rfl | rfl | rfl | rfl
  · exact ⟨by decide +kernel, by decide +kernel, 49, rfl, .inl ⟨rfl, rfl⟩⟩
  · exact ⟨by decide +kernel, by decide +kernel, 50, rfl, .inr (.inl ⟨rfl, rfl⟩)⟩
  · exact ⟨by decide +kernel, by decide +kernel, 52, rfl, .inr (.inr ⟨rfl, rfl⟩)⟩
  · exact ⟨by decide +kernel, by decide +kernel, 49, rfl, .inl ⟨rfl, rfl⟩⟩
  · exact ⟨by decide +kernel, by decide +kernel, 50, rfl, .inr (.inl ⟨rfl, rfl⟩)⟩
  · exact ⟨by decide +kernel, by decide +kernel, 52, rfl, .inr (.inr ⟨rfl, rfl⟩)⟩
  · exact ⟨by decide +kernel, by decide +kernel, 49, rfl, .inl ⟨rfl, rfl⟩⟩
  · exact ⟨by decide +kernel, by decide +kernel, 50, rfl, .inr (.inl ⟨rfl, rfl⟩)⟩
  · exact ⟨by decide +kernel, by decide +kernel, 52, rfl, .inr (.inr ⟨rfl, rfl⟩)⟩
theorem fld_flat {d : D} (h : FldOk d) : d.flat 2 = true := by
  rcases h with ⟨v, rfl, _⟩ | ⟨z, hz, rfl⟩
  · have e : PyData.strOk (Str.ofString "n") = true := by decide +kernel
    show (D.flat 1 (.str "n") && (D.flat 1 (.int v) && true)) = true
    rw [show D.flat 1 (.str "n") = true from e]
    rfl
  · exact (fld_facts z hz).2.1
theorem fw_nonneg {d : D} (h : FldOk d) : 0 ≤ fw d ∧ fw d ≤ 4 := by
  rcases h with ⟨v, rfl, _⟩ | ⟨z, hz, rfl⟩
  · exact ⟨Int.le_refl 0, by show (0 : Int) ≤ 4; decide⟩
  · obtain ⟨_, _, c, _, h | h | h⟩ := fld_facts z hz <;> rw [h.2] <;> decide
theorem usr_at {v : Int} (h0 : 0 ≤ v) (h1 : v < 3) : ∃ c, atI (Str.ofString "usr").cps.toList v = some c ∧ (c = 117 ∨ c = 115 ∨ c = 114) := by
  have : v = 0 ∨ v = 1 ∨ v = 2 := by omega
  rcases this with rfl | rfl | rfl
  · exact ⟨117, rfl, .inl rfl⟩
  · exact ⟨115, rfl, .inr (.inl rfl)⟩
  · exact ⟨114, rfl, .inr (.inr rfl)⟩
theorem dig_at {v : Int} (h0 : 0 ≤ v) (h1 : v < 3) : ∃ c, atI (Str.ofString "124").cps.toList v = some c ∧ (c = 49 ∨ c = 50 ∨ c = 52) := by
  have : v = 0 ∨ v = 1 ∨ v = 2 := by omega
  rcases this with rfl | rfl | rfl
  · exact ⟨49, rfl, .inl rfl⟩
  · exact ⟨50, rfl, .inr (.inl rfl)⟩
  · exact ⟨52, rfl, .inr (.inr rfl)⟩
theorem field_of {c e : Nat} (h : c = 117 ∨ c = 115 ∨ c = 114) (k : e = 49 ∨ e = 50 ∨ e = 52) : ((⟨#[c]⟩ : Str) ++ (⟨#[e]⟩ : Str)) ∈ FIELDS := by
  rcases h with rfl | rfl | rfl <;> rcases k with rfl | rfl | rfl <;> decide
section
variable {P : Program} {w : World} {K : PySem.W.Frag} {mg : Str → Option Value} {base : Heap}
/-- a call that draws and gives what has a property -/
def ctDrawn (R : D → Prop) : Ct := fun ds μ Q => ∃ p c, ds = [.ptr p] ∧ μ p = some c ∧ StC c ∧ ∀ d c', R d → StC c' → Q d (updM μ p c')
def N_law_slot : List Str := ["_law_m"]
abbrev s_law_slot : Stmt := top 53
theorem sc_law_slot : FnScope N_law_slot ["_law_m"] (defScope s_law_slot) := ⟨rfl, rfl, rfl, by decide +kernel, rfl, by decide +kernel, by decide +kernel⟩
theorem pow64 : (2 : Int) ^ (64 : Int).toNat = 18446744073709551616 := by decide +kernel
theorem ok_law_slot {f : Addr} {fd : FuncData} (F : Fun K "_law_slot" "_law_slot" s_law_slot f fd) (T : Tx K mg) (D_law_draw : Df P w K mg base CX0 1 "_law_draw" ["_law_m", "_law_size"] (spOf ctDraw)) (D_law_pick : Df P w K mg base CX0 2 "_law_pick" ["_law_m", "_law_items"] (spOf ctPick)) : FnOk P w K mg base CX0 3 f fd ["_law_m"] (spOf (ctDrawn FldOk)) := by
  refine okD F sc_law_slot (fun ds μ Q h => ?_) (fun cdv A outer s H E hr => ?_)
  · obtain ⟨p, c, rfl, _⟩ := h
    rfl
  · refine ⟨_, (qss_cons (qs_if (qt_cmpR oq_eq (qe_df D_law_draw (hr.mono (by decide)) rfl (qa_cons (qv 0) (qa_cons qe_int qa_nil))) qe_int (nomark _))
    (qss_one (qs_ret (qe_tup (qa_cons qe_str (qa_cons (qe_df D_law_pick (hr.mono (by decide)) rfl (qa_cons (qv 0) (qa_cons (qe_lst (qa_cons qe_int (qa_cons qe_int (qa_cons (qe_op oq_sub qe_int qe_int) (qa_cons qe_int (qa_cons qe_int (qa_cons qe_int (qa_cons (qe_op oq_pow qe_int qe_int) (qa_cons (qe_op oq_sub qe_int (qe_op oq_pow qe_int qe_int)) qa_nil))))))))) qa_nil))) qa_nil)))))
    qss_nil)
  (qss_one (qs_ret (qe_op oq_add_str (qe_ix iq_str qe_str (qe_df D_law_draw (hr.mono (by decide)) rfl (qa_cons (qv 0) (qa_cons qe_int qa_nil))) (fun _ _ => rfl)) (qe_ix iq_str qe_str (qe_df D_law_draw (hr.mono (by decide)) rfl (qa_cons (qv 0) (qa_cons qe_int qa_nil))) (fun _ _ => rfl)))))), ?_⟩
    rintro ds μ Q ⟨p, c, rfl, hp, hc, k⟩
    show (_ : AS) (EndA Q) [some (.ptr p)] μ
    simp only [aSeq, aIf, aRet, aRetN, aDrop, aAsg, aNext, aPar, agName, agTup, agCons, agNil, agSub, rSetA, aTest, aOp, aUn, aV, aC, aI, aI0, aU, aEq, aNe, aCons, aNil, aTup, aLst, aCB, aIfE, aNotV, aNotT, aAndV, aOrV, aAndT, aOrT, aChain, aIxL, aIxT, aIxS, aSl, aPart, aNoPart, aSlL, aSlT, aSlS, aCat, aCatT, aAddS, aDGet, aDIn, aDGet2, asDPut, aDNewK, aDNewT, aCall, aBM, aAppend, aPopAt, aLenS, aLenStr, aListOf, aTupleOf, aInt1, aMin2, aIsi, aIsN, aNotN, aCont, aBreak, aNever, aDisp, aPairs, kvs?, mergeD, EndA, D.eq2, D.isNon, D.key, D.items, ptrList, listM, seqAt, Cell.items, dGetM, dPutM, isDict, tyOf, kitD, updM_same, updM_upd, List.set_cons_zero, List.set_cons_succ, List.getElem?_cons_zero, List.getElem?_cons_succ, List.length_cons, List.length_nil, Option.map_some, Option.bind_some, Option.isSome_some, Option.isSome_none, Option.getD_some, Option.getD_none, List.foldl_cons, List.foldl_nil, decide_eq_true_eq, if_true, if_false, Bool.not_true, Bool.not_false, Bool.false_eq_true, true_and, and_true, Nat.reduceLT, Int.reduceLT, Int.reduceLE, ↓reduceIte]
    refine ⟨p, _, c, rfl, hp, hc, by decide, by decide, fun v c2 v0 v1 hc2 => ?_⟩
    have cp : CPow 2 64 := by unfold CPow; decide
    simp only [aSeq, aIf, aRet, aRetN, aDrop, aAsg, aNext, aPar, agName, agTup, agCons, agNil, agSub, rSetA, aTest, aOp, aUn, aV, aC, aI, aI0, aU, aEq, aNe, aCons, aNil, aTup, aLst, aCB, aIfE, aNotV, aNotT, aAndV, aOrV, aAndT, aOrT, aChain, aIxL, aIxT, aIxS, aSl, aPart, aNoPart, aSlL, aSlT, aSlS, aCat, aCatT, aAddS, aDGet, aDIn, aDGet2, asDPut, aDNewK, aDNewT, aCall, aBM, aAppend, aPopAt, aLenS, aLenStr, aListOf, aTupleOf, aInt1, aMin2, aIsi, aIsN, aNotN, aCont, aBreak, aNever, aDisp, aPairs, kvs?, mergeD, EndA, D.eq2, D.isNon, D.key, D.items, ptrList, listM, seqAt, Cell.items, dGetM, dPutM, isDict, tyOf, kitD, updM_same, updM_upd, List.set_cons_zero, List.set_cons_succ, List.getElem?_cons_zero, List.getElem?_cons_succ, List.length_cons, List.length_nil, Option.map_some, Option.bind_some, Option.isSome_some, Option.isSome_none, Option.getD_some, Option.getD_none, List.foldl_cons, List.foldl_nil, decide_eq_true_eq, if_true, if_false, Bool.not_true, Bool.not_false, Bool.false_eq_true, true_and, and_true, Nat.reduceLT, Int.reduceLT, Int.reduceLE, ↓reduceIte, pow64, cp]
    split
    · refine ⟨by decide, fun l hl => ?_⟩
      obtain ⟨nlp, hl⟩ := fresh_upd hl
      refine ⟨p, c2, l, _, rfl, by rw [updM_ne nlp.symm, updM_same], hc2, list_at, by decide, by decide, fun d c3 hd hc3 => ?_⟩
      refine ⟨by show 2 ≤ 100000; decide, _, ?_, k (.tup [.str "n", d]) c3 ?_ hc3⟩
      · exact ((((MleX.refl [p] μ).upd (by simp)).new (by rw [updM_ne nlp]; exact hl)).upd (by simp) |>.put updM_same).mle
      · simp only [List.mem_cons, List.not_mem_nil, or_false] at hd
        unfold FldOk LARG
        rcases hd with rfl | rfl | rfl | rfl | rfl | rfl | rfl | rfl <;> exact .inl ⟨_, rfl, by decide, by decide⟩
    · refine ⟨p, _, c2, rfl, updM_same, hc2, by decide, by decide, fun a c3 a0 a1 hc3 => ?_⟩
      obtain ⟨e1, h1, h1'⟩ := usr_at a0 a1
      simp only [aSeq, aIf, aRet, aRetN, aDrop, aAsg, aNext, aPar, agName, agTup, agCons, agNil, agSub, rSetA, aTest, aOp, aUn, aV, aC, aI, aI0, aU, aEq, aNe, aCons, aNil, aTup, aLst, aCB, aIfE, aNotV, aNotT, aAndV, aOrV, aAndT, aOrT, aChain, aIxL, aIxT, aIxS, aSl, aPart, aNoPart, aSlL, aSlT, aSlS, aCat, aCatT, aAddS, aDGet, aDIn, aDGet2, asDPut, aDNewK, aDNewT, aCall, aBM, aAppend, aPopAt, aLenS, aLenStr, aListOf, aTupleOf, aInt1, aMin2, aIsi, aIsN, aNotN, aCont, aBreak, aNever, aDisp, aPairs, kvs?, mergeD, EndA, D.eq2, D.isNon, D.key, D.items, ptrList, listM, seqAt, Cell.items, dGetM, dPutM, isDict, tyOf, kitD, updM_same, updM_upd, List.set_cons_zero, List.set_cons_succ, List.getElem?_cons_zero, List.getElem?_cons_succ, List.length_cons, List.length_nil, Option.map_some, Option.bind_some, Option.isSome_some, Option.isSome_none, Option.getD_some, Option.getD_none, List.foldl_cons, List.foldl_nil, decide_eq_true_eq, if_true, if_false, Bool.not_true, Bool.not_false, Bool.false_eq_true, true_and, and_true, Nat.reduceLT, Int.reduceLT, Int.reduceLE, ↓reduceIte, h1]
      refine ⟨by decide +kernel, p, _, c3, rfl, updM_same, hc3, by decide, by decide, fun b c4 b0 b1 hc4 => ?_⟩
      obtain ⟨e2, h2, h2'⟩ := dig_at b0 b1
      simp only [aSeq, aIf, aRet, aRetN, aDrop, aAsg, aNext, aPar, agName, agTup, agCons, agNil, agSub, rSetA, aTest, aOp, aUn, aV, aC, aI, aI0, aU, aEq, aNe, aCons, aNil, aTup, aLst, aCB, aIfE, aNotV, aNotT, aAndV, aOrV, aAndT, aOrT, aChain, aIxL, aIxT, aIxS, aSl, aPart, aNoPart, aSlL, aSlT, aSlS, aCat, aCatT, aAddS, aDGet, aDIn, aDGet2, asDPut, aDNewK, aDNewT, aCall, aBM, aAppend, aPopAt, aLenS, aLenStr, aListOf, aTupleOf, aInt1, aMin2, aIsi, aIsN, aNotN, aCont, aBreak, aNever, aDisp, aPairs, kvs?, mergeD, EndA, D.eq2, D.isNon, D.key, D.items, ptrList, listM, seqAt, Cell.items, dGetM, dPutM, isDict, tyOf, kitD, updM_same, updM_upd, List.set_cons_zero, List.set_cons_succ, List.getElem?_cons_zero, List.getElem?_cons_succ, List.length_cons, List.length_nil, Option.map_some, Option.bind_some, Option.isSome_some, Option.isSome_none, Option.getD_some, Option.getD_none, List.foldl_cons, List.foldl_nil, decide_eq_true_eq, if_true, if_false, Bool.not_true, Bool.not_false, Bool.false_eq_true, true_and, and_true, Nat.reduceLT, Int.reduceLT, Int.reduceLE, ↓reduceIte, h2]
      exact ⟨by decide +kernel, by show 1 + 1 ≤ 100000; decide, _, Mle.refl _, k _ c4 (.inr ⟨_, field_of h1' h2', rfl⟩) hc4⟩
def ctWidth : Ct := fun ds μ Q => ∃ d, ds = [d] ∧ FldOk d ∧ Q (.int (fw d)) μ
def N_law_width : List Str := ["_law_slot_here"]
abbrev s_law_width : Stmt := top 54
theorem sc_law_width : FnScope N_law_width ["_law_slot_here"] (defScope s_law_width) := ⟨rfl, rfl, rfl, by decide +kernel, rfl, by decide +kernel, by decide +kernel⟩
theorem ok_law_width {f : Addr} {fd : FuncData} (F : Fun K "_law_width" "_law_width" s_law_width f fd) (T : Tx K mg) : FnOk P w K mg base CX0 1 f fd ["_law_slot_here"] (spOf ctWidth) := by
  refine okD F sc_law_width (fun ds μ Q h => ?_) (fun cdv A outer s H E hr => ?_)
  · obtain ⟨d, rfl, _⟩ := h
    rfl
  · have hu : (A.deeper (envOfC "_law_width" (defScope s_law_width) s.heap.objs.size f cdv)).units + 1 < cLine := by have := hr.units; omega
    refine ⟨_, (qss_one (qs_ret (qe_ifExp (qt_val (qe_callB cq_isi (by rfl) T.b_isinstance (by decide +kernel) (qa_cons (qv 0) (qa_cons (qe_bT (T := "tuple") (by rfl) T.b_tuple (by decide +kernel)) qa_nil)))) qe_int (qe_dget hu (qe_disp (QPs.cons qe_str qe_int (QPs.cons qe_str qe_int (QPs.cons qe_str qe_int QPs.nil))) rfl rfl (List.cons_ne_nil _ _) (by decide)) (qe_ix iq_str (qv 0) qe_int (fun _ _ => rfl)) (fun _ _ => rfl))))), ?_⟩
    rintro ds μ Q ⟨d, rfl, hd, k⟩
    show (_ : AS) (EndA Q) [some d] μ
    rcases hd with ⟨v, rfl, _⟩ | ⟨z, hz, rfl⟩
    · simp only [aSeq, aIf, aRet, aRetN, aDrop, aAsg, aNext, aPar, agName, agTup, agCons, agNil, agSub, rSetA, aTest, aOp, aUn, aV, aC, aI, aI0, aU, aEq, aNe, aCons, aNil, aTup, aLst, aCB, aIfE, aNotV, aNotT, aAndV, aOrV, aAndT, aOrT, aChain, aIxL, aIxT, aIxS, aSl, aPart, aNoPart, aSlL, aSlT, aSlS, aCat, aCatT, aAddS, aDGet, aDIn, aDGet2, asDPut, aDNewK, aDNewT, aCall, aBM, aAppend, aPopAt, aLenS, aLenStr, aListOf, aTupleOf, aInt1, aMin2, aIsi, aIsN, aNotN, aCont, aBreak, aNever, aDisp, aPairs, kvs?, mergeD, EndA, D.eq2, D.isNon, D.key, D.items, ptrList, listM, seqAt, Cell.items, dGetM, dPutM, isDict, tyOf, kitD, updM_same, updM_upd, List.set_cons_zero, List.set_cons_succ, List.getElem?_cons_zero, List.getElem?_cons_succ, List.length_cons, List.length_nil, Option.map_some, Option.bind_some, Option.isSome_some, Option.isSome_none, Option.getD_some, Option.getD_none, List.foldl_cons, List.foldl_nil, decide_eq_true_eq, if_true, if_false, Bool.not_true, Bool.not_false, Bool.false_eq_true, true_and, and_true, Nat.reduceLT, Int.reduceLT, Int.reduceLE, ↓reduceIte]
      exact ⟨_, Mle.refl _, k⟩
    · obtain ⟨hl, _, c, hc, h3⟩ := fld_facts z hz
      simp only [aSeq, aIf, aRet, aRetN, aDrop, aAsg, aNext, aPar, agName, agTup, agCons, agNil, agSub, rSetA, aTest, aOp, aUn, aV, aC, aI, aI0, aU, aEq, aNe, aCons, aNil, aTup, aLst, aCB, aIfE, aNotV, aNotT, aAndV, aOrV, aAndT, aOrT, aChain, aIxL, aIxT, aIxS, aSl, aPart, aNoPart, aSlL, aSlT, aSlS, aCat, aCatT, aAddS, aDGet, aDIn, aDGet2, asDPut, aDNewK, aDNewT, aCall, aBM, aAppend, aPopAt, aLenS, aLenStr, aListOf, aTupleOf, aInt1, aMin2, aIsi, aIsN, aNotN, aCont, aBreak, aNever, aDisp, aPairs, kvs?, mergeD, EndA, D.eq2, D.isNon, D.key, D.items, ptrList, listM, seqAt, Cell.items, dGetM, dPutM, isDict, tyOf, kitD, updM_same, updM_upd, List.set_cons_zero, List.set_cons_succ, List.getElem?_cons_zero, List.getElem?_cons_succ, List.length_cons, List.length_nil, Option.map_some, Option.bind_some, Option.isSome_some, Option.isSome_none, Option.getD_some, Option.getD_none, List.foldl_cons, List.foldl_nil, decide_eq_true_eq, if_true, if_false, Bool.not_true, Bool.not_false, Bool.false_eq_true, true_and, and_true, Nat.reduceLT, Int.reduceLT, Int.reduceLE, ↓reduceIte, hc]
      intro p hp
      rcases h3 with ⟨rfl, e⟩ | ⟨rfl, e⟩ | ⟨rfl, e⟩ <;> rw [e] at k
      · exact ⟨by decide, hl, _, Mle.new hp, k⟩
      · exact ⟨by decide, hl, _, Mle.new hp, k⟩
      · exact ⟨by decide, hl, _, Mle.new hp, k⟩
structure Form where
  code : List Int
  fs : List D
def formD (f : Form) : D := .tup [codeD f.code, .tup f.fs]
def flen (f : Form) : Int := f.code.length + (f.fs.map fw).sum
def ctLong : Ct := fun ds μ Q => ∃ f : Form, ds = [formD f] ∧ (∀ d ∈ f.fs, FldOk d) ∧ f.fs.length ≤ 100 ∧ Q (.int (flen f)) μ
def N_law_long : List Str := ["_law_shape", "_law_slot_here"]
abbrev s_law_long : Stmt := top 55
theorem sc_law_long : FnScope N_law_long ["_law_shape"] (defScope s_law_long) := ⟨rfl, rfl, rfl, by decide +kernel, rfl, by decide +kernel, by decide +kernel⟩
theorem ok_law_long {f : Addr} {fd : FuncData} (F : Fun K "_law_long" "_law_long" s_law_long f fd) (T : Tx K mg) (D_law_width : Df P w K mg base CX0 1 "_law_width" ["_law_slot_here"] (spOf ctWidth)) : FnOk P w K mg base CX0 2 f fd ["_law_shape"] (spOf ctLong) := by
  refine okD F sc_law_long (fun ds μ Q h => ?_) (fun cdv A outer s H E hr => ?_)
  · obtain ⟨d, rfl, _⟩ := h
    rfl
  · refine ⟨_, (qss_one (qs_ret (qe_op oq_add (qe_callB cq_len (by rfl) T.b_len (by decide +kernel) (qa_cons (qe_ix iq_tup (qv 0) qe_int (fun _ _ => rfl)) qa_nil)) (qe_callB (cq_sum rfl) (by rfl) T.b_sum (by decide +kernel) (qa_cons (qe_lc (own := [("_law_slot_here", 1)]) rfl sc_law_long.nd (qi_tup (qe_ix iq_tup (qv 0) qe_int (fun _ _ => rfl))) (blkOk_by (N := N_law_long) (sc := defScope s_law_long) (by decide +kernel)) (fun _ _ _ _ _ => qg_name (i := 1) sc_law_long.nd rfl (Or.inl rfl)) (fun _ _ _ _ _ => qts_nil) (fun _ _ _ _ _ => (qe_df D_law_width (hr.mono (by decide)) rfl (qa_cons (qv 1) qa_nil)))) qa_nil))))), ?_⟩
    rintro ds μ Q ⟨f, rfl, hf, hl, k⟩
    show (_ : AS) (EndA Q) [some (formD f), none] μ
    have i0 : atI [codeD f.code, .tup f.fs] 0 = some (codeD f.code) := rfl
    have i1 : atI [codeD f.code, .tup f.fs] 1 = some (.tup f.fs) := rfl
    simp only [aSeq, aIf, aRet, aRetN, aDrop, aAsg, aNext, aPar, agName, agTup, agCons, agNil, agSub, rSetA, aTest, aOp, aUn, aV, aC, aI, aI0, aU, aEq, aNe, aCons, aNil, aTup, aLst, aCB, aIfE, aNotV, aNotT, aAndV, aOrV, aAndT, aOrT, aChain, aIxL, aIxT, aIxS, aSl, aPart, aNoPart, aSlL, aSlT, aSlS, aCat, aCatT, aAddS, aDGet, aDIn, aDGet2, asDPut, aDNewK, aDNewT, aCall, aBM, aAppend, aPopAt, aLenS, aLenStr, aListOf, aTupleOf, aInt1, aMin2, aIsi, aIsN, aNotN, aCont, aBreak, aNever, aDisp, aPairs, kvs?, mergeD, EndA, D.eq2, D.isNon, D.key, D.items, ptrList, listM, seqAt, Cell.items, dGetM, dPutM, isDict, tyOf, kitD, updM_same, updM_upd, List.set_cons_zero, List.set_cons_succ, List.getElem?_cons_zero, List.getElem?_cons_succ, List.length_cons, List.length_nil, Option.map_some, Option.bind_some, Option.isSome_some, Option.isSome_none, Option.getD_some, Option.getD_none, List.foldl_cons, List.foldl_nil, decide_eq_true_eq, if_true, if_false, Bool.not_true, Bool.not_false, Bool.false_eq_true, true_and, and_true, Nat.reduceLT, Int.reduceLT, Int.reduceLE, ↓reduceIte, formD, i0, i1, codeD, List.length_map]
    refine aLc_pure (fun d => .int (fw d)) f.fs (fun _ => True) (fun R h => by simp only [aSeq, aIf, aRet, aRetN, aDrop, aAsg, aNext, aPar, agName, agTup, agCons, agNil, agSub, rSetA, aTest, aOp, aUn, aV, aC, aI, aI0, aU, aEq, aNe, aCons, aNil, aTup, aLst, aCB, aIfE, aNotV, aNotT, aAndV, aOrV, aAndT, aOrT, aChain, aIxL, aIxT, aIxS, aSl, aPart, aNoPart, aSlL, aSlT, aSlS, aCat, aCatT, aAddS, aDGet, aDIn, aDGet2, asDPut, aDNewK, aDNewT, aCall, aBM, aAppend, aPopAt, aLenS, aLenStr, aListOf, aTupleOf, aInt1, aMin2, aIsi, aIsN, aNotN, aCont, aBreak, aNever, aDisp, aPairs, kvs?, mergeD, EndA, D.eq2, D.isNon, D.key, D.items, ptrList, listM, seqAt, Cell.items, dGetM, dPutM, isDict, tyOf, kitD, updM_same, updM_upd, List.set_cons_zero, List.set_cons_succ, List.getElem?_cons_zero, List.getElem?_cons_succ, List.length_cons, List.length_nil, Option.map_some, Option.bind_some, Option.isSome_some, Option.isSome_none, Option.getD_some, Option.getD_none, List.foldl_cons, List.foldl_nil, decide_eq_true_eq, if_true, if_false, Bool.not_true, Bool.not_false, Bool.false_eq_true, true_and, and_true, Nat.reduceLT, Int.reduceLT, Int.reduceLE, ↓reduceIte, aITup, i1]; exact h) (by omega) (fun _ _ => trivial) (fun x μ' hx _ Q' kk => ?_) fun p μ' hp hm hq => ?_
    · show (_ : AE) [some (formD f), some x] μ' Q'
      simp only [aSeq, aIf, aRet, aRetN, aDrop, aAsg, aNext, aPar, agName, agTup, agCons, agNil, agSub, rSetA, aTest, aOp, aUn, aV, aC, aI, aI0, aU, aEq, aNe, aCons, aNil, aTup, aLst, aCB, aIfE, aNotV, aNotT, aAndV, aOrV, aAndT, aOrT, aChain, aIxL, aIxT, aIxS, aSl, aPart, aNoPart, aSlL, aSlT, aSlS, aCat, aCatT, aAddS, aDGet, aDIn, aDGet2, asDPut, aDNewK, aDNewT, aCall, aBM, aAppend, aPopAt, aLenS, aLenStr, aListOf, aTupleOf, aInt1, aMin2, aIsi, aIsN, aNotN, aCont, aBreak, aNever, aDisp, aPairs, kvs?, mergeD, EndA, D.eq2, D.isNon, D.key, D.items, ptrList, listM, seqAt, Cell.items, dGetM, dPutM, isDict, tyOf, kitD, updM_same, updM_upd, List.set_cons_zero, List.set_cons_succ, List.getElem?_cons_zero, List.getElem?_cons_succ, List.length_cons, List.length_nil, Option.map_some, Option.bind_some, Option.isSome_some, Option.isSome_none, Option.getD_some, Option.getD_none, List.foldl_cons, List.foldl_nil, decide_eq_true_eq, if_true, if_false, Bool.not_true, Bool.not_false, Bool.false_eq_true, true_and, and_true, Nat.reduceLT, Int.reduceLT, Int.reduceLE, ↓reduceIte]
      exact ⟨x, rfl, hf x hx, kk μ' (Mle.refl _)⟩
    · have e : (f.fs.map fun d => D.int (fw d)) = (f.fs.map fw).map D.int := by rw [List.map_map]; rfl
      simp only [aSeq, aIf, aRet, aRetN, aDrop, aAsg, aNext, aPar, agName, agTup, agCons, agNil, agSub, rSetA, aTest, aOp, aUn, aV, aC, aI, aI0, aU, aEq, aNe, aCons, aNil, aTup, aLst, aCB, aIfE, aNotV, aNotT, aAndV, aOrV, aAndT, aOrT, aChain, aIxL, aIxT, aIxS, aSl, aPart, aNoPart, aSlL, aSlT, aSlS, aCat, aCatT, aAddS, aDGet, aDIn, aDGet2, asDPut, aDNewK, aDNewT, aCall, aBM, aAppend, aPopAt, aLenS, aLenStr, aListOf, aTupleOf, aInt1, aMin2, aIsi, aIsN, aNotN, aCont, aBreak, aNever, aDisp, aPairs, kvs?, mergeD, EndA, D.eq2, D.isNon, D.key, D.items, ptrList, listM, seqAt, Cell.items, dGetM, dPutM, isDict, tyOf, kitD, updM_same, updM_upd, List.set_cons_zero, List.set_cons_succ, List.getElem?_cons_zero, List.getElem?_cons_succ, List.length_cons, List.length_nil, Option.map_some, Option.bind_some, Option.isSome_some, Option.isSome_none, Option.getD_some, Option.getD_none, List.foldl_cons, List.foldl_nil, decide_eq_true_eq, if_true, if_false, Bool.not_true, Bool.not_false, Bool.false_eq_true, true_and, and_true, Nat.reduceLT, Int.reduceLT, Int.reduceLE, ↓reduceIte, aSum, hq, e, DL.ints_map]
      exact ⟨μ, hm, by rw [List.length_map]; exact k⟩
end
end M53

set_option maxHeartbeats 4000000
namespace M53
open PySem PySem.Spec PyProof.Rows L2 Evl Gd DL
/-- the state of the draws, all else as it was -/
def Dr (p : Addr) (μ μ' : Mu) : Prop := (∃ c, μ' p = some c ∧ StC c) ∧ MleX [p] μ μ'
theorem Dr.refl {p : Addr} {μ : Mu} {c : Cell} (h : μ p = some c) (hc : StC c) : Dr p μ μ := ⟨⟨c, h, hc⟩, MleX.refl _ _⟩
theorem Dr.trans {p : Addr} {a b c : Mu} (h : Dr p a b) (k : Dr p b c) : Dr p a c := ⟨k.1, h.2.trans k.2⟩
theorem Dr.upd {p : Addr} {μ : Mu} {c : Cell} (hc : StC c) : Dr p μ (updM μ p c) := ⟨⟨c, updM_same, hc⟩, (MleX.refl _ _).upd (by simp)⟩
theorem Dr.new {p q : Addr} {μ μ' : Mu} {c : Cell} (h : Dr p μ μ') (hq : μ' q = none) : Dr p μ (updM μ' q c) := by
  obtain ⟨⟨d, h1, h2⟩, h3⟩ := h
  exact ⟨⟨d, by rw [updM_ne (fresh_ne hq h1).symm]; exact h1, h2⟩, h3.new hq⟩
theorem Dr.get {p a : Addr} {μ μ' : Mu} {c : Cell} (h : Dr p μ μ') (n : a ≠ p) (e : μ a = some c) : μ' a = some c := h.2.get (by simpa using n) e
/-- a comprehension over range(n) whose elements are drawn -/
theorem aLc_draw {a : AE} {j : Nat} {ws : List Nat} {ρ : Rho} {μ : Mu} {Q : DK} {w : AI} {R : D → Prop} {p : Addr} {c : Cell} (n : Nat) (hp : μ p = some c) (hc : StC c) (hn : n ≤ 90000) (hw : ∀ S : List D → (Mu → Prop) → Mu → Prop, S (rngD 0 n) (fun _ => True) μ → w ρ μ S)
    (he : ∀ x μ', Dr p μ μ' → ∀ Q' : DK, (∀ d μ'', R d → Dr p μ' μ'' → Q' d μ'') → a ((wipeD ρ ws).set j (some x)) μ' Q') (hR : ∀ q ds μ', μ q = none → Dr p μ μ' → ds.length = n → (∀ d ∈ ds, R d) → μ' q = some (.lst ds) → Q (.ptr q) μ') : aLc w (agName j) aYes a ws ρ μ Q := by
  refine hw _ fun q hq => ?_
  have nqp : q ≠ p := fresh_ne hq hp
  refine ⟨fun i acc μ' => acc.length = i ∧ (∀ d ∈ acc, R d) ∧ μ' q = some (.lst acc) ∧ Dr p μ μ' ∧ i ≤ n, ⟨rfl, fun d hd => (by cases hd), updM_same, (Dr.refl hp hc).new hq, Nat.zero_le _⟩, fun i acc μ' hi ⟨e1, e2, e3, e4, e5⟩ => ⟨trivial, e3, by omega⟩, fun i x acc μ' hx ⟨e1, e2, e3, e4, e5⟩ => ⟨by omega, ?_⟩, fun acc μ' ⟨e1, e2, e3, e4, e5⟩ => hR q acc μ' hq e4 (by rw [e1, rngD_len]) e2 e3⟩
  show a ((wipeD ρ ws).set j (some x)) μ' _
  refine he x μ' e4 _ fun d μ'' hd e6 => ⟨e6.get nqp e3, by rw [List.length_append, e1]; rfl, fun y hy => ?_, updM_same, ?_, ?_⟩
  · rcases List.mem_append.mp hy with h | h
    · exact e2 y h
    · rw [List.mem_singleton.mp h]; exact hd
  · obtain ⟨⟨d', h1, h2⟩, h3⟩ := e4.trans e6
    exact ⟨⟨d', by rw [updM_ne nqp.symm]; exact h1, h2⟩, h3.free hq⟩
  · have := (List.getElem?_eq_some_iff.mp hx).1
    rw [rngD_len] at this
    omega
structure FormsOk (many : Nat) (sh : List Form) : Prop where
  fld : ∀ f ∈ sh, f.fs.length = many ∧ ∀ d ∈ f.fs, FldOk d
  up : sh.Pairwise fun a b => flen a < flen b
section
variable {P : Program} {w : World} {K : PySem.W.Frag} {mg : Str → Option Value} {base : Heap}
/-- between two turns of the shapes' loop -/
def IS (p a q : Addr) (many : Nat) (cs : List (List Int)) (μ : Mu) (i : Nat) (ρ' : Rho) (μ' : Mu) : Prop := ∃ sh rest c' x4 x5 x6, ρ' = [some (.ptr p), some (.ptr a), some (.int many), some (.ptr q), x4, x5, x6] ∧ cs = sh.map Form.code ++ rest ∧ sh.length ≤ i ∧ (0 < i → 1 ≤ sh.length) ∧ FormsOk many sh ∧ StC c' ∧ μ' p = some c' ∧ μ' a = some (.lst (rest.map codeD)) ∧ μ' q = some (.lst (sh.map formD)) ∧ MleX [p, a] μ μ'
def ctShapes : Ct := fun ds μ Q => ∃ (p : Addr) (c : Cell) (a : Addr) (many : Nat) (cs : List (List Int)), ds = [.ptr p, .ptr a, .int (many : Int)] ∧ μ p = some c ∧ StC c ∧ μ a = some (.lst (cs.map codeD)) ∧ 3 < cs.length ∧ cs.length ≤ 100 ∧ many ≤ 4 ∧
  ∀ (sh : List Form) (rest : List (List Int)) (c' : Cell) (μ' : Mu), cs = sh.map Form.code ++ rest → 1 ≤ sh.length → sh.length ≤ 3 → FormsOk many sh → StC c' → μ' p = some c' → μ' a = some (.lst (rest.map codeD)) → MleX [p, a] μ μ' → Q (.tup (sh.map formD)) μ'
theorem formD_flat {f : Form} (h : ∀ d ∈ f.fs, FldOk d) : (formD f).flat 60 = true := by
  unfold formD
  show (D.flat 59 (codeD f.code) && (D.flat 59 (.tup f.fs) && true)) = true
  rw [show D.flat 59 (codeD f.code) = true from List.all_eq_true.mpr (flat_ints 58 _)]
  have : D.flat 59 (.tup f.fs) = true := List.all_eq_true.mpr fun d hd => by
    rcases h d hd with ⟨v, rfl, _⟩ | ⟨z, hz, rfl⟩
    · have e : PyData.strOk (Str.ofString "n") = true := by decide +kernel
      show (D.flat 57 (.str "n") && (D.flat 57 (.int v) && true)) = true
      rw [show D.flat 57 (.str "n") = true from e]
      rfl
    · exact (fld_facts z hz).2.1
  rw [this]
  rfl
def N_law_shapes : List Str := ["_law_m", "_law_codes_here", "_law_many", "_law_found", "_law_turn", "_law_shape", "_law_k"]
abbrev s_law_shapes : Stmt := top 56
theorem sc_law_shapes : FnScope N_law_shapes ["_law_m", "_law_codes_here", "_law_many"] (defScope s_law_shapes) := ⟨rfl, rfl, rfl, by decide +kernel, rfl, by decide +kernel, by decide +kernel⟩
theorem ok_law_shapes {f : Addr} {fd : FuncData} (F : Fun K "_law_shapes" "_law_shapes" s_law_shapes f fd) (T : Tx K mg) (D_law_draw : Df P w K mg base CX0 1 "_law_draw" ["_law_m", "_law_size"] (spOf ctDraw)) (D_law_slot : Df P w K mg base CX0 3 "_law_slot" ["_law_m"] (spOf (ctDrawn FldOk))) (D_law_long : Df P w K mg base CX0 2 "_law_long" ["_law_shape"] (spOf ctLong)) : FnOk P w K mg base CX0 4 f fd ["_law_m", "_law_codes_here", "_law_many"] (spOf ctShapes) := by
  refine okD F sc_law_shapes (fun ds μ Q h => ?_) (fun cdv A outer s H E hr => ?_)
  · obtain ⟨p, c, a, many, cs, rfl, _⟩ := h
    rfl
  · refine ⟨_, (qss_cons (qs_set (i := 3) sc_law_shapes.nd rfl (Or.inl rfl) (qe_lst qa_nil))
  (qss_cons (qs_for PassesOwn.never rfl (qi_range1 rfl T.b_range (qa_cons (qe_op oq_add qe_int (qe_df D_law_draw (hr.mono (by decide)) rfl (qa_cons (qv 0) (qa_cons qe_int qa_nil)))) qa_nil)) (qg_name (i := 4) sc_law_shapes.nd rfl (Or.inl rfl))
    (qss_cons (qs_set (i := 5) sc_law_shapes.nd rfl (Or.inl rfl) (qe_tup (qa_cons (qe_ix iq_list (qv 1) qe_int (fun _ _ => rfl)) (qa_cons (qe_callTy cq_tuple_of (by rfl) T.b_tuple (by decide +kernel) (qa_cons (qe_lc (own := [("_law_k", 6)]) rfl sc_law_shapes.nd (qi_range1 rfl T.b_range (qa_cons (qv 2) qa_nil)) (blkOk_by (N := N_law_shapes) (sc := defScope s_law_shapes) (by decide +kernel)) (fun _ _ _ _ _ => qg_name (i := 6) sc_law_shapes.nd rfl (Or.inl rfl)) (fun _ _ _ _ _ => qts_nil) (fun _ _ _ _ _ => (qe_df D_law_slot (hr.mono (by decide)) rfl (qa_cons (qv 0) qa_nil)))) qa_nil)) qa_nil))))
      (qss_one (qs_if (QW.pt (qw_or (qt_cmpR (oq_eqD hr.units) (qv 3) (qe_lst qa_nil) (nomark _)) (qw_or1 (qt_cmpR oq_lt (qe_df D_law_long (hr.mono (by decide)) rfl (qa_cons (qe_ix iq_list (qv 3) (qe_un uq_neg qe_int) (fun _ _ => rfl)) qa_nil)) (qe_df D_law_long (hr.mono (by decide)) rfl (qa_cons (qv 5) qa_nil)) (nomark _)))))
        (qss_cons (qs_expr (qe_popAt (qv 1) (qa_cons qe_int qa_nil)))
          (qss_one (qs_expr (qe_append (qv 3) (qa_cons (qv 5) qa_nil)))))
        qss_nil))))
  (qss_one (qs_ret (qe_callTy cq_tuple_of (by rfl) T.b_tuple (by decide +kernel) (qa_cons (qv 3) qa_nil)))))), ?_⟩
    rintro ds μ Q ⟨p, c, a, many, cs, rfl, hp, hc, ha, l3, lh, hm, k⟩
    show (_ : AS) (EndA Q) [some (.ptr p), some (.ptr a), some (.int many), none, none, none, none] μ
    simp only [aSeq, aIf, aRet, aRetN, aDrop, aAsg, aNext, aPar, agName, agTup, agCons, agNil, agSub, rSetA, aTest, aOp, aUn, aV, aC, aI, aI0, aU, aEq, aNe, aCons, aNil, aTup, aLst, aCB, aIfE, aNotV, aNotT, aAndV, aOrV, aAndT, aOrT, aChain, aIxL, aIxT, aIxS, aSl, aPart, aNoPart, aSlL, aSlT, aSlS, aCat, aCatT, aAddS, aDGet, aDIn, aDGet2, asDPut, aDNewK, aDNewT, aCall, aBM, aAppend, aPopAt, aLenS, aLenStr, aListOf, aTupleOf, aInt1, aMin2, aIsi, aIsN, aNotN, aCont, aBreak, aNever, aDisp, aPairs, kvs?, mergeD, EndA, D.eq2, D.isNon, D.key, D.items, ptrList, listM, seqAt, Cell.items, dGetM, dPutM, isDict, tyOf, kitD, updM_same, updM_upd, List.set_cons_zero, List.set_cons_succ, List.getElem?_cons_zero, List.getElem?_cons_succ, List.length_cons, List.length_nil, Option.map_some, Option.bind_some, Option.isSome_some, Option.isSome_none, Option.getD_some, Option.getD_none, List.foldl_cons, List.foldl_nil, decide_eq_true_eq, if_true, if_false, Bool.not_true, Bool.not_false, Bool.false_eq_true, true_and, and_true, Nat.reduceLT, Int.reduceLT, Int.reduceLE, ↓reduceIte, aFor, aIRng1]
    refine ⟨by decide, fun q hq => ?_⟩
    have nqp := fresh_ne hq hp
    have nqa := fresh_ne hq ha
    have nap : a ≠ p := fun e => by subst e; obtain ⟨_, _, _, rfl⟩ := hc; rw [hp] at ha; cases ha
    refine ⟨p, _, c, rfl, by rw [updM_ne nqp.symm]; exact hp, hc, by decide, by decide, fun v c2 v0 v1 hc2 => ?_⟩
    simp only [aSeq, aIf, aRet, aRetN, aDrop, aAsg, aNext, aPar, agName, agTup, agCons, agNil, agSub, rSetA, aTest, aOp, aUn, aV, aC, aI, aI0, aU, aEq, aNe, aCons, aNil, aTup, aLst, aCB, aIfE, aNotV, aNotT, aAndV, aOrV, aAndT, aOrT, aChain, aIxL, aIxT, aIxS, aSl, aPart, aNoPart, aSlL, aSlT, aSlS, aCat, aCatT, aAddS, aDGet, aDIn, aDGet2, asDPut, aDNewK, aDNewT, aCall, aBM, aAppend, aPopAt, aLenS, aLenStr, aListOf, aTupleOf, aInt1, aMin2, aIsi, aIsN, aNotN, aCont, aBreak, aNever, aDisp, aPairs, kvs?, mergeD, EndA, D.eq2, D.isNon, D.key, D.items, ptrList, listM, seqAt, Cell.items, dGetM, dPutM, isDict, tyOf, kitD, updM_same, updM_upd, List.set_cons_zero, List.set_cons_succ, List.getElem?_cons_zero, List.getElem?_cons_succ, List.length_cons, List.length_nil, Option.map_some, Option.bind_some, Option.isSome_some, Option.isSome_none, Option.getD_some, Option.getD_none, List.foldl_cons, List.foldl_nil, decide_eq_true_eq, if_true, if_false, Bool.not_true, Bool.not_false, Bool.false_eq_true, true_and, and_true, Nat.reduceLT, Int.reduceLT, Int.reduceLE, ↓reduceIte]
    refine ⟨by omega, by omega, IS p a q many cs μ,
      ⟨[], cs, c2, none, none, none, rfl, rfl, Nat.le_refl _, fun h => absurd h (Nat.lt_irrefl _), ⟨fun _ h => (by cases h), List.Pairwise.nil⟩, hc2, updM_same, ?_, ?_, ((MleX.refl _ _).new hq).upd (by simp)⟩, ?_, ?_, ?_⟩
    · rw [updM_ne nap, updM_ne nqa.symm]; exact ha
    · rw [updM_ne nqp, updM_same]; rfl
    · intros; trivial
    · rintro i x ρ' μ' hx ⟨sh, rest, c', x4, x5, x6, rfl, g1, g2, g3, g4, g5, g6, g7, g8, g9⟩
      obtain ⟨rfl, hi⟩ := rngD_at hx
      have hi3 : i < 3 := by omega
      have lr : sh.length + rest.length = cs.length := by rw [g1, List.length_append, List.length_map]
      obtain ⟨c0, rest, rfl⟩ : ∃ c0 r, rest = c0 :: r := by
        cases rest with
        | nil => rw [List.length_nil] at lr; omega
        | cons c0 r => exact ⟨c0, r, rfl⟩
      have i0 : atI (List.map codeD (c0 :: rest)) 0 = some (codeD c0) := at_zero
      simp only [aSeq, aIf, aRet, aRetN, aDrop, aAsg, aNext, aPar, agName, agTup, agCons, agNil, agSub, rSetA, aTest, aOp, aUn, aV, aC, aI, aI0, aU, aEq, aNe, aCons, aNil, aTup, aLst, aCB, aIfE, aNotV, aNotT, aAndV, aOrV, aAndT, aOrT, aChain, aIxL, aIxT, aIxS, aSl, aPart, aNoPart, aSlL, aSlT, aSlS, aCat, aCatT, aAddS, aDGet, aDIn, aDGet2, asDPut, aDNewK, aDNewT, aCall, aBM, aAppend, aPopAt, aLenS, aLenStr, aListOf, aTupleOf, aInt1, aMin2, aIsi, aIsN, aNotN, aCont, aBreak, aNever, aDisp, aPairs, kvs?, mergeD, EndA, D.eq2, D.isNon, D.key, D.items, ptrList, listM, seqAt, Cell.items, dGetM, dPutM, isDict, tyOf, kitD, updM_same, updM_upd, List.set_cons_zero, List.set_cons_succ, List.getElem?_cons_zero, List.getElem?_cons_succ, List.length_cons, List.length_nil, Option.map_some, Option.bind_some, Option.isSome_some, Option.isSome_none, Option.getD_some, Option.getD_none, List.foldl_cons, List.foldl_nil, decide_eq_true_eq, if_true, if_false, Bool.not_true, Bool.not_false, Bool.false_eq_true, true_and, and_true, Nat.reduceLT, Int.reduceLT, Int.reduceLE, ↓reduceIte, g7, i0]
      refine aLc_draw (R := FldOk) (p := p) (c := c') many g6 g5 (by omega) (fun S h => ?_) (fun x μ2 hd Q' kk => ?_) fun t ds μ2 ht hd hl hR h2 => ?_
      · simp only [aSeq, aIf, aRet, aRetN, aDrop, aAsg, aNext, aPar, agName, agTup, agCons, agNil, agSub, rSetA, aTest, aOp, aUn, aV, aC, aI, aI0, aU, aEq, aNe, aCons, aNil, aTup, aLst, aCB, aIfE, aNotV, aNotT, aAndV, aOrV, aAndT, aOrT, aChain, aIxL, aIxT, aIxS, aSl, aPart, aNoPart, aSlL, aSlT, aSlS, aCat, aCatT, aAddS, aDGet, aDIn, aDGet2, asDPut, aDNewK, aDNewT, aCall, aBM, aAppend, aPopAt, aLenS, aLenStr, aListOf, aTupleOf, aInt1, aMin2, aIsi, aIsN, aNotN, aCont, aBreak, aNever, aDisp, aPairs, kvs?, mergeD, EndA, D.eq2, D.isNon, D.key, D.items, ptrList, listM, seqAt, Cell.items, dGetM, dPutM, isDict, tyOf, kitD, updM_same, updM_upd, List.set_cons_zero, List.set_cons_succ, List.getElem?_cons_zero, List.getElem?_cons_succ, List.length_cons, List.length_nil, Option.map_some, Option.bind_some, Option.isSome_some, Option.isSome_none, Option.getD_some, Option.getD_none, List.foldl_cons, List.foldl_nil, decide_eq_true_eq, if_true, if_false, Bool.not_true, Bool.not_false, Bool.false_eq_true, true_and, and_true, Nat.reduceLT, Int.reduceLT, Int.reduceLE, ↓reduceIte, aIRng1, Int.toNat_natCast]
        exact ⟨by omega, by omega, h⟩
      · show (_ : AE) [some (.ptr p), some (.ptr a), some (.int many), some (.ptr q), some (.int (0 + (i : Int))), x5, some x] μ2 Q'
        simp only [aSeq, aIf, aRet, aRetN, aDrop, aAsg, aNext, aPar, agName, agTup, agCons, agNil, agSub, rSetA, aTest, aOp, aUn, aV, aC, aI, aI0, aU, aEq, aNe, aCons, aNil, aTup, aLst, aCB, aIfE, aNotV, aNotT, aAndV, aOrV, aAndT, aOrT, aChain, aIxL, aIxT, aIxS, aSl, aPart, aNoPart, aSlL, aSlT, aSlS, aCat, aCatT, aAddS, aDGet, aDIn, aDGet2, asDPut, aDNewK, aDNewT, aCall, aBM, aAppend, aPopAt, aLenS, aLenStr, aListOf, aTupleOf, aInt1, aMin2, aIsi, aIsN, aNotN, aCont, aBreak, aNever, aDisp, aPairs, kvs?, mergeD, EndA, D.eq2, D.isNon, D.key, D.items, ptrList, listM, seqAt, Cell.items, dGetM, dPutM, isDict, tyOf, kitD, updM_same, updM_upd, List.set_cons_zero, List.set_cons_succ, List.getElem?_cons_zero, List.getElem?_cons_succ, List.length_cons, List.length_nil, Option.map_some, Option.bind_some, Option.isSome_some, Option.isSome_none, Option.getD_some, Option.getD_none, List.foldl_cons, List.foldl_nil, decide_eq_true_eq, if_true, if_false, Bool.not_true, Bool.not_false, Bool.false_eq_true, true_and, and_true, Nat.reduceLT, Int.reduceLT, Int.reduceLE, ↓reduceIte]
        obtain ⟨⟨c5, h1, h2⟩, h3⟩ := hd
        exact ⟨p, c5, rfl, h1, h2, fun d c6 hd hc6 => kk d _ hd (Dr.upd hc6)⟩
      · simp only [aSeq, aIf, aRet, aRetN, aDrop, aAsg, aNext, aPar, agName, agTup, agCons, agNil, agSub, rSetA, aTest, aOp, aUn, aV, aC, aI, aI0, aU, aEq, aNe, aCons, aNil, aTup, aLst, aCB, aIfE, aNotV, aNotT, aAndV, aOrV, aAndT, aOrT, aChain, aIxL, aIxT, aIxS, aSl, aPart, aNoPart, aSlL, aSlT, aSlS, aCat, aCatT, aAddS, aDGet, aDIn, aDGet2, asDPut, aDNewK, aDNewT, aCall, aBM, aAppend, aPopAt, aLenS, aLenStr, aListOf, aTupleOf, aInt1, aMin2, aIsi, aIsN, aNotN, aCont, aBreak, aNever, aDisp, aPairs, kvs?, mergeD, EndA, D.eq2, D.isNon, D.key, D.items, ptrList, listM, seqAt, Cell.items, dGetM, dPutM, isDict, tyOf, kitD, updM_same, updM_upd, List.set_cons_zero, List.set_cons_succ, List.getElem?_cons_zero, List.getElem?_cons_succ, List.length_cons, List.length_nil, Option.map_some, Option.bind_some, Option.isSome_some, Option.isSome_none, Option.getD_some, Option.getD_none, List.foldl_cons, List.foldl_nil, decide_eq_true_eq, if_true, if_false, Bool.not_true, Bool.not_false, Bool.false_eq_true, true_and, and_true, Nat.reduceLT, Int.reduceLT, Int.reduceLE, ↓reduceIte, h2]
        obtain ⟨⟨c7, h7, hc7⟩, m7⟩ := id hd
        have hq2 := hd.get nqp g8
        have ha2 := hd.get nap g7
        refine ⟨by decide, by decide, fun e he => ?_⟩
        have nqe : q ≠ e := (fresh_ne he hq2).symm
        have nae : a ≠ e := (fresh_ne he ha2).symm
        have npe : p ≠ e := (fresh_ne he h7).symm
        have naq : a ≠ q := nqa.symm
        have fl : ∀ y ∈ sh.map formD, y.flat 60 = true := fun y hy => by
          obtain ⟨f, hf, rfl⟩ := List.mem_map.mp hy
          exact formD_flat (g4.fld f hf).2
        rw [eq_nil (ys := sh.map formD) (by rw [list_upd nqe]; exact list_cell hq2) list_at fl (by decide)]
        have ls : sh.length < 10 := by omega
        have push : (∀ g ∈ sh, flen g < flen ⟨c0, ds⟩) → IS p a q many cs μ (i + 1) [some (.ptr p), some (.ptr a), some (.int many), some (.ptr q), some (.int (0 + (i : Int))), some (.tup [codeD c0, .tup ds]), x6] (updM (updM (updM μ2 e (.lst [])) a (.lst (rest.map codeD))) q (.lst (sh.map formD ++ [.tup [codeD c0, .tup ds]]))) := fun hup => by
          refine ⟨sh ++ [⟨c0, ds⟩], rest, c7, _, _, _, rfl, by rw [g1, List.map_append, List.append_assoc]; rfl, by rw [List.length_append, List.length_singleton]; omega, fun _ => by rw [List.length_append, List.length_singleton]; omega, ⟨fun f hf => ?_, List.pairwise_append.mpr ⟨g4.up, List.pairwise_singleton _ _, fun x hx y hy => ?_⟩⟩, hc7, ?_, ?_, ?_, ?_⟩
          · rcases List.mem_append.mp hf with h | h
            · exact g4.fld f h
            · rw [List.mem_singleton.mp h]; exact ⟨hl, hR⟩
          · rw [List.mem_singleton.mp hy]; exact hup x hx
          · rw [updM_ne nqp.symm, updM_ne nap.symm, updM_ne npe]; exact h7
          · rw [updM_ne naq, updM_same]
          · rw [updM_same, List.map_append]; rfl
          · exact ((((g9.trans (m7.mono (by simp))).new he).upd (by simp)).free hq)
        have s0 : seqIndex? 0 (rest.length + 1) = some 0 := seq_nat (j := 0) (by omega)
        have e0 : (List.map codeD (c0 :: rest)).eraseIdx 0 = rest.map codeD := rfl
        have k0 : (List.map codeD (c0 :: rest))[0]? = some (codeD c0) := rfl
        rcases List.eq_nil_or_concat sh with rfl | ⟨sh0, last, ec⟩
        · simp only [aSeq, aIf, aRet, aRetN, aDrop, aAsg, aNext, aPar, agName, agTup, agCons, agNil, agSub, rSetA, aTest, aOp, aUn, aV, aC, aI, aI0, aU, aEq, aNe, aCons, aNil, aTup, aLst, aCB, aIfE, aNotV, aNotT, aAndV, aOrV, aAndT, aOrT, aChain, aIxL, aIxT, aIxS, aSl, aPart, aNoPart, aSlL, aSlT, aSlS, aCat, aCatT, aAddS, aDGet, aDIn, aDGet2, asDPut, aDNewK, aDNewT, aCall, aBM, aAppend, aPopAt, aLenS, aLenStr, aListOf, aTupleOf, aInt1, aMin2, aIsi, aIsN, aNotN, aCont, aBreak, aNever, aDisp, aPairs, kvs?, mergeD, EndA, D.eq2, D.isNon, D.key, D.items, ptrList, listM, seqAt, Cell.items, dGetM, dPutM, isDict, tyOf, kitD, updM_same, updM_upd, List.set_cons_zero, List.set_cons_succ, List.getElem?_cons_zero, List.getElem?_cons_succ, List.length_cons, List.length_nil, Option.map_some, Option.bind_some, Option.isSome_some, Option.isSome_none, Option.getD_some, Option.getD_none, List.foldl_cons, List.foldl_nil, decide_eq_true_eq, if_true, if_false, Bool.not_true, Bool.not_false, Bool.false_eq_true, true_and, and_true, Nat.reduceLT, Int.reduceLT, Int.reduceLE, ↓reduceIte, List.map_nil, List.isEmpty_nil, updM_ne nae, updM_ne nqa, updM_ne nqe, updM_ne naq, ha2, hq2, List.length_map, List.length_cons, s0, k0, e0]
          exact ⟨by decide, by decide, push fun g hg => (by cases hg)⟩
        · rw [List.concat_eq_append] at ec
          subst ec
          have lm : List.map formD (sh0 ++ [last]) = List.map formD sh0 ++ [formD last] := by rw [List.map_append]; rfl
          have ie : (List.map formD (sh0 ++ [last])).isEmpty = false := by rw [lm]; cases List.map formD sh0 <;> rfl
          have al : atI (List.map formD (sh0 ++ [last])) (-1) = some (formD last) := by rw [lm]; exact at_last
          simp only [aSeq, aIf, aRet, aRetN, aDrop, aAsg, aNext, aPar, agName, agTup, agCons, agNil, agSub, rSetA, aTest, aOp, aUn, aV, aC, aI, aI0, aU, aEq, aNe, aCons, aNil, aTup, aLst, aCB, aIfE, aNotV, aNotT, aAndV, aOrV, aAndT, aOrT, aChain, aIxL, aIxT, aIxS, aSl, aPart, aNoPart, aSlL, aSlT, aSlS, aCat, aCatT, aAddS, aDGet, aDIn, aDGet2, asDPut, aDNewK, aDNewT, aCall, aBM, aAppend, aPopAt, aLenS, aLenStr, aListOf, aTupleOf, aInt1, aMin2, aIsi, aIsN, aNotN, aCont, aBreak, aNever, aDisp, aPairs, kvs?, mergeD, EndA, D.eq2, D.isNon, D.key, D.items, ptrList, listM, seqAt, Cell.items, dGetM, dPutM, isDict, tyOf, kitD, updM_same, updM_upd, List.set_cons_zero, List.set_cons_succ, List.getElem?_cons_zero, List.getElem?_cons_succ, List.length_cons, List.length_nil, Option.map_some, Option.bind_some, Option.isSome_some, Option.isSome_none, Option.getD_some, Option.getD_none, List.foldl_cons, List.foldl_nil, decide_eq_true_eq, if_true, if_false, Bool.not_true, Bool.not_false, Bool.false_eq_true, true_and, and_true, Nat.reduceLT, Int.reduceLT, Int.reduceLE, ↓reduceIte, ie, updM_ne nae, updM_ne nqa, updM_ne nqe, updM_ne naq, ha2, hq2, List.length_map, List.length_cons, s0, k0, e0, al]
          have hlast := g4.fld last (by simp)
          refine ⟨last, rfl, hlast.2, by omega, ⟨c0, ds⟩, rfl, hR, by show ds.length ≤ 100; omega, ?_⟩
          simp only [aSeq, aIf, aRet, aRetN, aDrop, aAsg, aNext, aPar, agName, agTup, agCons, agNil, agSub, rSetA, aTest, aOp, aUn, aV, aC, aI, aI0, aU, aEq, aNe, aCons, aNil, aTup, aLst, aCB, aIfE, aNotV, aNotT, aAndV, aOrV, aAndT, aOrT, aChain, aIxL, aIxT, aIxS, aSl, aPart, aNoPart, aSlL, aSlT, aSlS, aCat, aCatT, aAddS, aDGet, aDIn, aDGet2, asDPut, aDNewK, aDNewT, aCall, aBM, aAppend, aPopAt, aLenS, aLenStr, aListOf, aTupleOf, aInt1, aMin2, aIsi, aIsN, aNotN, aCont, aBreak, aNever, aDisp, aPairs, kvs?, mergeD, EndA, D.eq2, D.isNon, D.key, D.items, ptrList, listM, seqAt, Cell.items, dGetM, dPutM, isDict, tyOf, kitD, updM_same, updM_upd, List.set_cons_zero, List.set_cons_succ, List.getElem?_cons_zero, List.getElem?_cons_succ, List.length_cons, List.length_nil, Option.map_some, Option.bind_some, Option.isSome_some, Option.isSome_none, Option.getD_some, Option.getD_none, List.foldl_cons, List.foldl_nil, decide_eq_true_eq, if_true, if_false, Bool.not_true, Bool.not_false, Bool.false_eq_true, true_and, and_true, Nat.reduceLT, Int.reduceLT, Int.reduceLE, ↓reduceIte, updM_ne nae, updM_ne nqa, updM_ne nqe, updM_ne naq, ha2, hq2, List.length_map, List.length_cons, s0, k0, e0]
          split
          · rename_i hlt
            refine ⟨by decide, by decide, by simpa using (by omega : (sh0 ++ [last]).length < 100000), push fun g hg => ?_⟩
            rcases List.mem_append.mp hg with h | h
            · exact Int.lt_trans ((List.pairwise_append.mp g4.up).2.2 g h last (by simp)) hlt
            · rw [List.mem_singleton.mp h]; exact hlt
          · refine ⟨sh0 ++ [last], c0 :: rest, c7, _, _, _, rfl, g1, by omega, fun _ => by rw [List.length_append, List.length_singleton]; omega, g4, hc7, ?_, ?_, ?_, ?_⟩
            · rw [updM_ne npe]; exact h7
            · rw [updM_ne nae]; exact ha2
            · rw [updM_ne nqe]; exact hq2
            · exact (g9.trans (m7.mono (by simp))).new he
    · rintro ρ' μ' ⟨sh, rest, c', x4, x5, x6, rfl, g1, g2, g3, g4, g5, g6, g7, g8, g9⟩
      simp only [aSeq, aIf, aRet, aRetN, aDrop, aAsg, aNext, aPar, agName, agTup, agCons, agNil, agSub, rSetA, aTest, aOp, aUn, aV, aC, aI, aI0, aU, aEq, aNe, aCons, aNil, aTup, aLst, aCB, aIfE, aNotV, aNotT, aAndV, aOrV, aAndT, aOrT, aChain, aIxL, aIxT, aIxS, aSl, aPart, aNoPart, aSlL, aSlT, aSlS, aCat, aCatT, aAddS, aDGet, aDIn, aDGet2, asDPut, aDNewK, aDNewT, aCall, aBM, aAppend, aPopAt, aLenS, aLenStr, aListOf, aTupleOf, aInt1, aMin2, aIsi, aIsN, aNotN, aCont, aBreak, aNever, aDisp, aPairs, kvs?, mergeD, EndA, D.eq2, D.isNon, D.key, D.items, ptrList, listM, seqAt, Cell.items, dGetM, dPutM, isDict, tyOf, kitD, updM_same, updM_upd, List.set_cons_zero, List.set_cons_succ, List.getElem?_cons_zero, List.getElem?_cons_succ, List.length_cons, List.length_nil, Option.map_some, Option.bind_some, Option.isSome_some, Option.isSome_none, Option.getD_some, Option.getD_none, List.foldl_cons, List.foldl_nil, decide_eq_true_eq, if_true, if_false, Bool.not_true, Bool.not_false, Bool.false_eq_true, true_and, and_true, Nat.reduceLT, Int.reduceLT, Int.reduceLE, ↓reduceIte, g8]
      rw [rngD_len] at g2 g3
      exact ⟨μ', Mle.refl _, k sh rest c' μ' g1 (g3 (by omega)) (by omega) g4 g5 g6 g7 g9⟩
/-! ### whole plans -/
abbrev Row := Str × List Form
def rowD (r : Row) : D := .tup [.str r.1, .tup (r.2.map formD)]
def TITLES : List Str := ["go", "jump", "x1", "Load_2", (Str.ofString "_") ++ Txt.mul (Str.ofString "a") 39]
/-- all opcodes of a plan -/
def codesOf (pl : List Row) : List (List Int) := pl.flatMap fun r => r.2.map Form.code
structure PlanOk (pl : List Row) : Prop where
  nm : ∀ r ∈ pl, r.1 ∈ TITLES
  nd : (pl.map Prod.fst).Nodup
  forms : ∀ r ∈ pl, 1 ≤ r.2.length ∧ r.2.length ≤ 3 ∧ ∃ many, many ≤ 4 ∧ FormsOk many r.2
  codes : CodesOk (codesOf pl)
def ctPlan : Ct := fun ds μ Q => ∃ p c, ds = [.ptr p] ∧ μ p = some c ∧ StC c ∧ ∀ pl c', PlanOk pl → 1 ≤ pl.length → pl.length ≤ 3 → StC c' → Q (.tuz (pl.map rowD)) (updM μ p c')
/-- between two turns of the plan's loop -/
def IP (p a q s : Addr) (ts : List Str) (μ : Mu) (i : Nat) (ρ' : Rho) (μ' : Mu) : Prop := ∃ pl rest c' x3, ρ' = [some (.ptr p), some (.ptr a), some (.ptr q), x3] ∧ pl.map Prod.fst = ts.take i ∧ (∀ r ∈ pl, 1 ≤ r.2.length ∧ r.2.length ≤ 3 ∧ ∃ many, many ≤ 4 ∧ FormsOk many r.2) ∧ CodesOk (codesOf pl ++ rest) ∧ 10 ≤ 3 * i + rest.length ∧ rest.length ≤ 80 ∧ StC c' ∧ μ' p = some c' ∧ μ' a = some (.lst (rest.map codeD)) ∧ μ' q = some (.lst (pl.map rowD)) ∧ μ' s = some (.lst (ts.map D.str)) ∧ MleX [p] μ μ'
def N_law_plan : List Str := ["_law_m", "_law_codes_here", "_law_found", "_law_title"]
abbrev s_law_plan : Stmt := top 57
theorem sc_law_plan : FnScope N_law_plan ["_law_m"] (defScope s_law_plan) := ⟨rfl, rfl, rfl, by decide +kernel, rfl, by decide +kernel, by decide +kernel⟩
theorem ok_law_plan {f : Addr} {fd : FuncData} (F : Fun K "_law_plan" "_law_plan" s_law_plan f fd) (T : Tx K mg) (D_law_draw : Df P w K mg base CX0 1 "_law_draw" ["_law_m", "_law_size"] (spOf ctDraw)) (D_law_codes : Df P w K mg base CX0 3 "_law_codes" ["_law_m"] (spOf ctCodes)) (D_law_mixed : Df P w K mg base CX0 2 "_law_mixed" ["_law_m", "_law_items"] (spOf ctMixed)) (D_law_shapes : Df P w K mg base CX0 4 "_law_shapes" ["_law_m", "_law_codes_here", "_law_many"] (spOf ctShapes)) : FnOk P w K mg base CX0 5 f fd ["_law_m"] (spOf ctPlan) := by
  refine okD F sc_law_plan (fun ds μ Q h => ?_) (fun cdv A outer s H E hr => ?_)
  · obtain ⟨p, c, rfl, _⟩ := h
    rfl
  · refine ⟨_, (qss_cons (qs_par (i := 1) (j := 2) (by rfl) sc_law_plan.nd rfl rfl (by decide) rfl rfl (qa_cons (qe_df D_law_codes (hr.mono (by decide)) rfl (qa_cons (qv 0) qa_nil)) (qa_cons (qe_lst qa_nil) qa_nil)) (by rfl))
  (qss_cons (qs_for PassesOwn.never rfl (qi_list (qe_slice slq_list (qe_df D_law_mixed (hr.mono (by decide)) rfl (qa_cons (qv 0) (qa_cons (qe_lst (qa_cons qe_str (qa_cons qe_str (qa_cons qe_str (qa_cons qe_str (qa_cons (qe_op oq_add_str qe_str (qe_op oq_repS qe_str qe_int)) qa_nil)))))) qa_nil))) qo_none (qo_some (qe_op oq_add qe_int (qe_df D_law_draw (hr.mono (by decide)) rfl (qa_cons (qv 0) (qa_cons qe_int qa_nil))))))) (qg_name (i := 3) sc_law_plan.nd rfl (Or.inl rfl))
    (qss_one (qs_expr (qe_append (qv 2) (qa_cons (qe_tup (qa_cons (qv 3) (qa_cons (qe_df D_law_shapes (hr.mono (by decide)) rfl (qa_cons (qv 0) (qa_cons (qv 1) (qa_cons (qe_df D_law_draw (hr.mono (by decide)) rfl (qa_cons (qv 0) (qa_cons qe_int qa_nil))) qa_nil)))) qa_nil))) qa_nil)))))
  (qss_one (qs_ret (qe_callTy cq_tuple_z (by rfl) T.b_tuple (by decide +kernel) (qa_cons (qv 2) qa_nil)))))), ?_⟩
    rintro ds μ Q ⟨p, c, rfl, hp, hc, k⟩
    show (_ : AS) (EndA Q) [some (.ptr p), none, none, none] μ
    simp only [aSeq, aIf, aRet, aRetN, aDrop, aAsg, aNext, aPar, agName, agTup, agCons, agNil, agSub, rSetA, aTest, aOp, aUn, aV, aC, aI, aI0, aU, aEq, aNe, aCons, aNil, aTup, aLst, aCB, aIfE, aNotV, aNotT, aAndV, aOrV, aAndT, aOrT, aChain, aIxL, aIxT, aIxS, aSl, aPart, aNoPart, aSlL, aSlT, aSlS, aCat, aCatT, aAddS, aDGet, aDIn, aDGet2, asDPut, aDNewK, aDNewT, aCall, aBM, aAppend, aPopAt, aLenS, aLenStr, aListOf, aTupleOf, aInt1, aMin2, aIsi, aIsN, aNotN, aCont, aBreak, aNever, aDisp, aPairs, kvs?, mergeD, EndA, D.eq2, D.isNon, D.key, D.items, ptrList, listM, seqAt, Cell.items, dGetM, dPutM, isDict, tyOf, kitD, updM_same, updM_upd, List.set_cons_zero, List.set_cons_succ, List.getElem?_cons_zero, List.getElem?_cons_succ, List.length_cons, List.length_nil, Option.map_some, Option.bind_some, Option.isSome_some, Option.isSome_none, Option.getD_some, Option.getD_none, List.foldl_cons, List.foldl_nil, decide_eq_true_eq, if_true, if_false, Bool.not_true, Bool.not_false, Bool.false_eq_true, true_and, and_true, Nat.reduceLT, Int.reduceLT, Int.reduceLE, ↓reduceIte, aFor, aIList, aMulS, aTupleZ]
    refine ⟨p, c, rfl, hp, hc, fun a c1 cs ha hc1 hcs l10 l80 => ?_⟩
    have nap := fresh_ne ha hp
    simp only [aSeq, aIf, aRet, aRetN, aDrop, aAsg, aNext, aPar, agName, agTup, agCons, agNil, agSub, rSetA, aTest, aOp, aUn, aV, aC, aI, aI0, aU, aEq, aNe, aCons, aNil, aTup, aLst, aCB, aIfE, aNotV, aNotT, aAndV, aOrV, aAndT, aOrT, aChain, aIxL, aIxT, aIxS, aSl, aPart, aNoPart, aSlL, aSlT, aSlS, aCat, aCatT, aAddS, aDGet, aDIn, aDGet2, asDPut, aDNewK, aDNewT, aCall, aBM, aAppend, aPopAt, aLenS, aLenStr, aListOf, aTupleOf, aInt1, aMin2, aIsi, aIsN, aNotN, aCont, aBreak, aNever, aDisp, aPairs, kvs?, mergeD, EndA, D.eq2, D.isNon, D.key, D.items, ptrList, listM, seqAt, Cell.items, dGetM, dPutM, isDict, tyOf, kitD, updM_same, updM_upd, List.set_cons_zero, List.set_cons_succ, List.getElem?_cons_zero, List.getElem?_cons_succ, List.length_cons, List.length_nil, Option.map_some, Option.bind_some, Option.isSome_some, Option.isSome_none, Option.getD_some, Option.getD_none, List.foldl_cons, List.foldl_nil, decide_eq_true_eq, if_true, if_false, Bool.not_true, Bool.not_false, Bool.false_eq_true, true_and, and_true, Nat.reduceLT, Int.reduceLT, Int.reduceLE, ↓reduceIte]
    refine ⟨by decide, fun q hq => ?_⟩
    obtain ⟨nqa, hq⟩ := fresh_upd hq
    obtain ⟨nqp, hq⟩ := fresh_upd hq
    have tf : ∀ y ∈ TITLES.map D.str, y.flat 60 = true := fun y hy => by
      obtain ⟨z, hz, rfl⟩ := List.mem_map.mp hy
      have : TITLES.all PyData.strOk = true := by decide +kernel
      exact List.all_eq_true.mp this z hz
    refine ⟨mulOkZ (by decide +kernel) (by decide) (by decide), by decide +kernel, by decide, fun t ht => ?_⟩
    obtain ⟨ntq, ht⟩ := fresh_upd ht
    obtain ⟨nta, ht⟩ := fresh_upd ht
    obtain ⟨ntp, ht⟩ := fresh_upd ht
    refine ⟨p, c1, t, TITLES.map D.str, rfl, ?_, hc1, list_at, by decide, tf, fun r c2 ys hr hc2 hperm => ?_⟩
    · rw [updM_ne ntp.symm, updM_ne nqp.symm, updM_ne nap.symm, updM_same]
    obtain ⟨nrt, hr⟩ := fresh_upd hr
    obtain ⟨nrq, hr⟩ := fresh_upd hr
    obtain ⟨nra, hr⟩ := fresh_upd hr
    obtain ⟨nrp, hr⟩ := fresh_upd hr
    obtain ⟨ts0, tp, rfl⟩ := perm_map hperm rfl
    simp only [aSeq, aIf, aRet, aRetN, aDrop, aAsg, aNext, aPar, agName, agTup, agCons, agNil, agSub, rSetA, aTest, aOp, aUn, aV, aC, aI, aI0, aU, aEq, aNe, aCons, aNil, aTup, aLst, aCB, aIfE, aNotV, aNotT, aAndV, aOrV, aAndT, aOrT, aChain, aIxL, aIxT, aIxS, aSl, aPart, aNoPart, aSlL, aSlT, aSlS, aCat, aCatT, aAddS, aDGet, aDIn, aDGet2, asDPut, aDNewK, aDNewT, aCall, aBM, aAppend, aPopAt, aLenS, aLenStr, aListOf, aTupleOf, aInt1, aMin2, aIsi, aIsN, aNotN, aCont, aBreak, aNever, aDisp, aPairs, kvs?, mergeD, EndA, D.eq2, D.isNon, D.key, D.items, ptrList, listM, seqAt, Cell.items, dGetM, dPutM, isDict, tyOf, kitD, updM_same, updM_upd, List.set_cons_zero, List.set_cons_succ, List.getElem?_cons_zero, List.getElem?_cons_succ, List.length_cons, List.length_nil, Option.map_some, Option.bind_some, Option.isSome_some, Option.isSome_none, Option.getD_some, Option.getD_none, List.foldl_cons, List.foldl_nil, decide_eq_true_eq, if_true, if_false, Bool.not_true, Bool.not_false, Bool.false_eq_true, true_and, and_true, Nat.reduceLT, Int.reduceLT, Int.reduceLE, ↓reduceIte]
    refine ⟨p, _, c2, rfl, by rw [updM_ne nrp.symm, updM_same], hc2, by decide, by decide, fun j c3 j0 j1 hc3 => ?_⟩
    obtain ⟨j, rfl⟩ : ∃ i : Nat, j = (i : Int) := ⟨_, (Int.toNat_of_nonneg j0).symm⟩
    have l5 : ts0.length = 5 := tp.length_eq
    have ec : DL.cutD (ts0.map D.str) none (some (1 + (j : Int))) = (ts0.take (1 + j)).map D.str := by
      rw [show (1 + (j : Int)) = ((1 + j : Nat) : Int) by omega, cutD_take, List.map_take]
    simp only [aSeq, aIf, aRet, aRetN, aDrop, aAsg, aNext, aPar, agName, agTup, agCons, agNil, agSub, rSetA, aTest, aOp, aUn, aV, aC, aI, aI0, aU, aEq, aNe, aCons, aNil, aTup, aLst, aCB, aIfE, aNotV, aNotT, aAndV, aOrV, aAndT, aOrT, aChain, aIxL, aIxT, aIxS, aSl, aPart, aNoPart, aSlL, aSlT, aSlS, aCat, aCatT, aAddS, aDGet, aDIn, aDGet2, asDPut, aDNewK, aDNewT, aCall, aBM, aAppend, aPopAt, aLenS, aLenStr, aListOf, aTupleOf, aInt1, aMin2, aIsi, aIsN, aNotN, aCont, aBreak, aNever, aDisp, aPairs, kvs?, mergeD, EndA, D.eq2, D.isNon, D.key, D.items, ptrList, listM, seqAt, Cell.items, dGetM, dPutM, isDict, tyOf, kitD, updM_same, updM_upd, List.set_cons_zero, List.set_cons_succ, List.getElem?_cons_zero, List.getElem?_cons_succ, List.length_cons, List.length_nil, Option.map_some, Option.bind_some, Option.isSome_some, Option.isSome_none, Option.getD_some, Option.getD_none, List.foldl_cons, List.foldl_nil, decide_eq_true_eq, if_true, if_false, Bool.not_true, Bool.not_false, Bool.false_eq_true, true_and, and_true, Nat.reduceLT, Int.reduceLT, Int.reduceLE, ↓reduceIte, updM_ne nrp, ec]
    intro s hs
    have hs' := hs
    obtain ⟨nsp, hs⟩ := fresh_upd hs
    obtain ⟨nsr, hs⟩ := fresh_upd hs
    obtain ⟨_, hs⟩ := fresh_upd hs
    obtain ⟨nst, hs⟩ := fresh_upd hs
    obtain ⟨nsq, hs⟩ := fresh_upd hs
    obtain ⟨nsa, hs⟩ := fresh_upd hs
    obtain ⟨_, hs⟩ := fresh_upd hs
    have lt : (ts0.take (1 + j)).length = 1 + j := by rw [List.length_take]; omega
    have ndt : (ts0.take (1 + j)).Nodup := ((tp.nodup_iff.mpr (by decide +kernel)).sublist (List.take_sublist _ _))
    have tin : ∀ z ∈ ts0.take (1 + j), z ∈ TITLES := fun z hz => tp.mem_iff.mp (List.mem_of_mem_take hz)
    generalize ts0.take (1 + j) = ts at lt ndt tin
    refine ⟨IP p a q s ts μ, ⟨[], cs, c3, none, rfl, rfl, fun _ h => (by cases h), hcs, by omega, l80, hc3, ?_, ?_, ?_, updM_same, ?_⟩, ?_, ?_, ?_⟩
    · rw [updM_ne nsp.symm, updM_same]
    · rw [updM_ne nsa.symm, updM_ne nap, updM_ne nra.symm, updM_ne nap, updM_ne nta.symm, updM_ne nqa.symm, updM_same]
    · rw [updM_ne nsq.symm, updM_ne nqp, updM_ne nrq.symm, updM_ne nqp, updM_ne ntq.symm, updM_same]; rfl
    · exact ((((((((MleX.refl [p] μ).upd (by simp)).free ha).free hq).free ht).upd (by simp)).free hr).upd (by simp)).free hs
    · rintro i ρ' μ' _ ⟨pl, rest, c', x3, rfl, g1, g2, g3, g4, g5, g6, g7, g8, g9, g10, g11⟩
      rw [g10]; rfl
    · rintro i x ρ' μ' hx ⟨pl, rest, c', x3, rfl, g1, g2, g3, g4, g5, g6, g7, g8, g9, g10, g11⟩
      rw [List.getElem?_map] at hx
      obtain ⟨z, hz, rfl⟩ : ∃ z, ts[i]? = some z ∧ x = .str z := by
        cases e : ts[i]? with
        | none => rw [e] at hx; cases hx
        | some z => rw [e] at hx; cases hx; exact ⟨z, rfl, rfl⟩
      have hi : i < ts.length := (List.getElem?_eq_some_iff.mp hz).1
      have lpl : pl.length = i := by
        have := congrArg List.length g1
        rw [List.length_map, List.length_take] at this
        omega
      simp only [aSeq, aIf, aRet, aRetN, aDrop, aAsg, aNext, aPar, agName, agTup, agCons, agNil, agSub, rSetA, aTest, aOp, aUn, aV, aC, aI, aI0, aU, aEq, aNe, aCons, aNil, aTup, aLst, aCB, aIfE, aNotV, aNotT, aAndV, aOrV, aAndT, aOrT, aChain, aIxL, aIxT, aIxS, aSl, aPart, aNoPart, aSlL, aSlT, aSlS, aCat, aCatT, aAddS, aDGet, aDIn, aDGet2, asDPut, aDNewK, aDNewT, aCall, aBM, aAppend, aPopAt, aLenS, aLenStr, aListOf, aTupleOf, aInt1, aMin2, aIsi, aIsN, aNotN, aCont, aBreak, aNever, aDisp, aPairs, kvs?, mergeD, EndA, D.eq2, D.isNon, D.key, D.items, ptrList, listM, seqAt, Cell.items, dGetM, dPutM, isDict, tyOf, kitD, updM_same, updM_upd, List.set_cons_zero, List.set_cons_succ, List.getElem?_cons_zero, List.getElem?_cons_succ, List.length_cons, List.length_nil, Option.map_some, Option.bind_some, Option.isSome_some, Option.isSome_none, Option.getD_some, Option.getD_none, List.foldl_cons, List.foldl_nil, decide_eq_true_eq, if_true, if_false, Bool.not_true, Bool.not_false, Bool.false_eq_true, true_and, and_true, Nat.reduceLT, Int.reduceLT, Int.reduceLE, ↓reduceIte, g9]
      refine ⟨p, _, c', rfl, g7, g6, by decide, by decide, fun m c4 m0 m1 hc4 => ?_⟩
      obtain ⟨m, rfl⟩ : ∃ i : Nat, m = (i : Int) := ⟨_, (Int.toNat_of_nonneg m0).symm⟩
      refine ⟨p, c4, a, m, rest, rfl, updM_same, hc4, by rw [updM_ne nap]; exact g8, by omega, by omega, by omega, fun sh rest' c5 μ2 er h1 h3 hf hc5 f1 f2 f3 => ?_⟩
      have f4 : μ2 q = some (.lst (pl.map rowD)) := f3.get (by simp [nqp, nqa]) (by rw [updM_ne nqp]; exact g9)
      have f5 : μ2 s = some (.lst (ts.map D.str)) := f3.get (by simp [nsp, nsa]) (by rw [updM_ne nsp]; exact g10)
      simp only [aSeq, aIf, aRet, aRetN, aDrop, aAsg, aNext, aPar, agName, agTup, agCons, agNil, agSub, rSetA, aTest, aOp, aUn, aV, aC, aI, aI0, aU, aEq, aNe, aCons, aNil, aTup, aLst, aCB, aIfE, aNotV, aNotT, aAndV, aOrV, aAndT, aOrT, aChain, aIxL, aIxT, aIxS, aSl, aPart, aNoPart, aSlL, aSlT, aSlS, aCat, aCatT, aAddS, aDGet, aDIn, aDGet2, asDPut, aDNewK, aDNewT, aCall, aBM, aAppend, aPopAt, aLenS, aLenStr, aListOf, aTupleOf, aInt1, aMin2, aIsi, aIsN, aNotN, aCont, aBreak, aNever, aDisp, aPairs, kvs?, mergeD, EndA, D.eq2, D.isNon, D.key, D.items, ptrList, listM, seqAt, Cell.items, dGetM, dPutM, isDict, tyOf, kitD, updM_same, updM_upd, List.set_cons_zero, List.set_cons_succ, List.getElem?_cons_zero, List.getElem?_cons_succ, List.length_cons, List.length_nil, Option.map_some, Option.bind_some, Option.isSome_some, Option.isSome_none, Option.getD_some, Option.getD_none, List.foldl_cons, List.foldl_nil, decide_eq_true_eq, if_true, if_false, Bool.not_true, Bool.not_false, Bool.false_eq_true, true_and, and_true, Nat.reduceLT, Int.reduceLT, Int.reduceLE, ↓reduceIte, f4]
      refine ⟨by decide, by rw [List.length_map]; omega, pl ++ [(z, sh)], rest', c5, _, rfl, ?_, ?_, ?_, ?_, ?_, hc5, ?_, ?_, ?_, ?_, ?_⟩
      · rw [List.map_append, g1, List.take_add_one, hz]; rfl
      · intro r hr
        rcases List.mem_append.mp hr with h | h
        · exact g2 r h
        · rw [List.mem_singleton.mp h]; exact ⟨h1, h3, m, by omega, hf⟩
      · unfold codesOf at g3 ⊢
        rw [List.flatMap_append, List.flatMap_singleton, List.append_assoc]
        rw [er] at g3
        exact g3
      · rw [er, List.length_append, List.length_map] at g4; omega
      · rw [er, List.length_append] at g5; omega
      · rw [updM_ne nqp.symm]; exact f1
      · rw [updM_ne nqa.symm]; exact f2
      · rw [updM_same, List.map_append]; rfl
      · rw [updM_ne nsq]; exact f5
      · refine MleX.free ?_ hq
        intro b hb o hbo
        by_cases ea : b = a
        · subst ea; rw [ha] at hbo; cases hbo
        · exact f3 b (by simp at hb ⊢; exact ⟨hb, ea⟩) o (by rw [updM_ne (by simpa using hb)]; exact g11 b hb o hbo)
    · rintro ρ' μ' ⟨pl, rest, c', x3, rfl, g1, g2, g3, g4, g5, g6, g7, g8, g9, g10, g11⟩
      rw [List.length_map, List.take_length] at g1
      have lpl : pl.length = 1 + j := by rw [← lt, ← g1, List.length_map]
      simp only [aSeq, aIf, aRet, aRetN, aDrop, aAsg, aNext, aPar, agName, agTup, agCons, agNil, agSub, rSetA, aTest, aOp, aUn, aV, aC, aI, aI0, aU, aEq, aNe, aCons, aNil, aTup, aLst, aCB, aIfE, aNotV, aNotT, aAndV, aOrV, aAndT, aOrT, aChain, aIxL, aIxT, aIxS, aSl, aPart, aNoPart, aSlL, aSlT, aSlS, aCat, aCatT, aAddS, aDGet, aDIn, aDGet2, asDPut, aDNewK, aDNewT, aCall, aBM, aAppend, aPopAt, aLenS, aLenStr, aListOf, aTupleOf, aInt1, aMin2, aIsi, aIsN, aNotN, aCont, aBreak, aNever, aDisp, aPairs, kvs?, mergeD, EndA, D.eq2, D.isNon, D.key, D.items, ptrList, listM, seqAt, Cell.items, dGetM, dPutM, isDict, tyOf, kitD, updM_same, updM_upd, List.set_cons_zero, List.set_cons_succ, List.getElem?_cons_zero, List.getElem?_cons_succ, List.length_cons, List.length_nil, Option.map_some, Option.bind_some, Option.isSome_some, Option.isSome_none, Option.getD_some, Option.getD_none, List.foldl_cons, List.foldl_nil, decide_eq_true_eq, if_true, if_false, Bool.not_true, Bool.not_false, Bool.false_eq_true, true_and, and_true, Nat.reduceLT, Int.reduceLT, Int.reduceLE, ↓reduceIte, g9]
      exact ⟨_, (g11.put g7).mle, k pl c' ⟨fun r hr => tin _ (by rw [← g1]; exact List.mem_map_of_mem hr), by rw [g1]; exact ndt, g2, g3.sub (List.sublist_append_left _ _)⟩ (by omega) (by omega) g6⟩
end
end M53

set_option maxHeartbeats 4000000
namespace M53
open PySem PySem.Spec PyProof.Rows L2 Evl Gd DL
/-! ### the program: numbers, fields, names, rows -/
def RES : List Str := ["mod", "macro", "endmacro", "repeat", "endrepeat", "if", "ifsame", "else", "endif", "set", "section", "byte", "word", "long", "text", "space", "align", "scope", "endscope", "export", "import"]
structure Ty (K : PySem.W.Frag) (w : World) (mg : Str → Option Value) : Prop where
  g_LARGEST : ∃ t, mg "LARGEST" = some (.int 18446744073709551616 t)
  g_LAST_CELL : ∃ t, mg "LAST_CELL" = some (.int 255 t)
  g_MOST_IN_NAME : ∃ t, mg "MOST_IN_NAME" = some (.int 40 t)
  g_MOST_ROWS : ∃ t, mg "MOST_ROWS" = some (.int 100 t)
  g_MOST_FORMS : ∃ t, mg "MOST_FORMS" = some (.int 6 t)
  g_MOST_IN_OPCODE : ∃ t, mg "MOST_IN_OPCODE" = some (.int 3 t)
  g_MOST_OPERANDS : ∃ t, mg "MOST_OPERANDS" = some (.int 4 t)
  g_WIDTHS : ∃ a, mg "WIDTHS" = some (.ref a) ∧ (a == sysModules) = false ∧ ∀ z ∈ FIELDS, KDct K w a z (.int (fw (.str z)))
  g_RESERVED : ∃ a, mg "RESERVED" = some (.ref a) ∧ ∀ H : Hp, SqT K H a (RES.map V.str)
section
variable {P : Program} {w : World} {K : PySem.W.Frag} {mg : Str → Option Value} {base : Heap}
theorem len2 : (((0 + 1 + 1 : Nat) : Int) = 2) = True := eq_true rfl
def ctTrue (R : D → Prop) : Ct := fun ds μ Q => ∃ d, ds = [d] ∧ R d ∧ Q (.bl true) μ
theorem true_len {R : D → Prop} {ds : List D} {μ : Mu} {Q : DK} (h : ctTrue R ds μ Q) : ds.length = 1 := by
  obtain ⟨d, rfl, _⟩ := h
  rfl
def IsInt (d : D) : Prop := ∃ v : Int, d = .int v
def IsVal (d : D) : Prop := ∃ v : Int, d = .int v ∧ -LARG ≤ v ∧ v ≤ LARG
def N_is_number : List Str := ["value"]
abbrev s_is_number : Stmt := top 11
theorem sc_is_number : FnScope N_is_number ["value"] (defScope s_is_number) := ⟨rfl, rfl, rfl, by decide +kernel, rfl, by decide +kernel, by decide +kernel⟩
theorem ok_is_number {f : Addr} {fd : FuncData} (F : Fun K "is_number" "is_number" s_is_number f fd) (T : Tx K mg) : FnOk P w K mg base CX0 1 f fd ["value"] (spOf (ctTrue IsInt)) := by
  refine okD F sc_is_number (fun ds μ Q h => true_len h) (fun cdv A outer s H E hr => ⟨_, (qss_one (qs_ret (qe_and (qe_callB cq_isi (by rfl) T.b_isinstance (by decide +kernel) (qa_cons (qv 0) (qa_cons (qe_bT (T := "int") (by rfl) T.b_int (by decide +kernel)) qa_nil))) (qe_one (qe_not (qe_callB cq_isi (by rfl) T.b_isinstance (by decide +kernel) (qa_cons (qv 0) (qa_cons (qe_bT (T := "bool") (by rfl) T.b_bool (by decide +kernel)) qa_nil)))))))), ?_⟩)
  rintro ds μ Q ⟨d, rfl, ⟨v, rfl⟩, k⟩
  show (_ : AS) (EndA Q) [some (.int v)] μ
  simp only [aSeq, aIf, aRet, aRetN, aDrop, aAsg, aNext, aPar, agName, agTup, agCons, agNil, agSub, rSetA, aTest, aOp, aUn, aV, aC, aI, aI0, aU, aEq, aNe, aCons, aNil, aTup, aLst, aCB, aIfE, aNotV, aNotT, aAndV, aOrV, aAndT, aOrT, aChain, aIxL, aIxT, aIxS, aSl, aPart, aNoPart, aSlL, aSlT, aSlS, aCat, aCatT, aAddS, aDGet, aDIn, aDGet2, asDPut, aDNewK, aDNewT, aCall, aBM, aAppend, aPopAt, aLenS, aLenStr, aListOf, aTupleOf, aInt1, aMin2, aIsi, aIsN, aNotN, aCont, aBreak, aNever, aDisp, aPairs, kvs?, mergeD, EndA, D.eq2, D.isNon, D.key, D.items, ptrList, listM, seqAt, Cell.items, dGetM, dPutM, isDict, tyOf, kitD, updM_same, updM_upd, List.set_cons_zero, List.set_cons_succ, List.getElem?_cons_zero, List.getElem?_cons_succ, List.length_cons, List.length_nil, Option.map_some, Option.bind_some, Option.isSome_some, Option.isSome_none, Option.getD_some, Option.getD_none, List.foldl_cons, List.foldl_nil, decide_eq_true_eq, if_true, if_false, Bool.not_true, Bool.not_false, Bool.false_eq_true, true_and, and_true, Nat.reduceLT, Int.reduceLT, Int.reduceLE, ↓reduceIte]
  exact ⟨_, Mle.refl _, k⟩
def N_is_value : List Str := ["value"]
abbrev s_is_value : Stmt := top 12
theorem sc_is_value : FnScope N_is_value ["value"] (defScope s_is_value) := ⟨rfl, rfl, rfl, by decide +kernel, rfl, by decide +kernel, by decide +kernel⟩
theorem ok_is_value {f : Addr} {fd : FuncData} (F : Fun K "is_value" "is_value" s_is_value f fd) (T : Tx K mg) (Y : Ty K w mg) (D_is_number : Df P w K mg base CX0 1 "is_number" ["value"] (spOf (ctTrue IsInt))) : FnOk P w K mg base CX0 2 f fd ["value"] (spOf (ctTrue IsVal)) := by
  obtain ⟨_, g_LARGEST⟩ := Y.g_LARGEST
  refine okD F sc_is_value (fun ds μ Q h => true_len h) (fun cdv A outer s H E hr => ⟨_, (qss_one (qs_ret (qe_and (qe_df D_is_number (hr.mono (by decide)) rfl (qa_cons (qv 0) qa_nil)) (qe_one (qe_chain oq_le oq_le (qe_un uq_neg (qe_gI rfl g_LARGEST)) (qv 0) (qe_gI rfl g_LARGEST)))))), ?_⟩)
  rintro ds μ Q ⟨d, rfl, ⟨v, rfl, h1, h2⟩, k⟩
  unfold LARG at h1 h2
  show (_ : AS) (EndA Q) [some (.int v)] μ
  simp only [aSeq, aIf, aRet, aRetN, aDrop, aAsg, aNext, aPar, agName, agTup, agCons, agNil, agSub, rSetA, aTest, aOp, aUn, aV, aC, aI, aI0, aU, aEq, aNe, aCons, aNil, aTup, aLst, aCB, aIfE, aNotV, aNotT, aAndV, aOrV, aAndT, aOrT, aChain, aIxL, aIxT, aIxS, aSl, aPart, aNoPart, aSlL, aSlT, aSlS, aCat, aCatT, aAddS, aDGet, aDIn, aDGet2, asDPut, aDNewK, aDNewT, aCall, aBM, aAppend, aPopAt, aLenS, aLenStr, aListOf, aTupleOf, aInt1, aMin2, aIsi, aIsN, aNotN, aCont, aBreak, aNever, aDisp, aPairs, kvs?, mergeD, EndA, D.eq2, D.isNon, D.key, D.items, ptrList, listM, seqAt, Cell.items, dGetM, dPutM, isDict, tyOf, kitD, updM_same, updM_upd, List.set_cons_zero, List.set_cons_succ, List.getElem?_cons_zero, List.getElem?_cons_succ, List.length_cons, List.length_nil, Option.map_some, Option.bind_some, Option.isSome_some, Option.isSome_none, Option.getD_some, Option.getD_none, List.foldl_cons, List.foldl_nil, decide_eq_true_eq, if_true, if_false, Bool.not_true, Bool.not_false, Bool.false_eq_true, true_and, and_true, Nat.reduceLT, Int.reduceLT, Int.reduceLE, ↓reduceIte]
  exact ⟨_, rfl, ⟨v, rfl⟩, by
    simp only [aSeq, aIf, aRet, aRetN, aDrop, aAsg, aNext, aPar, agName, agTup, agCons, agNil, agSub, rSetA, aTest, aOp, aUn, aV, aC, aI, aI0, aU, aEq, aNe, aCons, aNil, aTup, aLst, aCB, aIfE, aNotV, aNotT, aAndV, aOrV, aAndT, aOrT, aChain, aIxL, aIxT, aIxS, aSl, aPart, aNoPart, aSlL, aSlT, aSlS, aCat, aCatT, aAddS, aDGet, aDIn, aDGet2, asDPut, aDNewK, aDNewT, aCall, aBM, aAppend, aPopAt, aLenS, aLenStr, aListOf, aTupleOf, aInt1, aMin2, aIsi, aIsN, aNotN, aCont, aBreak, aNever, aDisp, aPairs, kvs?, mergeD, EndA, D.eq2, D.isNon, D.key, D.items, ptrList, listM, seqAt, Cell.items, dGetM, dPutM, isDict, tyOf, kitD, updM_same, updM_upd, List.set_cons_zero, List.set_cons_succ, List.getElem?_cons_zero, List.getElem?_cons_succ, List.length_cons, List.length_nil, Option.map_some, Option.bind_some, Option.isSome_some, Option.isSome_none, Option.getD_some, Option.getD_none, List.foldl_cons, List.foldl_nil, decide_eq_true_eq, if_true, if_false, Bool.not_true, Bool.not_false, Bool.false_eq_true, true_and, and_true, Nat.reduceLT, Int.reduceLT, Int.reduceLE, ↓reduceIte, h1, h2, decide_true]
    exact ⟨_, Mle.refl _, k⟩⟩
def IsCells (d : D) : Prop := ∃ c : List Int, d = codeD c ∧ ∀ x ∈ c, 0 ≤ x ∧ x ≤ 255
def N_are_cells : List Str := ["values", "value"]
abbrev s_are_cells : Stmt := top 19
theorem sc_are_cells : FnScope N_are_cells ["values"] (defScope s_are_cells) := ⟨rfl, rfl, rfl, by decide +kernel, rfl, by decide +kernel, by decide +kernel⟩
theorem ok_are_cells {f : Addr} {fd : FuncData} (F : Fun K "are_cells" "are_cells" s_are_cells f fd) (T : Tx K mg) (Y : Ty K w mg) : FnOk P w K mg base CX0 1 f fd ["values"] (spOf (ctTrue IsCells)) := by
  obtain ⟨_, g_LAST_CELL⟩ := Y.g_LAST_CELL
  refine okD F sc_are_cells (fun ds μ Q h => true_len h) (fun cdv A outer s H E hr => ⟨_, (qss_cons (qs_for PassesOwn.never rfl (qi_tup (qv 0)) (qg_name (i := 1) sc_are_cells.nd rfl (Or.inl rfl))
    (qss_one (qs_if (QW.pt (qw_or (qt_not (qt_val (qe_callB cq_isi (by rfl) T.b_isinstance (by decide +kernel) (qa_cons (qv 1) (qa_cons (qe_bT (T := "int") (by rfl) T.b_int (by decide +kernel)) qa_nil))))) (qw_or (qt_cmpR oq_isB (qv 1) qe_bl (nomark _)) (qw_or (qt_cmpR oq_isB (qv 1) qe_bl (nomark _)) (qw_or1 (qt_not (qt_chain oq_le oq_le qe_int (qv 1) (qe_gI rfl g_LAST_CELL))))))))
        (qss_one (qs_ret qe_bl))
        qss_nil)))
  (qss_one (qs_ret qe_bl))), ?_⟩)
  rintro ds μ Q ⟨d, rfl, ⟨c, rfl, hc⟩, k⟩
  show (_ : AS) (EndA Q) [some (codeD c), none] μ
  simp only [aSeq, aIf, aRet, aRetN, aDrop, aAsg, aNext, aPar, agName, agTup, agCons, agNil, agSub, rSetA, aTest, aOp, aUn, aV, aC, aI, aI0, aU, aEq, aNe, aCons, aNil, aTup, aLst, aCB, aIfE, aNotV, aNotT, aAndV, aOrV, aAndT, aOrT, aChain, aIxL, aIxT, aIxS, aSl, aPart, aNoPart, aSlL, aSlT, aSlS, aCat, aCatT, aAddS, aDGet, aDIn, aDGet2, asDPut, aDNewK, aDNewT, aCall, aBM, aAppend, aPopAt, aLenS, aLenStr, aListOf, aTupleOf, aInt1, aMin2, aIsi, aIsN, aNotN, aCont, aBreak, aNever, aDisp, aPairs, kvs?, mergeD, EndA, D.eq2, D.isNon, D.key, D.items, ptrList, listM, seqAt, Cell.items, dGetM, dPutM, isDict, tyOf, kitD, updM_same, updM_upd, List.set_cons_zero, List.set_cons_succ, List.getElem?_cons_zero, List.getElem?_cons_succ, List.length_cons, List.length_nil, Option.map_some, Option.bind_some, Option.isSome_some, Option.isSome_none, Option.getD_some, Option.getD_none, List.foldl_cons, List.foldl_nil, decide_eq_true_eq, if_true, if_false, Bool.not_true, Bool.not_false, Bool.false_eq_true, true_and, and_true, Nat.reduceLT, Int.reduceLT, Int.reduceLE, ↓reduceIte, aFor, aITup, codeD]
  refine ⟨fun i ρ' μ' => μ' = μ ∧ ∃ x, ρ' = [some (codeD c), x], ⟨rfl, none, rfl⟩, fun _ _ _ _ _ => trivial, ?_, ?_⟩
  · rintro i x ρ' μ' hx ⟨rfl, y, rfl⟩
    rw [List.getElem?_map] at hx
    obtain ⟨v, hv, rfl⟩ := Option.map_eq_some_iff.mp hx
    obtain ⟨h1, h2⟩ := hc v (List.mem_of_getElem? hv)
    simp only [aSeq, aIf, aRet, aRetN, aDrop, aAsg, aNext, aPar, agName, agTup, agCons, agNil, agSub, rSetA, aTest, aOp, aUn, aV, aC, aI, aI0, aU, aEq, aNe, aCons, aNil, aTup, aLst, aCB, aIfE, aNotV, aNotT, aAndV, aOrV, aAndT, aOrT, aChain, aIxL, aIxT, aIxS, aSl, aPart, aNoPart, aSlL, aSlT, aSlS, aCat, aCatT, aAddS, aDGet, aDIn, aDGet2, asDPut, aDNewK, aDNewT, aCall, aBM, aAppend, aPopAt, aLenS, aLenStr, aListOf, aTupleOf, aInt1, aMin2, aIsi, aIsN, aNotN, aCont, aBreak, aNever, aDisp, aPairs, kvs?, mergeD, EndA, D.eq2, D.isNon, D.key, D.items, ptrList, listM, seqAt, Cell.items, dGetM, dPutM, isDict, tyOf, kitD, updM_same, updM_upd, List.set_cons_zero, List.set_cons_succ, List.getElem?_cons_zero, List.getElem?_cons_succ, List.length_cons, List.length_nil, Option.map_some, Option.bind_some, Option.isSome_some, Option.isSome_none, Option.getD_some, Option.getD_none, List.foldl_cons, List.foldl_nil, decide_eq_true_eq, if_true, if_false, Bool.not_true, Bool.not_false, Bool.false_eq_true, true_and, and_true, Nat.reduceLT, Int.reduceLT, Int.reduceLE, ↓reduceIte, aIsB, h1, h2, decide_true]
    exact ⟨_, rfl⟩
  · rintro ρ' μ' ⟨rfl, y, rfl⟩
    exact ⟨_, Mle.refl _, k⟩
def N_is_field : List Str := ["value"]
abbrev s_is_field : Stmt := top 20
theorem sc_is_field : FnScope N_is_field ["value"] (defScope s_is_field) := ⟨rfl, rfl, rfl, by decide +kernel, rfl, by decide +kernel, by decide +kernel⟩
theorem ok_is_field {f : Addr} {fd : FuncData} (F : Fun K "is_field" "is_field" s_is_field f fd) (T : Tx K mg) (Y : Ty K w mg) (D_is_value : Df P w K mg base CX0 2 "is_value" ["value"] (spOf (ctTrue IsVal))) : FnOk P w K mg base CX0 3 f fd ["value"] (spOf (ctTrue FldOk)) := by
  obtain ⟨aW, g_WIDTHS, lW, hW⟩ := Y.g_WIDTHS
  refine okD F sc_is_field (fun ds μ Q h => true_len h) (fun cdv A outer s H E hr => ⟨_, (qss_cons (qs_if (qt_val (qe_callB cq_isi (by rfl) T.b_isinstance (by decide +kernel) (qa_cons (qv 0) (qa_cons (qe_bT (T := "tuple") (by rfl) T.b_tuple (by decide +kernel)) qa_nil))))
    (qss_one (qs_ret (qe_and (qe_cmpR oq_eq (qe_callB cq_len (by rfl) T.b_len (by decide +kernel) (qa_cons (qv 0) qa_nil)) qe_int (nomark _)) (qe_and (qe_cmpR oq_eq (qe_ix iq_tup (qv 0) qe_int (fun _ _ => rfl)) qe_str (nomark _)) (qe_one (qe_df D_is_value (hr.mono (by decide)) rfl (qa_cons (qe_ix iq_tup (qv 0) qe_int (fun _ _ => rfl)) qa_nil)))))))
    qss_nil)
  (qss_one (qs_ret (qe_and (qe_callB cq_isi (by rfl) T.b_isinstance (by decide +kernel) (qa_cons (qv 0) (qa_cons (qe_bT (T := "str") (by rfl) T.b_str (by decide +kernel)) qa_nil))) (qe_one (qe_cmpR oq_inKd (qv 0) (qe_gR rfl g_WIDTHS) rfl)))))), ?_⟩)
  rintro ds μ Q ⟨d, rfl, hd, k⟩
  show (_ : AS) (EndA Q) [some d] μ
  rcases hd with ⟨v, rfl, h1, h2⟩ | ⟨z, hz, rfl⟩
  · have i0 : atI [D.str "n", D.int v] 0 = some (D.str "n") := rfl
    have i1 : atI [D.str "n", D.int v] 1 = some (D.int v) := rfl
    simp only [aSeq, aIf, aRet, aRetN, aDrop, aAsg, aNext, aPar, agName, agTup, agCons, agNil, agSub, rSetA, aTest, aOp, aUn, aV, aC, aI, aI0, aU, aEq, aNe, aCons, aNil, aTup, aLst, aCB, aIfE, aNotV, aNotT, aAndV, aOrV, aAndT, aOrT, aChain, aIxL, aIxT, aIxS, aSl, aPart, aNoPart, aSlL, aSlT, aSlS, aCat, aCatT, aAddS, aDGet, aDIn, aDGet2, asDPut, aDNewK, aDNewT, aCall, aBM, aAppend, aPopAt, aLenS, aLenStr, aListOf, aTupleOf, aInt1, aMin2, aIsi, aIsN, aNotN, aCont, aBreak, aNever, aDisp, aPairs, kvs?, mergeD, EndA, D.eq2, D.isNon, D.key, D.items, ptrList, listM, seqAt, Cell.items, dGetM, dPutM, isDict, tyOf, kitD, updM_same, updM_upd, List.set_cons_zero, List.set_cons_succ, List.getElem?_cons_zero, List.getElem?_cons_succ, List.length_cons, List.length_nil, Option.map_some, Option.bind_some, Option.isSome_some, Option.isSome_none, Option.getD_some, Option.getD_none, List.foldl_cons, List.foldl_nil, decide_eq_true_eq, if_true, if_false, Bool.not_true, Bool.not_false, Bool.false_eq_true, true_and, and_true, Nat.reduceLT, Int.reduceLT, Int.reduceLE, ↓reduceIte, i0, i1]
    exact ⟨_, rfl, ⟨v, rfl, h1, h2⟩, _, Mle.refl _, k⟩
  · simp only [aSeq, aIf, aRet, aRetN, aDrop, aAsg, aNext, aPar, agName, agTup, agCons, agNil, agSub, rSetA, aTest, aOp, aUn, aV, aC, aI, aI0, aU, aEq, aNe, aCons, aNil, aTup, aLst, aCB, aIfE, aNotV, aNotT, aAndV, aOrV, aAndT, aOrT, aChain, aIxL, aIxT, aIxS, aSl, aPart, aNoPart, aSlL, aSlT, aSlS, aCat, aCatT, aAddS, aDGet, aDIn, aDGet2, asDPut, aDNewK, aDNewT, aCall, aBM, aAppend, aPopAt, aLenS, aLenStr, aListOf, aTupleOf, aInt1, aMin2, aIsi, aIsN, aNotN, aCont, aBreak, aNever, aDisp, aPairs, kvs?, mergeD, EndA, D.eq2, D.isNon, D.key, D.items, ptrList, listM, seqAt, Cell.items, dGetM, dPutM, isDict, tyOf, kitD, updM_same, updM_upd, List.set_cons_zero, List.set_cons_succ, List.getElem?_cons_zero, List.getElem?_cons_succ, List.length_cons, List.length_nil, Option.map_some, Option.bind_some, Option.isSome_some, Option.isSome_none, Option.getD_some, Option.getD_none, List.foldl_cons, List.foldl_nil, decide_eq_true_eq, if_true, if_false, Bool.not_true, Bool.not_false, Bool.false_eq_true, true_and, and_true, Nat.reduceLT, Int.reduceLT, Int.reduceLE, ↓reduceIte, aInKd]
    exact ⟨lW, ⟨_, hW z hz⟩, _, Mle.refl _, k⟩
def N_width_of : List Str := ["field"]
abbrev s_width_of : Stmt := top 21
theorem sc_width_of : FnScope N_width_of ["field"] (defScope s_width_of) := ⟨rfl, rfl, rfl, by decide +kernel, rfl, by decide +kernel, by decide +kernel⟩
theorem ok_width_of {f : Addr} {fd : FuncData} (F : Fun K "width_of" "width_of" s_width_of f fd) (T : Tx K mg) (Y : Ty K w mg) : FnOk P w K mg base CX0 1 f fd ["field"] (spOf ctWidth) := by
  obtain ⟨aW, g_WIDTHS, lW, hW⟩ := Y.g_WIDTHS
  refine okD F sc_width_of (fun ds μ Q h => ?_) (fun cdv A outer s H E hr => ⟨_, (qss_one (qs_ret (qe_ifExp (qt_val (qe_callB cq_isi (by rfl) T.b_isinstance (by decide +kernel) (qa_cons (qv 0) (qa_cons (qe_bT (T := "tuple") (by rfl) T.b_tuple (by decide +kernel)) qa_nil)))) qe_int (qe_ix iq_kdict (qe_gR rfl g_WIDTHS) (qv 0) (fun _ _ => rfl))))), ?_⟩)
  · obtain ⟨d, rfl, _⟩ := h
    rfl
  rintro ds μ Q ⟨d, rfl, hd, k⟩
  show (_ : AS) (EndA Q) [some d] μ
  rcases hd with ⟨v, rfl, h1, h2⟩ | ⟨z, hz, rfl⟩
  · simp only [aSeq, aIf, aRet, aRetN, aDrop, aAsg, aNext, aPar, agName, agTup, agCons, agNil, agSub, rSetA, aTest, aOp, aUn, aV, aC, aI, aI0, aU, aEq, aNe, aCons, aNil, aTup, aLst, aCB, aIfE, aNotV, aNotT, aAndV, aOrV, aAndT, aOrT, aChain, aIxL, aIxT, aIxS, aSl, aPart, aNoPart, aSlL, aSlT, aSlS, aCat, aCatT, aAddS, aDGet, aDIn, aDGet2, asDPut, aDNewK, aDNewT, aCall, aBM, aAppend, aPopAt, aLenS, aLenStr, aListOf, aTupleOf, aInt1, aMin2, aIsi, aIsN, aNotN, aCont, aBreak, aNever, aDisp, aPairs, kvs?, mergeD, EndA, D.eq2, D.isNon, D.key, D.items, ptrList, listM, seqAt, Cell.items, dGetM, dPutM, isDict, tyOf, kitD, updM_same, updM_upd, List.set_cons_zero, List.set_cons_succ, List.getElem?_cons_zero, List.getElem?_cons_succ, List.length_cons, List.length_nil, Option.map_some, Option.bind_some, Option.isSome_some, Option.isSome_none, Option.getD_some, Option.getD_none, List.foldl_cons, List.foldl_nil, decide_eq_true_eq, if_true, if_false, Bool.not_true, Bool.not_false, Bool.false_eq_true, true_and, and_true, Nat.reduceLT, Int.reduceLT, Int.reduceLE, ↓reduceIte]
    exact ⟨_, Mle.refl _, k⟩
  · simp only [aSeq, aIf, aRet, aRetN, aDrop, aAsg, aNext, aPar, agName, agTup, agCons, agNil, agSub, rSetA, aTest, aOp, aUn, aV, aC, aI, aI0, aU, aEq, aNe, aCons, aNil, aTup, aLst, aCB, aIfE, aNotV, aNotT, aAndV, aOrV, aAndT, aOrT, aChain, aIxL, aIxT, aIxS, aSl, aPart, aNoPart, aSlL, aSlT, aSlS, aCat, aCatT, aAddS, aDGet, aDIn, aDGet2, asDPut, aDNewK, aDNewT, aCall, aBM, aAppend, aPopAt, aLenS, aLenStr, aListOf, aTupleOf, aInt1, aMin2, aIsi, aIsN, aNotN, aCont, aBreak, aNever, aDisp, aPairs, kvs?, mergeD, EndA, D.eq2, D.isNon, D.key, D.items, ptrList, listM, seqAt, Cell.items, dGetM, dPutM, isDict, tyOf, kitD, updM_same, updM_upd, List.set_cons_zero, List.set_cons_succ, List.getElem?_cons_zero, List.getElem?_cons_succ, List.length_cons, List.length_nil, Option.map_some, Option.bind_some, Option.isSome_some, Option.isSome_none, Option.getD_some, Option.getD_none, List.foldl_cons, List.foldl_nil, decide_eq_true_eq, if_true, if_false, Bool.not_true, Bool.not_false, Bool.false_eq_true, true_and, and_true, Nat.reduceLT, Int.reduceLT, Int.reduceLE, ↓reduceIte, aIxKd]
    exact ⟨.int _, _, rfl, hW z hz, _, Mle.refl _, k⟩
/-! names -/
def NAMES : List Str := TITLES ++ [Str.ofString "other"]
def IsName (d : D) : Prop := ∃ z, z ∈ NAMES ∧ d = .str z
theorem name_facts : NAMES.all (fun z => Txt.isascii z && (Txt.isidentifier z && (decide (z.length ≤ 40) && !inV (.str z) (RES.map V.str)))) = true := by decide +kernel
theorem name_ok {z : Str} (h : z ∈ NAMES) : Txt.isascii z = true ∧ Txt.isidentifier z = true ∧ z.length ≤ 40 ∧ inV (.str z) (RES.map V.str) = false := by
  have := List.all_eq_true.mp name_facts z h
  simp only [Bool.and_eq_true, decide_eq_true_eq, Bool.not_eq_true'] at this
  exact this
def N_is_name : List Str := ["value"]
abbrev s_is_name : Stmt := top 28
theorem sc_is_name : FnScope N_is_name ["value"] (defScope s_is_name) := ⟨rfl, rfl, rfl, by decide +kernel, rfl, by decide +kernel, by decide +kernel⟩
theorem ok_is_name {f : Addr} {fd : FuncData} (F : Fun K "is_name" "is_name" s_is_name f fd) (T : Tx K mg) (Y : Ty K w mg) : FnOk P w K mg base CX0 1 f fd ["value"] (spOf (ctTrue IsName)) := by
  obtain ⟨_, g_MOST_IN_NAME⟩ := Y.g_MOST_IN_NAME
  refine okD F sc_is_name (fun ds μ Q h => true_len h) (fun cdv A outer s H E hr => ⟨_, (qss_one (qs_ret (qe_and (qe_callB cq_isi (by rfl) T.b_isinstance (by decide +kernel) (qa_cons (qv 0) (qa_cons (qe_bT (T := "str") (by rfl) T.b_str (by decide +kernel)) qa_nil))) (qe_and (qe_isascii (qv 0)) (qe_and (qe_isidentifier (qv 0)) (qe_one (qe_cmpR oq_le (qe_callB cq_len_str (by rfl) T.b_len (by decide +kernel) (qa_cons (qv 0) qa_nil)) (qe_gI rfl g_MOST_IN_NAME) (nomark _)))))))), ?_⟩)
  rintro ds μ Q ⟨d, rfl, ⟨z, hz, rfl⟩, k⟩
  obtain ⟨h1, h2, h3, _⟩ := name_ok hz
  show (_ : AS) (EndA Q) [some (.str z)] μ
  have h4 : decide ((z.length : Int) ≤ 40) = true := decide_eq_true (by omega)
  simp only [aSeq, aIf, aRet, aRetN, aDrop, aAsg, aNext, aPar, agName, agTup, agCons, agNil, agSub, rSetA, aTest, aOp, aUn, aV, aC, aI, aI0, aU, aEq, aNe, aCons, aNil, aTup, aLst, aCB, aIfE, aNotV, aNotT, aAndV, aOrV, aAndT, aOrT, aChain, aIxL, aIxT, aIxS, aSl, aPart, aNoPart, aSlL, aSlT, aSlS, aCat, aCatT, aAddS, aDGet, aDIn, aDGet2, asDPut, aDNewK, aDNewT, aCall, aBM, aAppend, aPopAt, aLenS, aLenStr, aListOf, aTupleOf, aInt1, aMin2, aIsi, aIsN, aNotN, aCont, aBreak, aNever, aDisp, aPairs, kvs?, mergeD, EndA, D.eq2, D.isNon, D.key, D.items, ptrList, listM, seqAt, Cell.items, dGetM, dPutM, isDict, tyOf, kitD, updM_same, updM_upd, List.set_cons_zero, List.set_cons_succ, List.getElem?_cons_zero, List.getElem?_cons_succ, List.length_cons, List.length_nil, Option.map_some, Option.bind_some, Option.isSome_some, Option.isSome_none, Option.getD_some, Option.getD_none, List.foldl_cons, List.foldl_nil, decide_eq_true_eq, if_true, if_false, Bool.not_true, Bool.not_false, Bool.false_eq_true, true_and, and_true, Nat.reduceLT, Int.reduceLT, Int.reduceLE, ↓reduceIte, aM0, h1, h2, h4]
  exact ⟨by omega, _, Mle.refl _, k⟩
def ctRes : Ct := fun ds μ Q => ∃ d, ds = [d] ∧ IsName d ∧ Q (.bl false) μ
def N_is_reserved : List Str := ["value"]
abbrev s_is_reserved : Stmt := top 29
theorem sc_is_reserved : FnScope N_is_reserved ["value"] (defScope s_is_reserved) := ⟨rfl, rfl, rfl, by decide +kernel, rfl, by decide +kernel, by decide +kernel⟩
theorem ok_is_reserved {f : Addr} {fd : FuncData} (F : Fun K "is_reserved" "is_reserved" s_is_reserved f fd) (T : Tx K mg) (Y : Ty K w mg) : FnOk P w K mg base CX0 1 f fd ["value"] (spOf ctRes) := by
  obtain ⟨aR, g_RESERVED, hR⟩ := Y.g_RESERVED
  refine okD F sc_is_reserved (fun ds μ Q h => ?_) (fun cdv A outer s H E hr => ⟨_, (qss_one (qs_ret (qe_and (qe_callB cq_isi (by rfl) T.b_isinstance (by decide +kernel) (qa_cons (qv 0) (qa_cons (qe_bT (T := "str") (by rfl) T.b_str (by decide +kernel)) qa_nil))) (qe_one (qe_cmpR (oq_inW (zs := RES) hR) (qv 0) (qe_gR rfl g_RESERVED) rfl))))), ?_⟩)
  · obtain ⟨d, rfl, _⟩ := h
    rfl
  rintro ds μ Q ⟨d, rfl, ⟨z, hz, rfl⟩, k⟩
  obtain ⟨_, _, _, h4⟩ := name_ok hz
  show (_ : AS) (EndA Q) [some (.str z)] μ
  simp only [aSeq, aIf, aRet, aRetN, aDrop, aAsg, aNext, aPar, agName, agTup, agCons, agNil, agSub, rSetA, aTest, aOp, aUn, aV, aC, aI, aI0, aU, aEq, aNe, aCons, aNil, aTup, aLst, aCB, aIfE, aNotV, aNotT, aAndV, aOrV, aAndT, aOrT, aChain, aIxL, aIxT, aIxS, aSl, aPart, aNoPart, aSlL, aSlT, aSlS, aCat, aCatT, aAddS, aDGet, aDIn, aDGet2, asDPut, aDNewK, aDNewT, aCall, aBM, aAppend, aPopAt, aLenS, aLenStr, aListOf, aTupleOf, aInt1, aMin2, aIsi, aIsN, aNotN, aCont, aBreak, aNever, aDisp, aPairs, kvs?, mergeD, EndA, D.eq2, D.isNon, D.key, D.items, ptrList, listM, seqAt, Cell.items, dGetM, dPutM, isDict, tyOf, kitD, updM_same, updM_upd, List.set_cons_zero, List.set_cons_succ, List.getElem?_cons_zero, List.getElem?_cons_succ, List.length_cons, List.length_nil, Option.map_some, Option.bind_some, Option.isSome_some, Option.isSome_none, Option.getD_some, Option.getD_none, List.foldl_cons, List.foldl_nil, decide_eq_true_eq, if_true, if_false, Bool.not_true, Bool.not_false, Bool.false_eq_true, true_and, and_true, Nat.reduceLT, Int.reduceLT, Int.reduceLE, ↓reduceIte, aInW, h4]
  exact ⟨_, Mle.refl _, k⟩
def N_is_free_name : List Str := ["value"]
abbrev s_is_free_name : Stmt := top 30
theorem sc_is_free_name : FnScope N_is_free_name ["value"] (defScope s_is_free_name) := ⟨rfl, rfl, rfl, by decide +kernel, rfl, by decide +kernel, by decide +kernel⟩
theorem ok_is_free_name {f : Addr} {fd : FuncData} (F : Fun K "is_free_name" "is_free_name" s_is_free_name f fd) (T : Tx K mg) (D_is_name : Df P w K mg base CX0 1 "is_name" ["value"] (spOf (ctTrue IsName))) (D_is_reserved : Df P w K mg base CX0 1 "is_reserved" ["value"] (spOf ctRes)) :
    FnOk P w K mg base CX0 2 f fd ["value"] (spOf (ctTrue IsName)) := by
  refine okD F sc_is_free_name (fun ds μ Q h => true_len h) (fun cdv A outer s H E hr => ⟨_, (qss_one (qs_ret (qe_and (qe_df D_is_name (hr.mono (by decide)) rfl (qa_cons (qv 0) qa_nil)) (qe_one (qe_not (qe_df D_is_reserved (hr.mono (by decide)) rfl (qa_cons (qv 0) qa_nil))))))), ?_⟩)
  rintro ds μ Q ⟨d, rfl, hd, k⟩
  show (_ : AS) (EndA Q) [some d] μ
  simp only [aSeq, aIf, aRet, aRetN, aDrop, aAsg, aNext, aPar, agName, agTup, agCons, agNil, agSub, rSetA, aTest, aOp, aUn, aV, aC, aI, aI0, aU, aEq, aNe, aCons, aNil, aTup, aLst, aCB, aIfE, aNotV, aNotT, aAndV, aOrV, aAndT, aOrT, aChain, aIxL, aIxT, aIxS, aSl, aPart, aNoPart, aSlL, aSlT, aSlS, aCat, aCatT, aAddS, aDGet, aDIn, aDGet2, asDPut, aDNewK, aDNewT, aCall, aBM, aAppend, aPopAt, aLenS, aLenStr, aListOf, aTupleOf, aInt1, aMin2, aIsi, aIsN, aNotN, aCont, aBreak, aNever, aDisp, aPairs, kvs?, mergeD, EndA, D.eq2, D.isNon, D.key, D.items, ptrList, listM, seqAt, Cell.items, dGetM, dPutM, isDict, tyOf, kitD, updM_same, updM_upd, List.set_cons_zero, List.set_cons_succ, List.getElem?_cons_zero, List.getElem?_cons_succ, List.length_cons, List.length_nil, Option.map_some, Option.bind_some, Option.isSome_some, Option.isSome_none, Option.getD_some, Option.getD_none, List.foldl_cons, List.foldl_nil, decide_eq_true_eq, if_true, if_false, Bool.not_true, Bool.not_false, Bool.false_eq_true, true_and, and_true, Nat.reduceLT, Int.reduceLT, Int.reduceLE, ↓reduceIte]
  exact ⟨_, rfl, hd, by
    simp only [aSeq, aIf, aRet, aRetN, aDrop, aAsg, aNext, aPar, agName, agTup, agCons, agNil, agSub, rSetA, aTest, aOp, aUn, aV, aC, aI, aI0, aU, aEq, aNe, aCons, aNil, aTup, aLst, aCB, aIfE, aNotV, aNotT, aAndV, aOrV, aAndT, aOrT, aChain, aIxL, aIxT, aIxS, aSl, aPart, aNoPart, aSlL, aSlT, aSlS, aCat, aCatT, aAddS, aDGet, aDIn, aDGet2, asDPut, aDNewK, aDNewT, aCall, aBM, aAppend, aPopAt, aLenS, aLenStr, aListOf, aTupleOf, aInt1, aMin2, aIsi, aIsN, aNotN, aCont, aBreak, aNever, aDisp, aPairs, kvs?, mergeD, EndA, D.eq2, D.isNon, D.key, D.items, ptrList, listM, seqAt, Cell.items, dGetM, dPutM, isDict, tyOf, kitD, updM_same, updM_upd, List.set_cons_zero, List.set_cons_succ, List.getElem?_cons_zero, List.getElem?_cons_succ, List.length_cons, List.length_nil, Option.map_some, Option.bind_some, Option.isSome_some, Option.isSome_none, Option.getD_some, Option.getD_none, List.foldl_cons, List.foldl_nil, decide_eq_true_eq, if_true, if_false, Bool.not_true, Bool.not_false, Bool.false_eq_true, true_and, and_true, Nat.reduceLT, Int.reduceLT, Int.reduceLE, ↓reduceIte]
    exact ⟨_, rfl, hd, by
      simp only [aSeq, aIf, aRet, aRetN, aDrop, aAsg, aNext, aPar, agName, agTup, agCons, agNil, agSub, rSetA, aTest, aOp, aUn, aV, aC, aI, aI0, aU, aEq, aNe, aCons, aNil, aTup, aLst, aCB, aIfE, aNotV, aNotT, aAndV, aOrV, aAndT, aOrT, aChain, aIxL, aIxT, aIxS, aSl, aPart, aNoPart, aSlL, aSlT, aSlS, aCat, aCatT, aAddS, aDGet, aDIn, aDGet2, asDPut, aDNewK, aDNewT, aCall, aBM, aAppend, aPopAt, aLenS, aLenStr, aListOf, aTupleOf, aInt1, aMin2, aIsi, aIsN, aNotN, aCont, aBreak, aNever, aDisp, aPairs, kvs?, mergeD, EndA, D.eq2, D.isNon, D.key, D.items, ptrList, listM, seqAt, Cell.items, dGetM, dPutM, isDict, tyOf, kitD, updM_same, updM_upd, List.set_cons_zero, List.set_cons_succ, List.getElem?_cons_zero, List.getElem?_cons_succ, List.length_cons, List.length_nil, Option.map_some, Option.bind_some, Option.isSome_some, Option.isSome_none, Option.getD_some, Option.getD_none, List.foldl_cons, List.foldl_nil, decide_eq_true_eq, if_true, if_false, Bool.not_true, Bool.not_false, Bool.false_eq_true, true_and, and_true, Nat.reduceLT, Int.reduceLT, Int.reduceLE, ↓reduceIte]
      exact ⟨_, Mle.refl _, k⟩⟩⟩
/-! forms and rows -/
structure FormOk (f : Form) : Prop where
  code : CodeOk f.code
  fs : ∀ d ∈ f.fs, FldOk d
  few : f.fs.length ≤ 4
def N_length_of : List Str := ["form", "opcode", "fields", "field"]
abbrev s_length_of : Stmt := top 36
theorem sc_length_of : FnScope N_length_of ["form"] (defScope s_length_of) := ⟨rfl, rfl, rfl, by decide +kernel, rfl, by decide +kernel, by decide +kernel⟩
theorem ok_length_of {f : Addr} {fd : FuncData} (F : Fun K "length_of" "length_of" s_length_of f fd) (T : Tx K mg) (D_width_of : Df P w K mg base CX0 1 "width_of" ["field"] (spOf ctWidth)) : FnOk P w K mg base CX0 2 f fd ["form"] (spOf ctLong) := by
  refine okD F sc_length_of (fun ds μ Q h => ?_) (fun cdv A outer s H E hr => ⟨_, (qss_cons (qs_asg (qv 0) (qg_tup rfl (qgs_cons (qg_name (i := 1) sc_length_of.nd rfl (Or.inl rfl)) (qgs_cons (qg_name (i := 2) sc_length_of.nd rfl (Or.inl rfl)) qgs_nil))))
  (qss_one (qs_ret (qe_op oq_add (qe_callB cq_len (by rfl) T.b_len (by decide +kernel) (qa_cons (qv 1) qa_nil)) (qe_callB (cq_sum rfl) (by rfl) T.b_sum (by decide +kernel) (qa_cons (qe_lc (own := [("field", 3)]) rfl sc_length_of.nd (qi_tup (qv 2)) (blkOk_by (N := N_length_of) (sc := defScope s_length_of) (by decide +kernel)) (fun _ _ _ _ _ => qg_name (i := 3) sc_length_of.nd rfl (Or.inl rfl)) (fun _ _ _ _ _ => qts_nil) (fun _ _ _ _ _ => (qe_df D_width_of (hr.mono (by decide)) rfl (qa_cons (qv 3) qa_nil)))) qa_nil)))))), ?_⟩)
  · obtain ⟨d, rfl, _⟩ := h
    rfl
  rintro ds μ Q ⟨f, rfl, hf, hl, k⟩
  show (_ : AS) (EndA Q) [some (formD f), none, none, none] μ
  simp only [aSeq, aIf, aRet, aRetN, aDrop, aAsg, aNext, aPar, agName, agTup, agCons, agNil, agSub, rSetA, aTest, aOp, aUn, aV, aC, aI, aI0, aU, aEq, aNe, aCons, aNil, aTup, aLst, aCB, aIfE, aNotV, aNotT, aAndV, aOrV, aAndT, aOrT, aChain, aIxL, aIxT, aIxS, aSl, aPart, aNoPart, aSlL, aSlT, aSlS, aCat, aCatT, aAddS, aDGet, aDIn, aDGet2, asDPut, aDNewK, aDNewT, aCall, aBM, aAppend, aPopAt, aLenS, aLenStr, aListOf, aTupleOf, aInt1, aMin2, aIsi, aIsN, aNotN, aCont, aBreak, aNever, aDisp, aPairs, kvs?, mergeD, EndA, D.eq2, D.isNon, D.key, D.items, ptrList, listM, seqAt, Cell.items, dGetM, dPutM, isDict, tyOf, kitD, updM_same, updM_upd, List.set_cons_zero, List.set_cons_succ, List.getElem?_cons_zero, List.getElem?_cons_succ, List.length_cons, List.length_nil, Option.map_some, Option.bind_some, Option.isSome_some, Option.isSome_none, Option.getD_some, Option.getD_none, List.foldl_cons, List.foldl_nil, decide_eq_true_eq, if_true, if_false, Bool.not_true, Bool.not_false, Bool.false_eq_true, true_and, and_true, Nat.reduceLT, Int.reduceLT, Int.reduceLE, ↓reduceIte, formD, codeD, List.length_map]
  refine ⟨rfl, ?_⟩
  refine aLc_pure (fun d => .int (fw d)) f.fs (fun _ => True) (fun R h => by simp only [aSeq, aIf, aRet, aRetN, aDrop, aAsg, aNext, aPar, agName, agTup, agCons, agNil, agSub, rSetA, aTest, aOp, aUn, aV, aC, aI, aI0, aU, aEq, aNe, aCons, aNil, aTup, aLst, aCB, aIfE, aNotV, aNotT, aAndV, aOrV, aAndT, aOrT, aChain, aIxL, aIxT, aIxS, aSl, aPart, aNoPart, aSlL, aSlT, aSlS, aCat, aCatT, aAddS, aDGet, aDIn, aDGet2, asDPut, aDNewK, aDNewT, aCall, aBM, aAppend, aPopAt, aLenS, aLenStr, aListOf, aTupleOf, aInt1, aMin2, aIsi, aIsN, aNotN, aCont, aBreak, aNever, aDisp, aPairs, kvs?, mergeD, EndA, D.eq2, D.isNon, D.key, D.items, ptrList, listM, seqAt, Cell.items, dGetM, dPutM, isDict, tyOf, kitD, updM_same, updM_upd, List.set_cons_zero, List.set_cons_succ, List.getElem?_cons_zero, List.getElem?_cons_succ, List.length_cons, List.length_nil, Option.map_some, Option.bind_some, Option.isSome_some, Option.isSome_none, Option.getD_some, Option.getD_none, List.foldl_cons, List.foldl_nil, decide_eq_true_eq, if_true, if_false, Bool.not_true, Bool.not_false, Bool.false_eq_true, true_and, and_true, Nat.reduceLT, Int.reduceLT, Int.reduceLE, ↓reduceIte, aITup]; exact h) (by omega) (fun _ _ => trivial) (fun x μ' hx _ Q' kk => ?_) fun p μ' hp hm hq => ?_
  · show (_ : AE) [some (formD f), some (codeD f.code), some (.tup f.fs), some x] μ' Q'
    simp only [aSeq, aIf, aRet, aRetN, aDrop, aAsg, aNext, aPar, agName, agTup, agCons, agNil, agSub, rSetA, aTest, aOp, aUn, aV, aC, aI, aI0, aU, aEq, aNe, aCons, aNil, aTup, aLst, aCB, aIfE, aNotV, aNotT, aAndV, aOrV, aAndT, aOrT, aChain, aIxL, aIxT, aIxS, aSl, aPart, aNoPart, aSlL, aSlT, aSlS, aCat, aCatT, aAddS, aDGet, aDIn, aDGet2, asDPut, aDNewK, aDNewT, aCall, aBM, aAppend, aPopAt, aLenS, aLenStr, aListOf, aTupleOf, aInt1, aMin2, aIsi, aIsN, aNotN, aCont, aBreak, aNever, aDisp, aPairs, kvs?, mergeD, EndA, D.eq2, D.isNon, D.key, D.items, ptrList, listM, seqAt, Cell.items, dGetM, dPutM, isDict, tyOf, kitD, updM_same, updM_upd, List.set_cons_zero, List.set_cons_succ, List.getElem?_cons_zero, List.getElem?_cons_succ, List.length_cons, List.length_nil, Option.map_some, Option.bind_some, Option.isSome_some, Option.isSome_none, Option.getD_some, Option.getD_none, List.foldl_cons, List.foldl_nil, decide_eq_true_eq, if_true, if_false, Bool.not_true, Bool.not_false, Bool.false_eq_true, true_and, and_true, Nat.reduceLT, Int.reduceLT, Int.reduceLE, ↓reduceIte]
    exact ⟨x, rfl, hf x hx, kk μ' (Mle.refl _)⟩
  · have e : (f.fs.map fun d => D.int (fw d)) = (f.fs.map fw).map D.int := by rw [List.map_map]; rfl
    simp only [aSeq, aIf, aRet, aRetN, aDrop, aAsg, aNext, aPar, agName, agTup, agCons, agNil, agSub, rSetA, aTest, aOp, aUn, aV, aC, aI, aI0, aU, aEq, aNe, aCons, aNil, aTup, aLst, aCB, aIfE, aNotV, aNotT, aAndV, aOrV, aAndT, aOrT, aChain, aIxL, aIxT, aIxS, aSl, aPart, aNoPart, aSlL, aSlT, aSlS, aCat, aCatT, aAddS, aDGet, aDIn, aDGet2, asDPut, aDNewK, aDNewT, aCall, aBM, aAppend, aPopAt, aLenS, aLenStr, aListOf, aTupleOf, aInt1, aMin2, aIsi, aIsN, aNotN, aCont, aBreak, aNever, aDisp, aPairs, kvs?, mergeD, EndA, D.eq2, D.isNon, D.key, D.items, ptrList, listM, seqAt, Cell.items, dGetM, dPutM, isDict, tyOf, kitD, updM_same, updM_upd, List.set_cons_zero, List.set_cons_succ, List.getElem?_cons_zero, List.getElem?_cons_succ, List.length_cons, List.length_nil, Option.map_some, Option.bind_some, Option.isSome_some, Option.isSome_none, Option.getD_some, Option.getD_none, List.foldl_cons, List.foldl_nil, decide_eq_true_eq, if_true, if_false, Bool.not_true, Bool.not_false, Bool.false_eq_true, true_and, and_true, Nat.reduceLT, Int.reduceLT, Int.reduceLE, ↓reduceIte, aSum, hq, e, DL.ints_map]
    exact ⟨μ, hm, k⟩
def IsRow (d : D) : Prop := ∃ r : Row, d = rowD r ∧ r.1 ∈ NAMES ∧ 1 ≤ r.2.length ∧ r.2.length ≤ 6
def N_is_row : List Str := ["value"]
abbrev s_is_row : Stmt := top 39
theorem sc_is_row : FnScope N_is_row ["value"] (defScope s_is_row) := ⟨rfl, rfl, rfl, by decide +kernel, rfl, by decide +kernel, by decide +kernel⟩
theorem ok_is_row {f : Addr} {fd : FuncData} (F : Fun K "_is_row" "_is_row" s_is_row f fd) (T : Tx K mg) (Y : Ty K w mg) (D_is_free_name : Df P w K mg base CX0 2 "is_free_name" ["value"] (spOf (ctTrue IsName))) : FnOk P w K mg base CX0 3 f fd ["value"] (spOf (ctTrue IsRow)) := by
  obtain ⟨_, g_MOST_FORMS⟩ := Y.g_MOST_FORMS
  refine okD F sc_is_row (fun ds μ Q h => true_len h) (fun cdv A outer s H E hr => ⟨_, (qss_cons (qs_if (QW.pt (qw_or (qt_not (qt_val (qe_callB cq_isi (by rfl) T.b_isinstance (by decide +kernel) (qa_cons (qv 0) (qa_cons (qe_bT (T := "tuple") (by rfl) T.b_tuple (by decide +kernel)) qa_nil))))) (qw_or (qt_cmpR oq_ne (qe_callB cq_len (by rfl) T.b_len (by decide +kernel) (qa_cons (qv 0) qa_nil)) qe_int (nomark _)) (qw_or1 (qt_not (qt_val (qe_df D_is_free_name (hr.mono (by decide)) rfl (qa_cons (qe_ix iq_tup (qv 0) qe_int (fun _ _ => rfl)) qa_nil)) (by intro _; rfl)))))))
    (qss_one (qs_ret qe_bl))
    qss_nil)
  (qss_one (qs_ret (qe_and (qe_callB cq_isi (by rfl) T.b_isinstance (by decide +kernel) (qa_cons (qe_ix iq_tup (qv 0) qe_int (fun _ _ => rfl)) (qa_cons (qe_bT (T := "tuple") (by rfl) T.b_tuple (by decide +kernel)) qa_nil))) (qe_one (qe_chain oq_le oq_le qe_int (qe_callB cq_len (by rfl) T.b_len (by decide +kernel) (qa_cons (qe_ix iq_tup (qv 0) qe_int (fun _ _ => rfl)) qa_nil)) (qe_gI rfl g_MOST_FORMS))))))), ?_⟩)
  rintro ds μ Q ⟨d, rfl, ⟨r, rfl, hr1, h1, h2⟩, k⟩
  show (_ : AS) (EndA Q) [some (rowD r)] μ
  have i0 : atI [D.str r.1, .tup (r.2.map formD)] 0 = some (.str r.1) := rfl
  have i1 : atI [D.str r.1, .tup (r.2.map formD)] 1 = some (.tup (r.2.map formD)) := rfl
  have d1 : (1 : Int) ≤ (r.2.length : Int) := by omega
  have d2 : (r.2.length : Int) ≤ 6 := by omega
  simp only [aSeq, aIf, aRet, aRetN, aDrop, aAsg, aNext, aPar, agName, agTup, agCons, agNil, agSub, rSetA, aTest, aOp, aUn, aV, aC, aI, aI0, aU, aEq, aNe, aCons, aNil, aTup, aLst, aCB, aIfE, aNotV, aNotT, aAndV, aOrV, aAndT, aOrT, aChain, aIxL, aIxT, aIxS, aSl, aPart, aNoPart, aSlL, aSlT, aSlS, aCat, aCatT, aAddS, aDGet, aDIn, aDGet2, asDPut, aDNewK, aDNewT, aCall, aBM, aAppend, aPopAt, aLenS, aLenStr, aListOf, aTupleOf, aInt1, aMin2, aIsi, aIsN, aNotN, aCont, aBreak, aNever, aDisp, aPairs, kvs?, mergeD, EndA, D.eq2, D.isNon, D.key, D.items, ptrList, listM, seqAt, Cell.items, dGetM, dPutM, isDict, tyOf, kitD, updM_same, updM_upd, List.set_cons_zero, List.set_cons_succ, List.getElem?_cons_zero, List.getElem?_cons_succ, List.length_cons, List.length_nil, Option.map_some, Option.bind_some, Option.isSome_some, Option.isSome_none, Option.getD_some, Option.getD_none, List.foldl_cons, List.foldl_nil, decide_eq_true_eq, if_true, if_false, Bool.not_true, Bool.not_false, Bool.false_eq_true, true_and, and_true, Nat.reduceLT, Int.reduceLT, Int.reduceLE, ↓reduceIte, rowD, i0, i1, len2, decide_true]
  exact ⟨_, rfl, ⟨_, hr1, rfl⟩, by
    simp only [aSeq, aIf, aRet, aRetN, aDrop, aAsg, aNext, aPar, agName, agTup, agCons, agNil, agSub, rSetA, aTest, aOp, aUn, aV, aC, aI, aI0, aU, aEq, aNe, aCons, aNil, aTup, aLst, aCB, aIfE, aNotV, aNotT, aAndV, aOrV, aAndT, aOrT, aChain, aIxL, aIxT, aIxS, aSl, aPart, aNoPart, aSlL, aSlT, aSlS, aCat, aCatT, aAddS, aDGet, aDIn, aDGet2, asDPut, aDNewK, aDNewT, aCall, aBM, aAppend, aPopAt, aLenS, aLenStr, aListOf, aTupleOf, aInt1, aMin2, aIsi, aIsN, aNotN, aCont, aBreak, aNever, aDisp, aPairs, kvs?, mergeD, EndA, D.eq2, D.isNon, D.key, D.items, ptrList, listM, seqAt, Cell.items, dGetM, dPutM, isDict, tyOf, kitD, updM_same, updM_upd, List.set_cons_zero, List.set_cons_succ, List.getElem?_cons_zero, List.getElem?_cons_succ, List.length_cons, List.length_nil, Option.map_some, Option.bind_some, Option.isSome_some, Option.isSome_none, Option.getD_some, Option.getD_none, List.foldl_cons, List.foldl_nil, decide_eq_true_eq, if_true, if_false, Bool.not_true, Bool.not_false, Bool.false_eq_true, true_and, and_true, Nat.reduceLT, Int.reduceLT, Int.reduceLE, ↓reduceIte, i1, List.length_map, d1, d2, decide_true]
    exact ⟨_, Mle.refl _, k⟩⟩
def IsForm (d : D) : Prop := ∃ f : Form, d = formD f ∧ FormOk f
def N_is_form : List Str := ["value", "opcode", "fields", "field"]
abbrev s_is_form : Stmt := top 40
theorem sc_is_form : FnScope N_is_form ["value"] (defScope s_is_form) := ⟨rfl, rfl, rfl, by decide +kernel, rfl, by decide +kernel, by decide +kernel⟩
theorem ok_is_form {f : Addr} {fd : FuncData} (F : Fun K "_is_form" "_is_form" s_is_form f fd) (T : Tx K mg) (Y : Ty K w mg) (D_are_cells : Df P w K mg base CX0 1 "are_cells" ["values"] (spOf (ctTrue IsCells))) (D_is_field : Df P w K mg base CX0 3 "is_field" ["value"] (spOf (ctTrue FldOk))) : FnOk P w K mg base CX0 4 f fd ["value"] (spOf (ctTrue IsForm)) := by
  obtain ⟨_, g_MOST_IN_OPCODE⟩ := Y.g_MOST_IN_OPCODE
  obtain ⟨_, g_MOST_OPERANDS⟩ := Y.g_MOST_OPERANDS
  refine okD F sc_is_form (fun ds μ Q h => true_len h) (fun cdv A outer s H E hr => ⟨_, (qss_cons (qs_if (QW.pt (qw_or (qt_not (qt_val (qe_callB cq_isi (by rfl) T.b_isinstance (by decide +kernel) (qa_cons (qv 0) (qa_cons (qe_bT (T := "tuple") (by rfl) T.b_tuple (by decide +kernel)) qa_nil))))) (qw_or1 (qt_cmpR oq_ne (qe_callB cq_len (by rfl) T.b_len (by decide +kernel) (qa_cons (qv 0) qa_nil)) qe_int (nomark _)))))
    (qss_one (qs_ret qe_bl))
    qss_nil)
  (qss_cons (qs_asg (qv 0) (qg_tup rfl (qgs_cons (qg_name (i := 1) sc_is_form.nd rfl (Or.inl rfl)) (qgs_cons (qg_name (i := 2) sc_is_form.nd rfl (Or.inl rfl)) qgs_nil))))
  (qss_cons (qs_if (QW.pt (qw_or (qt_not (qt_val (qe_callB cq_isi (by rfl) T.b_isinstance (by decide +kernel) (qa_cons (qv 1) (qa_cons (qe_bT (T := "tuple") (by rfl) T.b_tuple (by decide +kernel)) qa_nil))))) (qw_or1 (qt_not (qt_val (qe_callB cq_isi (by rfl) T.b_isinstance (by decide +kernel) (qa_cons (qv 2) (qa_cons (qe_bT (T := "tuple") (by rfl) T.b_tuple (by decide +kernel)) qa_nil))))))))
    (qss_one (qs_ret qe_bl))
    qss_nil)
  (qss_cons (qs_if (QW.pt (qw_or (qt_not (qt_chain oq_le oq_le qe_int (qe_callB cq_len (by rfl) T.b_len (by decide +kernel) (qa_cons (qv 1) qa_nil)) (qe_gI rfl g_MOST_IN_OPCODE))) (qw_or1 (qt_cmpR oq_gt (qe_callB cq_len (by rfl) T.b_len (by decide +kernel) (qa_cons (qv 2) qa_nil)) (qe_gI rfl g_MOST_OPERANDS) (nomark _)))))
    (qss_one (qs_ret qe_bl))
    qss_nil)
  (qss_one (qs_ret (qe_and (qe_df D_are_cells (hr.mono (by decide)) rfl (qa_cons (qv 1) qa_nil)) (qe_one (qe_callB (cq_all rfl) (by rfl) T.b_all (by decide +kernel) (qa_cons (qe_lc (own := [("field", 3)]) rfl sc_is_form.nd (qi_tup (qv 2)) (blkOk_by (N := N_is_form) (sc := defScope s_is_form) (by decide +kernel)) (fun _ _ _ _ _ => qg_name (i := 3) sc_is_form.nd rfl (Or.inl rfl)) (fun _ _ _ _ _ => qts_nil) (fun _ _ _ _ _ => (qe_df D_is_field (hr.mono (by decide)) rfl (qa_cons (qv 3) qa_nil)))) qa_nil)))))))))), ?_⟩)
  rintro ds μ Q ⟨d, rfl, ⟨f, rfl, hf⟩, k⟩
  show (_ : AS) (EndA Q) [some (formD f), none, none, none] μ
  obtain ⟨c1, c2, c3⟩ := hf.code
  have d1 : (1 : Int) ≤ (f.code.length : Int) := by omega
  have d2 : (f.code.length : Int) ≤ 3 := by omega
  have d3 : ((4 : Int) < (f.fs.length : Int)) = False := eq_false (by have := hf.few; omega)
  simp only [aSeq, aIf, aRet, aRetN, aDrop, aAsg, aNext, aPar, agName, agTup, agCons, agNil, agSub, rSetA, aTest, aOp, aUn, aV, aC, aI, aI0, aU, aEq, aNe, aCons, aNil, aTup, aLst, aCB, aIfE, aNotV, aNotT, aAndV, aOrV, aAndT, aOrT, aChain, aIxL, aIxT, aIxS, aSl, aPart, aNoPart, aSlL, aSlT, aSlS, aCat, aCatT, aAddS, aDGet, aDIn, aDGet2, asDPut, aDNewK, aDNewT, aCall, aBM, aAppend, aPopAt, aLenS, aLenStr, aListOf, aTupleOf, aInt1, aMin2, aIsi, aIsN, aNotN, aCont, aBreak, aNever, aDisp, aPairs, kvs?, mergeD, EndA, D.eq2, D.isNon, D.key, D.items, ptrList, listM, seqAt, Cell.items, dGetM, dPutM, isDict, tyOf, kitD, updM_same, updM_upd, List.set_cons_zero, List.set_cons_succ, List.getElem?_cons_zero, List.getElem?_cons_succ, List.length_cons, List.length_nil, Option.map_some, Option.bind_some, Option.isSome_some, Option.isSome_none, Option.getD_some, Option.getD_none, List.foldl_cons, List.foldl_nil, decide_eq_true_eq, if_true, if_false, Bool.not_true, Bool.not_false, Bool.false_eq_true, true_and, and_true, Nat.reduceLT, Int.reduceLT, Int.reduceLE, ↓reduceIte, formD, codeD, List.length_map, len2, decide_true, d1, d2, d3]
  refine ⟨rfl, ?_⟩
  refine ⟨_, rfl, ⟨f.code, rfl, c3⟩, ?_⟩
  simp only [aSeq, aIf, aRet, aRetN, aDrop, aAsg, aNext, aPar, agName, agTup, agCons, agNil, agSub, rSetA, aTest, aOp, aUn, aV, aC, aI, aI0, aU, aEq, aNe, aCons, aNil, aTup, aLst, aCB, aIfE, aNotV, aNotT, aAndV, aOrV, aAndT, aOrT, aChain, aIxL, aIxT, aIxS, aSl, aPart, aNoPart, aSlL, aSlT, aSlS, aCat, aCatT, aAddS, aDGet, aDIn, aDGet2, asDPut, aDNewK, aDNewT, aCall, aBM, aAppend, aPopAt, aLenS, aLenStr, aListOf, aTupleOf, aInt1, aMin2, aIsi, aIsN, aNotN, aCont, aBreak, aNever, aDisp, aPairs, kvs?, mergeD, EndA, D.eq2, D.isNon, D.key, D.items, ptrList, listM, seqAt, Cell.items, dGetM, dPutM, isDict, tyOf, kitD, updM_same, updM_upd, List.set_cons_zero, List.set_cons_succ, List.getElem?_cons_zero, List.getElem?_cons_succ, List.length_cons, List.length_nil, Option.map_some, Option.bind_some, Option.isSome_some, Option.isSome_none, Option.getD_some, Option.getD_none, List.foldl_cons, List.foldl_nil, decide_eq_true_eq, if_true, if_false, Bool.not_true, Bool.not_false, Bool.false_eq_true, true_and, and_true, Nat.reduceLT, Int.reduceLT, Int.reduceLE, ↓reduceIte]
  refine aLc_pure (fun d => .bl true) f.fs (fun _ => True) (fun R h => by simp only [aSeq, aIf, aRet, aRetN, aDrop, aAsg, aNext, aPar, agName, agTup, agCons, agNil, agSub, rSetA, aTest, aOp, aUn, aV, aC, aI, aI0, aU, aEq, aNe, aCons, aNil, aTup, aLst, aCB, aIfE, aNotV, aNotT, aAndV, aOrV, aAndT, aOrT, aChain, aIxL, aIxT, aIxS, aSl, aPart, aNoPart, aSlL, aSlT, aSlS, aCat, aCatT, aAddS, aDGet, aDIn, aDGet2, asDPut, aDNewK, aDNewT, aCall, aBM, aAppend, aPopAt, aLenS, aLenStr, aListOf, aTupleOf, aInt1, aMin2, aIsi, aIsN, aNotN, aCont, aBreak, aNever, aDisp, aPairs, kvs?, mergeD, EndA, D.eq2, D.isNon, D.key, D.items, ptrList, listM, seqAt, Cell.items, dGetM, dPutM, isDict, tyOf, kitD, updM_same, updM_upd, List.set_cons_zero, List.set_cons_succ, List.getElem?_cons_zero, List.getElem?_cons_succ, List.length_cons, List.length_nil, Option.map_some, Option.bind_some, Option.isSome_some, Option.isSome_none, Option.getD_some, Option.getD_none, List.foldl_cons, List.foldl_nil, decide_eq_true_eq, if_true, if_false, Bool.not_true, Bool.not_false, Bool.false_eq_true, true_and, and_true, Nat.reduceLT, Int.reduceLT, Int.reduceLE, ↓reduceIte, aITup]; exact h) (by have := hf.few; omega) (fun _ _ => trivial) (fun x μ' hx _ Q' kk => ?_) fun p μ' hp hm hq => ?_
  · show (_ : AE) [some (formD f), some (codeD f.code), some (.tup f.fs), some x] μ' Q'
    simp only [aSeq, aIf, aRet, aRetN, aDrop, aAsg, aNext, aPar, agName, agTup, agCons, agNil, agSub, rSetA, aTest, aOp, aUn, aV, aC, aI, aI0, aU, aEq, aNe, aCons, aNil, aTup, aLst, aCB, aIfE, aNotV, aNotT, aAndV, aOrV, aAndT, aOrT, aChain, aIxL, aIxT, aIxS, aSl, aPart, aNoPart, aSlL, aSlT, aSlS, aCat, aCatT, aAddS, aDGet, aDIn, aDGet2, asDPut, aDNewK, aDNewT, aCall, aBM, aAppend, aPopAt, aLenS, aLenStr, aListOf, aTupleOf, aInt1, aMin2, aIsi, aIsN, aNotN, aCont, aBreak, aNever, aDisp, aPairs, kvs?, mergeD, EndA, D.eq2, D.isNon, D.key, D.items, ptrList, listM, seqAt, Cell.items, dGetM, dPutM, isDict, tyOf, kitD, updM_same, updM_upd, List.set_cons_zero, List.set_cons_succ, List.getElem?_cons_zero, List.getElem?_cons_succ, List.length_cons, List.length_nil, Option.map_some, Option.bind_some, Option.isSome_some, Option.isSome_none, Option.getD_some, Option.getD_none, List.foldl_cons, List.foldl_nil, decide_eq_true_eq, if_true, if_false, Bool.not_true, Bool.not_false, Bool.false_eq_true, true_and, and_true, Nat.reduceLT, Int.reduceLT, Int.reduceLE, ↓reduceIte]
    exact ⟨x, rfl, hf.fs x hx, kk μ' (Mle.refl _)⟩
  · have e : (f.fs.map fun _ => D.bl true) = (f.fs.map fun _ => true).map D.bl := by rw [List.map_map]; rfl
    have e2 : (f.fs.map fun _ => true).all id = true := by rw [List.all_map]; exact List.all_eq_true.mpr fun _ _ => rfl
    simp only [aSeq, aIf, aRet, aRetN, aDrop, aAsg, aNext, aPar, agName, agTup, agCons, agNil, agSub, rSetA, aTest, aOp, aUn, aV, aC, aI, aI0, aU, aEq, aNe, aCons, aNil, aTup, aLst, aCB, aIfE, aNotV, aNotT, aAndV, aOrV, aAndT, aOrT, aChain, aIxL, aIxT, aIxS, aSl, aPart, aNoPart, aSlL, aSlT, aSlS, aCat, aCatT, aAddS, aDGet, aDIn, aDGet2, asDPut, aDNewK, aDNewT, aCall, aBM, aAppend, aPopAt, aLenS, aLenStr, aListOf, aTupleOf, aInt1, aMin2, aIsi, aIsN, aNotN, aCont, aBreak, aNever, aDisp, aPairs, kvs?, mergeD, EndA, D.eq2, D.isNon, D.key, D.items, ptrList, listM, seqAt, Cell.items, dGetM, dPutM, isDict, tyOf, kitD, updM_same, updM_upd, List.set_cons_zero, List.set_cons_succ, List.getElem?_cons_zero, List.getElem?_cons_succ, List.length_cons, List.length_nil, Option.map_some, Option.bind_some, Option.isSome_some, Option.isSome_none, Option.getD_some, Option.getD_none, List.foldl_cons, List.foldl_nil, decide_eq_true_eq, if_true, if_false, Bool.not_true, Bool.not_false, Bool.false_eq_true, true_and, and_true, Nat.reduceLT, Int.reduceLT, Int.reduceLE, ↓reduceIte, aAll, hq, e, DL.bls_map, e2]
    exact ⟨μ, hm, k⟩
def ctFollow : Ct := fun ds μ Q => ∃ (f : Form) (es : List Form), ds = [formD f, .tup (es.map formD)] ∧ (∀ d ∈ f.fs, FldOk d) ∧ f.fs.length ≤ 4 ∧ (∀ e ∈ es, (∀ d ∈ e.fs, FldOk d) ∧ e.fs.length = f.fs.length ∧ flen e < flen f) ∧ Q (.bl true) μ
def N_may_follow : List Str := ["form", "earlier"]
abbrev s_may_follow : Stmt := top 41
theorem sc_may_follow : FnScope N_may_follow ["form", "earlier"] (defScope s_may_follow) := ⟨rfl, rfl, rfl, by decide +kernel, rfl, by decide +kernel, by decide +kernel⟩
theorem ok_may_follow {f : Addr} {fd : FuncData} (F : Fun K "_may_follow" "_may_follow" s_may_follow f fd) (T : Tx K mg) (D_length_of : Df P w K mg base CX0 2 "length_of" ["form"] (spOf ctLong)) : FnOk P w K mg base CX0 3 f fd ["form", "earlier"] (spOf ctFollow) := by
  refine okD F sc_may_follow (fun ds μ Q h => ?_) (fun cdv A outer s H E hr => ⟨_, (qss_cons (qs_if (qt_cmpR (oq_eqD hr.units) (qv 1) (qe_tup qa_nil) (nomark _))
    (qss_one (qs_ret qe_bl))
    qss_nil)
  (qss_one (qs_ret (qe_and (qe_cmpR oq_eq (qe_callB cq_len (by rfl) T.b_len (by decide +kernel) (qa_cons (qe_ix iq_tup (qv 0) qe_int (fun _ _ => rfl)) qa_nil)) (qe_callB cq_len (by rfl) T.b_len (by decide +kernel) (qa_cons (qe_ix iq_tup (qe_ix iq_tup (qv 1) (qe_un uq_neg qe_int) (fun _ _ => rfl)) qe_int (fun _ _ => rfl)) qa_nil)) (nomark _)) (qe_one (qe_cmpR oq_gt (qe_df D_length_of (hr.mono (by decide)) rfl (qa_cons (qv 0) qa_nil)) (qe_df D_length_of (hr.mono (by decide)) rfl (qa_cons (qe_ix iq_tup (qv 1) (qe_un uq_neg qe_int) (fun _ _ => rfl)) qa_nil)) (nomark _))))))), ?_⟩)
  · obtain ⟨d, es, rfl, _⟩ := h
    rfl
  rintro ds μ Q ⟨f, es, rfl, h1, h2, h3, k⟩
  show (_ : AS) (EndA Q) [some (formD f), some (.tup (es.map formD))] μ
  have i1 : atI [codeD f.code, .tup f.fs] 1 = some (.tup f.fs) := rfl
  simp only [aSeq, aIf, aRet, aRetN, aDrop, aAsg, aNext, aPar, agName, agTup, agCons, agNil, agSub, rSetA, aTest, aOp, aUn, aV, aC, aI, aI0, aU, aEq, aNe, aCons, aNil, aTup, aLst, aCB, aIfE, aNotV, aNotT, aAndV, aOrV, aAndT, aOrT, aChain, aIxL, aIxT, aIxS, aSl, aPart, aNoPart, aSlL, aSlT, aSlS, aCat, aCatT, aAddS, aDGet, aDIn, aDGet2, asDPut, aDNewK, aDNewT, aCall, aBM, aAppend, aPopAt, aLenS, aLenStr, aListOf, aTupleOf, aInt1, aMin2, aIsi, aIsN, aNotN, aCont, aBreak, aNever, aDisp, aPairs, kvs?, mergeD, EndA, D.eq2, D.isNon, D.key, D.items, ptrList, listM, seqAt, Cell.items, dGetM, dPutM, isDict, tyOf, kitD, updM_same, updM_upd, List.set_cons_zero, List.set_cons_succ, List.getElem?_cons_zero, List.getElem?_cons_succ, List.length_cons, List.length_nil, Option.map_some, Option.bind_some, Option.isSome_some, Option.isSome_none, Option.getD_some, Option.getD_none, List.foldl_cons, List.foldl_nil, decide_eq_true_eq, if_true, if_false, Bool.not_true, Bool.not_false, Bool.false_eq_true, true_and, and_true, Nat.reduceLT, Int.reduceLT, Int.reduceLE, ↓reduceIte]
  refine ⟨by decide, ?_⟩
  have fe : (D.tup (es.map formD)).flat 61 = true := List.all_eq_true.mpr fun y hy => by
    obtain ⟨e, he, rfl⟩ := List.mem_map.mp hy
    exact formD_flat (h3 e he).1
  rw [eq_flat (n := 61) (m := 1) fe rfl (by decide) (by decide), py_tup fe, py_tup (n := 1) (xs := []) rfl]
  rcases List.eq_nil_or_concat es with rfl | ⟨es, e, rfl⟩
  · rw [show PyData.eqv (.tuple ((([] : List Form).map formD).map D.py)) (.tuple (([] : List D).map D.py)) = true from rfl]
    simp only [aSeq, aIf, aRet, aRetN, aDrop, aAsg, aNext, aPar, agName, agTup, agCons, agNil, agSub, rSetA, aTest, aOp, aUn, aV, aC, aI, aI0, aU, aEq, aNe, aCons, aNil, aTup, aLst, aCB, aIfE, aNotV, aNotT, aAndV, aOrV, aAndT, aOrT, aChain, aIxL, aIxT, aIxS, aSl, aPart, aNoPart, aSlL, aSlT, aSlS, aCat, aCatT, aAddS, aDGet, aDIn, aDGet2, asDPut, aDNewK, aDNewT, aCall, aBM, aAppend, aPopAt, aLenS, aLenStr, aListOf, aTupleOf, aInt1, aMin2, aIsi, aIsN, aNotN, aCont, aBreak, aNever, aDisp, aPairs, kvs?, mergeD, EndA, D.eq2, D.isNon, D.key, D.items, ptrList, listM, seqAt, Cell.items, dGetM, dPutM, isDict, tyOf, kitD, updM_same, updM_upd, List.set_cons_zero, List.set_cons_succ, List.getElem?_cons_zero, List.getElem?_cons_succ, List.length_cons, List.length_nil, Option.map_some, Option.bind_some, Option.isSome_some, Option.isSome_none, Option.getD_some, Option.getD_none, List.foldl_cons, List.foldl_nil, decide_eq_true_eq, if_true, if_false, Bool.not_true, Bool.not_false, Bool.false_eq_true, true_and, and_true, Nat.reduceLT, Int.reduceLT, Int.reduceLE, ↓reduceIte]
    exact ⟨_, Mle.refl _, k⟩
  · obtain ⟨g1, g2, g3⟩ := h3 e (by simp)
    have hne : PyData.eqv (.tuple (((es.concat e).map formD).map D.py)) (.tuple (([] : List D).map D.py)) = false := by
      rw [List.concat_eq_append, List.map_append, List.map_append]
      cases (es.map formD).map D.py <;> rfl
    have il : atI ((es ++ [e]).map formD) (-1) = some (formD e) := by rw [List.map_append]; exact at_last
    have j1 : atI [codeD e.code, .tup e.fs] 1 = some (.tup e.fs) := rfl
    rw [hne]
    rw [List.concat_eq_append]
    simp only [aSeq, aIf, aRet, aRetN, aDrop, aAsg, aNext, aPar, agName, agTup, agCons, agNil, agSub, rSetA, aTest, aOp, aUn, aV, aC, aI, aI0, aU, aEq, aNe, aCons, aNil, aTup, aLst, aCB, aIfE, aNotV, aNotT, aAndV, aOrV, aAndT, aOrT, aChain, aIxL, aIxT, aIxS, aSl, aPart, aNoPart, aSlL, aSlT, aSlS, aCat, aCatT, aAddS, aDGet, aDIn, aDGet2, asDPut, aDNewK, aDNewT, aCall, aBM, aAppend, aPopAt, aLenS, aLenStr, aListOf, aTupleOf, aInt1, aMin2, aIsi, aIsN, aNotN, aCont, aBreak, aNever, aDisp, aPairs, kvs?, mergeD, EndA, D.eq2, D.isNon, D.key, D.items, ptrList, listM, seqAt, Cell.items, dGetM, dPutM, isDict, tyOf, kitD, updM_same, updM_upd, List.set_cons_zero, List.set_cons_succ, List.getElem?_cons_zero, List.getElem?_cons_succ, List.length_cons, List.length_nil, Option.map_some, Option.bind_some, Option.isSome_some, Option.isSome_none, Option.getD_some, Option.getD_none, List.foldl_cons, List.foldl_nil, decide_eq_true_eq, if_true, if_false, Bool.not_true, Bool.not_false, Bool.false_eq_true, true_and, and_true, Nat.reduceLT, Int.reduceLT, Int.reduceLE, ↓reduceIte, il, formD, i1, j1, g2]
    exact ⟨f, rfl, h1, by omega, e, rfl, g1, by omega, by
      simp only [aSeq, aIf, aRet, aRetN, aDrop, aAsg, aNext, aPar, agName, agTup, agCons, agNil, agSub, rSetA, aTest, aOp, aUn, aV, aC, aI, aI0, aU, aEq, aNe, aCons, aNil, aTup, aLst, aCB, aIfE, aNotV, aNotT, aAndV, aOrV, aAndT, aOrT, aChain, aIxL, aIxT, aIxS, aSl, aPart, aNoPart, aSlL, aSlT, aSlS, aCat, aCatT, aAddS, aDGet, aDIn, aDGet2, asDPut, aDNewK, aDNewT, aCall, aBM, aAppend, aPopAt, aLenS, aLenStr, aListOf, aTupleOf, aInt1, aMin2, aIsi, aIsN, aNotN, aCont, aBreak, aNever, aDisp, aPairs, kvs?, mergeD, EndA, D.eq2, D.isNon, D.key, D.items, ptrList, listM, seqAt, Cell.items, dGetM, dPutM, isDict, tyOf, kitD, updM_same, updM_upd, List.set_cons_zero, List.set_cons_succ, List.getElem?_cons_zero, List.getElem?_cons_succ, List.length_cons, List.length_nil, Option.map_some, Option.bind_some, Option.isSome_some, Option.isSome_none, Option.getD_some, Option.getD_none, List.foldl_cons, List.foldl_nil, decide_eq_true_eq, if_true, if_false, Bool.not_true, Bool.not_false, Bool.false_eq_true, true_and, and_true, Nat.reduceLT, Int.reduceLT, Int.reduceLE, ↓reduceIte, g3, decide_true]
      exact ⟨_, Mle.refl _, k⟩⟩
end
end M53

set_option maxHeartbeats 4000000
namespace M53
open PySem PySem.Spec PyProof.Rows L2 Evl Gd DL
/-! ### opcodes as keys -/
def ck (c : List Int) : List Key := c.map Sum.inl
theorem ck_inj {a b : List Int} (h : ck a = ck b) : a = b := by
  unfold ck at h
  exact (List.map_inj_right (fun _ _ e => Sum.inl.inj e)).mp h
theorem keys_ints : ∀ c : List Int, keys? (c.map D.int) = some (ck c)
  | [] => rfl
  | x :: c => by
    show (match (D.int x).key, keys? (c.map D.int) with
      | some k, some ks => some (k :: ks)
      | _, _ => none) = _
    rw [keys_ints c]
    rfl
theorem keyT_code (c : List Int) : (D.tup (c.map D.int)).keyT = some (ck c) := keys_ints c
theorem take_code (c : List Int) (i : Nat) : cutD (c.map D.int) none (some (1 + (i : Int))) = (c.take (i + 1)).map D.int := by
  rw [show (1 + (i : Int)) = ((i + 1 : Nat) : Int) by omega, cutD_take, List.map_take]
/-- opcodes of which none begins another one -/
structure CodesR (cs : List (List Int)) : Prop where
  ok : ∀ c ∈ cs, CodeOk c
  pf : cs.Pairwise Apart
theorem CodesOk.r {cs : List (List Int)} (h : CodesOk cs) : CodesR cs := ⟨h.ok, h.pf⟩
theorem CodesR.perm {cs ds : List (List Int)} (h : CodesR cs) (p : ds.Perm cs) : CodesR ds := ⟨fun c hc => h.ok c (p.mem_iff.mp hc), p.symm.pairwise h.pf fun {a b} => Apart.symm⟩
theorem CodesR.sub {cs ds : List (List Int)} (h : CodesR cs) (p : ds.Sublist cs) : CodesR ds := ⟨fun c hc => h.ok c (p.subset hc), h.pf.sublist p⟩
structure RowsOk (rs : List Row) : Prop where
  few : rs.length ≤ 9
  nm : ∀ r ∈ rs, r.1 ∈ NAMES
  nd : (rs.map Prod.fst).Nodup
  forms : ∀ r ∈ rs, 1 ≤ r.2.length ∧ r.2.length ≤ 6 ∧ ∃ many, many ≤ 4 ∧ FormsOk many r.2
  codes : CodesR (codesOf rs)
theorem split_at {α : Type} {l : List α} {i : Nat} {x : α} (h : l[i]? = some x) : l = l.take i ++ x :: l.drop (i + 1) := by
  obtain ⟨hi, e⟩ := List.getElem?_eq_some_iff.mp h
  rw [← e, ← List.drop_eq_getElem_cons hi, List.take_append_drop]
theorem take_snoc {α : Type} {l : List α} {i : Nat} {x : α} (h : l[i]? = some x) : l.take (i + 1) = l.take i ++ [x] := by
  rw [List.take_add_one, h]; rfl
theorem codes_app (a b : List Row) : codesOf (a ++ b) = codesOf a ++ codesOf b := by unfold codesOf; rw [List.flatMap_append]
theorem codes_one (r : Row) : codesOf [r] = r.2.map Form.code := by unfold codesOf; simp
/-- the opcodes ahead of a form -/
def ahead (rs : List Row) (i : Nat) (r : Row) (j : Nat) : List (List Int) := codesOf (rs.take i) ++ (r.2.take j).map Form.code
theorem apart_at {rs : List Row} {i j : Nat} {r : Row} {f : Form} (hc : CodesR (codesOf rs)) (h : rs[i]? = some r) (hj : r.2[j]? = some f) : ∀ d ∈ ahead rs i r j, Apart d f.code := by
  have e : codesOf rs = ahead rs i r j ++ (f.code :: ((r.2.drop (j + 1)).map Form.code ++ codesOf (rs.drop (i + 1)))) := by
    rw [split_at h, codes_app, show r :: rs.drop (i + 1) = [r] ++ rs.drop (i + 1) from rfl, codes_app, codes_one]
    conv => lhs; rw [split_at hj]
    unfold ahead
    have et : (rs.take i ++ ([r] ++ rs.drop (i + 1))).take i = rs.take i := by
      have := (List.getElem?_eq_some_iff.mp h).1
      rw [List.take_append_of_le_length (by rw [List.length_take]; omega), List.take_take, Nat.min_self]
    have ed : (rs.take i ++ ([r] ++ rs.drop (i + 1))).drop (i + 1) = rs.drop (i + 1) := by
      rw [show rs.take i ++ ([r] ++ rs.drop (i + 1)) = rs from (split_at h).symm]
    rw [et, ed]
    simp
  have := hc.pf
  rw [e] at this
  exact fun d hd => (List.pairwise_append.mp this).2.2 d hd _ (by simp)
theorem code_at {rs : List Row} {r : Row} {f : Form} (hc : CodesR (codesOf rs)) (hr : r ∈ rs) (hf : f ∈ r.2) : CodeOk f.code := hc.ok _ (List.mem_flatMap.mpr ⟨r, hr, List.mem_map.mpr ⟨f, hf, rfl⟩⟩)
theorem form_at {rs : List Row} {r : Row} {f : Form} (h : RowsOk rs) (hr : r ∈ rs) (hf : f ∈ r.2) : FormOk f := by
  obtain ⟨_, _, many, hm, ho⟩ := h.forms r hr
  obtain ⟨h1, h2⟩ := ho.fld f hf
  exact ⟨code_at h.codes hr hf, h2, by omega⟩
/-- what is begun: the opcodes done are True, what begins one of them is False -/
def Beg (done more : List (List Int)) (kvs : List (List Key × D)) : Prop := ∀ x : List Int, lookD kvs (ck x) = none ∨ (lookD kvs (ck x) = some (.bl true) ∧ x ∈ done) ∨ (lookD kvs (ck x) = some (.bl false) ∧ ∃ d ∈ more, x <+: d)
theorem Beg.nil : Beg [] [] [] := fun _ => .inl rfl
theorem Beg.more {done m m' : List (List Int)} {kvs : List (List Key × D)} (h : Beg done m kvs) (k : ∀ x ∈ m, x ∈ m') : Beg done m' kvs := fun x => by
  rcases h x with h1 | h1 | ⟨h1, d, hd, hx⟩
  · exact .inl h1
  · exact .inr (.inl h1)
  · exact .inr (.inr ⟨h1, d, k d hd, hx⟩)
theorem Beg.part {done m : List (List Int)} {kvs : List (List Key × D)} {c y : List Int} (h : Beg done m kvs) (hy : y <+: c) (hc : c ∈ m) : Beg done m (putD kvs (ck y) (.bl false)) := fun x => by
  rw [look_put]
  by_cases e : ck y = ck x
  · rw [if_pos e]
    exact .inr (.inr ⟨rfl, c, hc, ck_inj e ▸ hy⟩)
  · rw [if_neg e]; exact h x
theorem Beg.whole {done m : List (List Int)} {kvs : List (List Key × D)} {c : List Int} (h : Beg done m kvs) : Beg (done ++ [c]) m (putD kvs (ck c) (.bl true)) := fun x => by
  rw [look_put]
  by_cases e : ck c = ck x
  · rw [if_pos e]
    exact .inr (.inl ⟨rfl, by rw [ck_inj e]; simp⟩)
  · rw [if_neg e]
    rcases h x with h1 | h1 | h1
    · exact .inl h1
    · exact .inr (.inl ⟨h1.1, List.mem_append_left _ h1.2⟩)
    · exact .inr (.inr h1)
theorem Beg.fresh {done : List (List Int)} {kvs : List (List Key × D)} {c : List Int} (h : Beg done done kvs) (ha : ∀ d ∈ done, Apart d c) : lookD kvs (ck c) = none ∧ ∀ i, lookD kvs (ck (c.take i)) = none ∨ lookD kvs (ck (c.take i)) = some (.bl false) := by
  refine ⟨?_, fun i => ?_⟩
  · rcases h c with h1 | ⟨_, h1⟩ | ⟨_, d, hd, hx⟩
    · exact h1
    · exact absurd (List.prefix_refl c) (ha c h1).1
    · exact absurd hx (ha d hd).2
  · rcases h (c.take i) with h1 | ⟨_, h1⟩ | ⟨h1, _⟩
    · exact .inl h1
    · exact absurd (List.take_prefix i c) (ha _ h1).1
    · exact .inr h1
theorem mle_upd {μ μ' : Mu} {a : Addr} {c : Cell} (h : Mle μ μ') (ha : μ a = none) : Mle μ (updM μ' a c) := fun x o e => by
  rw [updM_ne (fun z => by rw [z, ha] at e; cases e)]
  exact h x o e
section
variable {P : Program} {w : World} {K : PySem.W.Frag} {mg : Str → Option Value} {base : Heap}
def ctMet : Ct := fun ds μ Q => ∃ c b kvs, ds = [codeD c, .ptr b] ∧ c.length ≤ 3 ∧ μ b = some (.dt kvs) ∧ lookD kvs (ck c) = none ∧ (∀ i, lookD kvs (ck (c.take i)) = none ∨ lookD kvs (ck (c.take i)) = some (.bl false)) ∧ Q (.bl false) μ
def N_is_met : List Str := ["opcode", "begun", "many"]
abbrev s_is_met : Stmt := top 42
theorem sc_is_met : FnScope N_is_met ["opcode", "begun"] (defScope s_is_met) := ⟨rfl, rfl, rfl, by decide +kernel, rfl, by decide +kernel, by decide +kernel⟩
theorem ok_is_met {f : Addr} {fd : FuncData} (F : Fun K "_is_met" "_is_met" s_is_met f fd) (T : Tx K mg) : FnOk P w K mg base CX0 1 f fd ["opcode", "begun"] (spOf ctMet) := by
  refine okD F sc_is_met (fun ds μ Q h => ?_) (fun cdv A outer s H E hr => ?_)
  · obtain ⟨c, b, kvs, rfl, _⟩ := h
    rfl
  have hu : (A.deeper (envOfC "_is_met" (defScope s_is_met) s.heap.objs.size f cdv)).units + 1 < cLine := by have := hr.units; omega
  refine ⟨_, (qss_cons (qs_if (qt_cmp (qc_din hu (qv 0) (qv 1)))
    (qss_one (qs_ret qe_bl))
    qss_nil)
  (qss_cons (qs_for PassesOwn.never rfl (qi_range2 rfl T.b_range (qa_cons qe_int (qa_cons (qe_callB cq_len (by rfl) T.b_len (by decide +kernel) (qa_cons (qv 0) qa_nil)) qa_nil))) (qg_name (i := 2) sc_is_met.nd rfl (Or.inl rfl))
    (qss_one (qs_if (qt_val (qe_dget2 hu (qv 1) (qe_slice slq_tup (qv 0) qo_none (qo_some (qv 2))) qe_bl ⟨rfl, rfl, rfl, rfl⟩) (by intro _; rfl))
        (qss_one (qs_ret qe_bl))
        qss_nil)))
  (qss_one (qs_ret qe_bl)))), ?_⟩
  rintro ds μ Q ⟨c, b, kvs, rfl, hl, hb, h1, h2, k⟩
  show (_ : AS) (EndA Q) [some (codeD c), some (.ptr b), none] μ
  simp only [aSeq, aIf, aRet, aRetN, aDrop, aAsg, aNext, aPar, agName, agTup, agCons, agNil, agSub, rSetA, aTest, aOp, aUn, aV, aC, aI, aI0, aU, aEq, aNe, aCons, aNil, aTup, aLst, aCB, aIfE, aNotV, aNotT, aAndV, aOrV, aAndT, aOrT, aChain, aIxL, aIxT, aIxS, aSl, aPart, aNoPart, aSlL, aSlT, aSlS, aCat, aCatT, aAddS, aDGet, aDIn, aDGet2, asDPut, aDNewK, aDNewT, aCall, aBM, aAppend, aPopAt, aLenS, aLenStr, aListOf, aTupleOf, aInt1, aMin2, aIsi, aIsN, aNotN, aCont, aBreak, aNever, aDisp, aPairs, kvs?, mergeD, EndA, D.eq2, D.isNon, D.key, D.items, ptrList, listM, seqAt, Cell.items, dGetM, dPutM, isDict, tyOf, kitD, updM_same, updM_upd, List.set_cons_zero, List.set_cons_succ, List.getElem?_cons_zero, List.getElem?_cons_succ, List.length_cons, List.length_nil, Option.map_some, Option.bind_some, Option.isSome_some, Option.isSome_none, Option.getD_some, Option.getD_none, List.foldl_cons, List.foldl_nil, decide_eq_true_eq, if_true, if_false, Bool.not_true, Bool.not_false, Bool.false_eq_true, true_and, and_true, Nat.reduceLT, Int.reduceLT, Int.reduceLE, ↓reduceIte, hb, codeD, keyT_code, h1, aFor, aIRng2, List.length_map]
  refine ⟨⟨by decide, by decide, by omega, by omega⟩, fun i ρ' μ' => μ' = μ ∧ ∃ x, ρ' = [some (codeD c), some (.ptr b), x], ⟨rfl, none, rfl⟩, fun _ _ _ _ _ => trivial, ?_, ?_⟩
  · rintro i x ρ' μ' hx ⟨rfl, y, rfl⟩
    obtain ⟨rfl, hi⟩ := rngD_at hx
    simp only [aSeq, aIf, aRet, aRetN, aDrop, aAsg, aNext, aPar, agName, agTup, agCons, agNil, agSub, rSetA, aTest, aOp, aUn, aV, aC, aI, aI0, aU, aEq, aNe, aCons, aNil, aTup, aLst, aCB, aIfE, aNotV, aNotT, aAndV, aOrV, aAndT, aOrT, aChain, aIxL, aIxT, aIxS, aSl, aPart, aNoPart, aSlL, aSlT, aSlS, aCat, aCatT, aAddS, aDGet, aDIn, aDGet2, asDPut, aDNewK, aDNewT, aCall, aBM, aAppend, aPopAt, aLenS, aLenStr, aListOf, aTupleOf, aInt1, aMin2, aIsi, aIsN, aNotN, aCont, aBreak, aNever, aDisp, aPairs, kvs?, mergeD, EndA, D.eq2, D.isNon, D.key, D.items, ptrList, listM, seqAt, Cell.items, dGetM, dPutM, isDict, tyOf, kitD, updM_same, updM_upd, List.set_cons_zero, List.set_cons_succ, List.getElem?_cons_zero, List.getElem?_cons_succ, List.length_cons, List.length_nil, Option.map_some, Option.bind_some, Option.isSome_some, Option.isSome_none, Option.getD_some, Option.getD_none, List.foldl_cons, List.foldl_nil, decide_eq_true_eq, if_true, if_false, Bool.not_true, Bool.not_false, Bool.false_eq_true, true_and, and_true, Nat.reduceLT, Int.reduceLT, Int.reduceLE, ↓reduceIte, codeD, take_code, hb, keyT_code]
    rcases h2 (i + 1) with h3 | h3 <;> simp only [aSeq, aIf, aRet, aRetN, aDrop, aAsg, aNext, aPar, agName, agTup, agCons, agNil, agSub, rSetA, aTest, aOp, aUn, aV, aC, aI, aI0, aU, aEq, aNe, aCons, aNil, aTup, aLst, aCB, aIfE, aNotV, aNotT, aAndV, aOrV, aAndT, aOrT, aChain, aIxL, aIxT, aIxS, aSl, aPart, aNoPart, aSlL, aSlT, aSlS, aCat, aCatT, aAddS, aDGet, aDIn, aDGet2, asDPut, aDNewK, aDNewT, aCall, aBM, aAppend, aPopAt, aLenS, aLenStr, aListOf, aTupleOf, aInt1, aMin2, aIsi, aIsN, aNotN, aCont, aBreak, aNever, aDisp, aPairs, kvs?, mergeD, EndA, D.eq2, D.isNon, D.key, D.items, ptrList, listM, seqAt, Cell.items, dGetM, dPutM, isDict, tyOf, kitD, updM_same, updM_upd, List.set_cons_zero, List.set_cons_succ, List.getElem?_cons_zero, List.getElem?_cons_succ, List.length_cons, List.length_nil, Option.map_some, Option.bind_some, Option.isSome_some, Option.isSome_none, Option.getD_some, Option.getD_none, List.foldl_cons, List.foldl_nil, decide_eq_true_eq, if_true, if_false, Bool.not_true, Bool.not_false, Bool.false_eq_true, true_and, and_true, Nat.reduceLT, Int.reduceLT, Int.reduceLE, ↓reduceIte, h3] <;> exact ⟨_, rfl⟩
  · rintro ρ' μ' ⟨rfl, y, rfl⟩
    exact ⟨_, Mle.refl _, k⟩
def ctRows : Ct := fun ds μ Q => ∃ rs : List Row, ds = [.tup (rs.map rowD)] ∧ RowsOk rs ∧ Q .non μ
/-- behind i rows -/
def IC (rs : List Row) (n b : Addr) (μ : Mu) (i : Nat) (ρ' : Rho) (μ' : Mu) : Prop := ∃ (nk : List (Key × D)) (bk : List (List Key × D)) (x3 x4 x5 x6 x7 x8 x9 : Option D), ρ' = [some (.tup (rs.map rowD)), some (.ptr n), some (.ptr b), x3, x4, x5, x6, x7, x8, x9] ∧ μ' n = some (.dk nk) ∧ μ' b = some (.dt bk) ∧ nk.length ≤ i ∧ bk.length ≤ 18 * i ∧
  (∀ z, lookD nk (.inr z) ≠ none → z ∈ (rs.take i).map Prod.fst) ∧ Beg (codesOf (rs.take i)) (codesOf (rs.take i)) bk ∧ Mle μ μ'
/-- behind j forms of row i -/
def IF (rs : List Row) (r : Row) (n b : Addr) (μ : Mu) (nk : List (Key × D)) (i j : Nat) (ρ' : Rho) (μ' : Mu) : Prop := ∃ (bk : List (List Key × D)) (x6 x7 x8 x9 : Option D), ρ' = [some (.tup (rs.map rowD)), some (.ptr n), some (.ptr b), some (.int i), some (rowD r), some (.tup (r.2.map formD)), x6, x7, x8, x9] ∧ μ' n = some (.dk nk) ∧ μ' b = some (.dt bk) ∧ bk.length ≤ 18 * i + 3 * j ∧
  Beg (ahead rs i r j) (ahead rs i r j) bk ∧ Mle μ μ'
/-- behind m beginnings of an opcode -/
def IM (rs : List Row) (r : Row) (f : Form) (n b : Addr) (μ : Mu) (nk : List (Key × D)) (i j m : Nat) (ρ' : Rho) (μ' : Mu) : Prop := ∃ (bk : List (List Key × D)) (x9 : Option D), ρ' = [some (.tup (rs.map rowD)), some (.ptr n), some (.ptr b), some (.int i), some (rowD r), some (.tup (r.2.map formD)), some (.int j), some (formD f), some (codeD f.code), x9] ∧ μ' n = some (.dk nk) ∧ μ' b = some (.dt bk) ∧ bk.length ≤ 18 * i + 3 * j + m ∧
  Beg (ahead rs i r j) (ahead rs i r j ++ [f.code]) bk ∧ Mle μ μ'
def N_check_rows : List Str := ["rows", "names", "begun", "row", "given", "forms", "number", "form", "opcode", "many"]
abbrev s_check_rows : Stmt := top 38
theorem sc_check_rows : FnScope N_check_rows ["rows"] (defScope s_check_rows) := ⟨rfl, rfl, rfl, by decide +kernel, rfl, by decide +kernel, by decide +kernel⟩
theorem ok_check_rows {f : Addr} {fd : FuncData} (F : Fun K "_check_rows" "_check_rows" s_check_rows f fd) (T : Tx K mg) (Y : Ty K w mg) (D_is_row : Df P w K mg base CX0 3 "_is_row" ["value"] (spOf (ctTrue IsRow))) (D_is_form : Df P w K mg base CX0 4 "_is_form" ["value"] (spOf (ctTrue IsForm)))
    (D_may_follow : Df P w K mg base CX0 3 "_may_follow" ["form", "earlier"] (spOf ctFollow)) (D_is_met : Df P w K mg base CX0 1 "_is_met" ["opcode", "begun"] (spOf ctMet)) : FnOk P w K mg base CX0 5 f fd ["rows"] (spOf ctRows) := by
  obtain ⟨_, g_MOST_ROWS⟩ := Y.g_MOST_ROWS
  refine okD F sc_check_rows (fun ds μ Q h => ?_) (fun cdv A outer s H E hr => ?_)
  · obtain ⟨rs, rfl, _⟩ := h
    rfl
  have hu : (A.deeper (envOfC "_check_rows" (defScope s_check_rows) s.heap.objs.size f cdv)).units + 1 < cLine := by have := hr.units; omega
  refine ⟨_, (qss_cons (qs_if (qt_cmpR oq_gt (qe_callB cq_len (by rfl) T.b_len (by decide +kernel) (qa_cons (qv 0) qa_nil)) (qe_gI rfl g_MOST_ROWS) (nomark _))
    qss_never
    qss_nil)
  (qss_cons (qs_set (i := 1) sc_check_rows.nd rfl (Or.inl rfl) qe_dnewK)
  (qss_cons (qs_set (i := 2) sc_check_rows.nd rfl (Or.inl rfl) qe_dnewT)
  (qss_one (qs_for PassesOwn.never rfl (qi_enumT (by rfl) T.b_enumerate (qa_cons (qv 0) qa_nil)) (qg_tup rfl (qgs_cons (qg_name (i := 3) sc_check_rows.nd rfl (Or.inl rfl)) (qgs_cons (qg_name (i := 4) sc_check_rows.nd rfl (Or.inl rfl)) qgs_nil)))
    (qss_cons (qs_if (QW.pt (qw_or (qt_not (qt_val (qe_df D_is_row (hr.mono (by decide)) rfl (qa_cons (qv 4) qa_nil)) (by intro _; rfl))) (qw_or1 (qt_cmp (qc_din hu (qe_ix iq_tup (qv 4) qe_int (fun _ _ => rfl)) (qv 1))))))
        qss_never
        qss_nil)
      (qss_cons (qs_dput hu (qv 1) (qe_ix iq_tup (qv 4) qe_int (fun _ _ => rfl)) qe_bl rfl)
      (qss_cons (qs_set (i := 5) sc_check_rows.nd rfl (Or.inl rfl) (qe_ix iq_tup (qv 4) qe_int (fun _ _ => rfl)))
      (qss_one (qs_for PassesOwn.never rfl (qi_enumT (by rfl) T.b_enumerate (qa_cons (qv 5) qa_nil)) (qg_tup rfl (qgs_cons (qg_name (i := 6) sc_check_rows.nd rfl (Or.inl rfl)) (qgs_cons (qg_name (i := 7) sc_check_rows.nd rfl (Or.inl rfl)) qgs_nil)))
        (qss_cons (qs_if (QW.pt (qw_or (qt_not (qt_val (qe_df D_is_form (hr.mono (by decide)) rfl (qa_cons (qv 7) qa_nil)) (by intro _; rfl))) (qw_or (qt_not (qt_val (qe_df D_may_follow (hr.mono (by decide)) rfl (qa_cons (qv 7) (qa_cons (qe_slice slq_tup (qv 5) qo_none (qo_some (qv 6))) qa_nil))) (by intro _; rfl))) (qw_or1 (qt_val (qe_df D_is_met (hr.mono (by decide)) rfl (qa_cons (qe_ix iq_tup (qv 7) qe_int (fun _ _ => rfl)) (qa_cons (qv 2) qa_nil))) (by intro _; rfl))))))
            qss_never
            qss_nil)
          (qss_cons (qs_set (i := 8) sc_check_rows.nd rfl (Or.inl rfl) (qe_ix iq_tup (qv 7) qe_int (fun _ _ => rfl)))
          (qss_cons (qs_for PassesOwn.never rfl (qi_range2 rfl T.b_range (qa_cons qe_int (qa_cons (qe_callB cq_len (by rfl) T.b_len (by decide +kernel) (qa_cons (qv 8) qa_nil)) qa_nil))) (qg_name (i := 9) sc_check_rows.nd rfl (Or.inl rfl))
            (qss_one (qs_dput hu (qv 2) (qe_slice slq_tup (qv 8) qo_none (qo_some (qv 9))) qe_bl rfl)))
          (qss_one (qs_dput hu (qv 2) (qv 8) qe_bl rfl))))))))))))))), ?_⟩
  rintro ds μ Q ⟨rs, rfl, ok, k⟩
  show (_ : AS) (EndA Q) [some (.tup (rs.map rowD)), none, none, none, none, none, none, none, none, none] μ
  have d0 : ((100 : Int) < (rs.length : Int)) = False := eq_false (by have := ok.few; omega)
  simp only [aSeq, aIf, aRet, aRetN, aDrop, aAsg, aNext, aPar, agName, agTup, agCons, agNil, agSub, rSetA, aTest, aOp, aUn, aV, aC, aI, aI0, aU, aEq, aNe, aCons, aNil, aTup, aLst, aCB, aIfE, aNotV, aNotT, aAndV, aOrV, aAndT, aOrT, aChain, aIxL, aIxT, aIxS, aSl, aPart, aNoPart, aSlL, aSlT, aSlS, aCat, aCatT, aAddS, aDGet, aDIn, aDGet2, asDPut, aDNewK, aDNewT, aCall, aBM, aAppend, aPopAt, aLenS, aLenStr, aListOf, aTupleOf, aInt1, aMin2, aIsi, aIsN, aNotN, aCont, aBreak, aNever, aDisp, aPairs, kvs?, mergeD, EndA, D.eq2, D.isNon, D.key, D.items, ptrList, listM, seqAt, Cell.items, dGetM, dPutM, isDict, tyOf, kitD, updM_same, updM_upd, List.set_cons_zero, List.set_cons_succ, List.getElem?_cons_zero, List.getElem?_cons_succ, List.length_cons, List.length_nil, Option.map_some, Option.bind_some, Option.isSome_some, Option.isSome_none, Option.getD_some, Option.getD_none, List.foldl_cons, List.foldl_nil, decide_eq_true_eq, if_true, if_false, Bool.not_true, Bool.not_false, Bool.false_eq_true, true_and, and_true, Nat.reduceLT, Int.reduceLT, Int.reduceLE, ↓reduceIte, List.length_map, d0, decide_false]
  intro n hn b hb
  obtain ⟨nbn, hb⟩ := fresh_upd hb
  simp only [aSeq, aIf, aRet, aRetN, aDrop, aAsg, aNext, aPar, agName, agTup, agCons, agNil, agSub, rSetA, aTest, aOp, aUn, aV, aC, aI, aI0, aU, aEq, aNe, aCons, aNil, aTup, aLst, aCB, aIfE, aNotV, aNotT, aAndV, aOrV, aAndT, aOrT, aChain, aIxL, aIxT, aIxS, aSl, aPart, aNoPart, aSlL, aSlT, aSlS, aCat, aCatT, aAddS, aDGet, aDIn, aDGet2, asDPut, aDNewK, aDNewT, aCall, aBM, aAppend, aPopAt, aLenS, aLenStr, aListOf, aTupleOf, aInt1, aMin2, aIsi, aIsN, aNotN, aCont, aBreak, aNever, aDisp, aPairs, kvs?, mergeD, EndA, D.eq2, D.isNon, D.key, D.items, ptrList, listM, seqAt, Cell.items, dGetM, dPutM, isDict, tyOf, kitD, updM_same, updM_upd, List.set_cons_zero, List.set_cons_succ, List.getElem?_cons_zero, List.getElem?_cons_succ, List.length_cons, List.length_nil, Option.map_some, Option.bind_some, Option.isSome_some, Option.isSome_none, Option.getD_some, Option.getD_none, List.foldl_cons, List.foldl_nil, decide_eq_true_eq, if_true, if_false, Bool.not_true, Bool.not_false, Bool.false_eq_true, true_and, and_true, Nat.reduceLT, Int.reduceLT, Int.reduceLE, ↓reduceIte, aFor, aIEnumT]
  refine ⟨IC rs n b μ, ⟨[], [], none, none, none, none, none, none, none, rfl, by rw [updM_ne nbn.symm, updM_same], updM_same, Nat.le_refl _, Nat.le_refl _, fun z h => absurd rfl h, Beg.nil, ?_⟩, fun _ _ _ _ _ => trivial, ?_, ?_⟩
  · exact ((Mle.new hn).trans (Mle.new (by rw [updM_ne nbn]; exact hb)))
  · rintro i x ρ' μ' hx ⟨nk, bk, x3, x4, x5, x6, x7, x8, x9, rfl, g1, g2, g3, g4, g5, g6, g7⟩
    obtain ⟨d, hd, rfl⟩ := enumD_at hx
    rw [List.getElem?_map] at hd
    obtain ⟨r, hr', rfl⟩ := Option.map_eq_some_iff.mp hd
    have hmem := List.mem_of_getElem? hr'
    have hi := (List.getElem?_eq_some_iff.mp hr').1
    have i100 := ok.few
    obtain ⟨o1, o2, many, o3, o4⟩ := ok.forms r hmem
    have i0 : atI [D.str r.1, .tup (r.2.map formD)] 0 = some (.str r.1) := rfl
    have i1 : atI [D.str r.1, .tup (r.2.map formD)] 1 = some (.tup (r.2.map formD)) := rfl
    have hnone : lookD nk (.inr r.1) = none := by
      cases z : lookD nk (.inr r.1) with
      | none => rfl
      | some y =>
        have hz := g5 r.1 (by rw [z]; exact fun y => nomatch y)
        have nd := ok.nd
        rw [split_at hr', List.map_append, List.map_cons] at nd
        exact absurd rfl ((List.nodup_append.mp nd).2.2 r.1 (by
          have et : (rs.take i ++ r :: rs.drop (i + 1)) = rs := (split_at hr').symm
          exact hz) r.1 (List.mem_cons_self ..))
    have hl : nk.length < 100000 := by omega
    simp only [aSeq, aIf, aRet, aRetN, aDrop, aAsg, aNext, aPar, agName, agTup, agCons, agNil, agSub, rSetA, aTest, aOp, aUn, aV, aC, aI, aI0, aU, aEq, aNe, aCons, aNil, aTup, aLst, aCB, aIfE, aNotV, aNotT, aAndV, aOrV, aAndT, aOrT, aChain, aIxL, aIxT, aIxS, aSl, aPart, aNoPart, aSlL, aSlT, aSlS, aCat, aCatT, aAddS, aDGet, aDIn, aDGet2, asDPut, aDNewK, aDNewT, aCall, aBM, aAppend, aPopAt, aLenS, aLenStr, aListOf, aTupleOf, aInt1, aMin2, aIsi, aIsN, aNotN, aCont, aBreak, aNever, aDisp, aPairs, kvs?, mergeD, EndA, D.eq2, D.isNon, D.key, D.items, ptrList, listM, seqAt, Cell.items, dGetM, dPutM, isDict, tyOf, kitD, updM_same, updM_upd, List.set_cons_zero, List.set_cons_succ, List.getElem?_cons_zero, List.getElem?_cons_succ, List.length_cons, List.length_nil, Option.map_some, Option.bind_some, Option.isSome_some, Option.isSome_none, Option.getD_some, Option.getD_none, List.foldl_cons, List.foldl_nil, decide_eq_true_eq, if_true, if_false, Bool.not_true, Bool.not_false, Bool.false_eq_true, true_and, and_true, Nat.reduceLT, Int.reduceLT, Int.reduceLE, ↓reduceIte]
    refine ⟨rfl, ?_⟩
    refine ⟨_, rfl, ⟨r, rfl, ok.nm r hmem, o1, o2⟩, ?_⟩
    simp only [aSeq, aIf, aRet, aRetN, aDrop, aAsg, aNext, aPar, agName, agTup, agCons, agNil, agSub, rSetA, aTest, aOp, aUn, aV, aC, aI, aI0, aU, aEq, aNe, aCons, aNil, aTup, aLst, aCB, aIfE, aNotV, aNotT, aAndV, aOrV, aAndT, aOrT, aChain, aIxL, aIxT, aIxS, aSl, aPart, aNoPart, aSlL, aSlT, aSlS, aCat, aCatT, aAddS, aDGet, aDIn, aDGet2, asDPut, aDNewK, aDNewT, aCall, aBM, aAppend, aPopAt, aLenS, aLenStr, aListOf, aTupleOf, aInt1, aMin2, aIsi, aIsN, aNotN, aCont, aBreak, aNever, aDisp, aPairs, kvs?, mergeD, EndA, D.eq2, D.isNon, D.key, D.items, ptrList, listM, seqAt, Cell.items, dGetM, dPutM, isDict, tyOf, kitD, updM_same, updM_upd, List.set_cons_zero, List.set_cons_succ, List.getElem?_cons_zero, List.getElem?_cons_succ, List.length_cons, List.length_nil, Option.map_some, Option.bind_some, Option.isSome_some, Option.isSome_none, Option.getD_some, Option.getD_none, List.foldl_cons, List.foldl_nil, decide_eq_true_eq, if_true, if_false, Bool.not_true, Bool.not_false, Bool.false_eq_true, true_and, and_true, Nat.reduceLT, Int.reduceLT, Int.reduceLE, ↓reduceIte, rowD, i0, i1, g1, hnone, if_pos hl]
    have nnb : n ≠ b := fun e => by rw [e, g2] at g1; cases g1
    refine ⟨IF rs r n b μ (putD nk (.inr r.1) (.bl true)) i, ⟨bk, x6, x7, x8, x9, rfl, updM_same, by rw [updM_ne nnb.symm]; exact g2, by omega, by unfold ahead; rw [List.take_zero, List.map_nil, List.append_nil]; exact g6, ?_⟩, fun _ _ _ _ _ => trivial, ?_, ?_⟩
    · exact mle_upd g7 hn
    · rintro j x ρ' μ' hx ⟨bk, x6, x7, x8, x9, rfl, e1, e2, e3, e4, e5⟩
      obtain ⟨d, hd, rfl⟩ := enumD_at hx
      rw [List.getElem?_map] at hd
      obtain ⟨f, hf, rfl⟩ := Option.map_eq_some_iff.mp hd
      have fmem := List.mem_of_getElem? hf
      have hj := (List.getElem?_eq_some_iff.mp hf).1
      have fok := form_at ok hmem fmem
      obtain ⟨m1, m2⟩ := e4.fresh (apart_at ok.codes hr' hf)
      have j0 : atI [codeD f.code, .tup f.fs] 0 = some (codeD f.code) := rfl
      have ec : cutD (r.2.map formD) none (some (j : Int)) = (r.2.take j).map formD := by rw [cutD_take, List.map_take]
      simp only [aSeq, aIf, aRet, aRetN, aDrop, aAsg, aNext, aPar, agName, agTup, agCons, agNil, agSub, rSetA, aTest, aOp, aUn, aV, aC, aI, aI0, aU, aEq, aNe, aCons, aNil, aTup, aLst, aCB, aIfE, aNotV, aNotT, aAndV, aOrV, aAndT, aOrT, aChain, aIxL, aIxT, aIxS, aSl, aPart, aNoPart, aSlL, aSlT, aSlS, aCat, aCatT, aAddS, aDGet, aDIn, aDGet2, asDPut, aDNewK, aDNewT, aCall, aBM, aAppend, aPopAt, aLenS, aLenStr, aListOf, aTupleOf, aInt1, aMin2, aIsi, aIsN, aNotN, aCont, aBreak, aNever, aDisp, aPairs, kvs?, mergeD, EndA, D.eq2, D.isNon, D.key, D.items, ptrList, listM, seqAt, Cell.items, dGetM, dPutM, isDict, tyOf, kitD, updM_same, updM_upd, List.set_cons_zero, List.set_cons_succ, List.getElem?_cons_zero, List.getElem?_cons_succ, List.length_cons, List.length_nil, Option.map_some, Option.bind_some, Option.isSome_some, Option.isSome_none, Option.getD_some, Option.getD_none, List.foldl_cons, List.foldl_nil, decide_eq_true_eq, if_true, if_false, Bool.not_true, Bool.not_false, Bool.false_eq_true, true_and, and_true, Nat.reduceLT, Int.reduceLT, Int.reduceLE, ↓reduceIte]
      refine ⟨rfl, ?_⟩
      refine ⟨_, rfl, ⟨f, rfl, fok⟩, ?_⟩
      simp only [aSeq, aIf, aRet, aRetN, aDrop, aAsg, aNext, aPar, agName, agTup, agCons, agNil, agSub, rSetA, aTest, aOp, aUn, aV, aC, aI, aI0, aU, aEq, aNe, aCons, aNil, aTup, aLst, aCB, aIfE, aNotV, aNotT, aAndV, aOrV, aAndT, aOrT, aChain, aIxL, aIxT, aIxS, aSl, aPart, aNoPart, aSlL, aSlT, aSlS, aCat, aCatT, aAddS, aDGet, aDIn, aDGet2, asDPut, aDNewK, aDNewT, aCall, aBM, aAppend, aPopAt, aLenS, aLenStr, aListOf, aTupleOf, aInt1, aMin2, aIsi, aIsN, aNotN, aCont, aBreak, aNever, aDisp, aPairs, kvs?, mergeD, EndA, D.eq2, D.isNon, D.key, D.items, ptrList, listM, seqAt, Cell.items, dGetM, dPutM, isDict, tyOf, kitD, updM_same, updM_upd, List.set_cons_zero, List.set_cons_succ, List.getElem?_cons_zero, List.getElem?_cons_succ, List.length_cons, List.length_nil, Option.map_some, Option.bind_some, Option.isSome_some, Option.isSome_none, Option.getD_some, Option.getD_none, List.foldl_cons, List.foldl_nil, decide_eq_true_eq, if_true, if_false, Bool.not_true, Bool.not_false, Bool.false_eq_true, true_and, and_true, Nat.reduceLT, Int.reduceLT, Int.reduceLE, ↓reduceIte, ec]
      refine ⟨f, r.2.take j, rfl, fok.fs, fok.few, fun e he => ?_, ?_⟩
      · have hm2 := List.mem_of_mem_take he
        obtain ⟨q1, q2⟩ := o4.fld e hm2
        refine ⟨q2, by rw [q1, (o4.fld f fmem).1], ?_⟩
        have up := o4.up
        rw [split_at hf] at up
        exact (List.pairwise_append.mp up).2.2 e he f (List.mem_cons_self ..)
      simp only [aSeq, aIf, aRet, aRetN, aDrop, aAsg, aNext, aPar, agName, agTup, agCons, agNil, agSub, rSetA, aTest, aOp, aUn, aV, aC, aI, aI0, aU, aEq, aNe, aCons, aNil, aTup, aLst, aCB, aIfE, aNotV, aNotT, aAndV, aOrV, aAndT, aOrT, aChain, aIxL, aIxT, aIxS, aSl, aPart, aNoPart, aSlL, aSlT, aSlS, aCat, aCatT, aAddS, aDGet, aDIn, aDGet2, asDPut, aDNewK, aDNewT, aCall, aBM, aAppend, aPopAt, aLenS, aLenStr, aListOf, aTupleOf, aInt1, aMin2, aIsi, aIsN, aNotN, aCont, aBreak, aNever, aDisp, aPairs, kvs?, mergeD, EndA, D.eq2, D.isNon, D.key, D.items, ptrList, listM, seqAt, Cell.items, dGetM, dPutM, isDict, tyOf, kitD, updM_same, updM_upd, List.set_cons_zero, List.set_cons_succ, List.getElem?_cons_zero, List.getElem?_cons_succ, List.length_cons, List.length_nil, Option.map_some, Option.bind_some, Option.isSome_some, Option.isSome_none, Option.getD_some, Option.getD_none, List.foldl_cons, List.foldl_nil, decide_eq_true_eq, if_true, if_false, Bool.not_true, Bool.not_false, Bool.false_eq_true, true_and, and_true, Nat.reduceLT, Int.reduceLT, Int.reduceLE, ↓reduceIte, formD, j0]
      refine ⟨f.code, b, bk, rfl, fok.code.2.1, e2, m1, m2, ?_⟩
      simp only [aSeq, aIf, aRet, aRetN, aDrop, aAsg, aNext, aPar, agName, agTup, agCons, agNil, agSub, rSetA, aTest, aOp, aUn, aV, aC, aI, aI0, aU, aEq, aNe, aCons, aNil, aTup, aLst, aCB, aIfE, aNotV, aNotT, aAndV, aOrV, aAndT, aOrT, aChain, aIxL, aIxT, aIxS, aSl, aPart, aNoPart, aSlL, aSlT, aSlS, aCat, aCatT, aAddS, aDGet, aDIn, aDGet2, asDPut, aDNewK, aDNewT, aCall, aBM, aAppend, aPopAt, aLenS, aLenStr, aListOf, aTupleOf, aInt1, aMin2, aIsi, aIsN, aNotN, aCont, aBreak, aNever, aDisp, aPairs, kvs?, mergeD, EndA, D.eq2, D.isNon, D.key, D.items, ptrList, listM, seqAt, Cell.items, dGetM, dPutM, isDict, tyOf, kitD, updM_same, updM_upd, List.set_cons_zero, List.set_cons_succ, List.getElem?_cons_zero, List.getElem?_cons_succ, List.length_cons, List.length_nil, Option.map_some, Option.bind_some, Option.isSome_some, Option.isSome_none, Option.getD_some, Option.getD_none, List.foldl_cons, List.foldl_nil, decide_eq_true_eq, if_true, if_false, Bool.not_true, Bool.not_false, Bool.false_eq_true, true_and, and_true, Nat.reduceLT, Int.reduceLT, Int.reduceLE, ↓reduceIte, formD, j0, codeD, aFor, aIRng2, List.length_map]
      refine ⟨⟨by decide, by decide, by have := fok.code.2.1; omega, by have := fok.code.2.1; omega⟩, IM rs r f n b μ (putD nk (.inr r.1) (.bl true)) i j, ⟨bk, x9, rfl, e1, e2, by omega, e4.more fun _ h => List.mem_append_left _ h, e5⟩, fun _ _ _ _ _ => trivial, ?_, ?_⟩
      · rintro m x ρ' μ' hx ⟨bk, x9, rfl, u1, u2, u3, u4, u5⟩
        obtain ⟨rfl, hm⟩ := rngD_at hx
        have c3 := fok.code.2.1
        have hl2 : bk.length < 100000 := by omega
        simp only [aSeq, aIf, aRet, aRetN, aDrop, aAsg, aNext, aPar, agName, agTup, agCons, agNil, agSub, rSetA, aTest, aOp, aUn, aV, aC, aI, aI0, aU, aEq, aNe, aCons, aNil, aTup, aLst, aCB, aIfE, aNotV, aNotT, aAndV, aOrV, aAndT, aOrT, aChain, aIxL, aIxT, aIxS, aSl, aPart, aNoPart, aSlL, aSlT, aSlS, aCat, aCatT, aAddS, aDGet, aDIn, aDGet2, asDPut, aDNewK, aDNewT, aCall, aBM, aAppend, aPopAt, aLenS, aLenStr, aListOf, aTupleOf, aInt1, aMin2, aIsi, aIsN, aNotN, aCont, aBreak, aNever, aDisp, aPairs, kvs?, mergeD, EndA, D.eq2, D.isNon, D.key, D.items, ptrList, listM, seqAt, Cell.items, dGetM, dPutM, isDict, tyOf, kitD, updM_same, updM_upd, List.set_cons_zero, List.set_cons_succ, List.getElem?_cons_zero, List.getElem?_cons_succ, List.length_cons, List.length_nil, Option.map_some, Option.bind_some, Option.isSome_some, Option.isSome_none, Option.getD_some, Option.getD_none, List.foldl_cons, List.foldl_nil, decide_eq_true_eq, if_true, if_false, Bool.not_true, Bool.not_false, Bool.false_eq_true, true_and, and_true, Nat.reduceLT, Int.reduceLT, Int.reduceLE, ↓reduceIte, codeD, take_code, u2, if_pos hl2, keyT_code]
        exact ⟨_, _, rfl, by rw [updM_ne nnb]; exact u1, updM_same, Nat.le_trans (put_len _ _ _) (by omega), u4.part (List.take_prefix _ _) (by simp), mle_upd u5 hb⟩
      · rintro ρ' μ' ⟨bk, x9, rfl, u1, u2, u3, u4, u5⟩
        rw [rngD_len] at u3
        have c3 := fok.code.2.1
        have hl2 : bk.length < 100000 := by omega
        have ea : ahead rs i r (j + 1) = ahead rs i r j ++ [f.code] := by
          unfold ahead
          rw [take_snoc hf, List.map_append, List.append_assoc]; rfl
        simp only [aSeq, aIf, aRet, aRetN, aDrop, aAsg, aNext, aPar, agName, agTup, agCons, agNil, agSub, rSetA, aTest, aOp, aUn, aV, aC, aI, aI0, aU, aEq, aNe, aCons, aNil, aTup, aLst, aCB, aIfE, aNotV, aNotT, aAndV, aOrV, aAndT, aOrT, aChain, aIxL, aIxT, aIxS, aSl, aPart, aNoPart, aSlL, aSlT, aSlS, aCat, aCatT, aAddS, aDGet, aDIn, aDGet2, asDPut, aDNewK, aDNewT, aCall, aBM, aAppend, aPopAt, aLenS, aLenStr, aListOf, aTupleOf, aInt1, aMin2, aIsi, aIsN, aNotN, aCont, aBreak, aNever, aDisp, aPairs, kvs?, mergeD, EndA, D.eq2, D.isNon, D.key, D.items, ptrList, listM, seqAt, Cell.items, dGetM, dPutM, isDict, tyOf, kitD, updM_same, updM_upd, List.set_cons_zero, List.set_cons_succ, List.getElem?_cons_zero, List.getElem?_cons_succ, List.length_cons, List.length_nil, Option.map_some, Option.bind_some, Option.isSome_some, Option.isSome_none, Option.getD_some, Option.getD_none, List.foldl_cons, List.foldl_nil, decide_eq_true_eq, if_true, if_false, Bool.not_true, Bool.not_false, Bool.false_eq_true, true_and, and_true, Nat.reduceLT, Int.reduceLT, Int.reduceLE, ↓reduceIte, codeD, u2, if_pos hl2, keyT_code]
        refine ⟨_, _, _, _, _, rfl, by rw [updM_ne nnb]; exact u1, updM_same, Nat.le_trans (put_len _ _ _) (by omega), ?_, mle_upd u5 hb⟩
        rw [ea]
        exact u4.whole
    · rintro ρ' μ' ⟨bk, x6, x7, x8, x9, rfl, e1, e2, e3, e4, e5⟩
      rw [enumD_len, List.length_map] at e3 e4
      have en : (rs.take (i + 1)).map Prod.fst = (rs.take i).map Prod.fst ++ [r.1] := by rw [take_snoc hr', List.map_append]; rfl
      have ea : ahead rs i r r.2.length = codesOf (rs.take (i + 1)) := by
        unfold ahead
        rw [List.take_length, take_snoc hr', codes_app, codes_one]
      rw [ea] at e4
      refine ⟨_, bk, _, _, _, _, _, _, _, rfl, e1, e2, Nat.le_trans (put_len _ _ _) (by omega), by omega, fun z hz => ?_, e4, e5⟩
      rw [look_put] at hz
      rw [en, List.mem_append]
      by_cases e : (Sum.inr r.1 : Key) = .inr z
      · exact .inr (by rw [Sum.inr.inj e]; exact List.mem_singleton.mpr rfl)
      · rw [if_neg e] at hz
        exact .inl (g5 z hz)
  · rintro ρ' μ' ⟨nk, bk, x3, x4, x5, x6, x7, x8, x9, rfl, g1, g2, g3, g4, g5, g6, g7⟩
    exact ⟨μ, g7, k⟩
end
end M53

set_option maxHeartbeats 4000000
namespace M53
open PySem PySem.Spec PyProof.Rows L2 Evl Gd DL StX
/-! ### tables -/
def KeysOk (kvs : List (List Key × D)) : Prop := ∀ kk ∈ kvs.map Prod.fst, ∃ c : List Int, kk = ck c ∧ 1 ≤ c.length ∧ c.length ≤ 3
theorem put_keys {κ : Type} [DecidableEq κ] {kvs : List (κ × D)} {k x : κ} {v : D} (h : x ∈ (putD kvs k v).map Prod.fst) : x = k ∨ x ∈ kvs.map Prod.fst := by
  by_cases e : k = x
  · exact .inl e.symm
  · refine .inr (Classical.byContradiction fun n => ?_)
    have h1 : lookD (putD kvs k v) x = none := by rw [look_put, if_neg e]; exact look_none.mpr n
    exact look_none.mp h1 h
theorem KeysOk.put {kvs : List (List Key × D)} {c : List Int} {v : D} (h : KeysOk kvs) (h1 : 1 ≤ c.length) (h2 : c.length ≤ 3) : KeysOk (putD kvs (ck c) v) := fun kk hk => by
  rcases put_keys hk with rfl | hk
  · exact ⟨c, rfl, h1, h2⟩
  · exact h kk hk
section
variable {P : Program} {w : World} {K : PySem.W.Frag} {mg : Str → Option Value} {base : Heap}
def ctOps : Ct := fun ds μ Q => ∃ rs : List Row, ds = [.tup (rs.map rowD)] ∧ RowsOk rs ∧ ∀ p kvs, μ p = none → KeysOk kvs → kvs.length ≤ 54 → Q (.ptr p) (updM μ p (.dt kvs))
def IO (rs : List Row) (q : Addr) (μ : Mu) (n : Nat) (ρ' : Rho) (μ' : Mu) : Prop := ∃ (kvs : List (List Key × D)) (x2 x3 x4 x5 : Option D), ρ' = [some (.tup (rs.map rowD)), some (.ptr q), x2, x3, x4, x5] ∧ μ' = updM μ q (.dt kvs) ∧ KeysOk kvs ∧ kvs.length ≤ n
def IOr (rs : List Row) (r : Row) (q : Addr) (μ : Mu) (n : Nat) (ρ' : Rho) (μ' : Mu) : Prop := ∃ (kvs : List (List Key × D)) (x4 x5 : Option D), ρ' = [some (.tup (rs.map rowD)), some (.ptr q), some (.str r.1), some (.tup (r.2.map formD)), x4, x5] ∧ μ' = updM μ q (.dt kvs) ∧ KeysOk kvs ∧ kvs.length ≤ n
def N_opcodes_of : List Str := ["rows", "found", "name", "forms", "number", "form"]
abbrev s_opcodes_of : Stmt := top 43
theorem sc_opcodes_of : FnScope N_opcodes_of ["rows"] (defScope s_opcodes_of) := ⟨rfl, rfl, rfl, by decide +kernel, rfl, by decide +kernel, by decide +kernel⟩
theorem ok_opcodes_of {f : Addr} {fd : FuncData} (F : Fun K "_opcodes_of" "_opcodes_of" s_opcodes_of f fd) (T : Tx K mg) (D_length_of : Df P w K mg base CX0 2 "length_of" ["form"] (spOf ctLong)) : FnOk P w K mg base CX0 3 f fd ["rows"] (spOf ctOps) := by
  refine okD F sc_opcodes_of (fun ds μ Q h => ?_) (fun cdv A outer s H E hr => ?_)
  · obtain ⟨rs, rfl, _⟩ := h
    rfl
  have hu : (A.deeper (envOfC "_opcodes_of" (defScope s_opcodes_of) s.heap.objs.size f cdv)).units + 1 < cLine := by have := hr.units; omega
  refine ⟨_, (qss_cons (qs_set (i := 1) sc_opcodes_of.nd rfl (Or.inl rfl) qe_dnewT)
  (qss_cons (qs_for PassesOwn.never rfl (qi_tup (qv 0)) (qg_tup rfl (qgs_cons (qg_name (i := 2) sc_opcodes_of.nd rfl (Or.inl rfl)) (qgs_cons (qg_name (i := 3) sc_opcodes_of.nd rfl (Or.inl rfl)) qgs_nil)))
    (qss_one (qs_for PassesOwn.never rfl (qi_enumT (by rfl) T.b_enumerate (qa_cons (qv 3) qa_nil)) (qg_tup rfl (qgs_cons (qg_name (i := 4) sc_opcodes_of.nd rfl (Or.inl rfl)) (qgs_cons (qg_name (i := 5) sc_opcodes_of.nd rfl (Or.inl rfl)) qgs_nil)))
        (qss_one (qs_dput hu (qv 1) (qe_ix iq_tup (qv 5) qe_int (fun _ _ => rfl)) (qe_tup (qa_cons (qv 2) (qa_cons (qv 4) (qa_cons (qe_df D_length_of (hr.mono (by decide)) rfl (qa_cons (qv 5) qa_nil)) (qa_cons (qv 5) qa_nil))))) rfl)))))
  (qss_one (qs_ret (qv 1))))), ?_⟩
  rintro ds μ Q ⟨rs, rfl, ok, k⟩
  show (_ : AS) (EndA Q) [some (.tup (rs.map rowD)), none, none, none, none, none] μ
  simp only [aSeq, aIf, aRet, aRetN, aDrop, aAsg, aNext, aPar, agName, agTup, agCons, agNil, agSub, rSetA, aTest, aOp, aUn, aV, aC, aI, aI0, aU, aEq, aNe, aCons, aNil, aTup, aLst, aCB, aIfE, aNotV, aNotT, aAndV, aOrV, aAndT, aOrT, aChain, aIxL, aIxT, aIxS, aSl, aPart, aNoPart, aSlL, aSlT, aSlS, aCat, aCatT, aAddS, aDGet, aDIn, aDGet2, asDPut, aDNewK, aDNewT, aCall, aBM, aAppend, aPopAt, aLenS, aLenStr, aListOf, aTupleOf, aInt1, aMin2, aIsi, aIsN, aNotN, aCont, aBreak, aNever, aDisp, aPairs, kvs?, mergeD, EndA, D.eq2, D.isNon, D.key, D.items, ptrList, listM, seqAt, Cell.items, dGetM, dPutM, isDict, tyOf, kitD, updM_same, updM_upd, List.set_cons_zero, List.set_cons_succ, List.getElem?_cons_zero, List.getElem?_cons_succ, List.length_cons, List.length_nil, Option.map_some, Option.bind_some, Option.isSome_some, Option.isSome_none, Option.getD_some, Option.getD_none, List.foldl_cons, List.foldl_nil, decide_eq_true_eq, if_true, if_false, Bool.not_true, Bool.not_false, Bool.false_eq_true, true_and, and_true, Nat.reduceLT, Int.reduceLT, Int.reduceLE, ↓reduceIte]
  intro q hq
  simp only [aSeq, aIf, aRet, aRetN, aDrop, aAsg, aNext, aPar, agName, agTup, agCons, agNil, agSub, rSetA, aTest, aOp, aUn, aV, aC, aI, aI0, aU, aEq, aNe, aCons, aNil, aTup, aLst, aCB, aIfE, aNotV, aNotT, aAndV, aOrV, aAndT, aOrT, aChain, aIxL, aIxT, aIxS, aSl, aPart, aNoPart, aSlL, aSlT, aSlS, aCat, aCatT, aAddS, aDGet, aDIn, aDGet2, asDPut, aDNewK, aDNewT, aCall, aBM, aAppend, aPopAt, aLenS, aLenStr, aListOf, aTupleOf, aInt1, aMin2, aIsi, aIsN, aNotN, aCont, aBreak, aNever, aDisp, aPairs, kvs?, mergeD, EndA, D.eq2, D.isNon, D.key, D.items, ptrList, listM, seqAt, Cell.items, dGetM, dPutM, isDict, tyOf, kitD, updM_same, updM_upd, List.set_cons_zero, List.set_cons_succ, List.getElem?_cons_zero, List.getElem?_cons_succ, List.length_cons, List.length_nil, Option.map_some, Option.bind_some, Option.isSome_some, Option.isSome_none, Option.getD_some, Option.getD_none, List.foldl_cons, List.foldl_nil, decide_eq_true_eq, if_true, if_false, Bool.not_true, Bool.not_false, Bool.false_eq_true, true_and, and_true, Nat.reduceLT, Int.reduceLT, Int.reduceLE, ↓reduceIte, aFor, aITup]
  refine ⟨fun i => IO rs q μ (6 * i), ⟨[], none, none, none, none, rfl, rfl, by unfold KeysOk; simp, Nat.le_refl _⟩, fun _ _ _ _ _ => trivial, ?_, ?_⟩
  · rintro i x ρ' μ' hx ⟨kvs, x2, x3, x4, x5, rfl, rfl, g1, g2⟩
    rw [List.getElem?_map] at hx
    obtain ⟨r, hr', rfl⟩ := Option.map_eq_some_iff.mp hx
    have hmem := List.mem_of_getElem? hr'
    have hi := (List.getElem?_eq_some_iff.mp hr').1
    have i100 := ok.few
    obtain ⟨o1, o2, _⟩ := ok.forms r hmem
    simp only [aSeq, aIf, aRet, aRetN, aDrop, aAsg, aNext, aPar, agName, agTup, agCons, agNil, agSub, rSetA, aTest, aOp, aUn, aV, aC, aI, aI0, aU, aEq, aNe, aCons, aNil, aTup, aLst, aCB, aIfE, aNotV, aNotT, aAndV, aOrV, aAndT, aOrT, aChain, aIxL, aIxT, aIxS, aSl, aPart, aNoPart, aSlL, aSlT, aSlS, aCat, aCatT, aAddS, aDGet, aDIn, aDGet2, asDPut, aDNewK, aDNewT, aCall, aBM, aAppend, aPopAt, aLenS, aLenStr, aListOf, aTupleOf, aInt1, aMin2, aIsi, aIsN, aNotN, aCont, aBreak, aNever, aDisp, aPairs, kvs?, mergeD, EndA, D.eq2, D.isNon, D.key, D.items, ptrList, listM, seqAt, Cell.items, dGetM, dPutM, isDict, tyOf, kitD, updM_same, updM_upd, List.set_cons_zero, List.set_cons_succ, List.getElem?_cons_zero, List.getElem?_cons_succ, List.length_cons, List.length_nil, Option.map_some, Option.bind_some, Option.isSome_some, Option.isSome_none, Option.getD_some, Option.getD_none, List.foldl_cons, List.foldl_nil, decide_eq_true_eq, if_true, if_false, Bool.not_true, Bool.not_false, Bool.false_eq_true, true_and, and_true, Nat.reduceLT, Int.reduceLT, Int.reduceLE, ↓reduceIte, rowD]
    refine ⟨rfl, ?_⟩
    simp only [aSeq, aIf, aRet, aRetN, aDrop, aAsg, aNext, aPar, agName, agTup, agCons, agNil, agSub, rSetA, aTest, aOp, aUn, aV, aC, aI, aI0, aU, aEq, aNe, aCons, aNil, aTup, aLst, aCB, aIfE, aNotV, aNotT, aAndV, aOrV, aAndT, aOrT, aChain, aIxL, aIxT, aIxS, aSl, aPart, aNoPart, aSlL, aSlT, aSlS, aCat, aCatT, aAddS, aDGet, aDIn, aDGet2, asDPut, aDNewK, aDNewT, aCall, aBM, aAppend, aPopAt, aLenS, aLenStr, aListOf, aTupleOf, aInt1, aMin2, aIsi, aIsN, aNotN, aCont, aBreak, aNever, aDisp, aPairs, kvs?, mergeD, EndA, D.eq2, D.isNon, D.key, D.items, ptrList, listM, seqAt, Cell.items, dGetM, dPutM, isDict, tyOf, kitD, updM_same, updM_upd, List.set_cons_zero, List.set_cons_succ, List.getElem?_cons_zero, List.getElem?_cons_succ, List.length_cons, List.length_nil, Option.map_some, Option.bind_some, Option.isSome_some, Option.isSome_none, Option.getD_some, Option.getD_none, List.foldl_cons, List.foldl_nil, decide_eq_true_eq, if_true, if_false, Bool.not_true, Bool.not_false, Bool.false_eq_true, true_and, and_true, Nat.reduceLT, Int.reduceLT, Int.reduceLE, ↓reduceIte, aFor, aIEnumT]
    refine ⟨fun j => IOr rs r q μ (6 * i + j), ⟨kvs, x4, x5, rfl, rfl, g1, g2⟩, fun _ _ _ _ _ => trivial, ?_, ?_⟩
    · rintro j x ρ' μ' hx ⟨kvs, x4, x5, rfl, rfl, g1, g2⟩
      obtain ⟨d, hd, rfl⟩ := enumD_at hx
      rw [List.getElem?_map] at hd
      obtain ⟨f, hf, rfl⟩ := Option.map_eq_some_iff.mp hd
      have fok := form_at ok hmem (List.mem_of_getElem? hf)
      have hj := (List.getElem?_eq_some_iff.mp hf).1
      have j0' : atI [D.tup (f.code.map .int), .tup f.fs] 0 = some (D.tup (f.code.map .int)) := rfl
      have hl : kvs.length < 100000 := by omega
      simp only [aSeq, aIf, aRet, aRetN, aDrop, aAsg, aNext, aPar, agName, agTup, agCons, agNil, agSub, rSetA, aTest, aOp, aUn, aV, aC, aI, aI0, aU, aEq, aNe, aCons, aNil, aTup, aLst, aCB, aIfE, aNotV, aNotT, aAndV, aOrV, aAndT, aOrT, aChain, aIxL, aIxT, aIxS, aSl, aPart, aNoPart, aSlL, aSlT, aSlS, aCat, aCatT, aAddS, aDGet, aDIn, aDGet2, asDPut, aDNewK, aDNewT, aCall, aBM, aAppend, aPopAt, aLenS, aLenStr, aListOf, aTupleOf, aInt1, aMin2, aIsi, aIsN, aNotN, aCont, aBreak, aNever, aDisp, aPairs, kvs?, mergeD, EndA, D.eq2, D.isNon, D.key, D.items, ptrList, listM, seqAt, Cell.items, dGetM, dPutM, isDict, tyOf, kitD, updM_same, updM_upd, List.set_cons_zero, List.set_cons_succ, List.getElem?_cons_zero, List.getElem?_cons_succ, List.length_cons, List.length_nil, Option.map_some, Option.bind_some, Option.isSome_some, Option.isSome_none, Option.getD_some, Option.getD_none, List.foldl_cons, List.foldl_nil, decide_eq_true_eq, if_true, if_false, Bool.not_true, Bool.not_false, Bool.false_eq_true, true_and, and_true, Nat.reduceLT, Int.reduceLT, Int.reduceLE, ↓reduceIte]
      refine ⟨rfl, ?_⟩
      refine ⟨f, rfl, fok.fs, by have := fok.few; omega, ?_⟩
      simp only [aSeq, aIf, aRet, aRetN, aDrop, aAsg, aNext, aPar, agName, agTup, agCons, agNil, agSub, rSetA, aTest, aOp, aUn, aV, aC, aI, aI0, aU, aEq, aNe, aCons, aNil, aTup, aLst, aCB, aIfE, aNotV, aNotT, aAndV, aOrV, aAndT, aOrT, aChain, aIxL, aIxT, aIxS, aSl, aPart, aNoPart, aSlL, aSlT, aSlS, aCat, aCatT, aAddS, aDGet, aDIn, aDGet2, asDPut, aDNewK, aDNewT, aCall, aBM, aAppend, aPopAt, aLenS, aLenStr, aListOf, aTupleOf, aInt1, aMin2, aIsi, aIsN, aNotN, aCont, aBreak, aNever, aDisp, aPairs, kvs?, mergeD, EndA, D.eq2, D.isNon, D.key, D.items, ptrList, listM, seqAt, Cell.items, dGetM, dPutM, isDict, tyOf, kitD, updM_same, updM_upd, List.set_cons_zero, List.set_cons_succ, List.getElem?_cons_zero, List.getElem?_cons_succ, List.length_cons, List.length_nil, Option.map_some, Option.bind_some, Option.isSome_some, Option.isSome_none, Option.getD_some, Option.getD_none, List.foldl_cons, List.foldl_nil, decide_eq_true_eq, if_true, if_false, Bool.not_true, Bool.not_false, Bool.false_eq_true, true_and, and_true, Nat.reduceLT, Int.reduceLT, Int.reduceLE, ↓reduceIte, formD, codeD, if_pos hl]
      refine ⟨by decide, ?_⟩
      simp only [aSeq, aIf, aRet, aRetN, aDrop, aAsg, aNext, aPar, agName, agTup, agCons, agNil, agSub, rSetA, aTest, aOp, aUn, aV, aC, aI, aI0, aU, aEq, aNe, aCons, aNil, aTup, aLst, aCB, aIfE, aNotV, aNotT, aAndV, aOrV, aAndT, aOrT, aChain, aIxL, aIxT, aIxS, aSl, aPart, aNoPart, aSlL, aSlT, aSlS, aCat, aCatT, aAddS, aDGet, aDIn, aDGet2, asDPut, aDNewK, aDNewT, aCall, aBM, aAppend, aPopAt, aLenS, aLenStr, aListOf, aTupleOf, aInt1, aMin2, aIsi, aIsN, aNotN, aCont, aBreak, aNever, aDisp, aPairs, kvs?, mergeD, EndA, D.eq2, D.isNon, D.key, D.items, ptrList, listM, seqAt, Cell.items, dGetM, dPutM, isDict, tyOf, kitD, updM_same, updM_upd, List.set_cons_zero, List.set_cons_succ, List.getElem?_cons_zero, List.getElem?_cons_succ, List.length_cons, List.length_nil, Option.map_some, Option.bind_some, Option.isSome_some, Option.isSome_none, Option.getD_some, Option.getD_none, List.foldl_cons, List.foldl_nil, decide_eq_true_eq, if_true, if_false, Bool.not_true, Bool.not_false, Bool.false_eq_true, true_and, and_true, Nat.reduceLT, Int.reduceLT, Int.reduceLE, ↓reduceIte, j0', keyT_code]
      exact ⟨_, _, _, rfl, rfl, g1.put fok.code.1 fok.code.2.1, Nat.le_trans (put_len _ _ _) (by omega)⟩
    · rintro ρ' μ' ⟨kvs, x4, x5, rfl, rfl, g1, g2⟩
      rw [enumD_len, List.length_map] at g2
      exact ⟨kvs, _, _, _, _, rfl, rfl, g1, by omega⟩
  · rintro ρ' μ' ⟨kvs, x2, x3, x4, x5, rfl, rfl, g1, g2⟩
    rw [List.length_map] at g2
    simp only [aSeq, aIf, aRet, aRetN, aDrop, aAsg, aNext, aPar, agName, agTup, agCons, agNil, agSub, rSetA, aTest, aOp, aUn, aV, aC, aI, aI0, aU, aEq, aNe, aCons, aNil, aTup, aLst, aCB, aIfE, aNotV, aNotT, aAndV, aOrV, aAndT, aOrT, aChain, aIxL, aIxT, aIxS, aSl, aPart, aNoPart, aSlL, aSlT, aSlS, aCat, aCatT, aAddS, aDGet, aDIn, aDGet2, asDPut, aDNewK, aDNewT, aCall, aBM, aAppend, aPopAt, aLenS, aLenStr, aListOf, aTupleOf, aInt1, aMin2, aIsi, aIsN, aNotN, aCont, aBreak, aNever, aDisp, aPairs, kvs?, mergeD, EndA, D.eq2, D.isNon, D.key, D.items, ptrList, listM, seqAt, Cell.items, dGetM, dPutM, isDict, tyOf, kitD, updM_same, updM_upd, List.set_cons_zero, List.set_cons_succ, List.getElem?_cons_zero, List.getElem?_cons_succ, List.length_cons, List.length_nil, Option.map_some, Option.bind_some, Option.isSome_some, Option.isSome_none, Option.getD_some, Option.getD_none, List.foldl_cons, List.foldl_nil, decide_eq_true_eq, if_true, if_false, Bool.not_true, Bool.not_false, Bool.false_eq_true, true_and, and_true, Nat.reduceLT, Int.reduceLT, Int.reduceLE, ↓reduceIte]
    exact ⟨_, Mle.refl _, k q kvs hq g1 (by have := ok.few; omega)⟩
/-! making a table -/
def TFLD : List Str := ["_rows", "_forms", "_lengths", "_opcodes", "_short", "_longer_sizes"]
structure TabC (K : PySem.W.Frag) (C : Addr) : Prop where
  cls : Cls K C
  no : ∀ f ∈ TFLD, NoAttr K C f
def kvF (rs : List Row) : List (Key × D) := rs.map fun r => (.inr r.1, .tup (r.2.map formD))
def TabAt (C : Addr) (μ : Mu) (p : Addr) (rs : List Row) : Prop := ∃ q r, μ p = some (.ins C (("_rows", .tup (rs.map rowD)) :: ("_forms", .ptr q) :: r)) ∧ μ q = some (.dk (kvF rs))
def ctInitB (C : Addr) : Ct := fun ds μ Q => ∃ p rs, ds = [.ptr p, .tup (rs.map rowD)] ∧ RowsOk rs ∧ μ p = some (.ins C []) ∧ ∀ μ', MleX [p] μ μ' → TabAt C μ' p rs → Q .non μ'
def ctInit (C : Addr) : Ct := fun ds μ Q => ∃ p rs, ds = .ptr p :: rs.map rowD ∧ RowsOk rs ∧ μ p = some (.ins C []) ∧ ∀ μ', MleX [p] μ μ' → TabAt C μ' p rs → Q .non μ'
theorem put1 (a : D) : putFD ("_rows" : Str) a [] = ([("_rows", a)] : List (Str × D)) := rfl
theorem put2 (a b : D) : putFD ("_forms" : Str) b ([("_rows", a)] : List (Str × D)) = ([("_rows", a), ("_forms", b)] : List (Str × D)) := rfl
theorem put3 (a b c : D) : putFD ("_lengths" : Str) c ([("_rows", a), ("_forms", b)] : List (Str × D)) = ([("_rows", a), ("_forms", b), ("_lengths", c)] : List (Str × D)) := rfl
theorem put4 (a b c d : D) : putFD ("_opcodes" : Str) d ([("_rows", a), ("_forms", b), ("_lengths", c)] : List (Str × D)) = ([("_rows", a), ("_forms", b), ("_lengths", c), ("_opcodes", d)] : List (Str × D)) := rfl
theorem put5 (a b c d e : D) : putFD ("_short" : Str) e ([("_rows", a), ("_forms", b), ("_lengths", c), ("_opcodes", d)] : List (Str × D)) = ([("_rows", a), ("_forms", b), ("_lengths", c), ("_opcodes", d), ("_short", e)] : List (Str × D)) := rfl
theorem put6 (a b c d e g : D) : putFD ("_longer_sizes" : Str) g ([("_rows", a), ("_forms", b), ("_lengths", c), ("_opcodes", d), ("_short", e)] : List (Str × D)) = ([("_rows", a), ("_forms", b), ("_lengths", c), ("_opcodes", d), ("_short", e), ("_longer_sizes", g)] : List (Str × D)) := rfl
theorem look4 (a b c d : D) : List.lookup ("_opcodes" : Str) ([("_rows", a), ("_forms", b), ("_lengths", c), ("_opcodes", d)] : List (Str × D)) = some d := rfl
theorem look5 (a b c d e : D) : List.lookup ("_opcodes" : Str) ([("_rows", a), ("_forms", b), ("_lengths", c), ("_opcodes", d), ("_short", e)] : List (Str × D)) = some d := rfl
theorem mem_tfld {f : Str} (h : TFLD.contains f = true := by decide) : f ∈ TFLD := by simpa using h
def dcScope (st : Stmt) : Scope := match st with
  | .Assign _ (.DictComp _ _ _ sc _) _ => sc
  | .Assign _ e _ => defScope (.Expr e ⟨0, 0, 0, 0⟩)
  | _ => defScope st
def N_Table___init : List Str := ["self", "rows", "name", "forms", "opcode", "found", "form"]
abbrev s_Table___init : Stmt := inClass (top 37) 0
theorem sc_Table___init : FnScope N_Table___init ["self", "rows"] (defScope s_Table___init) := ⟨rfl, rfl, rfl, by decide +kernel, rfl, by decide +kernel, by decide +kernel⟩
theorem kvF_none {rs : List Row} {i : Nat} {r : Row} (nd : (rs.map Prod.fst).Nodup) (h : rs[i]? = some r) : lookD (kvF (rs.take i)) (.inr r.1) = none := by
  refine look_none.mpr fun hm => ?_
  unfold kvF at hm
  rw [List.map_map] at hm
  obtain ⟨r2, h2, e⟩ := List.mem_map.mp hm
  have e : r2.1 = r.1 := Sum.inr.inj e
  rw [split_at h, List.map_append, List.map_cons] at nd
  have et : rs.take i ++ r :: rs.drop (i + 1) = rs := (split_at h).symm
  exact (List.nodup_append.mp nd).2.2 r2.1 (by first | exact List.mem_map.mpr ⟨r2, h2, rfl⟩ | (rw [et]; exact List.mem_map.mpr ⟨r2, h2, rfl⟩)) r.1 (List.mem_cons_self ..) e
theorem kvF_snoc {rs : List Row} {i : Nat} {r : Row} (nd : (rs.map Prod.fst).Nodup) (h : rs[i]? = some r) : putD (kvF (rs.take i)) (.inr r.1) (.tup (r.2.map formD)) = kvF (rs.take (i + 1)) := by
  rw [put_new (kvF_none nd h), take_snoc h]
  unfold kvF
  rw [List.map_append]
  rfl
theorem mleX_of {l : List Addr} {a b : Mu} (h : Mle a b) : MleX l a b := fun x _ o e => h x o e
theorem ne_code {kvs : List (List Key × D)} (h : KeysOk kvs) {i : Nat} {x : List Key × D} (hx : kvs[i]? = some x) : ∃ c : List Int, x.1.map kD = c.map D.int ∧ 1 ≤ c.length ∧ c.length ≤ 3 := by
  obtain ⟨c, e, h1, h2⟩ := h x.1 (List.mem_map.mpr ⟨x, List.mem_of_getElem? hx, rfl⟩)
  refine ⟨c, ?_, h1, h2⟩
  rw [e]
  unfold ck
  rw [List.map_map]
  rfl
theorem ok_Table_init {f C : Addr} {oc kV doc pm cdv ct : Value} {od an : Option Addr} {osl : Array (Option Value)} (lk : K.lookup f = some ⟨oc, od, .func (PySem.W.fnOf "__init__" "Table.__init__" (defArgs s_Table___init) (defBody s_Table___init) (defScope s_Table___init) .none kV doc pm an cdv ct), osl⟩) (hcd : PySem.W.codeIn K cdv "Table.__init__" = true)
    (T : Tx K mg) (TC : TabC K C) (D_check_rows : Df P w K mg base CX0 5 "_check_rows" ["rows"] (spOf ctRows)) (D_length_of : Df P w K mg base CX0 2 "length_of" ["form"] (spOf ctLong)) (D_opcodes_of : Df P w K mg base CX0 3 "_opcodes_of" ["rows"] (spOf ctOps)) : FnR P w K mg base CX0 6 f (spOf (ctInit C)) := by
  refine fnR_star (ctB := ctInitB C) (fn_star (k := 5) (ps := ["self"]) (pv := "rows") (N := N_Table___init) (sp := spOf (ctInitB C)) lk hcd sc_Table___init cxUp_none (fun us rest h => bind_star1 (B := fun l => bindArgs (PySem.W.fnOf "__init__" "Table.__init__" (defArgs s_Table___init) (defBody s_Table___init) (defScope s_Table___init) .none kV doc pm an cdv ct) ⟨l, []⟩) (p1 := "self") (pv := "rows") (fun _ => rfl) (fun _ _ _ => rfl) us rest h) (fun A outer s H vs Q E hr h => ?_)) (fun ds μ Q h => ?_)
  · obtain ⟨B, μ, ds, Qa, b, r, hc, kk⟩ := h
    have hu : (A.deeper (envOfC "Table.__init__" (defScope s_Table___init) s.heap.objs.size f cdv)).units + 1 < cLine := by have := hr.units; omega
    have key : ∃ au, QSs (cxOf CX0 P w K mg base N_Table___init "Table.__init__" (defScope s_Table___init) f cdv A outer s H E).nox (defBody s_Table___init) au ∧ ∀ ds μ Q, ctInitB C ds μ Q → au (EndA Q) (startD N_Table___init ds) μ := by
      refine ⟨_, (qss_cons (qs_expr (qe_df D_check_rows (hr.mono (by decide)) rfl (qa_cons (qv 1) qa_nil)))
        (qss_cons (qs_fld (qv 0) (qv 1) rfl)
        (qss_cons (qs_fld (qv 0) (qe_dc (own := [("name", 2), ("forms", 3)]) rfl sc_Table___init.nd (qi_tup (qv 1)) (blkOk_by (N := N_Table___init) (sc := defScope s_Table___init) (by decide +kernel)) (fun _ _ _ _ _ => qg_tup (n := 2) rfl (qgs_cons (qg_name (i := 2) sc_Table___init.nd rfl (Or.inl rfl)) (qgs_cons (qg_name (i := 3) sc_Table___init.nd rfl (Or.inl rfl)) qgs_nil))) (fun _ _ _ _ _ => qts_nil) (fun _ _ _ _ _ => qv 2) (fun _ _ _ _ _ => qv 3)) rfl)
        (qss_cons (qs_fld (qv 0) (qe_dc (own := [("name", 2), ("forms", 3)]) rfl sc_Table___init.nd (qi_tup (qv 1)) (blkOk_by (N := N_Table___init) (sc := defScope s_Table___init) (by decide +kernel)) (fun _ _ _ _ _ => qg_tup (n := 2) rfl (qgs_cons (qg_name (i := 2) sc_Table___init.nd rfl (Or.inl rfl)) (qgs_cons (qg_name (i := 3) sc_Table___init.nd rfl (Or.inl rfl)) qgs_nil))) (fun _ _ _ _ _ => qts_nil) (fun _ _ _ _ _ => qv 2)
          (fun _ _ _ _ _ => qe_lc (own := [("form", 6)]) rfl sc_Table___init.nd (qi_tup (qv 3)) (blkOk_by (N := N_Table___init) (sc := dcScope ((defBody s_Table___init).getD 3 (.Pass ⟨0, 0, 0, 0⟩))) (by decide +kernel)) (fun _ _ _ _ _ => qg_name (i := 6) sc_Table___init.nd rfl (Or.inl rfl)) (fun _ _ _ _ _ => qts_nil) (fun _ _ _ _ _ => (qe_df D_length_of (hr.mono (by decide)) rfl (qa_cons (qv 6) qa_nil))))) rfl)
        (qss_cons (qs_fld (qv 0) (qe_df D_opcodes_of (hr.mono (by decide)) rfl (qa_cons (qv 1) qa_nil)) rfl)
        (qss_cons (qs_fld (qv 0) (qe_lock (qe_dc (own := [("opcode", 4), ("found", 5)]) rfl sc_Table___init.nd (qi_itemsT (qe_fld (qv 0) rfl)) (blkOk_by (N := N_Table___init) (sc := defScope s_Table___init) (by decide +kernel)) (fun _ _ _ _ _ => qg_tup (n := 2) rfl (qgs_cons (qg_name (i := 4) sc_Table___init.nd rfl (Or.inl rfl)) (qgs_cons (qg_name (i := 5) sc_Table___init.nd rfl (Or.inl rfl)) qgs_nil)))
          (fun _ _ _ _ _ => qts_one (qt_cmpR oq_eq (qe_callB cq_len (by rfl) T.b_len (by decide +kernel) (qa_cons (qv 4) qa_nil)) qe_int (nomark _))) (fun _ _ _ _ _ => qe_ix iq_tup (qv 4) qe_int (fun _ _ => rfl)) (fun _ _ _ _ _ => qv 5))) rfl)
        (qss_one (qs_fld (qv 0) (qe_sorted_set rfl (by rfl) T.b_sorted (by rfl) T.b_set (qe_lock (qe_lc (own := [("opcode", 4)]) rfl sc_Table___init.nd (qi_keysT (qe_fld (qv 0) rfl)) (blkOk_by (N := N_Table___init) (sc := defScope s_Table___init) (by decide +kernel)) (fun _ _ _ _ _ => qg_name (i := 4) sc_Table___init.nd rfl (Or.inl rfl)) (fun _ _ _ _ _ => qts_one (qt_cmpR oq_gt (qe_callB cq_len (by rfl) T.b_len (by decide +kernel) (qa_cons (qv 4) qa_nil)) qe_int (nomark _))) (fun _ _ _ _ _ => (qe_callB cq_len (by rfl) T.b_len (by decide +kernel) (qa_cons (qv 4) qa_nil)))))) rfl)))))))), ?_⟩
      rintro ds μ Q ⟨p, rs, rfl, ok, hp, k⟩
      show (_ : AS) (EndA Q) [some (.ptr p), some (.tup (rs.map rowD)), none, none, none, none, none] μ
      have l100 := ok.few
      simp only [aSeq, aIf, aRet, aRetN, aDrop, aAsg, aNext, aPar, agName, agTup, agCons, agNil, agSub, rSetA, aTest, aOp, aUn, aV, aC, aI, aI0, aU, aEq, aNe, aCons, aNil, aTup, aLst, aCB, aIfE, aNotV, aNotT, aAndV, aOrV, aAndT, aOrT, aChain, aIxL, aIxT, aIxS, aSl, aPart, aNoPart, aSlL, aSlT, aSlS, aCat, aCatT, aAddS, aDGet, aDIn, aDGet2, asDPut, aDNewK, aDNewT, aCall, aBM, aAppend, aPopAt, aLenS, aLenStr, aListOf, aTupleOf, aInt1, aMin2, aIsi, aIsN, aNotN, aCont, aBreak, aNever, aDisp, aPairs, kvs?, mergeD, EndA, D.eq2, D.isNon, D.key, D.items, ptrList, listM, seqAt, Cell.items, dGetM, dPutM, isDict, tyOf, kitD, updM_same, updM_upd, List.set_cons_zero, List.set_cons_succ, List.getElem?_cons_zero, List.getElem?_cons_succ, List.length_cons, List.length_nil, Option.map_some, Option.bind_some, Option.isSome_some, Option.isSome_none, Option.getD_some, Option.getD_none, List.foldl_cons, List.foldl_nil, decide_eq_true_eq, if_true, if_false, Bool.not_true, Bool.not_false, Bool.false_eq_true, true_and, and_true, Nat.reduceLT, Int.reduceLT, Int.reduceLE, ↓reduceIte]
      refine ⟨rs, rfl, ok, ?_⟩
      simp only [aSeq, aIf, aRet, aRetN, aDrop, aAsg, aNext, aPar, agName, agTup, agCons, agNil, agSub, rSetA, aTest, aOp, aUn, aV, aC, aI, aI0, aU, aEq, aNe, aCons, aNil, aTup, aLst, aCB, aIfE, aNotV, aNotT, aAndV, aOrV, aAndT, aOrT, aChain, aIxL, aIxT, aIxS, aSl, aPart, aNoPart, aSlL, aSlT, aSlS, aCat, aCatT, aAddS, aDGet, aDIn, aDGet2, asDPut, aDNewK, aDNewT, aCall, aBM, aAppend, aPopAt, aLenS, aLenStr, aListOf, aTupleOf, aInt1, aMin2, aIsi, aIsN, aNotN, aCont, aBreak, aNever, aDisp, aPairs, kvs?, mergeD, EndA, D.eq2, D.isNon, D.key, D.items, ptrList, listM, seqAt, Cell.items, dGetM, dPutM, isDict, tyOf, kitD, updM_same, updM_upd, List.set_cons_zero, List.set_cons_succ, List.getElem?_cons_zero, List.getElem?_cons_succ, List.length_cons, List.length_nil, Option.map_some, Option.bind_some, Option.isSome_some, Option.isSome_none, Option.getD_some, Option.getD_none, List.foldl_cons, List.foldl_nil, decide_eq_true_eq, if_true, if_false, Bool.not_true, Bool.not_false, Bool.false_eq_true, true_and, and_true, Nat.reduceLT, Int.reduceLT, Int.reduceLE, ↓reduceIte, asFld, hp]
      refine ⟨TC.cls, TC.no _ mem_tfld, ?_⟩
      rw [put1]
      -- the forms
      refine aDc_gen (rs.map rowD) (fun _ => True) (fun i acc => acc = kvF (rs.take i)) (fun R h => by simp only [aSeq, aIf, aRet, aRetN, aDrop, aAsg, aNext, aPar, agName, agTup, agCons, agNil, agSub, rSetA, aTest, aOp, aUn, aV, aC, aI, aI0, aU, aEq, aNe, aCons, aNil, aTup, aLst, aCB, aIfE, aNotV, aNotT, aAndV, aOrV, aAndT, aOrT, aChain, aIxL, aIxT, aIxS, aSl, aPart, aNoPart, aSlL, aSlT, aSlS, aCat, aCatT, aAddS, aDGet, aDIn, aDGet2, asDPut, aDNewK, aDNewT, aCall, aBM, aAppend, aPopAt, aLenS, aLenStr, aListOf, aTupleOf, aInt1, aMin2, aIsi, aIsN, aNotN, aCont, aBreak, aNever, aDisp, aPairs, kvs?, mergeD, EndA, D.eq2, D.isNon, D.key, D.items, ptrList, listM, seqAt, Cell.items, dGetM, dPutM, isDict, tyOf, kitD, updM_same, updM_upd, List.set_cons_zero, List.set_cons_succ, List.getElem?_cons_zero, List.getElem?_cons_succ, List.length_cons, List.length_nil, Option.map_some, Option.bind_some, Option.isSome_some, Option.isSome_none, Option.getD_some, Option.getD_none, List.foldl_cons, List.foldl_nil, decide_eq_true_eq, if_true, if_false, Bool.not_true, Bool.not_false, Bool.false_eq_true, true_and, and_true, Nat.reduceLT, Int.reduceLT, Int.reduceLE, ↓reduceIte, aITup]; exact h) (fun _ _ => trivial) rfl (fun i acc e => by rw [e]; unfold kvF; rw [List.length_map, List.length_take]; omega) (fun i x acc μ' hx ea hm Nx Sk hN hS => ?_) fun q1 acc μ1 hq1 hm1 hc1 ea1 => ?_
      · rw [List.getElem?_map] at hx
        obtain ⟨r, hr', rfl⟩ := Option.map_eq_some_iff.mp hx
        simp only [aSeq, aIf, aRet, aRetN, aDrop, aAsg, aNext, aPar, agName, agTup, agCons, agNil, agSub, rSetA, aTest, aOp, aUn, aV, aC, aI, aI0, aU, aEq, aNe, aCons, aNil, aTup, aLst, aCB, aIfE, aNotV, aNotT, aAndV, aOrV, aAndT, aOrT, aChain, aIxL, aIxT, aIxS, aSl, aPart, aNoPart, aSlL, aSlT, aSlS, aCat, aCatT, aAddS, aDGet, aDIn, aDGet2, asDPut, aDNewK, aDNewT, aCall, aBM, aAppend, aPopAt, aLenS, aLenStr, aListOf, aTupleOf, aInt1, aMin2, aIsi, aIsN, aNotN, aCont, aBreak, aNever, aDisp, aPairs, kvs?, mergeD, EndA, D.eq2, D.isNon, D.key, D.items, ptrList, listM, seqAt, Cell.items, dGetM, dPutM, isDict, tyOf, kitD, updM_same, updM_upd, List.set_cons_zero, List.set_cons_succ, List.getElem?_cons_zero, List.getElem?_cons_succ, List.length_cons, List.length_nil, Option.map_some, Option.bind_some, Option.isSome_some, Option.isSome_none, Option.getD_some, Option.getD_none, List.foldl_cons, List.foldl_nil, decide_eq_true_eq, if_true, if_false, Bool.not_true, Bool.not_false, Bool.false_eq_true, true_and, and_true, Nat.reduceLT, Int.reduceLT, Int.reduceLE, ↓reduceIte, rowD, aYes, wipeD, List.map_cons, List.map_nil]
        refine hN _ _ (.inr r.1) _ rfl (Mle.refl _) ?_
        rw [ea]
        exact kvF_snoc ok.nd hr'
      rw [List.length_map, List.take_length] at ea1
      subst ea1
      have n1 : q1 ≠ p := (fresh_upd hq1).1
      have b1 : μ1 p = _ := hm1 _ _ updM_same
      have z1 : MleX [p] μ μ1 := (((MleX.refl [p] μ).upd (by simp)).trans (mleX_of hm1))
      simp only [aSeq, aIf, aRet, aRetN, aDrop, aAsg, aNext, aPar, agName, agTup, agCons, agNil, agSub, rSetA, aTest, aOp, aUn, aV, aC, aI, aI0, aU, aEq, aNe, aCons, aNil, aTup, aLst, aCB, aIfE, aNotV, aNotT, aAndV, aOrV, aAndT, aOrT, aChain, aIxL, aIxT, aIxS, aSl, aPart, aNoPart, aSlL, aSlT, aSlS, aCat, aCatT, aAddS, aDGet, aDIn, aDGet2, asDPut, aDNewK, aDNewT, aCall, aBM, aAppend, aPopAt, aLenS, aLenStr, aListOf, aTupleOf, aInt1, aMin2, aIsi, aIsN, aNotN, aCont, aBreak, aNever, aDisp, aPairs, kvs?, mergeD, EndA, D.eq2, D.isNon, D.key, D.items, ptrList, listM, seqAt, Cell.items, dGetM, dPutM, isDict, tyOf, kitD, updM_same, updM_upd, List.set_cons_zero, List.set_cons_succ, List.getElem?_cons_zero, List.getElem?_cons_succ, List.length_cons, List.length_nil, Option.map_some, Option.bind_some, Option.isSome_some, Option.isSome_none, Option.getD_some, Option.getD_none, List.foldl_cons, List.foldl_nil, decide_eq_true_eq, if_true, if_false, Bool.not_true, Bool.not_false, Bool.false_eq_true, true_and, and_true, Nat.reduceLT, Int.reduceLT, Int.reduceLE, ↓reduceIte, b1, put2, Nat.reduceAdd]
      refine ⟨TC.cls, TC.no _ mem_tfld, ?_⟩
      -- the lengths
      refine aDc_gen (rs.map rowD) (fun _ => True) (fun i acc => acc.length ≤ i ∧ i ≤ rs.length) (fun R h => by simp only [aSeq, aIf, aRet, aRetN, aDrop, aAsg, aNext, aPar, agName, agTup, agCons, agNil, agSub, rSetA, aTest, aOp, aUn, aV, aC, aI, aI0, aU, aEq, aNe, aCons, aNil, aTup, aLst, aCB, aIfE, aNotV, aNotT, aAndV, aOrV, aAndT, aOrT, aChain, aIxL, aIxT, aIxS, aSl, aPart, aNoPart, aSlL, aSlT, aSlS, aCat, aCatT, aAddS, aDGet, aDIn, aDGet2, asDPut, aDNewK, aDNewT, aCall, aBM, aAppend, aPopAt, aLenS, aLenStr, aListOf, aTupleOf, aInt1, aMin2, aIsi, aIsN, aNotN, aCont, aBreak, aNever, aDisp, aPairs, kvs?, mergeD, EndA, D.eq2, D.isNon, D.key, D.items, ptrList, listM, seqAt, Cell.items, dGetM, dPutM, isDict, tyOf, kitD, updM_same, updM_upd, List.set_cons_zero, List.set_cons_succ, List.getElem?_cons_zero, List.getElem?_cons_succ, List.length_cons, List.length_nil, Option.map_some, Option.bind_some, Option.isSome_some, Option.isSome_none, Option.getD_some, Option.getD_none, List.foldl_cons, List.foldl_nil, decide_eq_true_eq, if_true, if_false, Bool.not_true, Bool.not_false, Bool.false_eq_true, true_and, and_true, Nat.reduceLT, Int.reduceLT, Int.reduceLE, ↓reduceIte, aITup]; exact h) (fun _ _ => trivial) ⟨Nat.le_refl _, Nat.zero_le _⟩ (fun i acc e => by omega) (fun i x acc μ' hx ea hm Nx Sk hN hS => ?_) fun q2 acc μ2 hq2 hm2 hc2 ea2 => ?_
      · rw [List.getElem?_map] at hx
        obtain ⟨r, hr', rfl⟩ := Option.map_eq_some_iff.mp hx
        have hi := (List.getElem?_eq_some_iff.mp hr').1
        have hmem := List.mem_of_getElem? hr'
        simp only [aSeq, aIf, aRet, aRetN, aDrop, aAsg, aNext, aPar, agName, agTup, agCons, agNil, agSub, rSetA, aTest, aOp, aUn, aV, aC, aI, aI0, aU, aEq, aNe, aCons, aNil, aTup, aLst, aCB, aIfE, aNotV, aNotT, aAndV, aOrV, aAndT, aOrT, aChain, aIxL, aIxT, aIxS, aSl, aPart, aNoPart, aSlL, aSlT, aSlS, aCat, aCatT, aAddS, aDGet, aDIn, aDGet2, asDPut, aDNewK, aDNewT, aCall, aBM, aAppend, aPopAt, aLenS, aLenStr, aListOf, aTupleOf, aInt1, aMin2, aIsi, aIsN, aNotN, aCont, aBreak, aNever, aDisp, aPairs, kvs?, mergeD, EndA, D.eq2, D.isNon, D.key, D.items, ptrList, listM, seqAt, Cell.items, dGetM, dPutM, isDict, tyOf, kitD, updM_same, updM_upd, List.set_cons_zero, List.set_cons_succ, List.getElem?_cons_zero, List.getElem?_cons_succ, List.length_cons, List.length_nil, Option.map_some, Option.bind_some, Option.isSome_some, Option.isSome_none, Option.getD_some, Option.getD_none, List.foldl_cons, List.foldl_nil, decide_eq_true_eq, if_true, if_false, Bool.not_true, Bool.not_false, Bool.false_eq_true, true_and, and_true, Nat.reduceLT, Int.reduceLT, Int.reduceLE, ↓reduceIte, rowD, aYes, wipeD, List.map_cons, List.map_nil]
        refine aLc_gen (r.2.map formD) (fun _ => True) (fun i acc => acc.length ≤ i ∧ i ≤ r.2.length) (fun R h => by simp only [aSeq, aIf, aRet, aRetN, aDrop, aAsg, aNext, aPar, agName, agTup, agCons, agNil, agSub, rSetA, aTest, aOp, aUn, aV, aC, aI, aI0, aU, aEq, aNe, aCons, aNil, aTup, aLst, aCB, aIfE, aNotV, aNotT, aAndV, aOrV, aAndT, aOrT, aChain, aIxL, aIxT, aIxS, aSl, aPart, aNoPart, aSlL, aSlT, aSlS, aCat, aCatT, aAddS, aDGet, aDIn, aDGet2, asDPut, aDNewK, aDNewT, aCall, aBM, aAppend, aPopAt, aLenS, aLenStr, aListOf, aTupleOf, aInt1, aMin2, aIsi, aIsN, aNotN, aCont, aBreak, aNever, aDisp, aPairs, kvs?, mergeD, EndA, D.eq2, D.isNon, D.key, D.items, ptrList, listM, seqAt, Cell.items, dGetM, dPutM, isDict, tyOf, kitD, updM_same, updM_upd, List.set_cons_zero, List.set_cons_succ, List.getElem?_cons_zero, List.getElem?_cons_succ, List.length_cons, List.length_nil, Option.map_some, Option.bind_some, Option.isSome_some, Option.isSome_none, Option.getD_some, Option.getD_none, List.foldl_cons, List.foldl_nil, decide_eq_true_eq, if_true, if_false, Bool.not_true, Bool.not_false, Bool.false_eq_true, true_and, and_true, Nat.reduceLT, Int.reduceLT, Int.reduceLE, ↓reduceIte, aITup]; exact h) (fun _ _ => trivial) ⟨Nat.le_refl _, Nat.zero_le _⟩ (fun i acc e => by have := (ok.forms r hmem).2.1; omega) (fun j y acc2 μ3 hy ea2 hm2 Nx2 Sk2 hN2 hS2 => ?_) fun q3 acc3 μ3 hq3 hm3 hc3 ea3 => ?_
        · rw [List.getElem?_map] at hy
          obtain ⟨f, hf, rfl⟩ := Option.map_eq_some_iff.mp hy
          have hj := (List.getElem?_eq_some_iff.mp hf).1
          have fok := form_at ok hmem (List.mem_of_getElem? hf)
          simp only [aSeq, aIf, aRet, aRetN, aDrop, aAsg, aNext, aPar, agName, agTup, agCons, agNil, agSub, rSetA, aTest, aOp, aUn, aV, aC, aI, aI0, aU, aEq, aNe, aCons, aNil, aTup, aLst, aCB, aIfE, aNotV, aNotT, aAndV, aOrV, aAndT, aOrT, aChain, aIxL, aIxT, aIxS, aSl, aPart, aNoPart, aSlL, aSlT, aSlS, aCat, aCatT, aAddS, aDGet, aDIn, aDGet2, asDPut, aDNewK, aDNewT, aCall, aBM, aAppend, aPopAt, aLenS, aLenStr, aListOf, aTupleOf, aInt1, aMin2, aIsi, aIsN, aNotN, aCont, aBreak, aNever, aDisp, aPairs, kvs?, mergeD, EndA, D.eq2, D.isNon, D.key, D.items, ptrList, listM, seqAt, Cell.items, dGetM, dPutM, isDict, tyOf, kitD, updM_same, updM_upd, List.set_cons_zero, List.set_cons_succ, List.getElem?_cons_zero, List.getElem?_cons_succ, List.length_cons, List.length_nil, Option.map_some, Option.bind_some, Option.isSome_some, Option.isSome_none, Option.getD_some, Option.getD_none, List.foldl_cons, List.foldl_nil, decide_eq_true_eq, if_true, if_false, Bool.not_true, Bool.not_false, Bool.false_eq_true, true_and, and_true, Nat.reduceLT, Int.reduceLT, Int.reduceLE, ↓reduceIte, aYes, wipeD, List.map_cons, List.map_nil]
          exact ⟨f, rfl, fok.fs, by have := fok.few; omega, hN2 _ _ (Mle.refl _) ⟨by rw [List.length_append, List.length_singleton]; omega, by omega⟩⟩
        · exact hN _ _ (.inr r.1) _ rfl hm3 ⟨Nat.le_trans (put_len _ _ _) (by omega), by omega⟩
      have b2 : μ2 p = _ := hm2 _ _ updM_same
      have c2 : μ2 q1 = some (.dk (kvF rs)) := hm2 _ _ (by rw [updM_ne n1]; exact hc1)
      have z2 : MleX [p] μ μ2 := ((z1.upd (by simp)).trans (mleX_of hm2))
      simp only [aSeq, aIf, aRet, aRetN, aDrop, aAsg, aNext, aPar, agName, agTup, agCons, agNil, agSub, rSetA, aTest, aOp, aUn, aV, aC, aI, aI0, aU, aEq, aNe, aCons, aNil, aTup, aLst, aCB, aIfE, aNotV, aNotT, aAndV, aOrV, aAndT, aOrT, aChain, aIxL, aIxT, aIxS, aSl, aPart, aNoPart, aSlL, aSlT, aSlS, aCat, aCatT, aAddS, aDGet, aDIn, aDGet2, asDPut, aDNewK, aDNewT, aCall, aBM, aAppend, aPopAt, aLenS, aLenStr, aListOf, aTupleOf, aInt1, aMin2, aIsi, aIsN, aNotN, aCont, aBreak, aNever, aDisp, aPairs, kvs?, mergeD, EndA, D.eq2, D.isNon, D.key, D.items, ptrList, listM, seqAt, Cell.items, dGetM, dPutM, isDict, tyOf, kitD, updM_same, updM_upd, List.set_cons_zero, List.set_cons_succ, List.getElem?_cons_zero, List.getElem?_cons_succ, List.length_cons, List.length_nil, Option.map_some, Option.bind_some, Option.isSome_some, Option.isSome_none, Option.getD_some, Option.getD_none, List.foldl_cons, List.foldl_nil, decide_eq_true_eq, if_true, if_false, Bool.not_true, Bool.not_false, Bool.false_eq_true, true_and, and_true, Nat.reduceLT, Int.reduceLT, Int.reduceLE, ↓reduceIte, b2, put3, Nat.reduceAdd]
      refine ⟨TC.cls, TC.no _ mem_tfld, rs, rfl, ok, fun r kvs hr0 ko kl => ?_⟩
      obtain ⟨nrp, hr0⟩ := fresh_upd hr0
      have nrq : r ≠ q1 := fresh_ne hr0 c2
      have hrμ : μ r = none := z2.live (by simpa using nrp) hr0
      simp only [aSeq, aIf, aRet, aRetN, aDrop, aAsg, aNext, aPar, agName, agTup, agCons, agNil, agSub, rSetA, aTest, aOp, aUn, aV, aC, aI, aI0, aU, aEq, aNe, aCons, aNil, aTup, aLst, aCB, aIfE, aNotV, aNotT, aAndV, aOrV, aAndT, aOrT, aChain, aIxL, aIxT, aIxS, aSl, aPart, aNoPart, aSlL, aSlT, aSlS, aCat, aCatT, aAddS, aDGet, aDIn, aDGet2, asDPut, aDNewK, aDNewT, aCall, aBM, aAppend, aPopAt, aLenS, aLenStr, aListOf, aTupleOf, aInt1, aMin2, aIsi, aIsN, aNotN, aCont, aBreak, aNever, aDisp, aPairs, kvs?, mergeD, EndA, D.eq2, D.isNon, D.key, D.items, ptrList, listM, seqAt, Cell.items, dGetM, dPutM, isDict, tyOf, kitD, updM_same, updM_upd, List.set_cons_zero, List.set_cons_succ, List.getElem?_cons_zero, List.getElem?_cons_succ, List.length_cons, List.length_nil, Option.map_some, Option.bind_some, Option.isSome_some, Option.isSome_none, Option.getD_some, Option.getD_none, List.foldl_cons, List.foldl_nil, decide_eq_true_eq, if_true, if_false, Bool.not_true, Bool.not_false, Bool.false_eq_true, true_and, and_true, Nat.reduceLT, Int.reduceLT, Int.reduceLE, ↓reduceIte, updM_ne nrp.symm, put4, Nat.reduceAdd]
      refine ⟨TC.cls, TC.no _ mem_tfld, ?_⟩
      have z3 : MleX [p] μ (updM (updM (updM μ2 p (Cell.ins C [("_rows", D.tup (List.map rowD rs)), ("_forms", D.ptr q1), ("_lengths", D.ptr q2)])) r (Cell.dt kvs)) p (Cell.ins C [("_rows", D.tup (List.map rowD rs)), ("_forms", D.ptr q1), ("_lengths", D.ptr q2), ("_opcodes", D.ptr r)])) := ((z2.upd (by simp)).free hrμ).upd (by simp)
      have dD : (updM (updM (updM μ2 p (Cell.ins C [("_rows", D.tup (List.map rowD rs)), ("_forms", D.ptr q1), ("_lengths", D.ptr q2)])) r (Cell.dt kvs)) p (Cell.ins C [("_rows", D.tup (List.map rowD rs)), ("_forms", D.ptr q1), ("_lengths", D.ptr q2), ("_opcodes", D.ptr r)])) r = some (.dt kvs) := by rw [updM_ne nrp, updM_same]
      have pD := updM_same (μ := updM (updM μ2 p (Cell.ins C [("_rows", D.tup (List.map rowD rs)), ("_forms", D.ptr q1), ("_lengths", D.ptr q2)])) r (Cell.dt kvs)) (a := p) (c := Cell.ins C [("_rows", D.tup (List.map rowD rs)), ("_forms", D.ptr q1), ("_lengths", D.ptr q2), ("_opcodes", D.ptr r)])
      have cD : (updM (updM (updM μ2 p (Cell.ins C [("_rows", D.tup (List.map rowD rs)), ("_forms", D.ptr q1), ("_lengths", D.ptr q2)])) r (Cell.dt kvs)) p (Cell.ins C [("_rows", D.tup (List.map rowD rs)), ("_forms", D.ptr q1), ("_lengths", D.ptr q2), ("_opcodes", D.ptr r)])) q1 = some (.dk (kvF rs)) := by rw [updM_ne n1, updM_ne nrq.symm, updM_ne n1]; exact c2
      have hat : ∀ (i : Nat) (x : D), (kvs.map fun kv => D.tup [.tup (kv.1.map kD), kv.2])[i]? = some x → ∃ (c : List Int) (d : D), x = .tup [.tup (c.map D.int), d] ∧ 1 ≤ c.length ∧ c.length ≤ 3 ∧ i < kvs.length := fun i x hx => by
        rw [List.getElem?_map] at hx
        obtain ⟨kv, hkv, rfl⟩ := Option.map_eq_some_iff.mp hx
        obtain ⟨c, e, h1, h2⟩ := ne_code ko hkv
        exact ⟨c, kv.2, by rw [e], h1, h2, (List.getElem?_eq_some_iff.mp hkv).1⟩
      have hat2 : ∀ (i : Nat) (x : D), (kvs.map fun kv => D.tup (kv.1.map kD))[i]? = some x → ∃ (c : List Int), x = .tup (c.map D.int) ∧ 1 ≤ c.length ∧ c.length ≤ 3 ∧ i < kvs.length := fun i x hx => by
        rw [List.getElem?_map] at hx
        obtain ⟨kv, hkv, rfl⟩ := Option.map_eq_some_iff.mp hx
        obtain ⟨c, e, h1, h2⟩ := ne_code ko hkv
        exact ⟨c, by rw [e], h1, h2, (List.getElem?_eq_some_iff.mp hkv).1⟩
      generalize updM (updM (updM μ2 p (Cell.ins C [("_rows", D.tup (List.map rowD rs)), ("_forms", D.ptr q1), ("_lengths", D.ptr q2)])) r (Cell.dt kvs)) p (Cell.ins C [("_rows", D.tup (List.map rowD rs)), ("_forms", D.ptr q1), ("_lengths", D.ptr q2), ("_opcodes", D.ptr r)]) = μD at z3 dD pD cD ⊢
      -- the short ones
      refine ⟨r, kvs, dD, fun o ws => ?_⟩
      refine aDc_gen (kvs.map fun kv => D.tup [.tup (kv.1.map kD), kv.2]) (fun μ2 => μ2 r = some (.lkt o ws kvs)) (fun i acc => acc.length ≤ i ∧ i ≤ kvs.length) (fun R h => by
        simp only [aSeq, aIf, aRet, aRetN, aDrop, aAsg, aNext, aPar, agName, agTup, agCons, agNil, agSub, rSetA, aTest, aOp, aUn, aV, aC, aI, aI0, aU, aEq, aNe, aCons, aNil, aTup, aLst, aCB, aIfE, aNotV, aNotT, aAndV, aOrV, aAndT, aOrT, aChain, aIxL, aIxT, aIxS, aSl, aPart, aNoPart, aSlL, aSlT, aSlS, aCat, aCatT, aAddS, aDGet, aDIn, aDGet2, asDPut, aDNewK, aDNewT, aCall, aBM, aAppend, aPopAt, aLenS, aLenStr, aListOf, aTupleOf, aInt1, aMin2, aIsi, aIsN, aNotN, aCont, aBreak, aNever, aDisp, aPairs, kvs?, mergeD, EndA, D.eq2, D.isNon, D.key, D.items, ptrList, listM, seqAt, Cell.items, dGetM, dPutM, isDict, tyOf, kitD, updM_same, updM_upd, List.set_cons_zero, List.set_cons_succ, List.getElem?_cons_zero, List.getElem?_cons_succ, List.length_cons, List.length_nil, Option.map_some, Option.bind_some, Option.isSome_some, Option.isSome_none, Option.getD_some, Option.getD_none, List.foldl_cons, List.foldl_nil, decide_eq_true_eq, if_true, if_false, Bool.not_true, Bool.not_false, Bool.false_eq_true, true_and, and_true, Nat.reduceLT, Int.reduceLT, Int.reduceLE, ↓reduceIte, aIItemsT, aFld, updM_ne nrp.symm, pD, look4]
        exact ⟨TC.cls, TC.no _ mem_tfld, h⟩) (fun μ' hm => hm _ _ updM_same) ⟨Nat.le_refl _, Nat.zero_le _⟩ (fun i acc e => by omega) (fun i x acc μ' hx ea hm Nx Sk hN hS => ?_) fun q3 acc μ4 hq3 hm4 hc4 ea4 => ?_
      · obtain ⟨c, d, rfl, c1, c3, hi⟩ := hat i x hx
        obtain ⟨y, ys, rfl⟩ : ∃ y ys, c = y :: ys := by
          cases c with
          | nil => cases c1
          | cons y ys => exact ⟨y, ys, rfl⟩
        have i0 : atI (D.int y :: ys.map D.int) 0 = some (.int y) := at_zero
        simp only [aSeq, aIf, aRet, aRetN, aDrop, aAsg, aNext, aPar, agName, agTup, agCons, agNil, agSub, rSetA, aTest, aOp, aUn, aV, aC, aI, aI0, aU, aEq, aNe, aCons, aNil, aTup, aLst, aCB, aIfE, aNotV, aNotT, aAndV, aOrV, aAndT, aOrT, aChain, aIxL, aIxT, aIxS, aSl, aPart, aNoPart, aSlL, aSlT, aSlS, aCat, aCatT, aAddS, aDGet, aDIn, aDGet2, asDPut, aDNewK, aDNewT, aCall, aBM, aAppend, aPopAt, aLenS, aLenStr, aListOf, aTupleOf, aInt1, aMin2, aIsi, aIsN, aNotN, aCont, aBreak, aNever, aDisp, aPairs, kvs?, mergeD, EndA, D.eq2, D.isNon, D.key, D.items, ptrList, listM, seqAt, Cell.items, dGetM, dPutM, isDict, tyOf, kitD, updM_same, updM_upd, List.set_cons_zero, List.set_cons_succ, List.getElem?_cons_zero, List.getElem?_cons_succ, List.length_cons, List.length_nil, Option.map_some, Option.bind_some, Option.isSome_some, Option.isSome_none, Option.getD_some, Option.getD_none, List.foldl_cons, List.foldl_nil, decide_eq_true_eq, if_true, if_false, Bool.not_true, Bool.not_false, Bool.false_eq_true, true_and, and_true, Nat.reduceLT, Int.reduceLT, Int.reduceLE, ↓reduceIte, wipeD, List.map_cons, List.map_nil, i0]
        split
        · exact hN _ _ (.inl y) _ rfl (Mle.refl _) ⟨Nat.le_trans (put_len _ _ _) (by omega), by omega⟩
        · exact hS _ (Mle.refl _) ⟨by omega, by omega⟩
      refine ⟨hm4 _ _ updM_same, ?_⟩
      have b4 : (updM μ4 r (Cell.dt kvs)) p = some (Cell.ins C [("_rows", D.tup (List.map rowD rs)), ("_forms", D.ptr q1), ("_lengths", D.ptr q2), ("_opcodes", D.ptr r)]) := by rw [updM_ne nrp.symm]; exact hm4 _ _ (by rw [updM_ne nrp.symm]; exact pD)
      have z4 : MleX [p] μ (updM (updM μ4 r (Cell.dt kvs)) p (Cell.ins C [("_rows", D.tup (List.map rowD rs)), ("_forms", D.ptr q1), ("_lengths", D.ptr q2), ("_opcodes", D.ptr r), ("_short", D.ptr q3)])) := (((z3.free hrμ).trans (mleX_of hm4)).free hrμ).upd (by simp)
      have c4 : (updM (updM μ4 r (Cell.dt kvs)) p (Cell.ins C [("_rows", D.tup (List.map rowD rs)), ("_forms", D.ptr q1), ("_lengths", D.ptr q2), ("_opcodes", D.ptr r), ("_short", D.ptr q3)])) q1 = some (.dk (kvF rs)) := by rw [updM_ne n1, updM_ne nrq.symm]; exact hm4 _ _ (by rw [updM_ne nrq.symm]; exact cD)
      have dE : (updM (updM μ4 r (Cell.dt kvs)) p (Cell.ins C [("_rows", D.tup (List.map rowD rs)), ("_forms", D.ptr q1), ("_lengths", D.ptr q2), ("_opcodes", D.ptr r), ("_short", D.ptr q3)])) r = some (.dt kvs) := by rw [updM_ne nrp, updM_same]
      have pE := updM_same (μ := updM μ4 r (Cell.dt kvs)) (a := p) (c := Cell.ins C [("_rows", D.tup (List.map rowD rs)), ("_forms", D.ptr q1), ("_lengths", D.ptr q2), ("_opcodes", D.ptr r), ("_short", D.ptr q3)])
      simp only [aSeq, aIf, aRet, aRetN, aDrop, aAsg, aNext, aPar, agName, agTup, agCons, agNil, agSub, rSetA, aTest, aOp, aUn, aV, aC, aI, aI0, aU, aEq, aNe, aCons, aNil, aTup, aLst, aCB, aIfE, aNotV, aNotT, aAndV, aOrV, aAndT, aOrT, aChain, aIxL, aIxT, aIxS, aSl, aPart, aNoPart, aSlL, aSlT, aSlS, aCat, aCatT, aAddS, aDGet, aDIn, aDGet2, asDPut, aDNewK, aDNewT, aCall, aBM, aAppend, aPopAt, aLenS, aLenStr, aListOf, aTupleOf, aInt1, aMin2, aIsi, aIsN, aNotN, aCont, aBreak, aNever, aDisp, aPairs, kvs?, mergeD, EndA, D.eq2, D.isNon, D.key, D.items, ptrList, listM, seqAt, Cell.items, dGetM, dPutM, isDict, tyOf, kitD, updM_same, updM_upd, List.set_cons_zero, List.set_cons_succ, List.getElem?_cons_zero, List.getElem?_cons_succ, List.length_cons, List.length_nil, Option.map_some, Option.bind_some, Option.isSome_some, Option.isSome_none, Option.getD_some, Option.getD_none, List.foldl_cons, List.foldl_nil, decide_eq_true_eq, if_true, if_false, Bool.not_true, Bool.not_false, Bool.false_eq_true, true_and, and_true, Nat.reduceLT, Int.reduceLT, Int.reduceLE, ↓reduceIte, b4, put5, Nat.reduceAdd]
      refine ⟨TC.cls, TC.no _ mem_tfld, ?_⟩
      generalize updM (updM μ4 r (Cell.dt kvs)) p (Cell.ins C [("_rows", D.tup (List.map rowD rs)), ("_forms", D.ptr q1), ("_lengths", D.ptr q2), ("_opcodes", D.ptr r), ("_short", D.ptr q3)]) = μE at z4 c4 dE pE ⊢
      -- the longer ones
      simp only [aSeq, aIf, aRet, aRetN, aDrop, aAsg, aNext, aPar, agName, agTup, agCons, agNil, agSub, rSetA, aTest, aOp, aUn, aV, aC, aI, aI0, aU, aEq, aNe, aCons, aNil, aTup, aLst, aCB, aIfE, aNotV, aNotT, aAndV, aOrV, aAndT, aOrT, aChain, aIxL, aIxT, aIxS, aSl, aPart, aNoPart, aSlL, aSlT, aSlS, aCat, aCatT, aAddS, aDGet, aDIn, aDGet2, asDPut, aDNewK, aDNewT, aCall, aBM, aAppend, aPopAt, aLenS, aLenStr, aListOf, aTupleOf, aInt1, aMin2, aIsi, aIsN, aNotN, aCont, aBreak, aNever, aDisp, aPairs, kvs?, mergeD, EndA, D.eq2, D.isNon, D.key, D.items, ptrList, listM, seqAt, Cell.items, dGetM, dPutM, isDict, tyOf, kitD, updM_same, updM_upd, List.set_cons_zero, List.set_cons_succ, List.getElem?_cons_zero, List.getElem?_cons_succ, List.length_cons, List.length_nil, Option.map_some, Option.bind_some, Option.isSome_some, Option.isSome_none, Option.getD_some, Option.getD_none, List.foldl_cons, List.foldl_nil, decide_eq_true_eq, if_true, if_false, Bool.not_true, Bool.not_false, Bool.false_eq_true, true_and, and_true, Nat.reduceLT, Int.reduceLT, Int.reduceLE, ↓reduceIte, aSorted]
      refine ⟨r, kvs, dE, fun o ws => ?_⟩
      refine aLc_gen (kvs.map fun kv => D.tup (kv.1.map kD)) (fun μ2 => μ2 r = some (.lkt o ws kvs)) (fun i acc => (∃ ns : List Int, acc = ns.map .int) ∧ acc.length ≤ i ∧ i ≤ kvs.length) (fun R h => by
        simp only [aSeq, aIf, aRet, aRetN, aDrop, aAsg, aNext, aPar, agName, agTup, agCons, agNil, agSub, rSetA, aTest, aOp, aUn, aV, aC, aI, aI0, aU, aEq, aNe, aCons, aNil, aTup, aLst, aCB, aIfE, aNotV, aNotT, aAndV, aOrV, aAndT, aOrT, aChain, aIxL, aIxT, aIxS, aSl, aPart, aNoPart, aSlL, aSlT, aSlS, aCat, aCatT, aAddS, aDGet, aDIn, aDGet2, asDPut, aDNewK, aDNewT, aCall, aBM, aAppend, aPopAt, aLenS, aLenStr, aListOf, aTupleOf, aInt1, aMin2, aIsi, aIsN, aNotN, aCont, aBreak, aNever, aDisp, aPairs, kvs?, mergeD, EndA, D.eq2, D.isNon, D.key, D.items, ptrList, listM, seqAt, Cell.items, dGetM, dPutM, isDict, tyOf, kitD, updM_same, updM_upd, List.set_cons_zero, List.set_cons_succ, List.getElem?_cons_zero, List.getElem?_cons_succ, List.length_cons, List.length_nil, Option.map_some, Option.bind_some, Option.isSome_some, Option.isSome_none, Option.getD_some, Option.getD_none, List.foldl_cons, List.foldl_nil, decide_eq_true_eq, if_true, if_false, Bool.not_true, Bool.not_false, Bool.false_eq_true, true_and, and_true, Nat.reduceLT, Int.reduceLT, Int.reduceLE, ↓reduceIte, aIKeysT, aFld, updM_ne nrp.symm, pE, look5]
        exact ⟨TC.cls, TC.no _ mem_tfld, h⟩) (fun μ' hm => hm _ _ updM_same) ⟨⟨[], rfl⟩, Nat.le_refl _, Nat.zero_le _⟩ (fun i acc e => by omega) (fun i x acc μ' hx ea hm Nx Sk hN hS => ?_) fun q4 acc μ5 hq4 hm5 hc5 ea5 => ?_
      · obtain ⟨c, rfl, c1, c3, hi⟩ := hat2 i x hx
        obtain ⟨⟨ns, rfl⟩, ea⟩ := ea
        simp only [aSeq, aIf, aRet, aRetN, aDrop, aAsg, aNext, aPar, agName, agTup, agCons, agNil, agSub, rSetA, aTest, aOp, aUn, aV, aC, aI, aI0, aU, aEq, aNe, aCons, aNil, aTup, aLst, aCB, aIfE, aNotV, aNotT, aAndV, aOrV, aAndT, aOrT, aChain, aIxL, aIxT, aIxS, aSl, aPart, aNoPart, aSlL, aSlT, aSlS, aCat, aCatT, aAddS, aDGet, aDIn, aDGet2, asDPut, aDNewK, aDNewT, aCall, aBM, aAppend, aPopAt, aLenS, aLenStr, aListOf, aTupleOf, aInt1, aMin2, aIsi, aIsN, aNotN, aCont, aBreak, aNever, aDisp, aPairs, kvs?, mergeD, EndA, D.eq2, D.isNon, D.key, D.items, ptrList, listM, seqAt, Cell.items, dGetM, dPutM, isDict, tyOf, kitD, updM_same, updM_upd, List.set_cons_zero, List.set_cons_succ, List.getElem?_cons_zero, List.getElem?_cons_succ, List.length_cons, List.length_nil, Option.map_some, Option.bind_some, Option.isSome_some, Option.isSome_none, Option.getD_some, Option.getD_none, List.foldl_cons, List.foldl_nil, decide_eq_true_eq, if_true, if_false, Bool.not_true, Bool.not_false, Bool.false_eq_true, true_and, and_true, Nat.reduceLT, Int.reduceLT, Int.reduceLE, ↓reduceIte, wipeD, List.map_cons, List.map_nil, List.length_map]
        split
        · exact hN _ _ (Mle.refl _) ⟨⟨ns ++ [(c.length : Int)], by rw [List.map_append]; rfl⟩, by rw [List.length_append, List.length_singleton]; omega, by omega⟩
        · exact hS _ (Mle.refl _) ⟨⟨ns, rfl⟩, by omega, by omega⟩
      obtain ⟨⟨ns, rfl⟩, ea5⟩ := ea5
      have n4r : q4 ≠ r := (fresh_upd hq4).1
      have hL : (updM μ5 r (Cell.dt kvs)) q4 = some (.lst (ns.map .int)) := by rw [updM_ne n4r]; exact hc5
      refine ⟨hm5 _ _ updM_same, ?_⟩
      simp only [aSeq, aIf, aRet, aRetN, aDrop, aAsg, aNext, aPar, agName, agTup, agCons, agNil, agSub, rSetA, aTest, aOp, aUn, aV, aC, aI, aI0, aU, aEq, aNe, aCons, aNil, aTup, aLst, aCB, aIfE, aNotV, aNotT, aAndV, aOrV, aAndT, aOrT, aChain, aIxL, aIxT, aIxS, aSl, aPart, aNoPart, aSlL, aSlT, aSlS, aCat, aCatT, aAddS, aDGet, aDIn, aDGet2, asDPut, aDNewK, aDNewT, aCall, aBM, aAppend, aPopAt, aLenS, aLenStr, aListOf, aTupleOf, aInt1, aMin2, aIsi, aIsN, aNotN, aCont, aBreak, aNever, aDisp, aPairs, kvs?, mergeD, EndA, D.eq2, D.isNon, D.key, D.items, ptrList, listM, seqAt, Cell.items, dGetM, dPutM, isDict, tyOf, kitD, updM_same, updM_upd, List.set_cons_zero, List.set_cons_succ, List.getElem?_cons_zero, List.getElem?_cons_succ, List.length_cons, List.length_nil, Option.map_some, Option.bind_some, Option.isSome_some, Option.isSome_none, Option.getD_some, Option.getD_none, List.foldl_cons, List.foldl_nil, decide_eq_true_eq, if_true, if_false, Bool.not_true, Bool.not_false, Bool.false_eq_true, true_and, and_true, Nat.reduceLT, Int.reduceLT, Int.reduceLE, ↓reduceIte, hL]
      rw [List.length_map] at ea5
      refine ⟨ns, rfl, by rw [List.length_map] at ea5; omega, fun u r2 p2 ms hu hr2 hp2 _ _ => ?_⟩
      have b5 : (updM μ5 r (Cell.dt kvs)) p = some (Cell.ins C [("_rows", D.tup (List.map rowD rs)), ("_forms", D.ptr q1), ("_lengths", D.ptr q2), ("_opcodes", D.ptr r), ("_short", D.ptr q3)]) := by rw [updM_ne nrp.symm]; exact hm5 _ _ (by rw [updM_ne nrp.symm]; exact pE)
      have c5 : (updM μ5 r (Cell.dt kvs)) q1 = some (.dk (kvF rs)) := by rw [updM_ne nrq.symm]; exact hm5 _ _ (by rw [updM_ne nrq.symm]; exact c4)
      have z5 : MleX [p] μ (updM μ5 r (Cell.dt kvs)) := ((z4.free hrμ).trans (mleX_of hm5)).free hrμ
      have nr2 : r2 ≠ p := fresh_ne hr2 b5
      have nr1 : r2 ≠ q1 := fresh_ne hr2 c5
      obtain ⟨_, hp3⟩ := fresh_upd hp2
      have np2 : p2 ≠ p := fresh_ne hp3 b5
      have np1 : p2 ≠ q1 := fresh_ne hp3 c5
      simp only [aSeq, aIf, aRet, aRetN, aDrop, aAsg, aNext, aPar, agName, agTup, agCons, agNil, agSub, rSetA, aTest, aOp, aUn, aV, aC, aI, aI0, aU, aEq, aNe, aCons, aNil, aTup, aLst, aCB, aIfE, aNotV, aNotT, aAndV, aOrV, aAndT, aOrT, aChain, aIxL, aIxT, aIxS, aSl, aPart, aNoPart, aSlL, aSlT, aSlS, aCat, aCatT, aAddS, aDGet, aDIn, aDGet2, asDPut, aDNewK, aDNewT, aCall, aBM, aAppend, aPopAt, aLenS, aLenStr, aListOf, aTupleOf, aInt1, aMin2, aIsi, aIsN, aNotN, aCont, aBreak, aNever, aDisp, aPairs, kvs?, mergeD, EndA, D.eq2, D.isNon, D.key, D.items, ptrList, listM, seqAt, Cell.items, dGetM, dPutM, isDict, tyOf, kitD, updM_same, updM_upd, List.set_cons_zero, List.set_cons_succ, List.getElem?_cons_zero, List.getElem?_cons_succ, List.length_cons, List.length_nil, Option.map_some, Option.bind_some, Option.isSome_some, Option.isSome_none, Option.getD_some, Option.getD_none, List.foldl_cons, List.foldl_nil, decide_eq_true_eq, if_true, if_false, Bool.not_true, Bool.not_false, Bool.false_eq_true, true_and, and_true, Nat.reduceLT, Int.reduceLT, Int.reduceLE, ↓reduceIte, updM_ne np2.symm, updM_ne nr2.symm, b5, put6, Nat.reduceAdd]
      refine ⟨TC.cls, TC.no _ mem_tfld, _, Mle.refl _, k _ (((z5.new hr2).new hp2).upd (by simp)) ⟨q1, _, updM_same, ?_⟩⟩
      rw [updM_ne n1, updM_ne np1.symm, updM_ne nr1.symm]
      exact c5
    obtain ⟨au, ⟨t, p1, s1⟩, h2⟩ := key
    refine ⟨t, p1.nox, s1 b (Sl.start r) (A := EndA Qa) ⟨fun B' H' ρ' μ' σ' e1 b1 sl1 q1 => ?_, fun B' v d H' μ' e1 b1 r1 q1 => ?_, fun _ _ _ _ _ _ _ _ q => q.elim, fun _ _ _ _ _ _ _ _ q => q.elim⟩ (h2 ds μ Qa hc)⟩
    · obtain ⟨μ1, hle, q1⟩ := q1
      exact kk B' _ _ H' μ1 e1 (b1.drop hle) .non q1
    · obtain ⟨μ1, hle, q1⟩ := q1
      exact kk B' _ _ H' μ1 e1 (b1.drop hle) r1 q1
  · obtain ⟨p, rs, rfl, ok, hp, k⟩ := h
    exact ⟨_, _, rfl, by rw [List.length_map]; have := ok.few; omega, p, rs, rfl, ok, hp, k⟩
end
end M53

set_option maxHeartbeats 4000000
namespace M53
open PySem PySem.Spec PyProof.Rows L2 Evl Gd DL StX
/-! ### tables asked -/
theorem made_tab {C : Addr} {rs : List Row} {μ : Mu} {Q : DK} (ok : RowsOk rs) (k : ∀ x μ', μ x = none → Mle μ μ' → TabAt C μ' x rs → Q (.ptr x) μ') : Made C (ctInit C) (rs.map rowD) μ Q := fun x hx =>
  ⟨x, rs, rfl, ok, updM_same, fun μ' hm ht => ⟨rfl, k x μ' hx (fun a o e => by
    have n : a ≠ x := fun z => by rw [z, hx] at e; cases e
    exact hm a (by simpa using n) o (by rw [updM_ne n]; exact e)) ht⟩⟩
section
variable {P : Program} {w : World} {K : PySem.W.Frag} {mg : Str → Option Value} {base : Heap} {C : Addr}
def ctOf (C : Addr) : Ct := fun ds μ Q => ∃ t rs, ds = [.ptr C, t] ∧ (t = .tup (rs.map rowD) ∨ t = .tuz (rs.map rowD)) ∧ RowsOk rs ∧ ∀ x μ', μ x = none → Mle μ μ' → TabAt C μ' x rs → Q (.ptr x) μ'
def N_Table_of : List Str := ["cls", "rows"]
abbrev s_Table_of : Stmt := inClass (top 37) 1
theorem sc_Table_of : FnScope N_Table_of ["cls", "rows"] (defScope s_Table_of) := ⟨rfl, rfl, rfl, by decide +kernel, rfl, by decide +kernel, by decide +kernel⟩
theorem ok_Table_of {f fI : Addr} {fd : FuncData} (F : Fun K "of" "Table.of" s_Table_of f fd) (T : Tx K mg) (MK : Mk K C fI) (FI : FnR P w K mg base CX0 6 fI (spOf (ctInit C))) : FnOk P w K mg base CX0 8 f fd ["cls", "rows"] (spOf (ctOf C)) := by
  refine okD F sc_Table_of (fun ds μ Q h => ?_) (fun cdv A outer s H E hr => ⟨_, (qss_cons (qs_if (qt_not (qt_val (qe_callB cq_isi (by rfl) T.b_isinstance (by decide +kernel) (qa_cons (qv 1) (qa_cons (qe_bT (T := "tuple") (by rfl) T.b_tuple (by decide +kernel)) qa_nil)))))
    qss_never
    qss_nil)
  (qss_one (qs_ret (qe_makeStar (i := 0) MK FI (hr.mono (by decide)) rfl (Or.inl rfl) (qv 1))))), ?_⟩)
  · obtain ⟨t, rs, rfl, _⟩ := h
    rfl
  rintro ds μ Q ⟨t, rs, rfl, ht, ok, k⟩
  show (_ : AS) (EndA Q) [some (.ptr C), some t] μ
  rcases ht with rfl | rfl
  · simp only [aSeq, aIf, aRet, aRetN, aDrop, aAsg, aNext, aPar, agName, agTup, agCons, agNil, agSub, rSetA, aTest, aOp, aUn, aV, aC, aI, aI0, aU, aEq, aNe, aCons, aNil, aTup, aLst, aCB, aIfE, aNotV, aNotT, aAndV, aOrV, aAndT, aOrT, aChain, aIxL, aIxT, aIxS, aSl, aPart, aNoPart, aSlL, aSlT, aSlS, aCat, aCatT, aAddS, aDGet, aDIn, aDGet2, asDPut, aDNewK, aDNewT, aCall, aBM, aAppend, aPopAt, aLenS, aLenStr, aListOf, aTupleOf, aInt1, aMin2, aIsi, aIsN, aNotN, aCont, aBreak, aNever, aDisp, aPairs, kvs?, mergeD, EndA, D.eq2, D.isNon, D.key, D.items, ptrList, listM, seqAt, Cell.items, dGetM, dPutM, isDict, tyOf, kitD, updM_same, updM_upd, List.set_cons_zero, List.set_cons_succ, List.getElem?_cons_zero, List.getElem?_cons_succ, List.length_cons, List.length_nil, Option.map_some, Option.bind_some, Option.isSome_some, Option.isSome_none, Option.getD_some, Option.getD_none, List.foldl_cons, List.foldl_nil, decide_eq_true_eq, if_true, if_false, Bool.not_true, Bool.not_false, Bool.false_eq_true, true_and, and_true, Nat.reduceLT, Int.reduceLT, Int.reduceLE, ↓reduceIte, aMakeStar]
    exact made_tab ok fun x μ' h1 h2 h3 => ⟨_, Mle.refl _, k x μ' h1 h2 h3⟩
  · simp only [aSeq, aIf, aRet, aRetN, aDrop, aAsg, aNext, aPar, agName, agTup, agCons, agNil, agSub, rSetA, aTest, aOp, aUn, aV, aC, aI, aI0, aU, aEq, aNe, aCons, aNil, aTup, aLst, aCB, aIfE, aNotV, aNotT, aAndV, aOrV, aAndT, aOrT, aChain, aIxL, aIxT, aIxS, aSl, aPart, aNoPart, aSlL, aSlT, aSlS, aCat, aCatT, aAddS, aDGet, aDIn, aDGet2, asDPut, aDNewK, aDNewT, aCall, aBM, aAppend, aPopAt, aLenS, aLenStr, aListOf, aTupleOf, aInt1, aMin2, aIsi, aIsN, aNotN, aCont, aBreak, aNever, aDisp, aPairs, kvs?, mergeD, EndA, D.eq2, D.isNon, D.key, D.items, ptrList, listM, seqAt, Cell.items, dGetM, dPutM, isDict, tyOf, kitD, updM_same, updM_upd, List.set_cons_zero, List.set_cons_succ, List.getElem?_cons_zero, List.getElem?_cons_succ, List.length_cons, List.length_nil, Option.map_some, Option.bind_some, Option.isSome_some, Option.isSome_none, Option.getD_some, Option.getD_none, List.foldl_cons, List.foldl_nil, decide_eq_true_eq, if_true, if_false, Bool.not_true, Bool.not_false, Bool.false_eq_true, true_and, and_true, Nat.reduceLT, Int.reduceLT, Int.reduceLE, ↓reduceIte, aMakeStar]
    exact made_tab ok fun x μ' h1 h2 h3 => ⟨_, Mle.refl _, k x μ' h1 h2 h3⟩
def ctRowsOf (C : Addr) : Ct := fun ds μ Q => ∃ p rs, ds = [.ptr p] ∧ TabAt C μ p rs ∧ Q (.tup (rs.map rowD)) μ
def N_Table_instructions : List Str := ["self"]
abbrev s_Table_instructions : Stmt := inClass (top 37) 2
theorem sc_Table_instructions : FnScope N_Table_instructions ["self"] (defScope s_Table_instructions) := ⟨rfl, rfl, rfl, by decide +kernel, rfl, by decide +kernel, by decide +kernel⟩
theorem ok_Table_instructions {f : Addr} {fd : FuncData} (F : Fun K "instructions" "Table.instructions" s_Table_instructions f fd) (TC : TabC K C) : FnOk P w K mg base CX0 1 f fd ["self"] (spOf (ctRowsOf C)) := by
  refine okD F sc_Table_instructions (fun ds μ Q h => ?_) (fun cdv A outer s H E hr => ⟨_, (qss_one (qs_ret (qe_fld (qv 0) rfl))), ?_⟩)
  · obtain ⟨p, rs, rfl, _⟩ := h
    rfl
  rintro ds μ Q ⟨p, rs, rfl, ⟨q, r, h1, h2⟩, k⟩
  show (_ : AS) (EndA Q) [some (.ptr p)] μ
  have l1 : List.lookup ("_rows" : Str) ((("_rows" : Str), D.tup (rs.map rowD)) :: ("_forms", .ptr q) :: r) = some (.tup (rs.map rowD)) := rfl
  simp only [aSeq, aIf, aRet, aRetN, aDrop, aAsg, aNext, aPar, agName, agTup, agCons, agNil, agSub, rSetA, aTest, aOp, aUn, aV, aC, aI, aI0, aU, aEq, aNe, aCons, aNil, aTup, aLst, aCB, aIfE, aNotV, aNotT, aAndV, aOrV, aAndT, aOrT, aChain, aIxL, aIxT, aIxS, aSl, aPart, aNoPart, aSlL, aSlT, aSlS, aCat, aCatT, aAddS, aDGet, aDIn, aDGet2, asDPut, aDNewK, aDNewT, aCall, aBM, aAppend, aPopAt, aLenS, aLenStr, aListOf, aTupleOf, aInt1, aMin2, aIsi, aIsN, aNotN, aCont, aBreak, aNever, aDisp, aPairs, kvs?, mergeD, EndA, D.eq2, D.isNon, D.key, D.items, ptrList, listM, seqAt, Cell.items, dGetM, dPutM, isDict, tyOf, kitD, updM_same, updM_upd, List.set_cons_zero, List.set_cons_succ, List.getElem?_cons_zero, List.getElem?_cons_succ, List.length_cons, List.length_nil, Option.map_some, Option.bind_some, Option.isSome_some, Option.isSome_none, Option.getD_some, Option.getD_none, List.foldl_cons, List.foldl_nil, decide_eq_true_eq, if_true, if_false, Bool.not_true, Bool.not_false, Bool.false_eq_true, true_and, and_true, Nat.reduceLT, Int.reduceLT, Int.reduceLE, ↓reduceIte, aFld, h1, l1]
  exact ⟨TC.cls, TC.no _ mem_tfld, _, Mle.refl _, k⟩
def ctLenT (C : Addr) : Ct := fun ds μ Q => ∃ p rs, ds = [.ptr p] ∧ TabAt C μ p rs ∧ Q (.int (rs.length : Nat)) μ
def N_Table___len : List Str := ["self"]
abbrev s_Table___len : Stmt := inClass (top 37) 3
theorem sc_Table___len : FnScope N_Table___len ["self"] (defScope s_Table___len) := ⟨rfl, rfl, rfl, by decide +kernel, rfl, by decide +kernel, by decide +kernel⟩
theorem ok_Table_len {f : Addr} {fd : FuncData} (F : Fun K "__len__" "Table.__len__" s_Table___len f fd) (T : Tx K mg) (TC : TabC K C) : FnOk P w K mg base CX0 1 f fd ["self"] (spOf (ctLenT C)) := by
  refine okD F sc_Table___len (fun ds μ Q h => ?_) (fun cdv A outer s H E hr => ⟨_, (qss_one (qs_ret (qe_callB cq_len (by rfl) T.b_len (by decide +kernel) (qa_cons (qe_fld (qv 0) rfl) qa_nil)))), ?_⟩)
  · obtain ⟨p, rs, rfl, _⟩ := h
    rfl
  rintro ds μ Q ⟨p, rs, rfl, ⟨q, r, h1, h2⟩, k⟩
  show (_ : AS) (EndA Q) [some (.ptr p)] μ
  have l1 : List.lookup ("_rows" : Str) ((("_rows" : Str), D.tup (rs.map rowD)) :: ("_forms", .ptr q) :: r) = some (.tup (rs.map rowD)) := rfl
  simp only [aSeq, aIf, aRet, aRetN, aDrop, aAsg, aNext, aPar, agName, agTup, agCons, agNil, agSub, rSetA, aTest, aOp, aUn, aV, aC, aI, aI0, aU, aEq, aNe, aCons, aNil, aTup, aLst, aCB, aIfE, aNotV, aNotT, aAndV, aOrV, aAndT, aOrT, aChain, aIxL, aIxT, aIxS, aSl, aPart, aNoPart, aSlL, aSlT, aSlS, aCat, aCatT, aAddS, aDGet, aDIn, aDGet2, asDPut, aDNewK, aDNewT, aCall, aBM, aAppend, aPopAt, aLenS, aLenStr, aListOf, aTupleOf, aInt1, aMin2, aIsi, aIsN, aNotN, aCont, aBreak, aNever, aDisp, aPairs, kvs?, mergeD, EndA, D.eq2, D.isNon, D.key, D.items, ptrList, listM, seqAt, Cell.items, dGetM, dPutM, isDict, tyOf, kitD, updM_same, updM_upd, List.set_cons_zero, List.set_cons_succ, List.getElem?_cons_zero, List.getElem?_cons_succ, List.length_cons, List.length_nil, Option.map_some, Option.bind_some, Option.isSome_some, Option.isSome_none, Option.getD_some, Option.getD_none, List.foldl_cons, List.foldl_nil, decide_eq_true_eq, if_true, if_false, Bool.not_true, Bool.not_false, Bool.false_eq_true, true_and, and_true, Nat.reduceLT, Int.reduceLT, Int.reduceLE, ↓reduceIte, aFld, h1, l1, List.length_map]
  exact ⟨TC.cls, TC.no _ mem_tfld, _, Mle.refl _, k⟩
/-- what is no text, nor a table -/
def NotStr (μ : Mu) (d : D) : Prop := d = .non ∨ (∃ b, d = .bl b) ∨ (∃ i, d = .int i) ∨ (∃ xs, d = .tup xs) ∨ (∃ xs, d = .tuz xs) ∨ (∃ a xs, d = .ptr a ∧ μ a = some (.lst xs)) ∨ (∃ a kvs, d = .ptr a ∧ μ a = some (.dk kvs))
def ctHas (C : Addr) : Ct := fun ds μ Q => ∃ p rs d, ds = [.ptr p, d] ∧ TabAt C μ p rs ∧ ((∃ z, d = .str z ∧ Q (.bl (lookD (kvF rs) (.inr z)).isSome) μ) ∨ (NotStr μ d ∧ Q (.bl false) μ))
def N_Table___contains : List Str := ["self", "name"]
abbrev s_Table___contains : Stmt := inClass (top 37) 4
theorem sc_Table___contains : FnScope N_Table___contains ["self", "name"] (defScope s_Table___contains) := ⟨rfl, rfl, rfl, by decide +kernel, rfl, by decide +kernel, by decide +kernel⟩
theorem ok_Table_contains {f : Addr} {fd : FuncData} (F : Fun K "__contains__" "Table.__contains__" s_Table___contains f fd) (T : Tx K mg) (TC : TabC K C) : FnOk P w K mg base CX0 1 f fd ["self", "name"] (spOf (ctHas C)) := by
  refine okD F sc_Table___contains (fun ds μ Q h => ?_) (fun cdv A outer s H E hr => ?_)
  · obtain ⟨p, rs, d, rfl, _⟩ := h
    rfl
  have hu : (A.deeper (envOfC "Table.__contains__" (defScope s_Table___contains) s.heap.objs.size f cdv)).units + 1 < cLine := by have := hr.units; omega
  refine ⟨_, (qss_one (qs_ret (qe_and (qe_callB cq_isi (by rfl) T.b_isinstance (by decide +kernel) (qa_cons (qv 1) (qa_cons (qe_bT (T := "str") (by rfl) T.b_str (by decide +kernel)) qa_nil))) (qe_one (qe_cmp (qc_din hu (qv 1) (qe_fld (qv 0) rfl))))))), ?_⟩
  rintro ds μ Q ⟨p, rs, d, rfl, ⟨q, r, h1, h2⟩, h⟩
  show (_ : AS) (EndA Q) [some (.ptr p), some d] μ
  have l2 : List.lookup ("_forms" : Str) ((("_rows" : Str), D.tup (rs.map rowD)) :: ("_forms", .ptr q) :: r) = some (.ptr q) := rfl
  rcases h with ⟨z, rfl, k⟩ | ⟨n, k⟩
  · simp only [aSeq, aIf, aRet, aRetN, aDrop, aAsg, aNext, aPar, agName, agTup, agCons, agNil, agSub, rSetA, aTest, aOp, aUn, aV, aC, aI, aI0, aU, aEq, aNe, aCons, aNil, aTup, aLst, aCB, aIfE, aNotV, aNotT, aAndV, aOrV, aAndT, aOrT, aChain, aIxL, aIxT, aIxS, aSl, aPart, aNoPart, aSlL, aSlT, aSlS, aCat, aCatT, aAddS, aDGet, aDIn, aDGet2, asDPut, aDNewK, aDNewT, aCall, aBM, aAppend, aPopAt, aLenS, aLenStr, aListOf, aTupleOf, aInt1, aMin2, aIsi, aIsN, aNotN, aCont, aBreak, aNever, aDisp, aPairs, kvs?, mergeD, EndA, D.eq2, D.isNon, D.key, D.items, ptrList, listM, seqAt, Cell.items, dGetM, dPutM, isDict, tyOf, kitD, updM_same, updM_upd, List.set_cons_zero, List.set_cons_succ, List.getElem?_cons_zero, List.getElem?_cons_succ, List.length_cons, List.length_nil, Option.map_some, Option.bind_some, Option.isSome_some, Option.isSome_none, Option.getD_some, Option.getD_none, List.foldl_cons, List.foldl_nil, decide_eq_true_eq, if_true, if_false, Bool.not_true, Bool.not_false, Bool.false_eq_true, true_and, and_true, Nat.reduceLT, Int.reduceLT, Int.reduceLE, ↓reduceIte, aFld, h1, l2, h2]
    exact ⟨TC.cls, TC.no _ mem_tfld, _, Mle.refl _, k⟩
  · rcases n with rfl | ⟨b, rfl⟩ | ⟨b, rfl⟩ | ⟨b, rfl⟩ | ⟨b, rfl⟩ | ⟨a, xs, rfl, ha⟩ | ⟨a, xs, rfl, ha⟩
    · simp only [aSeq, aIf, aRet, aRetN, aDrop, aAsg, aNext, aPar, agName, agTup, agCons, agNil, agSub, rSetA, aTest, aOp, aUn, aV, aC, aI, aI0, aU, aEq, aNe, aCons, aNil, aTup, aLst, aCB, aIfE, aNotV, aNotT, aAndV, aOrV, aAndT, aOrT, aChain, aIxL, aIxT, aIxS, aSl, aPart, aNoPart, aSlL, aSlT, aSlS, aCat, aCatT, aAddS, aDGet, aDIn, aDGet2, asDPut, aDNewK, aDNewT, aCall, aBM, aAppend, aPopAt, aLenS, aLenStr, aListOf, aTupleOf, aInt1, aMin2, aIsi, aIsN, aNotN, aCont, aBreak, aNever, aDisp, aPairs, kvs?, mergeD, EndA, D.eq2, D.isNon, D.key, D.items, ptrList, listM, seqAt, Cell.items, dGetM, dPutM, isDict, tyOf, kitD, updM_same, updM_upd, List.set_cons_zero, List.set_cons_succ, List.getElem?_cons_zero, List.getElem?_cons_succ, List.length_cons, List.length_nil, Option.map_some, Option.bind_some, Option.isSome_some, Option.isSome_none, Option.getD_some, Option.getD_none, List.foldl_cons, List.foldl_nil, decide_eq_true_eq, if_true, if_false, Bool.not_true, Bool.not_false, Bool.false_eq_true, true_and, and_true, Nat.reduceLT, Int.reduceLT, Int.reduceLE, ↓reduceIte]; exact ⟨_, Mle.refl _, k⟩
    · simp only [aSeq, aIf, aRet, aRetN, aDrop, aAsg, aNext, aPar, agName, agTup, agCons, agNil, agSub, rSetA, aTest, aOp, aUn, aV, aC, aI, aI0, aU, aEq, aNe, aCons, aNil, aTup, aLst, aCB, aIfE, aNotV, aNotT, aAndV, aOrV, aAndT, aOrT, aChain, aIxL, aIxT, aIxS, aSl, aPart, aNoPart, aSlL, aSlT, aSlS, aCat, aCatT, aAddS, aDGet, aDIn, aDGet2, asDPut, aDNewK, aDNewT, aCall, aBM, aAppend, aPopAt, aLenS, aLenStr, aListOf, aTupleOf, aInt1, aMin2, aIsi, aIsN, aNotN, aCont, aBreak, aNever, aDisp, aPairs, kvs?, mergeD, EndA, D.eq2, D.isNon, D.key, D.items, ptrList, listM, seqAt, Cell.items, dGetM, dPutM, isDict, tyOf, kitD, updM_same, updM_upd, List.set_cons_zero, List.set_cons_succ, List.getElem?_cons_zero, List.getElem?_cons_succ, List.length_cons, List.length_nil, Option.map_some, Option.bind_some, Option.isSome_some, Option.isSome_none, Option.getD_some, Option.getD_none, List.foldl_cons, List.foldl_nil, decide_eq_true_eq, if_true, if_false, Bool.not_true, Bool.not_false, Bool.false_eq_true, true_and, and_true, Nat.reduceLT, Int.reduceLT, Int.reduceLE, ↓reduceIte]; exact ⟨_, Mle.refl _, k⟩
    · simp only [aSeq, aIf, aRet, aRetN, aDrop, aAsg, aNext, aPar, agName, agTup, agCons, agNil, agSub, rSetA, aTest, aOp, aUn, aV, aC, aI, aI0, aU, aEq, aNe, aCons, aNil, aTup, aLst, aCB, aIfE, aNotV, aNotT, aAndV, aOrV, aAndT, aOrT, aChain, aIxL, aIxT, aIxS, aSl, aPart, aNoPart, aSlL, aSlT, aSlS, aCat, aCatT, aAddS, aDGet, aDIn, aDGet2, asDPut, aDNewK, aDNewT, aCall, aBM, aAppend, aPopAt, aLenS, aLenStr, aListOf, aTupleOf, aInt1, aMin2, aIsi, aIsN, aNotN, aCont, aBreak, aNever, aDisp, aPairs, kvs?, mergeD, EndA, D.eq2, D.isNon, D.key, D.items, ptrList, listM, seqAt, Cell.items, dGetM, dPutM, isDict, tyOf, kitD, updM_same, updM_upd, List.set_cons_zero, List.set_cons_succ, List.getElem?_cons_zero, List.getElem?_cons_succ, List.length_cons, List.length_nil, Option.map_some, Option.bind_some, Option.isSome_some, Option.isSome_none, Option.getD_some, Option.getD_none, List.foldl_cons, List.foldl_nil, decide_eq_true_eq, if_true, if_false, Bool.not_true, Bool.not_false, Bool.false_eq_true, true_and, and_true, Nat.reduceLT, Int.reduceLT, Int.reduceLE, ↓reduceIte]; exact ⟨_, Mle.refl _, k⟩
    · simp only [aSeq, aIf, aRet, aRetN, aDrop, aAsg, aNext, aPar, agName, agTup, agCons, agNil, agSub, rSetA, aTest, aOp, aUn, aV, aC, aI, aI0, aU, aEq, aNe, aCons, aNil, aTup, aLst, aCB, aIfE, aNotV, aNotT, aAndV, aOrV, aAndT, aOrT, aChain, aIxL, aIxT, aIxS, aSl, aPart, aNoPart, aSlL, aSlT, aSlS, aCat, aCatT, aAddS, aDGet, aDIn, aDGet2, asDPut, aDNewK, aDNewT, aCall, aBM, aAppend, aPopAt, aLenS, aLenStr, aListOf, aTupleOf, aInt1, aMin2, aIsi, aIsN, aNotN, aCont, aBreak, aNever, aDisp, aPairs, kvs?, mergeD, EndA, D.eq2, D.isNon, D.key, D.items, ptrList, listM, seqAt, Cell.items, dGetM, dPutM, isDict, tyOf, kitD, updM_same, updM_upd, List.set_cons_zero, List.set_cons_succ, List.getElem?_cons_zero, List.getElem?_cons_succ, List.length_cons, List.length_nil, Option.map_some, Option.bind_some, Option.isSome_some, Option.isSome_none, Option.getD_some, Option.getD_none, List.foldl_cons, List.foldl_nil, decide_eq_true_eq, if_true, if_false, Bool.not_true, Bool.not_false, Bool.false_eq_true, true_and, and_true, Nat.reduceLT, Int.reduceLT, Int.reduceLE, ↓reduceIte]; exact ⟨_, Mle.refl _, k⟩
    · simp only [aSeq, aIf, aRet, aRetN, aDrop, aAsg, aNext, aPar, agName, agTup, agCons, agNil, agSub, rSetA, aTest, aOp, aUn, aV, aC, aI, aI0, aU, aEq, aNe, aCons, aNil, aTup, aLst, aCB, aIfE, aNotV, aNotT, aAndV, aOrV, aAndT, aOrT, aChain, aIxL, aIxT, aIxS, aSl, aPart, aNoPart, aSlL, aSlT, aSlS, aCat, aCatT, aAddS, aDGet, aDIn, aDGet2, asDPut, aDNewK, aDNewT, aCall, aBM, aAppend, aPopAt, aLenS, aLenStr, aListOf, aTupleOf, aInt1, aMin2, aIsi, aIsN, aNotN, aCont, aBreak, aNever, aDisp, aPairs, kvs?, mergeD, EndA, D.eq2, D.isNon, D.key, D.items, ptrList, listM, seqAt, Cell.items, dGetM, dPutM, isDict, tyOf, kitD, updM_same, updM_upd, List.set_cons_zero, List.set_cons_succ, List.getElem?_cons_zero, List.getElem?_cons_succ, List.length_cons, List.length_nil, Option.map_some, Option.bind_some, Option.isSome_some, Option.isSome_none, Option.getD_some, Option.getD_none, List.foldl_cons, List.foldl_nil, decide_eq_true_eq, if_true, if_false, Bool.not_true, Bool.not_false, Bool.false_eq_true, true_and, and_true, Nat.reduceLT, Int.reduceLT, Int.reduceLE, ↓reduceIte]; exact ⟨_, Mle.refl _, k⟩
    · simp only [aSeq, aIf, aRet, aRetN, aDrop, aAsg, aNext, aPar, agName, agTup, agCons, agNil, agSub, rSetA, aTest, aOp, aUn, aV, aC, aI, aI0, aU, aEq, aNe, aCons, aNil, aTup, aLst, aCB, aIfE, aNotV, aNotT, aAndV, aOrV, aAndT, aOrT, aChain, aIxL, aIxT, aIxS, aSl, aPart, aNoPart, aSlL, aSlT, aSlS, aCat, aCatT, aAddS, aDGet, aDIn, aDGet2, asDPut, aDNewK, aDNewT, aCall, aBM, aAppend, aPopAt, aLenS, aLenStr, aListOf, aTupleOf, aInt1, aMin2, aIsi, aIsN, aNotN, aCont, aBreak, aNever, aDisp, aPairs, kvs?, mergeD, EndA, D.eq2, D.isNon, D.key, D.items, ptrList, listM, seqAt, Cell.items, dGetM, dPutM, isDict, tyOf, kitD, updM_same, updM_upd, List.set_cons_zero, List.set_cons_succ, List.getElem?_cons_zero, List.getElem?_cons_succ, List.length_cons, List.length_nil, Option.map_some, Option.bind_some, Option.isSome_some, Option.isSome_none, Option.getD_some, Option.getD_none, List.foldl_cons, List.foldl_nil, decide_eq_true_eq, if_true, if_false, Bool.not_true, Bool.not_false, Bool.false_eq_true, true_and, and_true, Nat.reduceLT, Int.reduceLT, Int.reduceLE, ↓reduceIte, ha]; exact ⟨_, Mle.refl _, k⟩
    · simp only [aSeq, aIf, aRet, aRetN, aDrop, aAsg, aNext, aPar, agName, agTup, agCons, agNil, agSub, rSetA, aTest, aOp, aUn, aV, aC, aI, aI0, aU, aEq, aNe, aCons, aNil, aTup, aLst, aCB, aIfE, aNotV, aNotT, aAndV, aOrV, aAndT, aOrT, aChain, aIxL, aIxT, aIxS, aSl, aPart, aNoPart, aSlL, aSlT, aSlS, aCat, aCatT, aAddS, aDGet, aDIn, aDGet2, asDPut, aDNewK, aDNewT, aCall, aBM, aAppend, aPopAt, aLenS, aLenStr, aListOf, aTupleOf, aInt1, aMin2, aIsi, aIsN, aNotN, aCont, aBreak, aNever, aDisp, aPairs, kvs?, mergeD, EndA, D.eq2, D.isNon, D.key, D.items, ptrList, listM, seqAt, Cell.items, dGetM, dPutM, isDict, tyOf, kitD, updM_same, updM_upd, List.set_cons_zero, List.set_cons_succ, List.getElem?_cons_zero, List.getElem?_cons_succ, List.length_cons, List.length_nil, Option.map_some, Option.bind_some, Option.isSome_some, Option.isSome_none, Option.getD_some, Option.getD_none, List.foldl_cons, List.foldl_nil, decide_eq_true_eq, if_true, if_false, Bool.not_true, Bool.not_false, Bool.false_eq_true, true_and, and_true, Nat.reduceLT, Int.reduceLT, Int.reduceLE, ↓reduceIte, ha]; exact ⟨_, Mle.refl _, k⟩
def ctGet (C : Addr) : Ct := fun ds μ Q => ∃ p rs z d, ds = [.ptr p, .str z] ∧ TabAt C μ p rs ∧ lookD (kvF rs) (.inr z) = some d ∧ Q d μ
def N_Table___getitem : List Str := ["self", "name"]
abbrev s_Table___getitem : Stmt := inClass (top 37) 5
theorem sc_Table___getitem : FnScope N_Table___getitem ["self", "name"] (defScope s_Table___getitem) := ⟨rfl, rfl, rfl, by decide +kernel, rfl, by decide +kernel, by decide +kernel⟩
theorem ok_Table_getitem {f : Addr} {fd : FuncData} (F : Fun K "__getitem__" "Table.__getitem__" s_Table___getitem f fd) (T : Tx K mg) (TC : TabC K C) : FnOk P w K mg base CX0 1 f fd ["self", "name"] (spOf (ctGet C)) := by
  refine okD F sc_Table___getitem (fun ds μ Q h => ?_) (fun cdv A outer s H E hr => ?_)
  · obtain ⟨p, rs, z, d, rfl, _⟩ := h
    rfl
  have hu : (A.deeper (envOfC "Table.__getitem__" (defScope s_Table___getitem) s.heap.objs.size f cdv)).units + 1 < cLine := by have := hr.units; omega
  refine ⟨_, (qss_cons (qs_if (QW.pt (qw_or (qt_not (qt_val (qe_callB cq_isi (by rfl) T.b_isinstance (by decide +kernel) (qa_cons (qv 1) (qa_cons (qe_bT (T := "str") (by rfl) T.b_str (by decide +kernel)) qa_nil))))) (qw_or1 (qt_cmp (qc_dnotin hu (qv 1) (qe_fld (qv 0) rfl))))))
    qss_never
    qss_nil)
  (qss_one (qs_ret (qe_dget hu (qe_fld (qv 0) rfl) (qv 1) (fun _ _ => rfl))))), ?_⟩
  rintro ds μ Q ⟨p, rs, z, d, rfl, ⟨q, r, h1, h2⟩, h, k⟩
  show (_ : AS) (EndA Q) [some (.ptr p), some (.str z)] μ
  have l2 : List.lookup ("_forms" : Str) ((("_rows" : Str), D.tup (rs.map rowD)) :: ("_forms", .ptr q) :: r) = some (.ptr q) := rfl
  simp only [aSeq, aIf, aRet, aRetN, aDrop, aAsg, aNext, aPar, agName, agTup, agCons, agNil, agSub, rSetA, aTest, aOp, aUn, aV, aC, aI, aI0, aU, aEq, aNe, aCons, aNil, aTup, aLst, aCB, aIfE, aNotV, aNotT, aAndV, aOrV, aAndT, aOrT, aChain, aIxL, aIxT, aIxS, aSl, aPart, aNoPart, aSlL, aSlT, aSlS, aCat, aCatT, aAddS, aDGet, aDIn, aDGet2, asDPut, aDNewK, aDNewT, aCall, aBM, aAppend, aPopAt, aLenS, aLenStr, aListOf, aTupleOf, aInt1, aMin2, aIsi, aIsN, aNotN, aCont, aBreak, aNever, aDisp, aPairs, kvs?, mergeD, EndA, D.eq2, D.isNon, D.key, D.items, ptrList, listM, seqAt, Cell.items, dGetM, dPutM, isDict, tyOf, kitD, updM_same, updM_upd, List.set_cons_zero, List.set_cons_succ, List.getElem?_cons_zero, List.getElem?_cons_succ, List.length_cons, List.length_nil, Option.map_some, Option.bind_some, Option.isSome_some, Option.isSome_none, Option.getD_some, Option.getD_none, List.foldl_cons, List.foldl_nil, decide_eq_true_eq, if_true, if_false, Bool.not_true, Bool.not_false, Bool.false_eq_true, true_and, and_true, Nat.reduceLT, Int.reduceLT, Int.reduceLE, ↓reduceIte, aFld, h1, l2, h2, h]
  exact ⟨TC.cls, TC.no _ mem_tfld, TC.cls, TC.no _ mem_tfld, _, Mle.refl _, k⟩
def ctEq (C : Addr) : Ct := fun ds μ Q => ∃ p rs y, ds = [.ptr p, y] ∧ TabAt C μ p rs ∧ (D.tup (rs.map rowD)).flat 63 = true ∧ ((∃ q rs2, y = .ptr q ∧ TabAt C μ q rs2 ∧ (D.tup (rs2.map rowD)).flat 63 = true ∧ Q (.bl (PyData.eqv (D.tup (rs.map rowD)).py (D.tup (rs2.map rowD)).py)) μ) ∨ (isO C μ y = some false ∧ Q (.bl false) μ))
def N_Table___eq : List Str := ["self", "other"]
abbrev s_Table___eq : Stmt := inClass (top 37) 7
theorem sc_Table___eq : FnScope N_Table___eq ["self", "other"] (defScope s_Table___eq) := ⟨rfl, rfl, rfl, by decide +kernel, rfl, by decide +kernel, by decide +kernel⟩
theorem ok_Table_eq {f : Addr} {fd : FuncData} (F : Fun K "__eq__" "Table.__eq__" s_Table___eq f fd) (T : Tx K mg) (TC : TabC K C) (OC : OwnC K C) (g_Table : mg "Table" = some (.ref C)) : FnOk P w K mg base CX0 1 f fd ["self", "other"] (spOf (ctEq C)) := by
  refine okD F sc_Table___eq (fun ds μ Q h => ?_) (fun cdv A outer s H E hr => ⟨_, (qss_one (qs_ret (qe_and (qe_callB (cq_isiO OC) (by rfl) T.b_isinstance (by decide +kernel) (qa_cons (qv 1) (qa_cons (qe_gR rfl g_Table) qa_nil))) (qe_one (qe_cmpR (oq_eqD hr.units) (qe_fld (qv 0) rfl) (qe_fld (qv 1) rfl) (nomark _)))))), ?_⟩)
  · obtain ⟨p, rs, y, rfl, _⟩ := h
    rfl
  rintro ds μ Q ⟨p, rs, y, rfl, ⟨q, r, h1, h2⟩, h3, h⟩
  show (_ : AS) (EndA Q) [some (.ptr p), some y] μ
  have l1 : List.lookup ("_rows" : Str) ((("_rows" : Str), D.tup (rs.map rowD)) :: ("_forms", .ptr q) :: r) = some (.tup (rs.map rowD)) := rfl
  rcases h with ⟨p2, rs2, rfl, ⟨q2, r2, g1, g2⟩, g3, k⟩ | ⟨n, k⟩
  · have m1 : List.lookup ("_rows" : Str) ((("_rows" : Str), D.tup (rs2.map rowD)) :: ("_forms", .ptr q2) :: r2) = some (.tup (rs2.map rowD)) := rfl
    have io : isO C μ (.ptr p2) = some true := by
      unfold isO
      simp only [g1, if_true]
    simp only [aSeq, aIf, aRet, aRetN, aDrop, aAsg, aNext, aPar, agName, agTup, agCons, agNil, agSub, rSetA, aTest, aOp, aUn, aV, aC, aI, aI0, aU, aEq, aNe, aCons, aNil, aTup, aLst, aCB, aIfE, aNotV, aNotT, aAndV, aOrV, aAndT, aOrT, aChain, aIxL, aIxT, aIxS, aSl, aPart, aNoPart, aSlL, aSlT, aSlS, aCat, aCatT, aAddS, aDGet, aDIn, aDGet2, asDPut, aDNewK, aDNewT, aCall, aBM, aAppend, aPopAt, aLenS, aLenStr, aListOf, aTupleOf, aInt1, aMin2, aIsi, aIsN, aNotN, aCont, aBreak, aNever, aDisp, aPairs, kvs?, mergeD, EndA, D.eq2, D.isNon, D.key, D.items, ptrList, listM, seqAt, Cell.items, dGetM, dPutM, isDict, tyOf, kitD, updM_same, updM_upd, List.set_cons_zero, List.set_cons_succ, List.getElem?_cons_zero, List.getElem?_cons_succ, List.length_cons, List.length_nil, Option.map_some, Option.bind_some, Option.isSome_some, Option.isSome_none, Option.getD_some, Option.getD_none, List.foldl_cons, List.foldl_nil, decide_eq_true_eq, if_true, if_false, Bool.not_true, Bool.not_false, Bool.false_eq_true, true_and, and_true, Nat.reduceLT, Int.reduceLT, Int.reduceLE, ↓reduceIte, aIsiO, io, aFld, h1, g1, l1, m1]
    refine ⟨TC.cls, TC.no _ mem_tfld, TC.cls, TC.no _ mem_tfld, ?_⟩
    rw [eq_flat h3 g3 (by decide) (by decide)]
    exact ⟨_, Mle.refl _, k⟩
  · simp only [aSeq, aIf, aRet, aRetN, aDrop, aAsg, aNext, aPar, agName, agTup, agCons, agNil, agSub, rSetA, aTest, aOp, aUn, aV, aC, aI, aI0, aU, aEq, aNe, aCons, aNil, aTup, aLst, aCB, aIfE, aNotV, aNotT, aAndV, aOrV, aAndT, aOrT, aChain, aIxL, aIxT, aIxS, aSl, aPart, aNoPart, aSlL, aSlT, aSlS, aCat, aCatT, aAddS, aDGet, aDIn, aDGet2, asDPut, aDNewK, aDNewT, aCall, aBM, aAppend, aPopAt, aLenS, aLenStr, aListOf, aTupleOf, aInt1, aMin2, aIsi, aIsN, aNotN, aCont, aBreak, aNever, aDisp, aPairs, kvs?, mergeD, EndA, D.eq2, D.isNon, D.key, D.items, ptrList, listM, seqAt, Cell.items, dGetM, dPutM, isDict, tyOf, kitD, updM_same, updM_upd, List.set_cons_zero, List.set_cons_succ, List.getElem?_cons_zero, List.getElem?_cons_succ, List.length_cons, List.length_nil, Option.map_some, Option.bind_some, Option.isSome_some, Option.isSome_none, Option.getD_some, Option.getD_none, List.foldl_cons, List.foldl_nil, decide_eq_true_eq, if_true, if_false, Bool.not_true, Bool.not_false, Bool.false_eq_true, true_and, and_true, Nat.reduceLT, Int.reduceLT, Int.reduceLE, ↓reduceIte, aIsiO, n]
    exact ⟨_, Mle.refl _, k⟩
end
end M53

set_option maxHeartbeats 4000000
namespace M53
open PySem PySem.Spec PyProof.Rows L2 Evl Gd DL
/-! ### no name of a table -/
def NoName (μ : Mu) (rs : List Row) (d : D) : Prop := (∃ z, d = .str z ∧ lookD (kvF rs) (.inr z) = none) ∨ NotStr μ d
def testOf (st : Stmt) : Expr := match defBody st with
  | (.If e _ _ _) :: _ => e
  | _ => .Name "x" ⟨0, 0, 0, 0⟩
section
variable {P : Program} {w : World} {K : PySem.W.Frag} {mg : Str → Option Value} {base : Heap} {C NI : Addr}
def spGetX (C NI : Addr) : Sp := fun vs H Q E => ∃ B μ p rs d v, Base B H μ ∧ vs = [.ref p, v] ∧ Rep B v d ∧ TabAt C μ p rs ∧ NoName μ rs d ∧ ∀ B' H' dx, Ex B B' → Base B' H' μ → H' dx = none → E (.ref NI) (some dx) (upd H' dx (.xd [("given", v)]))
theorem ok_Table_getitemX {f : Addr} {fd : FuncData} (F : Fun K "__getitem__" "Table.__getitem__" s_Table___getitem f fd) (T : Tx K mg) (TC : TabC K C) (D_NoInstruction : Xc P w K mg base CX0 "NoInstruction" NI ["given"]) : FnOk P w K mg base (L2.CX P w) 4 f fd ["self", "name"] (spGetX C NI) := by
  refine F.okX sc_Table___getitem (fun vs H Q E h => ?_) (fun cdv A outer s H vs Q E hr h => ?_)
  · obtain ⟨B, μ, p, rs, d, v, b, rfl, _⟩ := h
    rfl
  obtain ⟨B, μ, p, rs, d, v, b, rfl, rv, ⟨q, r, h1, h2⟩, h3, k⟩ := h
  have hu : (A.deeper (envOfC "Table.__getitem__" (defScope s_Table___getitem) s.heap.objs.size f cdv)).units + 1 < cLine := by have := hr.units; omega
  have q0 : QT (cxOf (L2.CX P w) P w K mg base N_Table___getitem "Table.__getitem__" (defScope s_Table___getitem) f cdv A outer s H E) (testOf s_Table___getitem) _ := (QW.pt (qw_or (qt_not (qt_val (qe_callB cq_isi (by rfl) T.b_isinstance (by decide +kernel) (qa_cons (qv 1) (qa_cons (qe_bT (T := "str") (by rfl) T.b_str (by decide +kernel)) qa_nil))))) (qw_or1 (qt_cmp (qc_dnotin hu (qv 1) (qe_fld (qv 0) rfl))))))
  obtain ⟨t1, p1, s1⟩ := q0
  refine ⟨_, (pss_cons (ps_if p1
    (pss_one (ps_raise rfl (takes_of rfl rfl rfl rfl) (pmk_xc D_NoInstruction (hr.mono (by decide)) rfl (pa_cons (pv 1) pa_nil))))
    pss_nil) pss_never), ?_⟩
  have l2 : List.lookup ("_forms" : Str) ((("_rows" : Str), D.tup (rs.map rowD)) :: ("_forms", .ptr q) :: r) = some (.ptr q) := rfl
  refine s1 (Qa := fun b μ' => b = true ∧ μ' = μ) b (Sl.start (N := N_Table___getitem) (.cons (.ptr p) (.cons rv .nil))) (fun B' c H' μ' e1 b1 q1 => ?_) ?_
  · obtain ⟨rfl, rfl⟩ := q1
    refine ⟨v, rfl, ?_⟩
    exact q_xmr rfl (by decide) fun dx nd => k B' H' dx e1 b1 nd
  · show (_ : AT) [some (.ptr p), some d] μ _
    rcases h3 with ⟨z, rfl, h3⟩ | n
    · simp only [aSeq, aIf, aRet, aRetN, aDrop, aAsg, aNext, aPar, agName, agTup, agCons, agNil, agSub, rSetA, aTest, aOp, aUn, aV, aC, aI, aI0, aU, aEq, aNe, aCons, aNil, aTup, aLst, aCB, aIfE, aNotV, aNotT, aAndV, aOrV, aAndT, aOrT, aChain, aIxL, aIxT, aIxS, aSl, aPart, aNoPart, aSlL, aSlT, aSlS, aCat, aCatT, aAddS, aDGet, aDIn, aDGet2, asDPut, aDNewK, aDNewT, aCall, aBM, aAppend, aPopAt, aLenS, aLenStr, aListOf, aTupleOf, aInt1, aMin2, aIsi, aIsN, aNotN, aCont, aBreak, aNever, aDisp, aPairs, kvs?, mergeD, EndA, D.eq2, D.isNon, D.key, D.items, ptrList, listM, seqAt, Cell.items, dGetM, dPutM, isDict, tyOf, kitD, updM_same, updM_upd, List.set_cons_zero, List.set_cons_succ, List.getElem?_cons_zero, List.getElem?_cons_succ, List.length_cons, List.length_nil, Option.map_some, Option.bind_some, Option.isSome_some, Option.isSome_none, Option.getD_some, Option.getD_none, List.foldl_cons, List.foldl_nil, decide_eq_true_eq, if_true, if_false, Bool.not_true, Bool.not_false, Bool.false_eq_true, true_and, and_true, Nat.reduceLT, Int.reduceLT, Int.reduceLE, ↓reduceIte, aFld, h1, l2, h2, h3]
      exact ⟨TC.cls, TC.no _ mem_tfld⟩
    · rcases n with rfl | ⟨b, rfl⟩ | ⟨b, rfl⟩ | ⟨b, rfl⟩ | ⟨b, rfl⟩ | ⟨a, xs, rfl, ha⟩ | ⟨a, xs, rfl, ha⟩
      · simp only [aSeq, aIf, aRet, aRetN, aDrop, aAsg, aNext, aPar, agName, agTup, agCons, agNil, agSub, rSetA, aTest, aOp, aUn, aV, aC, aI, aI0, aU, aEq, aNe, aCons, aNil, aTup, aLst, aCB, aIfE, aNotV, aNotT, aAndV, aOrV, aAndT, aOrT, aChain, aIxL, aIxT, aIxS, aSl, aPart, aNoPart, aSlL, aSlT, aSlS, aCat, aCatT, aAddS, aDGet, aDIn, aDGet2, asDPut, aDNewK, aDNewT, aCall, aBM, aAppend, aPopAt, aLenS, aLenStr, aListOf, aTupleOf, aInt1, aMin2, aIsi, aIsN, aNotN, aCont, aBreak, aNever, aDisp, aPairs, kvs?, mergeD, EndA, D.eq2, D.isNon, D.key, D.items, ptrList, listM, seqAt, Cell.items, dGetM, dPutM, isDict, tyOf, kitD, updM_same, updM_upd, List.set_cons_zero, List.set_cons_succ, List.getElem?_cons_zero, List.getElem?_cons_succ, List.length_cons, List.length_nil, Option.map_some, Option.bind_some, Option.isSome_some, Option.isSome_none, Option.getD_some, Option.getD_none, List.foldl_cons, List.foldl_nil, decide_eq_true_eq, if_true, if_false, Bool.not_true, Bool.not_false, Bool.false_eq_true, true_and, and_true, Nat.reduceLT, Int.reduceLT, Int.reduceLE, ↓reduceIte]
      · simp only [aSeq, aIf, aRet, aRetN, aDrop, aAsg, aNext, aPar, agName, agTup, agCons, agNil, agSub, rSetA, aTest, aOp, aUn, aV, aC, aI, aI0, aU, aEq, aNe, aCons, aNil, aTup, aLst, aCB, aIfE, aNotV, aNotT, aAndV, aOrV, aAndT, aOrT, aChain, aIxL, aIxT, aIxS, aSl, aPart, aNoPart, aSlL, aSlT, aSlS, aCat, aCatT, aAddS, aDGet, aDIn, aDGet2, asDPut, aDNewK, aDNewT, aCall, aBM, aAppend, aPopAt, aLenS, aLenStr, aListOf, aTupleOf, aInt1, aMin2, aIsi, aIsN, aNotN, aCont, aBreak, aNever, aDisp, aPairs, kvs?, mergeD, EndA, D.eq2, D.isNon, D.key, D.items, ptrList, listM, seqAt, Cell.items, dGetM, dPutM, isDict, tyOf, kitD, updM_same, updM_upd, List.set_cons_zero, List.set_cons_succ, List.getElem?_cons_zero, List.getElem?_cons_succ, List.length_cons, List.length_nil, Option.map_some, Option.bind_some, Option.isSome_some, Option.isSome_none, Option.getD_some, Option.getD_none, List.foldl_cons, List.foldl_nil, decide_eq_true_eq, if_true, if_false, Bool.not_true, Bool.not_false, Bool.false_eq_true, true_and, and_true, Nat.reduceLT, Int.reduceLT, Int.reduceLE, ↓reduceIte]
      · simp only [aSeq, aIf, aRet, aRetN, aDrop, aAsg, aNext, aPar, agName, agTup, agCons, agNil, agSub, rSetA, aTest, aOp, aUn, aV, aC, aI, aI0, aU, aEq, aNe, aCons, aNil, aTup, aLst, aCB, aIfE, aNotV, aNotT, aAndV, aOrV, aAndT, aOrT, aChain, aIxL, aIxT, aIxS, aSl, aPart, aNoPart, aSlL, aSlT, aSlS, aCat, aCatT, aAddS, aDGet, aDIn, aDGet2, asDPut, aDNewK, aDNewT, aCall, aBM, aAppend, aPopAt, aLenS, aLenStr, aListOf, aTupleOf, aInt1, aMin2, aIsi, aIsN, aNotN, aCont, aBreak, aNever, aDisp, aPairs, kvs?, mergeD, EndA, D.eq2, D.isNon, D.key, D.items, ptrList, listM, seqAt, Cell.items, dGetM, dPutM, isDict, tyOf, kitD, updM_same, updM_upd, List.set_cons_zero, List.set_cons_succ, List.getElem?_cons_zero, List.getElem?_cons_succ, List.length_cons, List.length_nil, Option.map_some, Option.bind_some, Option.isSome_some, Option.isSome_none, Option.getD_some, Option.getD_none, List.foldl_cons, List.foldl_nil, decide_eq_true_eq, if_true, if_false, Bool.not_true, Bool.not_false, Bool.false_eq_true, true_and, and_true, Nat.reduceLT, Int.reduceLT, Int.reduceLE, ↓reduceIte]
      · simp only [aSeq, aIf, aRet, aRetN, aDrop, aAsg, aNext, aPar, agName, agTup, agCons, agNil, agSub, rSetA, aTest, aOp, aUn, aV, aC, aI, aI0, aU, aEq, aNe, aCons, aNil, aTup, aLst, aCB, aIfE, aNotV, aNotT, aAndV, aOrV, aAndT, aOrT, aChain, aIxL, aIxT, aIxS, aSl, aPart, aNoPart, aSlL, aSlT, aSlS, aCat, aCatT, aAddS, aDGet, aDIn, aDGet2, asDPut, aDNewK, aDNewT, aCall, aBM, aAppend, aPopAt, aLenS, aLenStr, aListOf, aTupleOf, aInt1, aMin2, aIsi, aIsN, aNotN, aCont, aBreak, aNever, aDisp, aPairs, kvs?, mergeD, EndA, D.eq2, D.isNon, D.key, D.items, ptrList, listM, seqAt, Cell.items, dGetM, dPutM, isDict, tyOf, kitD, updM_same, updM_upd, List.set_cons_zero, List.set_cons_succ, List.getElem?_cons_zero, List.getElem?_cons_succ, List.length_cons, List.length_nil, Option.map_some, Option.bind_some, Option.isSome_some, Option.isSome_none, Option.getD_some, Option.getD_none, List.foldl_cons, List.foldl_nil, decide_eq_true_eq, if_true, if_false, Bool.not_true, Bool.not_false, Bool.false_eq_true, true_and, and_true, Nat.reduceLT, Int.reduceLT, Int.reduceLE, ↓reduceIte]
      · simp only [aSeq, aIf, aRet, aRetN, aDrop, aAsg, aNext, aPar, agName, agTup, agCons, agNil, agSub, rSetA, aTest, aOp, aUn, aV, aC, aI, aI0, aU, aEq, aNe, aCons, aNil, aTup, aLst, aCB, aIfE, aNotV, aNotT, aAndV, aOrV, aAndT, aOrT, aChain, aIxL, aIxT, aIxS, aSl, aPart, aNoPart, aSlL, aSlT, aSlS, aCat, aCatT, aAddS, aDGet, aDIn, aDGet2, asDPut, aDNewK, aDNewT, aCall, aBM, aAppend, aPopAt, aLenS, aLenStr, aListOf, aTupleOf, aInt1, aMin2, aIsi, aIsN, aNotN, aCont, aBreak, aNever, aDisp, aPairs, kvs?, mergeD, EndA, D.eq2, D.isNon, D.key, D.items, ptrList, listM, seqAt, Cell.items, dGetM, dPutM, isDict, tyOf, kitD, updM_same, updM_upd, List.set_cons_zero, List.set_cons_succ, List.getElem?_cons_zero, List.getElem?_cons_succ, List.length_cons, List.length_nil, Option.map_some, Option.bind_some, Option.isSome_some, Option.isSome_none, Option.getD_some, Option.getD_none, List.foldl_cons, List.foldl_nil, decide_eq_true_eq, if_true, if_false, Bool.not_true, Bool.not_false, Bool.false_eq_true, true_and, and_true, Nat.reduceLT, Int.reduceLT, Int.reduceLE, ↓reduceIte]
      · simp only [aSeq, aIf, aRet, aRetN, aDrop, aAsg, aNext, aPar, agName, agTup, agCons, agNil, agSub, rSetA, aTest, aOp, aUn, aV, aC, aI, aI0, aU, aEq, aNe, aCons, aNil, aTup, aLst, aCB, aIfE, aNotV, aNotT, aAndV, aOrV, aAndT, aOrT, aChain, aIxL, aIxT, aIxS, aSl, aPart, aNoPart, aSlL, aSlT, aSlS, aCat, aCatT, aAddS, aDGet, aDIn, aDGet2, asDPut, aDNewK, aDNewT, aCall, aBM, aAppend, aPopAt, aLenS, aLenStr, aListOf, aTupleOf, aInt1, aMin2, aIsi, aIsN, aNotN, aCont, aBreak, aNever, aDisp, aPairs, kvs?, mergeD, EndA, D.eq2, D.isNon, D.key, D.items, ptrList, listM, seqAt, Cell.items, dGetM, dPutM, isDict, tyOf, kitD, updM_same, updM_upd, List.set_cons_zero, List.set_cons_succ, List.getElem?_cons_zero, List.getElem?_cons_succ, List.length_cons, List.length_nil, Option.map_some, Option.bind_some, Option.isSome_some, Option.isSome_none, Option.getD_some, Option.getD_none, List.foldl_cons, List.foldl_nil, decide_eq_true_eq, if_true, if_false, Bool.not_true, Bool.not_false, Bool.false_eq_true, true_and, and_true, Nat.reduceLT, Int.reduceLT, Int.reduceLE, ↓reduceIte, ha]
      · simp only [aSeq, aIf, aRet, aRetN, aDrop, aAsg, aNext, aPar, agName, agTup, agCons, agNil, agSub, rSetA, aTest, aOp, aUn, aV, aC, aI, aI0, aU, aEq, aNe, aCons, aNil, aTup, aLst, aCB, aIfE, aNotV, aNotT, aAndV, aOrV, aAndT, aOrT, aChain, aIxL, aIxT, aIxS, aSl, aPart, aNoPart, aSlL, aSlT, aSlS, aCat, aCatT, aAddS, aDGet, aDIn, aDGet2, asDPut, aDNewK, aDNewT, aCall, aBM, aAppend, aPopAt, aLenS, aLenStr, aListOf, aTupleOf, aInt1, aMin2, aIsi, aIsN, aNotN, aCont, aBreak, aNever, aDisp, aPairs, kvs?, mergeD, EndA, D.eq2, D.isNon, D.key, D.items, ptrList, listM, seqAt, Cell.items, dGetM, dPutM, isDict, tyOf, kitD, updM_same, updM_upd, List.set_cons_zero, List.set_cons_succ, List.getElem?_cons_zero, List.getElem?_cons_succ, List.length_cons, List.length_nil, Option.map_some, Option.bind_some, Option.isSome_some, Option.isSome_none, Option.getD_some, Option.getD_none, List.foldl_cons, List.foldl_nil, decide_eq_true_eq, if_true, if_false, Bool.not_true, Bool.not_false, Bool.false_eq_true, true_and, and_true, Nat.reduceLT, Int.reduceLT, Int.reduceLE, ↓reduceIte, ha]
def ctFailed (C : Addr) : Ct := fun ds μ Q => ∃ p rs d, ds = [.ptr p, d] ∧ TabAt C μ p rs ∧ NoName μ rs d ∧ ∀ l, μ l = none → l ≠ sysModules → Q (.ptr l) (updM μ l (.lst [d]))
def N_law_failed : List Str := ["_law_some", "_law_odd", "e"]
abbrev s_law_failed : Stmt := top 58
theorem sc_law_failed : FnScope N_law_failed ["_law_some", "_law_odd"] (defScope s_law_failed) := ⟨rfl, rfl, rfl, by decide +kernel, rfl, by decide +kernel, by decide +kernel⟩
theorem ok_law_failed {f fG : Addr} {fd gd : FuncData} (F : Fun K "_law_failed" "_law_failed" s_law_failed f fd) (T : Tx K mg) (g_NoInstruction : mg "NoInstruction" = some (.ref NI)) (XF : XfC K NI) (hno : PySem.W.findIn K (.ref NI) "given" = some none) (hE : PySem.W.exmOne K (.ref NI) (.ref NI) = some true)
    (hs : PySem.W.findIn K (.ref C) "__getitem__" = some (some (.ref fG))) (hf : PySem.W.fnIn K fG = true) (hfn : PySem.W.isFn K (.ref fG) = true) (FG : FnOk P w K mg base (L2.CX P w) 4 fG gd ["self", "name"] (spGetX C NI)) (BG : L2.Binds K gd ["self", "name"] []) : FnOk P w K mg base CX0 7 f fd ["_law_some", "_law_odd"] (spOf (ctFailed C)) := by
  refine F.ok sc_law_failed (fun vs H Q E h => ?_) (fun cdv A outer s H vs Q E hr h => ?_)
  · obtain ⟨B, μ, ds, Qa, b, r, ⟨p, rs, d, rfl, _⟩, _⟩ := h
    rw [r.len]
    rfl
  obtain ⟨B, μ, ds, Qa, b, r, ⟨p, rs, d, rfl, ht, hn, k⟩, kk⟩ := h
  obtain ⟨v1, v, rfl, r1, rv⟩ := two_rep r
  cases r1
  obtain ⟨q, rr, h1, h2⟩ := id ht
  refine ⟨_, (pss_one (ps_try_as (i := 2) rfl rfl sc_law_failed.nd rfl rfl ⟨rfl, by decide, .inl g_NoInstruction⟩ takes0 (fun W pn xe tk _ => pss_one (ps_ret (pe_subS hs hf hfn FG (hr.mono (by decide)) BG (fun σ => passAt tk σ) (pv 0) (pv 1)))) (fun a oe cls d pn hz hf => pss_one (ps_ret (pe_lstN (pa_cons (pe_xf XF hno hz hf (pv 2)) pa_nil)))))), ?_⟩
  obtain ⟨dx, ws, g1, g2⟩ := (b.cell p _ h1).2
  refine ⟨.ref p, rfl, v, rfl, p, dx, ws, rfl, g1, B, μ, p, rs, d, v, b, rfl, rv, ht, hn, fun B' H' dd e1 b1 nd => ?_⟩
  refine ⟨true, hE, fun _ ae nae => ?_, fun q => nomatch q⟩
  have b2 := (b1.new (c := .raw (.xd [("given", v)])) (o := .xd [("given", v)]) nd ⟨upd_same, fun _ z => nomatch z⟩).drop (Mle.new (b1.fresh nd))
  refine ⟨.ref ae, rfl, rfl, rfl, dd, _, _, rfl, upd_same, rfl, ?_⟩
  refine ⟨sz_of (by show 1 ≤ 100000; decide), fun l nl nsm => ?_⟩
  exact kk B' _ _ _ _ e1 (b2.new (c := .lst [d]) nl ⟨[v], upd_same, .cons (rv.up e1) .nil⟩) (.ptr l) (k l (b2.fresh nl) nsm)
end
end M53

set_option maxHeartbeats 4000000
namespace M53
open PySem PySem.Spec PyProof.Rows L2 Evl Gd DL StX
/-! ### rows as plain data -/
theorem plan_rows {pl : List Row} (h : PlanOk pl) (hl : pl.length ≤ 3) : RowsOk pl := ⟨by omega, fun r hr => List.mem_append_left _ (h.nm r hr), h.nd, fun r hr => by
  obtain ⟨a, b, c⟩ := h.forms r hr
  exact ⟨a, by omega, c⟩, h.codes.r⟩
theorem fld_pl {d : D} (h : FldOk d) : d.pl 3 = true := by
  rcases h with ⟨v, rfl, _⟩ | ⟨z, hz, rfl⟩
  · have e : PyData.strOk (Str.ofString "n") = true := by decide +kernel
    show (D.pl 2 (.str "n") && (D.pl 2 (.int v) && true)) = true
    rw [show D.pl 2 (.str "n") = true from e]
    rfl
  · exact (fld_facts z hz).2.1
theorem code_pl (c : List Int) : (codeD c).pl 4 = true := List.all_eq_true.mpr fun y hy => by
  obtain ⟨i, _, rfl⟩ := List.mem_map.mp hy
  rfl
theorem formD_pl {f : Form} (h : ∀ d ∈ f.fs, FldOk d) : (formD f).pl 5 = true := by
  show (D.pl 4 (codeD f.code) && (D.pl 4 (.tup f.fs) && true)) = true
  rw [code_pl, show D.pl 4 (.tup f.fs) = true from List.all_eq_true.mpr fun d hd => fld_pl (h d hd)]
  rfl
def RowP (r : Row) : Prop := r.1 ∈ NAMES ∧ ∀ f ∈ r.2, ∀ d ∈ f.fs, FldOk d
theorem RowsOk.p {rs : List Row} (h : RowsOk rs) : ∀ r ∈ rs, RowP r := fun r hr => ⟨h.nm r hr, fun f hf => (form_at h hr hf).fs⟩
theorem names_str : NAMES.all PyData.strOk = true := by decide +kernel
theorem forms_pl {sh : List Form} (h : ∀ f ∈ sh, ∀ d ∈ f.fs, FldOk d) : (D.tup (sh.map formD)).pl 6 = true := List.all_eq_true.mpr fun y hy => by
  obtain ⟨f, hf, rfl⟩ := List.mem_map.mp hy
  exact formD_pl (h f hf)
theorem rowD_pl {r : Row} (h : RowP r) : (rowD r).pl 7 = true := by
  show (D.pl 6 (.str r.1) && (D.pl 6 (.tup (r.2.map formD)) && true)) = true
  rw [show D.pl 6 (.str r.1) = true from List.all_eq_true.mp names_str _ h.1, forms_pl h.2]
  rfl
theorem rows_pl {rs : List Row} (h : ∀ r ∈ rs, RowP r) : (D.tup (rs.map rowD)).pl 8 = true := List.all_eq_true.mpr fun y hy => by
  obtain ⟨f, hf, rfl⟩ := List.mem_map.mp hy
  exact rowD_pl (h f hf)
theorem up_flat : ∀ (n : Nat) (d : D), d.flat n = true → ∀ m, n ≤ m → d.flat m = true
  | _, .non, _, m, _ => by cases m <;> rfl
  | _, .bl _, _, m, _ => by cases m <;> rfl
  | _, .int _, _, m, _ => by cases m <;> rfl
  | n, .str z, h, m, _ => by
    have : PyData.strOk z = true := by cases n <;> exact h
    cases m <;> exact this
  | n + 1, .tup xs, h, m, hm => by
    obtain ⟨k, rfl⟩ : ∃ k, m = k + 1 := ⟨m - 1, by omega⟩
    exact List.all_eq_true.mpr fun x hx => up_flat n x (List.all_eq_true.mp (show xs.all (D.flat n) = true from h) x hx) k (by omega)
  | n + 1, .tuz xs, h, m, hm => by
    obtain ⟨k, rfl⟩ : ∃ k, m = k + 1 := ⟨m - 1, by omega⟩
    exact List.all_eq_true.mpr fun x hx => up_flat n x (List.all_eq_true.mp (show xs.all (D.flat n) = true from h) x hx) k (by omega)
  | 0, .tup _, h, _, _ => by cases h
  | 0, .tuz _, h, _, _ => by cases h
  | 0, .ptr _, h, _, _ => by cases h
  | _ + 1, .ptr _, h, _, _ => by cases h
  | 0, .ty _, h, _, _ => by cases h
  | _ + 1, .ty _, h, _, _ => by cases h
theorem rows_flat {rs : List Row} (h : ∀ r ∈ rs, RowP r) : (D.tup (rs.map rowD)).flat 63 = true := up_flat 8 _ (pl_flat _ _ (rows_pl h)) 63 (by decide)
theorem rows_flatz {rs : List Row} (h : ∀ r ∈ rs, RowP r) : (D.tuz (rs.map rowD)).flat 63 = true := rows_flat h
theorem rows_py {rs : List Row} (h : ∀ r ∈ rs, RowP r) : (D.tuz (rs.map rowD)).py = (D.tup (rs.map rowD)).py := by rw [py_tuz (rows_flatz h), py_tup (rows_flat h)]
/-! their texts -/
theorem names_short : NAMES.all (fun z => PyData.leavesShort 100 (.str z) && decide (z.cps.size ≤ 100)) = true := by decide +kernel
theorem name_pr {z : Str} (h : z ∈ NAMES) : Pr 100 (D.str z).py := by
  have := List.all_eq_true.mp names_short z h
  simp only [Bool.and_eq_true, decide_eq_true_eq] at this
  rw [py_str]
  exact pr_str this.1 this.2
theorem flds_short : FIELDS.all (fun z => PyData.leavesShort 100 (.str z) && decide (z.cps.size ≤ 100)) = true := by decide +kernel
theorem fld_pr {d : D} (h : FldOk d) : Pr 202 d.py := by
  have hf := fld_pl h
  rcases h with ⟨v, rfl, h1, h2⟩ | ⟨z, hz, rfl⟩
  · unfold LARG at h1 h2
    rw [py_tup (pl_flat _ _ hf)]
    refine pr_tuple (k := 100) (m := 2) (fun x hx => ?_) (Nat.le_refl _)
    simp only [List.map_cons, List.map_nil, List.mem_cons, List.not_mem_nil, or_false] at hx
    rcases hx with rfl | rfl
    · rw [py_str]
      exact pr_str (by decide +kernel) (by decide +kernel)
    · rw [py_int]
      exact (pr_int h1 h2).mono (by decide)
  · have := List.all_eq_true.mp flds_short z hz
    simp only [Bool.and_eq_true, decide_eq_true_eq] at this
    rw [py_str]
    exact (pr_str this.1 this.2).mono (by decide)
theorem code_pr {c : List Int} (h : CodeOk c) : Pr 213 (codeD c).py := by
  have hp := pl_flat _ _ (code_pl c)
  unfold codeD at hp ⊢
  rw [py_tup hp]
  refine pr_tuple (k := 70) (m := 3) (fun x hx => ?_) (by rw [List.length_map, List.length_map]; exact h.2.1)
  rw [List.map_map] at hx
  obtain ⟨i, hi, rfl⟩ := List.mem_map.mp hx
  obtain ⟨a, b⟩ := h.2.2 i hi
  show Pr 70 (D.int i).py
  rw [py_int]
  exact pr_int (by omega) (by omega)
theorem formD_pr {f : Form} (h : FormOk f) : Pr 1626 (formD f).py := by
  have hp := pl_flat _ _ (formD_pl h.fs)
  unfold formD at hp ⊢
  rw [py_tup hp]
  refine pr_tuple (k := 812) (m := 2) (fun x hx => ?_) (Nat.le_refl _)
  simp only [List.map_cons, List.map_nil, List.mem_cons, List.not_mem_nil, or_false] at hx
  rcases hx with rfl | rfl
  · exact (code_pr h.code).mono (by decide)
  · have hq : (D.tup f.fs).flat 4 = true := pl_flat 4 _ (List.all_eq_true.mpr fun d hd => fld_pl (h.fs d hd))
    rw [py_tup hq]
    refine (pr_tuple (k := 202) (m := 4) (fun x hx => ?_) (by rw [List.length_map]; exact h.few)).mono (by decide)
    obtain ⟨d, hd, rfl⟩ := List.mem_map.mp hx
    exact fld_pr (h.fs d hd)
theorem forms_pr {sh : List Form} (h : ∀ f ∈ sh, FormOk f) (hl : sh.length ≤ 6) : Pr 9762 (D.tup (sh.map formD)).py := by
  have hp := pl_flat _ _ (forms_pl fun f hf => (h f hf).fs)
  rw [py_tup hp]
  refine pr_tuple (k := 1626) (m := 6) (fun x hx => ?_) (by rw [List.length_map, List.length_map]; exact hl)
  rw [List.map_map] at hx
  obtain ⟨f, hf, rfl⟩ := List.mem_map.mp hx
  exact formD_pr (h f hf)
theorem rowD_pr {rs : List Row} {r : Row} (ok : RowsOk rs) (hr : r ∈ rs) : Pr 19526 (rowD r).py := by
  have hp := pl_flat _ _ (rowD_pl (ok.p r hr))
  have h := ok.forms r hr
  unfold rowD at hp ⊢
  rw [py_tup hp]
  refine pr_tuple (k := 9762) (m := 2) (fun x hx => ?_) (Nat.le_refl _)
  simp only [List.map_cons, List.map_nil, List.mem_cons, List.not_mem_nil, or_false] at hx
  rcases hx with rfl | rfl
  · exact (name_pr (ok.nm r hr)).mono (by decide)
  · exact forms_pr (fun f hf => form_at ok hr hf) h.2.1
theorem rows_pr {rs : List Row} (ok : RowsOk rs) (hl : rs.length ≤ 3) : Pr 58581 (D.tup (rs.map rowD)).py := by
  rw [py_tup (rows_flat ok.p)]
  refine pr_tuple (k := 19526) (m := 3) (fun x hx => ?_) (by rw [List.length_map, List.length_map]; exact hl)
  rw [List.map_map] at hx
  obtain ⟨r, hr, rfl⟩ := List.mem_map.mp hx
  exact rowD_pr ok hr
/-- what is known of the class's methods -/
structure TabM (P : Program) (w : World) (K : PySem.W.Frag) (mg : Str → Option Value) (base : Heap) (C fI fO fR fN fH fG fE : Addr) : Prop where
  mka : Mk K C fI
  fi : FnR P w K mg base CX0 6 fI (spOf (ctInit C))
  g : mg "Table" = some (.ref C)
  of_ : FnR P w K mg base CX0 8 fO (spOf (ctOf C))
  cr : ClX.CRead K C (.type "type")
  cm : ∃ p, ClX.CMet K C (.type "type") "of" p fO
  hpr : ∀ D, D = C → Cls K D ∧ ∃ p, PropOf K D "instructions" p fR
  pr : ∃ fd, FnOk P w K mg base CX0 1 fR fd ["self"] (spOf (ctRowsOf C)) ∧ L2.Binds K fd ["self"] []
  ln : PySem.W.findIn K (.ref C) "__len__" = some (some (.ref fN)) ∧ PySem.W.typeIn K (.ref fN) = some (.type "function")
  lnF : ∃ fd, FnOk P w K mg base CX0 1 fN fd ["self"] (spOf (ctLenT C)) ∧ L2.Binds K fd ["self"] []
  hs : PySem.W.findIn K (.ref C) "__contains__" = some (some (.ref fH)) ∧ PySem.W.isFn K (.ref fH) = true
  hsF : ∃ fd, FnOk P w K mg base CX0 1 fH fd ["self", "name"] (spOf (ctHas C)) ∧ L2.Binds K fd ["self", "name"] []
  gt : PySem.W.findIn K (.ref C) "__getitem__" = some (some (.ref fG)) ∧ PySem.W.fnIn K fG = true ∧ PySem.W.isFn K (.ref fG) = true
  gtF : ∃ fd, FnOk P w K mg base CX0 1 fG fd ["self", "name"] (spOf (ctGet C)) ∧ L2.Binds K fd ["self", "name"] []
  eq : EqC K C fE [.type "int", .type "str", .type "NoneType", .type "tuple", .type "dict", .ref C]
  eqF : ∃ fd, FnOk P w K mg base CX0 1 fE fd ["self", "other"] (spOf (ctEq C)) ∧ L2.Binds K fd ["self", "other"] []
section
variable {P : Program} {w : World} {K : PySem.W.Frag} {mg : Str → Option Value} {base : Heap} {C fI fO fR fN fH fG fE : Addr}
theorem kvF_at {rs : List Row} {r : Row} (nd : (rs.map Prod.fst).Nodup) (h : r ∈ rs) : lookD (kvF rs) (.inr r.1) = some (.tup (r.2.map formD)) := by
  obtain ⟨i, hi⟩ := List.getElem?_of_mem h
  have e : kvF rs = kvF (rs.take i) ++ kvF (r :: rs.drop (i + 1)) := by
    conv => lhs; rw [split_at hi]
    unfold kvF
    rw [List.map_append]
  have hn := kvF_none nd hi
  rw [e]
  unfold lookD at hn ⊢
  rw [List.find?_append]
  cases z : List.find? (fun kv => decide (kv.1 = (Sum.inr r.1 : Key))) (kvF (rs.take i)) with
  | some x => rw [z] at hn; cases hn
  | none =>
    unfold kvF
    simp
theorem _root_.M53.TabAt.up {C : Addr} {μ μ' : Mu} {p : Addr} {rs : List Row} (h : TabAt C μ p rs) (m : Mle μ μ') : TabAt C μ' p rs := by
  obtain ⟨q, r, h1, h2⟩ := h
  exact ⟨q, r, m _ _ h1, m _ _ h2⟩
def ctTells (C : Addr) : Ct := fun ds μ Q => ∃ p rs t, ds = [.ptr p, t] ∧ TabAt C μ p rs ∧ (t = .tup (rs.map rowD) ∨ t = .tuz (rs.map rowD)) ∧ RowsOk rs ∧ rs.length ≤ 3 ∧ Q (.bl true) μ
def N_law_tells : List Str := ["_law_some", "_law_plan_here", "_law_title", "_law_shapes_here"]
abbrev s_law_tells : Stmt := top 59
theorem sc_law_tells : FnScope N_law_tells ["_law_some", "_law_plan_here"] (defScope s_law_tells) := ⟨rfl, rfl, rfl, by decide +kernel, rfl, by decide +kernel, by decide +kernel⟩
theorem ok_law_tells {f : Addr} {fd : FuncData} (F : Fun K "_law_tells" "_law_tells" s_law_tells f fd) (T : Tx K mg) (M : TabM P w K mg base C fI fO fR fN fH fG fE) : GOk P w K mg base CX0 4 f fd ["_law_some", "_law_plan_here"] (spOf (ctTells C)) := by
  obtain ⟨_, OP, BP⟩ := M.pr
  obtain ⟨_, ON, BN⟩ := M.lnF
  obtain ⟨_, OH, BH⟩ := M.hsF
  obtain ⟨_, OG, BG⟩ := M.gtF
  refine okDG F sc_law_tells (fun ds μ Q h => ?_) (fun cdv A outer s H E ca hr => ⟨_, (qss_cons (qs_if (QW.pt (qw_or (qt_cmpR oq_ne (qe_callB (cq_repr2 ca hr) (by rfl) T.b_repr (by decide +kernel) (qa_cons (qe_propIn M.hpr OP (hr.mono (by decide)) BP (qv 0)) qa_nil)) (qe_callB (cq_repr2 ca hr) (by rfl) T.b_repr (by decide +kernel) (qa_cons (qv 1) qa_nil)) (nomark _)) (qw_or1 (qt_cmpR oq_ne (qe_callB (cq_lenO M.ln.1 M.ln.2 ON (hr.mono (by decide)) BN) (by rfl) T.b_len (by decide +kernel) (qa_cons (qv 0) qa_nil)) (qe_callB cq_len (by rfl) T.b_len (by decide +kernel) (qa_cons (qv 1) qa_nil)) (nomark _)))))
    (qss_one (qs_ret qe_bl))
    qss_nil)
  (qss_one (qs_ret (qe_cmpR (oq_eqD hr.units) (qe_lc (own := [("_law_title", 2), ("_law_shapes_here", 3)])  rfl sc_law_tells.nd (qi_tup (qv 1)) (blkOk_by (N := N_law_tells) (sc := defScope s_law_tells) (by decide +kernel)) (fun _ _ _ _ _ => qg_tup (n := 2) rfl (qgs_cons (qg_name (i := 2) sc_law_tells.nd rfl (Or.inl rfl)) (qgs_cons (qg_name (i := 3) sc_law_tells.nd rfl (Or.inl rfl)) qgs_nil))) (fun _ _ _ _ _ => qts_one (QW.pt (qw_or (qt_cmpR (oq_notInO M.hs.1 M.hs.2 OH (hr.mono (by decide)) BH) (qv 2) (qv 0) rfl) (qw_or1 (qt_cmpR oq_ne (qe_callB (cq_repr2 ca hr) (by rfl) T.b_repr (by decide +kernel) (qa_cons (qe_ixO M.gt.1 M.gt.2.1 M.gt.2.2 OG (hr.mono (by decide)) BG (qv 0) (qv 2)) qa_nil)) (qe_callB (cq_repr2 ca hr) (by rfl) T.b_repr (by decide +kernel) (qa_cons (qv 3) qa_nil)) (nomark _)))))) (fun _ _ _ _ _ => qe_int)) (qe_lst qa_nil) (nomark _))))), ?_⟩)
  · obtain ⟨p, rs, t, rfl, _⟩ := h
    rfl
  rintro ds μ Q ⟨p, rs, t, rfl, ht, hd, ok, h3, k⟩
  obtain ⟨q, r, h1, h2⟩ := id ht
  show (_ : AS) (EndA Q) [some (.ptr p), some t, none, none] μ
  have r1 : Pr 58581 (D.tup (rs.map rowD)).py := rows_pr ok h3
  rcases hd with rfl | rfl
  all_goals
    simp only [aSeq, aIf, aRet, aRetN, aDrop, aAsg, aNext, aPar, agName, agTup, agCons, agNil, agSub, rSetA, aTest, aOp, aUn, aV, aC, aI, aI0, aU, aEq, aNe, aCons, aNil, aTup, aLst, aCB, aIfE, aNotV, aNotT, aAndV, aOrV, aAndT, aOrT, aChain, aIxL, aIxT, aIxS, aSl, aPart, aNoPart, aSlL, aSlT, aSlS, aCat, aCatT, aAddS, aDGet, aDIn, aDGet2, asDPut, aDNewK, aDNewT, aCall, aBM, aAppend, aPopAt, aLenS, aLenStr, aListOf, aTupleOf, aInt1, aMin2, aIsi, aIsN, aNotN, aCont, aBreak, aNever, aDisp, aPairs, kvs?, mergeD, EndA, D.eq2, D.isNon, D.key, D.items, ptrList, listM, seqAt, Cell.items, dGetM, dPutM, isDict, tyOf, kitD, updM_same, updM_upd, List.set_cons_zero, List.set_cons_succ, List.getElem?_cons_zero, List.getElem?_cons_succ, List.length_cons, List.length_nil, Option.map_some, Option.bind_some, Option.isSome_some, Option.isSome_none, Option.getD_some, Option.getD_none, List.foldl_cons, List.foldl_nil, decide_eq_true_eq, if_true, if_false, Bool.not_true, Bool.not_false, Bool.false_eq_true, true_and, and_true, Nat.reduceLT, Int.reduceLT, Int.reduceLE, ↓reduceIte, aProp, h1]
    refine ⟨p, rs, rfl, ht, ?_⟩
    refine repr_flat (n := 63) (k := 58581) rfl (rows_flat ok.p) (by decide) r1 (by decide) ?_
    refine repr_flat (n := 63) (k := 58581) rfl (rows_flat ok.p) (by decide) (by first | exact r1 | (rw [rows_py ok.p]; exact r1)) (by decide) ?_
    try rw [rows_py ok.p]
    simp only [aSeq, aIf, aRet, aRetN, aDrop, aAsg, aNext, aPar, agName, agTup, agCons, agNil, agSub, rSetA, aTest, aOp, aUn, aV, aC, aI, aI0, aU, aEq, aNe, aCons, aNil, aTup, aLst, aCB, aIfE, aNotV, aNotT, aAndV, aOrV, aAndT, aOrT, aChain, aIxL, aIxT, aIxS, aSl, aPart, aNoPart, aSlL, aSlT, aSlS, aCat, aCatT, aAddS, aDGet, aDIn, aDGet2, asDPut, aDNewK, aDNewT, aCall, aBM, aAppend, aPopAt, aLenS, aLenStr, aListOf, aTupleOf, aInt1, aMin2, aIsi, aIsN, aNotN, aCont, aBreak, aNever, aDisp, aPairs, kvs?, mergeD, EndA, D.eq2, D.isNon, D.key, D.items, ptrList, listM, seqAt, Cell.items, dGetM, dPutM, isDict, tyOf, kitD, updM_same, updM_upd, List.set_cons_zero, List.set_cons_succ, List.getElem?_cons_zero, List.getElem?_cons_succ, List.length_cons, List.length_nil, Option.map_some, Option.bind_some, Option.isSome_some, Option.isSome_none, Option.getD_some, Option.getD_none, List.foldl_cons, List.foldl_nil, decide_eq_true_eq, if_true, if_false, Bool.not_true, Bool.not_false, Bool.false_eq_true, true_and, and_true, Nat.reduceLT, Int.reduceLT, Int.reduceLE, ↓reduceIte, aLenO, h1, eq_self, decide_true]
    refine ⟨p, rs, rfl, ht, ?_⟩
    simp only [aSeq, aIf, aRet, aRetN, aDrop, aAsg, aNext, aPar, agName, agTup, agCons, agNil, agSub, rSetA, aTest, aOp, aUn, aV, aC, aI, aI0, aU, aEq, aNe, aCons, aNil, aTup, aLst, aCB, aIfE, aNotV, aNotT, aAndV, aOrV, aAndT, aOrT, aChain, aIxL, aIxT, aIxS, aSl, aPart, aNoPart, aSlL, aSlT, aSlS, aCat, aCatT, aAddS, aDGet, aDIn, aDGet2, asDPut, aDNewK, aDNewT, aCall, aBM, aAppend, aPopAt, aLenS, aLenStr, aListOf, aTupleOf, aInt1, aMin2, aIsi, aIsN, aNotN, aCont, aBreak, aNever, aDisp, aPairs, kvs?, mergeD, EndA, D.eq2, D.isNon, D.key, D.items, ptrList, listM, seqAt, Cell.items, dGetM, dPutM, isDict, tyOf, kitD, updM_same, updM_upd, List.set_cons_zero, List.set_cons_succ, List.getElem?_cons_zero, List.getElem?_cons_succ, List.length_cons, List.length_nil, Option.map_some, Option.bind_some, Option.isSome_some, Option.isSome_none, Option.getD_some, Option.getD_none, List.foldl_cons, List.foldl_nil, decide_eq_true_eq, if_true, if_false, Bool.not_true, Bool.not_false, Bool.false_eq_true, true_and, and_true, Nat.reduceLT, Int.reduceLT, Int.reduceLE, ↓reduceIte, List.length_map, eq_self, decide_true]
    refine ⟨by omega, by omega, ?_⟩
    refine aLc_gen (rs.map rowD) (fun _ => True) (fun i acc => acc = []) (fun R h => by simp only [aSeq, aIf, aRet, aRetN, aDrop, aAsg, aNext, aPar, agName, agTup, agCons, agNil, agSub, rSetA, aTest, aOp, aUn, aV, aC, aI, aI0, aU, aEq, aNe, aCons, aNil, aTup, aLst, aCB, aIfE, aNotV, aNotT, aAndV, aOrV, aAndT, aOrT, aChain, aIxL, aIxT, aIxS, aSl, aPart, aNoPart, aSlL, aSlT, aSlS, aCat, aCatT, aAddS, aDGet, aDIn, aDGet2, asDPut, aDNewK, aDNewT, aCall, aBM, aAppend, aPopAt, aLenS, aLenStr, aListOf, aTupleOf, aInt1, aMin2, aIsi, aIsN, aNotN, aCont, aBreak, aNever, aDisp, aPairs, kvs?, mergeD, EndA, D.eq2, D.isNon, D.key, D.items, ptrList, listM, seqAt, Cell.items, dGetM, dPutM, isDict, tyOf, kitD, updM_same, updM_upd, List.set_cons_zero, List.set_cons_succ, List.getElem?_cons_zero, List.getElem?_cons_succ, List.length_cons, List.length_nil, Option.map_some, Option.bind_some, Option.isSome_some, Option.isSome_none, Option.getD_some, Option.getD_none, List.foldl_cons, List.foldl_nil, decide_eq_true_eq, if_true, if_false, Bool.not_true, Bool.not_false, Bool.false_eq_true, true_and, and_true, Nat.reduceLT, Int.reduceLT, Int.reduceLE, ↓reduceIte, aITup]; exact h) (fun _ _ => trivial) rfl (fun i acc e => by rw [e]; exact Nat.zero_le _) (fun i x acc μ' hx ea hm Nx Sk hN hS => ?_) fun a acc μ1 ha hm hc ea => ?_
    · rw [List.getElem?_map] at hx
      obtain ⟨r, hr', rfl⟩ := Option.map_eq_some_iff.mp hx
      have hmem := List.mem_of_getElem? hr'
      have h1' := hm _ _ h1
      have kf := kvF_at ok.nd hmem
      have f2 : (D.tup (r.2.map formD)).flat 6 = true := pl_flat _ _ (forms_pl (ok.p r hmem).2)
      have p2 : Pr 9762 (D.tup (r.2.map formD)).py := forms_pr (fun f hf => form_at ok hmem hf) (ok.forms r hmem).2.1
      simp only [aSeq, aIf, aRet, aRetN, aDrop, aAsg, aNext, aPar, agName, agTup, agCons, agNil, agSub, rSetA, aTest, aOp, aUn, aV, aC, aI, aI0, aU, aEq, aNe, aCons, aNil, aTup, aLst, aCB, aIfE, aNotV, aNotT, aAndV, aOrV, aAndT, aOrT, aChain, aIxL, aIxT, aIxS, aSl, aPart, aNoPart, aSlL, aSlT, aSlS, aCat, aCatT, aAddS, aDGet, aDIn, aDGet2, asDPut, aDNewK, aDNewT, aCall, aBM, aAppend, aPopAt, aLenS, aLenStr, aListOf, aTupleOf, aInt1, aMin2, aIsi, aIsN, aNotN, aCont, aBreak, aNever, aDisp, aPairs, kvs?, mergeD, EndA, D.eq2, D.isNon, D.key, D.items, ptrList, listM, seqAt, Cell.items, dGetM, dPutM, isDict, tyOf, kitD, updM_same, updM_upd, List.set_cons_zero, List.set_cons_succ, List.getElem?_cons_zero, List.getElem?_cons_succ, List.length_cons, List.length_nil, Option.map_some, Option.bind_some, Option.isSome_some, Option.isSome_none, Option.getD_some, Option.getD_none, List.foldl_cons, List.foldl_nil, decide_eq_true_eq, if_true, if_false, Bool.not_true, Bool.not_false, Bool.false_eq_true, true_and, and_true, Nat.reduceLT, Int.reduceLT, Int.reduceLE, ↓reduceIte, rowD, wipeD, List.map_cons, List.map_nil, aInO, h1']
      refine ⟨p, rs, .str r.1, rfl, ht.up hm, .inl ⟨r.1, rfl, ?_⟩⟩
      simp only [aSeq, aIf, aRet, aRetN, aDrop, aAsg, aNext, aPar, agName, agTup, agCons, agNil, agSub, rSetA, aTest, aOp, aUn, aV, aC, aI, aI0, aU, aEq, aNe, aCons, aNil, aTup, aLst, aCB, aIfE, aNotV, aNotT, aAndV, aOrV, aAndT, aOrT, aChain, aIxL, aIxT, aIxS, aSl, aPart, aNoPart, aSlL, aSlT, aSlS, aCat, aCatT, aAddS, aDGet, aDIn, aDGet2, asDPut, aDNewK, aDNewT, aCall, aBM, aAppend, aPopAt, aLenS, aLenStr, aListOf, aTupleOf, aInt1, aMin2, aIsi, aIsN, aNotN, aCont, aBreak, aNever, aDisp, aPairs, kvs?, mergeD, EndA, D.eq2, D.isNon, D.key, D.items, ptrList, listM, seqAt, Cell.items, dGetM, dPutM, isDict, tyOf, kitD, updM_same, updM_upd, List.set_cons_zero, List.set_cons_succ, List.getElem?_cons_zero, List.getElem?_cons_succ, List.length_cons, List.length_nil, Option.map_some, Option.bind_some, Option.isSome_some, Option.isSome_none, Option.getD_some, Option.getD_none, List.foldl_cons, List.foldl_nil, decide_eq_true_eq, if_true, if_false, Bool.not_true, Bool.not_false, Bool.false_eq_true, true_and, and_true, Nat.reduceLT, Int.reduceLT, Int.reduceLE, ↓reduceIte, kf, aIxO, h1']
      refine ⟨p, rs, r.1, _, rfl, ht.up hm, kf, ?_⟩
      refine repr_flat (n := 6) (k := 9762) rfl f2 (by decide) p2 (by decide) ?_
      refine repr_flat (n := 6) (k := 9762) rfl f2 (by decide) p2 (by decide) ?_
      simp only [aSeq, aIf, aRet, aRetN, aDrop, aAsg, aNext, aPar, agName, agTup, agCons, agNil, agSub, rSetA, aTest, aOp, aUn, aV, aC, aI, aI0, aU, aEq, aNe, aCons, aNil, aTup, aLst, aCB, aIfE, aNotV, aNotT, aAndV, aOrV, aAndT, aOrT, aChain, aIxL, aIxT, aIxS, aSl, aPart, aNoPart, aSlL, aSlT, aSlS, aCat, aCatT, aAddS, aDGet, aDIn, aDGet2, asDPut, aDNewK, aDNewT, aCall, aBM, aAppend, aPopAt, aLenS, aLenStr, aListOf, aTupleOf, aInt1, aMin2, aIsi, aIsN, aNotN, aCont, aBreak, aNever, aDisp, aPairs, kvs?, mergeD, EndA, D.eq2, D.isNon, D.key, D.items, ptrList, listM, seqAt, Cell.items, dGetM, dPutM, isDict, tyOf, kitD, updM_same, updM_upd, List.set_cons_zero, List.set_cons_succ, List.getElem?_cons_zero, List.getElem?_cons_succ, List.length_cons, List.length_nil, Option.map_some, Option.bind_some, Option.isSome_some, Option.isSome_none, Option.getD_some, Option.getD_none, List.foldl_cons, List.foldl_nil, decide_eq_true_eq, if_true, if_false, Bool.not_true, Bool.not_false, Bool.false_eq_true, true_and, and_true, Nat.reduceLT, Int.reduceLT, Int.reduceLE, ↓reduceIte, eq_self, decide_true]
      exact hS _ (Mle.refl _) ea
    · subst ea
      refine ⟨by decide, fun e he => ?_⟩
      have nae : a ≠ e := (fresh_ne he hc).symm
      rw [eq_nil (n := 0) (ys := []) (by rw [list_upd nae]; exact list_cell hc) list_at (fun _ h => nomatch h) (by decide)]
      simp only [aSeq, aIf, aRet, aRetN, aDrop, aAsg, aNext, aPar, agName, agTup, agCons, agNil, agSub, rSetA, aTest, aOp, aUn, aV, aC, aI, aI0, aU, aEq, aNe, aCons, aNil, aTup, aLst, aCB, aIfE, aNotV, aNotT, aAndV, aOrV, aAndT, aOrT, aChain, aIxL, aIxT, aIxS, aSl, aPart, aNoPart, aSlL, aSlT, aSlS, aCat, aCatT, aAddS, aDGet, aDIn, aDGet2, asDPut, aDNewK, aDNewT, aCall, aBM, aAppend, aPopAt, aLenS, aLenStr, aListOf, aTupleOf, aInt1, aMin2, aIsi, aIsN, aNotN, aCont, aBreak, aNever, aDisp, aPairs, kvs?, mergeD, EndA, D.eq2, D.isNon, D.key, D.items, ptrList, listM, seqAt, Cell.items, dGetM, dPutM, isDict, tyOf, kitD, updM_same, updM_upd, List.set_cons_zero, List.set_cons_succ, List.getElem?_cons_zero, List.getElem?_cons_succ, List.length_cons, List.length_nil, Option.map_some, Option.bind_some, Option.isSome_some, Option.isSome_none, Option.getD_some, Option.getD_none, List.foldl_cons, List.foldl_nil, decide_eq_true_eq, if_true, if_false, Bool.not_true, Bool.not_false, Bool.false_eq_true, true_and, and_true, Nat.reduceLT, Int.reduceLT, Int.reduceLE, ↓reduceIte, List.isEmpty_nil]
      exact ⟨μ, hm.trans (Mle.new he), k⟩
end
end M53

set_option maxHeartbeats 4000000
namespace M53
open PySem PySem.Spec PyProof.Rows L2 Evl Gd DL StX
/-! ### tables made and compared -/
def TS (C : Addr) : List Value := [.type "int", .type "str", .type "NoneType", .type "tuple", .type "dict", .ref C]
section
variable {C : Addr} {μ : Mu} {p q : Addr} {rs rs2 : List Row} {g : Bool → Bool} {Q : DK} {y : D} {t : Value}
theorem tab_ty (h : TabAt C μ q rs) : tyG μ (.ptr q) = some (.ref C) := by
  obtain ⟨a, r, h1, h2⟩ := h
  unfold tyG
  simp only [h1]
theorem eqO_gen (h : TabAt C μ p rs) (hy : ∃ t, tyG μ y = some t ∧ t ∈ TS C) (k : ctEq C [.ptr p, y] μ fun d μ1 => match d with
      | .bl b => Q (.bl (g b)) μ1
      | _ => False) : aEqO C (TS C) (ctEq C) g (.ptr p) y μ Q := by
  obtain ⟨a, r, h1, h2⟩ := id h
  unfold aEqO
  simp only [h1]
  exact ⟨trivial, hy, k⟩
theorem eqO_yes (h : TabAt C μ p rs) (h2 : TabAt C μ q rs) (hp : ∀ r ∈ rs, RowP r) (k : Q (.bl (g true)) μ) : aEqO C (TS C) (ctEq C) g (.ptr p) (.ptr q) μ Q :=
  eqO_gen h ⟨_, tab_ty h2, by unfold TS; simp⟩ ⟨p, rs, _, rfl, h, rows_flat hp, .inl ⟨q, rs, rfl, h2, rows_flat hp, by rw [eqv_yes (rows_pl hp)]; exact k⟩⟩
theorem eqO_no (h : TabAt C μ p rs) (h2 : TabAt C μ q rs2) (hp : ∀ r ∈ rs, RowP r) (hp2 : ∀ r ∈ rs2, RowP r) (ne : rs.map rowD ≠ rs2.map rowD) (k : Q (.bl (g false)) μ) : aEqO C (TS C) (ctEq C) g (.ptr p) (.ptr q) μ Q :=
  eqO_gen h ⟨_, tab_ty h2, by unfold TS; simp⟩ ⟨p, rs, _, rfl, h, rows_flat hp, .inl ⟨q, rs2, rfl, h2, rows_flat hp2, by rw [eqv_no (rows_pl hp) (rows_pl hp2) (fun e => ne (D.tup.inj e))]; exact k⟩⟩
theorem eqO_other (h : TabAt C μ p rs) (hp : ∀ r ∈ rs, RowP r) (ht : tyG μ y = some t) (hm : t ∈ TS C) (io : isO C μ y = some false) (k : Q (.bl (g false)) μ) : aEqO C (TS C) (ctEq C) g (.ptr p) y μ Q :=
  eqO_gen h ⟨t, ht, hm⟩ ⟨p, rs, _, rfl, h, rows_flat hp, .inr ⟨io, k⟩⟩
end
section
variable {P : Program} {w : World} {K : PySem.W.Frag} {mg : Str → Option Value} {base : Heap} {C fI fO fR fN fH fG fE : Addr}
def ctMade (C : Addr) : Ct := fun ds μ Q => ∃ rs, ds = [.tuz (rs.map rowD)] ∧ RowsOk rs ∧ 1 ≤ rs.length ∧ rs.length ≤ 3 ∧ ∀ x μ', μ x = none → Mle μ μ' → TabAt C μ' x rs → Q (.ptr x) μ'
def N_law_made : List Str := ["_law_plan_here"]
abbrev s_law_made : Stmt := top 60
theorem sc_law_made : FnScope N_law_made ["_law_plan_here"] (defScope s_law_made) := ⟨rfl, rfl, rfl, by decide +kernel, rfl, by decide +kernel, by decide +kernel⟩
theorem ok_law_made {f : Addr} {fd : FuncData} (F : Fun K "_law_made" "_law_made" s_law_made f fd) (T : Tx K mg) (M : TabM P w K mg base C fI fO fR fN fH fG fE) : FnOk P w K mg base CX0 8 f fd ["_law_plan_here"] (spOf (ctMade C)) := by
  refine okD F sc_law_made (fun ds μ Q h => ?_) (fun cdv A outer s H E hr => ⟨_, (qss_cons (qs_if (qt_cmpR oq_eq (qe_callB cq_len (by rfl) T.b_len (by decide +kernel) (qa_cons (qv 0) qa_nil)) qe_int (nomark _))
    (qss_one (qs_ret (qe_make M.mka M.fi (hr.mono (by decide)) rfl M.g (qa_cons (qe_ix iq_tup (qv 0) qe_int (fun _ _ => rfl)) qa_nil))))
    qss_nil)
  (qss_one (qs_ret (qe_ifExp (qt_cmpR oq_eq (qe_callB cq_len (by rfl) T.b_len (by decide +kernel) (qa_cons (qv 0) qa_nil)) qe_int (nomark _)) (qe_make M.mka M.fi (hr.mono (by decide)) rfl M.g (qa_cons (qe_ix iq_tup (qv 0) qe_int (fun _ _ => rfl)) (qa_cons (qe_ix iq_tup (qv 0) qe_int (fun _ _ => rfl)) qa_nil)))
    (qe_make M.mka M.fi (hr.mono (by decide)) rfl M.g (qa_cons (qe_ix iq_tup (qv 0) qe_int (fun _ _ => rfl)) (qa_cons (qe_ix iq_tup (qv 0) qe_int (fun _ _ => rfl)) (qa_cons (qe_ix iq_tup (qv 0) qe_int (fun _ _ => rfl)) qa_nil)))))))), ?_⟩)
  · obtain ⟨rs, rfl, _⟩ := h
    rfl
  rintro ds μ Q ⟨rs, rfl, ok, h1, h3, k⟩
  show (_ : AS) (EndA Q) [some (.tuz (rs.map rowD))] μ
  have fin : Made C (ctInit C) (rs.map rowD) μ (fun d μ' => ∃ μ1, Mle μ1 μ' ∧ Q d μ1) := made_tab ok fun x μ' a b c => ⟨_, Mle.refl _, k x μ' a b c⟩
  match rs, h1, h3, fin with
  | [a], _, _, fin =>
    have i0 : atI [rowD a] 0 = some (rowD a) := rfl
    simp only [aSeq, aIf, aRet, aRetN, aDrop, aAsg, aNext, aPar, agName, agTup, agCons, agNil, agSub, rSetA, aTest, aOp, aUn, aV, aC, aI, aI0, aU, aEq, aNe, aCons, aNil, aTup, aLst, aCB, aIfE, aNotV, aNotT, aAndV, aOrV, aAndT, aOrT, aChain, aIxL, aIxT, aIxS, aSl, aPart, aNoPart, aSlL, aSlT, aSlS, aCat, aCatT, aAddS, aDGet, aDIn, aDGet2, asDPut, aDNewK, aDNewT, aCall, aBM, aAppend, aPopAt, aLenS, aLenStr, aListOf, aTupleOf, aInt1, aMin2, aIsi, aIsN, aNotN, aCont, aBreak, aNever, aDisp, aPairs, kvs?, mergeD, EndA, D.eq2, D.isNon, D.key, D.items, ptrList, listM, seqAt, Cell.items, dGetM, dPutM, isDict, tyOf, kitD, updM_same, updM_upd, List.set_cons_zero, List.set_cons_succ, List.getElem?_cons_zero, List.getElem?_cons_succ, List.length_cons, List.length_nil, Option.map_some, Option.bind_some, Option.isSome_some, Option.isSome_none, Option.getD_some, Option.getD_none, List.foldl_cons, List.foldl_nil, decide_eq_true_eq, if_true, if_false, Bool.not_true, Bool.not_false, Bool.false_eq_true, true_and, and_true, Nat.reduceLT, Int.reduceLT, Int.reduceLE, ↓reduceIte, List.map_cons, List.map_nil, aMake, i0]
    exact fin
  | [a, b], _, _, fin =>
    have i0 : atI [rowD a, rowD b] 0 = some (rowD a) := rfl
    have i1 : atI [rowD a, rowD b] 1 = some (rowD b) := rfl
    simp only [aSeq, aIf, aRet, aRetN, aDrop, aAsg, aNext, aPar, agName, agTup, agCons, agNil, agSub, rSetA, aTest, aOp, aUn, aV, aC, aI, aI0, aU, aEq, aNe, aCons, aNil, aTup, aLst, aCB, aIfE, aNotV, aNotT, aAndV, aOrV, aAndT, aOrT, aChain, aIxL, aIxT, aIxS, aSl, aPart, aNoPart, aSlL, aSlT, aSlS, aCat, aCatT, aAddS, aDGet, aDIn, aDGet2, asDPut, aDNewK, aDNewT, aCall, aBM, aAppend, aPopAt, aLenS, aLenStr, aListOf, aTupleOf, aInt1, aMin2, aIsi, aIsN, aNotN, aCont, aBreak, aNever, aDisp, aPairs, kvs?, mergeD, EndA, D.eq2, D.isNon, D.key, D.items, ptrList, listM, seqAt, Cell.items, dGetM, dPutM, isDict, tyOf, kitD, updM_same, updM_upd, List.set_cons_zero, List.set_cons_succ, List.getElem?_cons_zero, List.getElem?_cons_succ, List.length_cons, List.length_nil, Option.map_some, Option.bind_some, Option.isSome_some, Option.isSome_none, Option.getD_some, Option.getD_none, List.foldl_cons, List.foldl_nil, decide_eq_true_eq, if_true, if_false, Bool.not_true, Bool.not_false, Bool.false_eq_true, true_and, and_true, Nat.reduceLT, Int.reduceLT, Int.reduceLE, ↓reduceIte, List.map_cons, List.map_nil, aMake, i0, i1]
    exact fin
  | [a, b, c], _, _, fin =>
    have i0 : atI [rowD a, rowD b, rowD c] 0 = some (rowD a) := rfl
    have i1 : atI [rowD a, rowD b, rowD c] 1 = some (rowD b) := rfl
    have i2 : atI [rowD a, rowD b, rowD c] 2 = some (rowD c) := rfl
    simp only [aSeq, aIf, aRet, aRetN, aDrop, aAsg, aNext, aPar, agName, agTup, agCons, agNil, agSub, rSetA, aTest, aOp, aUn, aV, aC, aI, aI0, aU, aEq, aNe, aCons, aNil, aTup, aLst, aCB, aIfE, aNotV, aNotT, aAndV, aOrV, aAndT, aOrT, aChain, aIxL, aIxT, aIxS, aSl, aPart, aNoPart, aSlL, aSlT, aSlS, aCat, aCatT, aAddS, aDGet, aDIn, aDGet2, asDPut, aDNewK, aDNewT, aCall, aBM, aAppend, aPopAt, aLenS, aLenStr, aListOf, aTupleOf, aInt1, aMin2, aIsi, aIsN, aNotN, aCont, aBreak, aNever, aDisp, aPairs, kvs?, mergeD, EndA, D.eq2, D.isNon, D.key, D.items, ptrList, listM, seqAt, Cell.items, dGetM, dPutM, isDict, tyOf, kitD, updM_same, updM_upd, List.set_cons_zero, List.set_cons_succ, List.getElem?_cons_zero, List.getElem?_cons_succ, List.length_cons, List.length_nil, Option.map_some, Option.bind_some, Option.isSome_some, Option.isSome_none, Option.getD_some, Option.getD_none, List.foldl_cons, List.foldl_nil, decide_eq_true_eq, if_true, if_false, Bool.not_true, Bool.not_false, Bool.false_eq_true, true_and, and_true, Nat.reduceLT, Int.reduceLT, Int.reduceLE, ↓reduceIte, List.map_cons, List.map_nil, aMake, i0, i1, i2]
    exact fin
theorem turn_k {z z' : Str} {μ : Mu} {Q : DK} (k : ∀ d', FldOk d' → fw d' = fw (.str z) → d' ≠ .str z → Q d' μ) (h1 : z' ∈ FIELDS) (h2 : fw (.str z') = fw (.str z)) (h3 : z' ≠ z) : Q (.str z') μ := k _ (.inr ⟨z', h1, rfl⟩) h2 (fun e => h3 (D.str.inj e))
def ctTurned : Ct := fun ds μ Q => ∃ d, ds = [d] ∧ FldOk d ∧ ∀ d', FldOk d' → fw d' = fw d → d' ≠ d → Q d' μ
def N_law_turned : List Str := ["_law_slot_here"]
abbrev s_law_turned : Stmt := top 61
theorem sc_law_turned : FnScope N_law_turned ["_law_slot_here"] (defScope s_law_turned) := ⟨rfl, rfl, rfl, by decide +kernel, rfl, by decide +kernel, by decide +kernel⟩
theorem ok_law_turned {f : Addr} {fd : FuncData} (F : Fun K "_law_turned" "_law_turned" s_law_turned f fd) (T : Tx K mg) : FnOk P w K mg base CX0 1 f fd ["_law_slot_here"] (spOf ctTurned) := by
  refine okD F sc_law_turned (fun ds μ Q h => ?_) (fun cdv A outer s H E hr => ?_)
  · obtain ⟨d, rfl, _⟩ := h
    rfl
  have hu : (A.deeper (envOfC "_law_turned" (defScope s_law_turned) s.heap.objs.size f cdv)).units + 1 < cLine := by have := hr.units; omega
  refine ⟨_, (qss_cons (qs_if (qt_val (qe_callB cq_isi (by rfl) T.b_isinstance (by decide +kernel) (qa_cons (qv 0) (qa_cons (qe_bT (T := "tuple") (by rfl) T.b_tuple (by decide +kernel)) qa_nil))))
    (qss_one (qs_ret (qe_tup (qa_cons qe_str (qa_cons (qe_ifExp (qt_cmpR oq_ne (qe_ix iq_tup (qv 0) qe_int (fun _ _ => rfl)) qe_int (nomark _)) qe_int qe_int) qa_nil)))))
    qss_nil)
  (qss_one (qs_ret (qe_op oq_add_str (qe_dget hu (qe_disp (QPs.cons qe_str qe_str (QPs.cons qe_str qe_str (QPs.cons qe_str qe_str QPs.nil))) rfl rfl (List.cons_ne_nil _ _) (by decide)) (qe_ix iq_str (qv 0) qe_int (fun _ _ => rfl)) (fun _ _ => rfl)) (qe_ix iq_str (qv 0) qe_int (fun _ _ => rfl)))))), ?_⟩
  rintro ds μ Q ⟨d, rfl, hd, k⟩
  show (_ : AS) (EndA Q) [some d] μ
  rcases hd with ⟨v, rfl, h1, h2⟩ | ⟨z, hz, rfl⟩
  · have i1 : atI [D.str "n", D.int v] 1 = some (D.int v) := rfl
    simp only [aSeq, aIf, aRet, aRetN, aDrop, aAsg, aNext, aPar, agName, agTup, agCons, agNil, agSub, rSetA, aTest, aOp, aUn, aV, aC, aI, aI0, aU, aEq, aNe, aCons, aNil, aTup, aLst, aCB, aIfE, aNotV, aNotT, aAndV, aOrV, aAndT, aOrT, aChain, aIxL, aIxT, aIxS, aSl, aPart, aNoPart, aSlL, aSlT, aSlS, aCat, aCatT, aAddS, aDGet, aDIn, aDGet2, asDPut, aDNewK, aDNewT, aCall, aBM, aAppend, aPopAt, aLenS, aLenStr, aListOf, aTupleOf, aInt1, aMin2, aIsi, aIsN, aNotN, aCont, aBreak, aNever, aDisp, aPairs, kvs?, mergeD, EndA, D.eq2, D.isNon, D.key, D.items, ptrList, listM, seqAt, Cell.items, dGetM, dPutM, isDict, tyOf, kitD, updM_same, updM_upd, List.set_cons_zero, List.set_cons_succ, List.getElem?_cons_zero, List.getElem?_cons_succ, List.length_cons, List.length_nil, Option.map_some, Option.bind_some, Option.isSome_some, Option.isSome_none, Option.getD_some, Option.getD_none, List.foldl_cons, List.foldl_nil, decide_eq_true_eq, if_true, if_false, Bool.not_true, Bool.not_false, Bool.false_eq_true, true_and, and_true, Nat.reduceLT, Int.reduceLT, Int.reduceLE, ↓reduceIte, i1]
    have ne : ∀ u : Int, u ≠ v → D.tup [D.str "n", D.int u] ≠ D.tup [D.str "n", D.int v] := fun u hu e => hu (D.int.inj (List.cons.inj (List.cons.inj (D.tup.inj e)).2).1)
    by_cases e : v = 7
    · simp only [aSeq, aIf, aRet, aRetN, aDrop, aAsg, aNext, aPar, agName, agTup, agCons, agNil, agSub, rSetA, aTest, aOp, aUn, aV, aC, aI, aI0, aU, aEq, aNe, aCons, aNil, aTup, aLst, aCB, aIfE, aNotV, aNotT, aAndV, aOrV, aAndT, aOrT, aChain, aIxL, aIxT, aIxS, aSl, aPart, aNoPart, aSlL, aSlT, aSlS, aCat, aCatT, aAddS, aDGet, aDIn, aDGet2, asDPut, aDNewK, aDNewT, aCall, aBM, aAppend, aPopAt, aLenS, aLenStr, aListOf, aTupleOf, aInt1, aMin2, aIsi, aIsN, aNotN, aCont, aBreak, aNever, aDisp, aPairs, kvs?, mergeD, EndA, D.eq2, D.isNon, D.key, D.items, ptrList, listM, seqAt, Cell.items, dGetM, dPutM, isDict, tyOf, kitD, updM_same, updM_upd, List.set_cons_zero, List.set_cons_succ, List.getElem?_cons_zero, List.getElem?_cons_succ, List.length_cons, List.length_nil, Option.map_some, Option.bind_some, Option.isSome_some, Option.isSome_none, Option.getD_some, Option.getD_none, List.foldl_cons, List.foldl_nil, decide_eq_true_eq, if_true, if_false, Bool.not_true, Bool.not_false, Bool.false_eq_true, true_and, and_true, Nat.reduceLT, Int.reduceLT, Int.reduceLE, ↓reduceIte, e, eq_self, decide_true]
      exact ⟨by decide, _, Mle.refl _, k _ (.inl ⟨8, rfl, by decide, by decide⟩) rfl (ne 8 (by omega))⟩
    · simp only [aSeq, aIf, aRet, aRetN, aDrop, aAsg, aNext, aPar, agName, agTup, agCons, agNil, agSub, rSetA, aTest, aOp, aUn, aV, aC, aI, aI0, aU, aEq, aNe, aCons, aNil, aTup, aLst, aCB, aIfE, aNotV, aNotT, aAndV, aOrV, aAndT, aOrT, aChain, aIxL, aIxT, aIxS, aSl, aPart, aNoPart, aSlL, aSlT, aSlS, aCat, aCatT, aAddS, aDGet, aDIn, aDGet2, asDPut, aDNewK, aDNewT, aCall, aBM, aAppend, aPopAt, aLenS, aLenStr, aListOf, aTupleOf, aInt1, aMin2, aIsi, aIsN, aNotN, aCont, aBreak, aNever, aDisp, aPairs, kvs?, mergeD, EndA, D.eq2, D.isNon, D.key, D.items, ptrList, listM, seqAt, Cell.items, dGetM, dPutM, isDict, tyOf, kitD, updM_same, updM_upd, List.set_cons_zero, List.set_cons_succ, List.getElem?_cons_zero, List.getElem?_cons_succ, List.length_cons, List.length_nil, Option.map_some, Option.bind_some, Option.isSome_some, Option.isSome_none, Option.getD_some, Option.getD_none, List.foldl_cons, List.foldl_nil, decide_eq_true_eq, if_true, if_false, Bool.not_true, Bool.not_false, Bool.false_eq_true, true_and, and_true, Nat.reduceLT, Int.reduceLT, Int.reduceLE, ↓reduceIte, e, decide_false]
      exact ⟨by decide, _, Mle.refl _, k _ (.inl ⟨7, rfl, by decide, by decide⟩) rfl (ne 7 (by omega))⟩
  · unfold FIELDS at hz
    simp only [List.mem_cons, List.not_mem_nil, or_false] at hz
    rcases hz with rfl | rfl | rfl | rfl | rfl | rfl | rfl | rfl | rfl
    · have i0 : atI (Str.ofString "u1").cps.toList 0 = some 117 := rfl
      have i1 : atI (Str.ofString "u1").cps.toList 1 = some 49 := rfl
      simp only [aSeq, aIf, aRet, aRetN, aDrop, aAsg, aNext, aPar, agName, agTup, agCons, agNil, agSub, rSetA, aTest, aOp, aUn, aV, aC, aI, aI0, aU, aEq, aNe, aCons, aNil, aTup, aLst, aCB, aIfE, aNotV, aNotT, aAndV, aOrV, aAndT, aOrT, aChain, aIxL, aIxT, aIxS, aSl, aPart, aNoPart, aSlL, aSlT, aSlS, aCat, aCatT, aAddS, aDGet, aDIn, aDGet2, asDPut, aDNewK, aDNewT, aCall, aBM, aAppend, aPopAt, aLenS, aLenStr, aListOf, aTupleOf, aInt1, aMin2, aIsi, aIsN, aNotN, aCont, aBreak, aNever, aDisp, aPairs, kvs?, mergeD, EndA, D.eq2, D.isNon, D.key, D.items, ptrList, listM, seqAt, Cell.items, dGetM, dPutM, isDict, tyOf, kitD, updM_same, updM_upd, List.set_cons_zero, List.set_cons_succ, List.getElem?_cons_zero, List.getElem?_cons_succ, List.length_cons, List.length_nil, Option.map_some, Option.bind_some, Option.isSome_some, Option.isSome_none, Option.getD_some, Option.getD_none, List.foldl_cons, List.foldl_nil, decide_eq_true_eq, if_true, if_false, Bool.not_true, Bool.not_false, Bool.false_eq_true, true_and, and_true, Nat.reduceLT, Int.reduceLT, Int.reduceLE, ↓reduceIte, i0, i1]
      exact fun p hp => ⟨by decide, by decide +kernel, by decide +kernel, by decide +kernel, _, Mle.new hp, turn_k k (by decide) (by decide) (by decide)⟩
    · have i0 : atI (Str.ofString "u2").cps.toList 0 = some 117 := rfl
      have i1 : atI (Str.ofString "u2").cps.toList 1 = some 50 := rfl
      simp only [aSeq, aIf, aRet, aRetN, aDrop, aAsg, aNext, aPar, agName, agTup, agCons, agNil, agSub, rSetA, aTest, aOp, aUn, aV, aC, aI, aI0, aU, aEq, aNe, aCons, aNil, aTup, aLst, aCB, aIfE, aNotV, aNotT, aAndV, aOrV, aAndT, aOrT, aChain, aIxL, aIxT, aIxS, aSl, aPart, aNoPart, aSlL, aSlT, aSlS, aCat, aCatT, aAddS, aDGet, aDIn, aDGet2, asDPut, aDNewK, aDNewT, aCall, aBM, aAppend, aPopAt, aLenS, aLenStr, aListOf, aTupleOf, aInt1, aMin2, aIsi, aIsN, aNotN, aCont, aBreak, aNever, aDisp, aPairs, kvs?, mergeD, EndA, D.eq2, D.isNon, D.key, D.items, ptrList, listM, seqAt, Cell.items, dGetM, dPutM, isDict, tyOf, kitD, updM_same, updM_upd, List.set_cons_zero, List.set_cons_succ, List.getElem?_cons_zero, List.getElem?_cons_succ, List.length_cons, List.length_nil, Option.map_some, Option.bind_some, Option.isSome_some, Option.isSome_none, Option.getD_some, Option.getD_none, List.foldl_cons, List.foldl_nil, decide_eq_true_eq, if_true, if_false, Bool.not_true, Bool.not_false, Bool.false_eq_true, true_and, and_true, Nat.reduceLT, Int.reduceLT, Int.reduceLE, ↓reduceIte, i0, i1]
      exact fun p hp => ⟨by decide, by decide +kernel, by decide +kernel, by decide +kernel, _, Mle.new hp, turn_k k (by decide) (by decide) (by decide)⟩
    · have i0 : atI (Str.ofString "u4").cps.toList 0 = some 117 := rfl
      have i1 : atI (Str.ofString "u4").cps.toList 1 = some 52 := rfl
      simp only [aSeq, aIf, aRet, aRetN, aDrop, aAsg, aNext, aPar, agName, agTup, agCons, agNil, agSub, rSetA, aTest, aOp, aUn, aV, aC, aI, aI0, aU, aEq, aNe, aCons, aNil, aTup, aLst, aCB, aIfE, aNotV, aNotT, aAndV, aOrV, aAndT, aOrT, aChain, aIxL, aIxT, aIxS, aSl, aPart, aNoPart, aSlL, aSlT, aSlS, aCat, aCatT, aAddS, aDGet, aDIn, aDGet2, asDPut, aDNewK, aDNewT, aCall, aBM, aAppend, aPopAt, aLenS, aLenStr, aListOf, aTupleOf, aInt1, aMin2, aIsi, aIsN, aNotN, aCont, aBreak, aNever, aDisp, aPairs, kvs?, mergeD, EndA, D.eq2, D.isNon, D.key, D.items, ptrList, listM, seqAt, Cell.items, dGetM, dPutM, isDict, tyOf, kitD, updM_same, updM_upd, List.set_cons_zero, List.set_cons_succ, List.getElem?_cons_zero, List.getElem?_cons_succ, List.length_cons, List.length_nil, Option.map_some, Option.bind_some, Option.isSome_some, Option.isSome_none, Option.getD_some, Option.getD_none, List.foldl_cons, List.foldl_nil, decide_eq_true_eq, if_true, if_false, Bool.not_true, Bool.not_false, Bool.false_eq_true, true_and, and_true, Nat.reduceLT, Int.reduceLT, Int.reduceLE, ↓reduceIte, i0, i1]
      exact fun p hp => ⟨by decide, by decide +kernel, by decide +kernel, by decide +kernel, _, Mle.new hp, turn_k k (by decide) (by decide) (by decide)⟩
    · have i0 : atI (Str.ofString "s1").cps.toList 0 = some 115 := rfl
      have i1 : atI (Str.ofString "s1").cps.toList 1 = some 49 := rfl
      simp only [aSeq, aIf, aRet, aRetN, aDrop, aAsg, aNext, aPar, agName, agTup, agCons, agNil, agSub, rSetA, aTest, aOp, aUn, aV, aC, aI, aI0, aU, aEq, aNe, aCons, aNil, aTup, aLst, aCB, aIfE, aNotV, aNotT, aAndV, aOrV, aAndT, aOrT, aChain, aIxL, aIxT, aIxS, aSl, aPart, aNoPart, aSlL, aSlT, aSlS, aCat, aCatT, aAddS, aDGet, aDIn, aDGet2, asDPut, aDNewK, aDNewT, aCall, aBM, aAppend, aPopAt, aLenS, aLenStr, aListOf, aTupleOf, aInt1, aMin2, aIsi, aIsN, aNotN, aCont, aBreak, aNever, aDisp, aPairs, kvs?, mergeD, EndA, D.eq2, D.isNon, D.key, D.items, ptrList, listM, seqAt, Cell.items, dGetM, dPutM, isDict, tyOf, kitD, updM_same, updM_upd, List.set_cons_zero, List.set_cons_succ, List.getElem?_cons_zero, List.getElem?_cons_succ, List.length_cons, List.length_nil, Option.map_some, Option.bind_some, Option.isSome_some, Option.isSome_none, Option.getD_some, Option.getD_none, List.foldl_cons, List.foldl_nil, decide_eq_true_eq, if_true, if_false, Bool.not_true, Bool.not_false, Bool.false_eq_true, true_and, and_true, Nat.reduceLT, Int.reduceLT, Int.reduceLE, ↓reduceIte, i0, i1]
      exact fun p hp => ⟨by decide, by decide +kernel, by decide +kernel, by decide +kernel, _, Mle.new hp, turn_k k (by decide) (by decide) (by decide)⟩
    · have i0 : atI (Str.ofString "s2").cps.toList 0 = some 115 := rfl
      have i1 : atI (Str.ofString "s2").cps.toList 1 = some 50 := rfl
      simp only [aSeq, aIf, aRet, aRetN, aDrop, aAsg, aNext, aPar, agName, agTup, agCons, agNil, agSub, rSetA, aTest, aOp, aUn, aV, aC, aI, aI0, aU, aEq, aNe, aCons, aNil, aTup, aLst, aCB, aIfE, aNotV, aNotT, aAndV, aOrV, aAndT, aOrT, aChain, aIxL, aIxT, aIxS, aSl, aPart, aNoPart, aSlL, aSlT, aSlS, aCat, aCatT, aAddS, aDGet, aDIn, aDGet2, asDPut, aDNewK, aDNewT, aCall, aBM, aAppend, aPopAt, aLenS, aLenStr, aListOf, aTupleOf, aInt1, aMin2, aIsi, aIsN, aNotN, aCont, aBreak, aNever, aDisp, aPairs, kvs?, mergeD, EndA, D.eq2, D.isNon, D.key, D.items, ptrList, listM, seqAt, Cell.items, dGetM, dPutM, isDict, tyOf, kitD, updM_same, updM_upd, List.set_cons_zero, List.set_cons_succ, List.getElem?_cons_zero, List.getElem?_cons_succ, List.length_cons, List.length_nil, Option.map_some, Option.bind_some, Option.isSome_some, Option.isSome_none, Option.getD_some, Option.getD_none, List.foldl_cons, List.foldl_nil, decide_eq_true_eq, if_true, if_false, Bool.not_true, Bool.not_false, Bool.false_eq_true, true_and, and_true, Nat.reduceLT, Int.reduceLT, Int.reduceLE, ↓reduceIte, i0, i1]
      exact fun p hp => ⟨by decide, by decide +kernel, by decide +kernel, by decide +kernel, _, Mle.new hp, turn_k k (by decide) (by decide) (by decide)⟩
    · have i0 : atI (Str.ofString "s4").cps.toList 0 = some 115 := rfl
      have i1 : atI (Str.ofString "s4").cps.toList 1 = some 52 := rfl
      simp only [aSeq, aIf, aRet, aRetN, aDrop, aAsg, aNext, aPar, agName, agTup, agCons, agNil, agSub, rSetA, aTest, aOp, aUn, aV, aC, aI, aI0, aU, aEq, aNe, aCons, aNil, aTup, aLst, aCB, aIfE, aNotV, aNotT, aAndV, aOrV, aAndT, aOrT, aChain, aIxL, aIxT, aIxS, aSl, aPart, aNoPart, aSlL, aSlT, aSlS, aCat, aCatT, aAddS, aDGet, aDIn, aDGet2, asDPut, aDNewK, aDNewT, aCall, aBM, aAppend, aPopAt, aLenS, aLenStr, aListOf, aTupleOf, aInt1, aMin2, aIsi, aIsN, aNotN, aCont, aBreak, aNever, aDisp, aPairs, kvs?, mergeD, EndA, D.eq2, D.isNon, D.key, D.items, ptrList, listM, seqAt, Cell.items, dGetM, dPutM, isDict, tyOf, kitD, updM_same, updM_upd, List.set_cons_zero, List.set_cons_succ, List.getElem?_cons_zero, List.getElem?_cons_succ, List.length_cons, List.length_nil, Option.map_some, Option.bind_some, Option.isSome_some, Option.isSome_none, Option.getD_some, Option.getD_none, List.foldl_cons, List.foldl_nil, decide_eq_true_eq, if_true, if_false, Bool.not_true, Bool.not_false, Bool.false_eq_true, true_and, and_true, Nat.reduceLT, Int.reduceLT, Int.reduceLE, ↓reduceIte, i0, i1]
      exact fun p hp => ⟨by decide, by decide +kernel, by decide +kernel, by decide +kernel, _, Mle.new hp, turn_k k (by decide) (by decide) (by decide)⟩
    · have i0 : atI (Str.ofString "r1").cps.toList 0 = some 114 := rfl
      have i1 : atI (Str.ofString "r1").cps.toList 1 = some 49 := rfl
      simp only [aSeq, aIf, aRet, aRetN, aDrop, aAsg, aNext, aPar, agName, agTup, agCons, agNil, agSub, rSetA, aTest, aOp, aUn, aV, aC, aI, aI0, aU, aEq, aNe, aCons, aNil, aTup, aLst, aCB, aIfE, aNotV, aNotT, aAndV, aOrV, aAndT, aOrT, aChain, aIxL, aIxT, aIxS, aSl, aPart, aNoPart, aSlL, aSlT, aSlS, aCat, aCatT, aAddS, aDGet, aDIn, aDGet2, asDPut, aDNewK, aDNewT, aCall, aBM, aAppend, aPopAt, aLenS, aLenStr, aListOf, aTupleOf, aInt1, aMin2, aIsi, aIsN, aNotN, aCont, aBreak, aNever, aDisp, aPairs, kvs?, mergeD, EndA, D.eq2, D.isNon, D.key, D.items, ptrList, listM, seqAt, Cell.items, dGetM, dPutM, isDict, tyOf, kitD, updM_same, updM_upd, List.set_cons_zero, List.set_cons_succ, List.getElem?_cons_zero, List.getElem?_cons_succ, List.length_cons, List.length_nil, Option.map_some, Option.bind_some, Option.isSome_some, Option.isSome_none, Option.getD_some, Option.getD_none, List.foldl_cons, List.foldl_nil, decide_eq_true_eq, if_true, if_false, Bool.not_true, Bool.not_false, Bool.false_eq_true, true_and, and_true, Nat.reduceLT, Int.reduceLT, Int.reduceLE, ↓reduceIte, i0, i1]
      exact fun p hp => ⟨by decide, by decide +kernel, by decide +kernel, by decide +kernel, _, Mle.new hp, turn_k k (by decide) (by decide) (by decide)⟩
    · have i0 : atI (Str.ofString "r2").cps.toList 0 = some 114 := rfl
      have i1 : atI (Str.ofString "r2").cps.toList 1 = some 50 := rfl
      simp only [aSeq, aIf, aRet, aRetN, aDrop, aAsg, aNext, aPar, agName, agTup, agCons, agNil, agSub, rSetA, aTest, aOp, aUn, aV, aC, aI, aI0, aU, aEq, aNe, aCons, aNil, aTup, aLst, aCB, aIfE, aNotV, aNotT, aAndV, aOrV, aAndT, aOrT, aChain, aIxL, aIxT, aIxS, aSl, aPart, aNoPart, aSlL, aSlT, aSlS, aCat, aCatT, aAddS, aDGet, aDIn, aDGet2, asDPut, aDNewK, aDNewT, aCall, aBM, aAppend, aPopAt, aLenS, aLenStr, aListOf, aTupleOf, aInt1, aMin2, aIsi, aIsN, aNotN, aCont, aBreak, aNever, aDisp, aPairs, kvs?, mergeD, EndA, D.eq2, D.isNon, D.key, D.items, ptrList, listM, seqAt, Cell.items, dGetM, dPutM, isDict, tyOf, kitD, updM_same, updM_upd, List.set_cons_zero, List.set_cons_succ, List.getElem?_cons_zero, List.getElem?_cons_succ, List.length_cons, List.length_nil, Option.map_some, Option.bind_some, Option.isSome_some, Option.isSome_none, Option.getD_some, Option.getD_none, List.foldl_cons, List.foldl_nil, decide_eq_true_eq, if_true, if_false, Bool.not_true, Bool.not_false, Bool.false_eq_true, true_and, and_true, Nat.reduceLT, Int.reduceLT, Int.reduceLE, ↓reduceIte, i0, i1]
      exact fun p hp => ⟨by decide, by decide +kernel, by decide +kernel, by decide +kernel, _, Mle.new hp, turn_k k (by decide) (by decide) (by decide)⟩
    · have i0 : atI (Str.ofString "r4").cps.toList 0 = some 114 := rfl
      have i1 : atI (Str.ofString "r4").cps.toList 1 = some 52 := rfl
      simp only [aSeq, aIf, aRet, aRetN, aDrop, aAsg, aNext, aPar, agName, agTup, agCons, agNil, agSub, rSetA, aTest, aOp, aUn, aV, aC, aI, aI0, aU, aEq, aNe, aCons, aNil, aTup, aLst, aCB, aIfE, aNotV, aNotT, aAndV, aOrV, aAndT, aOrT, aChain, aIxL, aIxT, aIxS, aSl, aPart, aNoPart, aSlL, aSlT, aSlS, aCat, aCatT, aAddS, aDGet, aDIn, aDGet2, asDPut, aDNewK, aDNewT, aCall, aBM, aAppend, aPopAt, aLenS, aLenStr, aListOf, aTupleOf, aInt1, aMin2, aIsi, aIsN, aNotN, aCont, aBreak, aNever, aDisp, aPairs, kvs?, mergeD, EndA, D.eq2, D.isNon, D.key, D.items, ptrList, listM, seqAt, Cell.items, dGetM, dPutM, isDict, tyOf, kitD, updM_same, updM_upd, List.set_cons_zero, List.set_cons_succ, List.getElem?_cons_zero, List.getElem?_cons_succ, List.length_cons, List.length_nil, Option.map_some, Option.bind_some, Option.isSome_some, Option.isSome_none, Option.getD_some, Option.getD_none, List.foldl_cons, List.foldl_nil, decide_eq_true_eq, if_true, if_false, Bool.not_true, Bool.not_false, Bool.false_eq_true, true_and, and_true, Nat.reduceLT, Int.reduceLT, Int.reduceLE, ↓reduceIte, i0, i1]
      exact fun p hp => ⟨by decide, by decide +kernel, by decide +kernel, by decide +kernel, _, Mle.new hp, turn_k k (by decide) (by decide) (by decide)⟩
end
end M53

set_option maxHeartbeats 4000000
namespace M53
open PySem PySem.Spec PyProof.Rows L2 Evl Gd DL StX
/-! ### tables unlike -/
theorem codes_cons (a : Row) (tl : List Row) : codesOf (a :: tl) = a.2.map Form.code ++ codesOf tl := by
  rw [show a :: tl = [a] ++ tl from rfl, codes_app, codes_one]
theorem RowsOk.tail {a : Row} {tl : List Row} (h : RowsOk (a :: tl)) : RowsOk tl :=
  ⟨by have := h.few; rw [List.length_cons] at this; omega, fun r hr => h.nm r (List.mem_cons_of_mem _ hr), (List.nodup_cons.mp (by simpa using h.nd : (a.1 :: tl.map Prod.fst).Nodup)).2, fun r hr => h.forms r (List.mem_cons_of_mem _ hr), h.codes.sub (by rw [codes_cons]; exact List.sublist_append_right _ _)⟩
theorem RowsOk.rev {rs : List Row} (h : RowsOk rs) : RowsOk rs.reverse :=
  ⟨by rw [List.length_reverse]; exact h.few, fun r hr => h.nm r (List.mem_reverse.mp hr), by rw [List.map_reverse]; exact (List.reverse_perm _).nodup_iff.mpr h.nd, fun r hr => h.forms r (List.mem_reverse.mp hr), h.codes.perm (by unfold codesOf; exact (List.reverse_perm rs).flatMap_right _)⟩
theorem RowsOk.named {a : Row} {tl : List Row} {n : Str} (h : RowsOk (a :: tl)) (hn : n ∈ NAMES) (hm : n ∉ tl.map Prod.fst) : RowsOk ((n, a.2) :: tl) := by
  refine ⟨h.few, fun r hr => ?_, ?_, fun r hr => ?_, ?_⟩
  · rcases List.mem_cons.mp hr with rfl | hr
    · exact hn
    · exact h.nm r (List.mem_cons_of_mem _ hr)
  · exact List.nodup_cons.mpr ⟨hm, h.tail.nd⟩
  · rcases List.mem_cons.mp hr with rfl | hr
    · exact h.forms a (List.mem_cons_self ..)
    · exact h.forms r (List.mem_cons_of_mem _ hr)
  · have := h.codes
    rw [codes_cons] at this ⊢
    exact this
def ttl : D → Str
  | .tup (.str z :: _) => z
  | _ => "?"
theorem ttl_map (rs : List Row) : (rs.map rowD).map ttl = rs.map Prod.fst := by
  rw [List.map_map]
  rfl
theorem nodup_rev {l : List Str} (nd : l.Nodup) (h2 : 2 ≤ l.length) (h3 : l.length ≤ 3) : l ≠ l.reverse := fun e => by
  match l, h2, h3 with
  | [x, y], _, _ =>
    simp only [List.reverse_cons, List.reverse_nil, List.nil_append, List.cons_append, List.cons.injEq] at e
    exact (List.nodup_cons.mp nd).1 (by rw [e.1]; simp)
  | [x, y, z], _, _ =>
    simp only [List.reverse_cons, List.reverse_nil, List.nil_append, List.cons_append, List.cons.injEq] at e
    exact (List.nodup_cons.mp nd).1 (by rw [e.1]; simp)
theorem kvF_miss {rs : List Row} {z : Str} (h : z ∉ rs.map Prod.fst) : lookD (kvF rs) (.inr z) = none := look_none.mpr fun hm => by
  unfold kvF at hm
  rw [List.map_map] at hm
  obtain ⟨r, hr, e⟩ := List.mem_map.mp hm
  exact h (List.mem_map.mpr ⟨r, hr, Sum.inr.inj e⟩)
theorem pairs_rows : ∀ rs : List Row, pairs2 (rs.map rowD) = some (kvF rs)
  | [] => rfl
  | r :: rs => by
    show pairs2 (D.tup [.str r.1, .tup (r.2.map formD)] :: rs.map rowD) = _
    unfold pairs2
    rw [pairs_rows rs]
    rfl
theorem other_new : Str.ofString "other" ∉ TITLES := by decide +kernel
section
variable {P : Program} {w : World} {K : PySem.W.Frag} {mg : Str → Option Value} {base : Heap} {C fI fO fR fN fH fG fE : Addr}
theorem aLc_at {w : AI} {g : AG} {t : AT} {a : AE} {ws : List Nat} {ρ : Rho} {μ : Mu} {Q : DK} (h : w ρ μ (fun xs st μ1 => aLc (fun _ _ R => R xs st μ1) g t a ws ρ μ1 Q)) : aLc w g t a ws ρ μ Q := h
def ctUnlike (C : Addr) : Ct := fun ds μ Q => ∃ p pl, ds = [.ptr p, .tuz (pl.map rowD)] ∧ TabAt C μ p pl ∧ PlanOk pl ∧ 1 ≤ pl.length ∧ pl.length ≤ 3 ∧ Q (.bl true) μ
def N_law_unlike : List Str := ["_law_some", "_law_plan_here", "_law_less", "_law_back", "_law_title", "_law_shapes_here", "_law_far", "_law_value"]
abbrev s_law_unlike : Stmt := top 63
theorem sc_law_unlike : FnScope N_law_unlike ["_law_some", "_law_plan_here"] (defScope s_law_unlike) := ⟨rfl, rfl, rfl, by decide +kernel, rfl, by decide +kernel, by decide +kernel⟩
theorem ok_law_unlike {f : Addr} {fd : FuncData} (F : Fun K "_law_unlike" "_law_unlike" s_law_unlike f fd) (T : Tx K mg) (M : TabM P w K mg base C fI fO fR fN fH fG fE) : FnOk P w K mg base CX0 10 f fd ["_law_some", "_law_plan_here"] (spOf (ctUnlike C)) := by
  obtain ⟨_, ON, BN⟩ := M.lnF
  obtain ⟨_, OH, BH⟩ := M.hsF
  obtain ⟨_, OE, BE⟩ := M.eqF
  obtain ⟨_, CM⟩ := M.cm
  refine okD F sc_law_unlike (fun ds μ Q h => ?_) (fun cdv A outer s H E hr => ⟨_, (qss_cons (qs_par (i := 2) (j := 3) (by rfl) sc_law_unlike.nd rfl rfl (by decide) rfl rfl (qa_cons (qe_cmeth (qe_gR rfl M.g) M.cr CM M.of_ (hr.mono (by decide)) (qa_cons (qe_slice slq_tup (qv 1) (qo_some qe_int) qo_none) qa_nil)) (qa_cons (qe_cmeth (qe_gR rfl M.g) M.cr CM M.of_ (hr.mono (by decide)) (qa_cons (qe_revT (qv 1)) qa_nil)) qa_nil)) (by rfl))
  (qss_cons (qs_if (QW.pt (qw_or (qt_cmpR (oq_eqO M.eq OE (hr.mono (by decide)) BE) (qv 0) (qv 2) (nomark _)) (qw_or (qt_not (qt_cmpR (oq_neO M.eq OE (hr.mono (by decide)) BE) (qv 0) (qv 2) (nomark _))) (qw_or (qt_cmpR oq_ne (qe_cmpR (oq_eqO M.eq OE (hr.mono (by decide)) BE) (qv 0) (qv 3) (nomark _)) (qe_cmpR oq_eq (qe_callB cq_len (by rfl) T.b_len (by decide +kernel) (qa_cons (qv 1) qa_nil)) qe_int (nomark _)) (nomark _)) (qw_or1 (qt_cmpR oq_ne (qe_callB (cq_lenO M.ln.1 M.ln.2 ON (hr.mono (by decide)) BN) (by rfl) T.b_len (by decide +kernel) (qa_cons (qv 2) qa_nil)) (qe_op oq_sub (qe_callB cq_len (by rfl) T.b_len (by decide +kernel) (qa_cons (qv 1) qa_nil)) qe_int) (nomark _)))))))
    (qss_one (qs_ret qe_bl))
    qss_nil)
  (qss_cons (qs_asg (qe_ix iq_tup (qv 1) qe_int (fun _ _ => rfl)) (qg_tup rfl (qgs_cons (qg_name (i := 4) sc_law_unlike.nd rfl (Or.inl rfl)) (qgs_cons (qg_name (i := 5) sc_law_unlike.nd rfl (Or.inl rfl)) qgs_nil))))
  (qss_cons (qs_set (i := 6) sc_law_unlike.nd rfl (Or.inl rfl) (qe_cmeth (qe_gR rfl M.g) M.cr CM M.of_ (hr.mono (by decide)) (qa_cons (qe_op oq_catT (qe_tup (qa_cons (qe_tup (qa_cons qe_str (qa_cons (qv 5) qa_nil))) qa_nil)) (qe_slice slq_tup (qv 1) (qo_some qe_int) qo_none)) qa_nil)))
  (qss_cons (qs_if (QW.pt (qw_or (qt_cmpR (oq_eqO M.eq OE (hr.mono (by decide)) BE) (qv 0) (qv 6) (nomark _)) (qw_or (qt_not (qt_cmpR (oq_neO M.eq OE (hr.mono (by decide)) BE) (qv 6) (qv 0) (nomark _))) (qw_or (qt_cmpR (oq_inO M.hs.1 M.hs.2 OH (hr.mono (by decide)) BH) (qv 4) (qv 6) rfl) (qw_or1 (qt_cmpR (oq_inO M.hs.1 M.hs.2 OH (hr.mono (by decide)) BH) qe_str (qv 0) rfl))))))
    (qss_one (qs_ret qe_bl))
    qss_nil)
  (qss_one (qs_ret (qe_cmpR (oq_eqD hr.units) (qe_lc (own := [("_law_value", 7)]) rfl sc_law_unlike.nd (qi_tup (qe_tup (qa_cons (qv 1) (qa_cons qe_non (qa_cons qe_int (qa_cons (qv 4) (qa_cons qe_dnewK (qa_cons (qe_callTy (cq_dictT rfl) (by rfl) T.b_dict (by decide +kernel) (qa_cons (qv 1) qa_nil)) qa_nil)))))))) (blkOk_by (N := N_law_unlike) (sc := defScope s_law_unlike) (by decide +kernel)) (fun _ _ _ _ _ => qg_name (i := 7) sc_law_unlike.nd rfl (Or.inl rfl)) (fun _ _ _ _ _ => qts_one (QW.pt (qw_or (qt_cmpR (oq_eqO M.eq OE (hr.mono (by decide)) BE) (qv 0) (qv 7) (nomark _)) (qw_or1 (qt_not (qt_cmpR (oq_neO M.eq OE (hr.mono (by decide)) BE) (qv 0) (qv 7) (nomark _))))))) (fun _ _ _ _ _ => (qv 7))) (qe_lst qa_nil) (nomark _))))))))), ?_⟩)
  · obtain ⟨p, pl, rfl, _⟩ := h
    rfl
  rintro ds μ Q ⟨p, pl, rfl, ht, plan, h1, h3, k⟩
  have ok := plan_rows plan h3
  match pl, ht, plan, h1, h3, ok with
  | a :: tl, ht, plan, h1, h3, ok =>
  show (_ : AS) (EndA Q) [some (.ptr p), some (.tuz (rowD a :: tl.map rowD)), none, none, none, none, none, none] μ
  have sx : (HT.sIx ((tl.map rowD).length + 1) 0 (some 1) = 0) = False := eq_false (by
    have e0 : HT.sIx ((tl.map rowD).length + 1) 0 (some 1) = min 1 ((tl.map rowD).length + 1) := HT.sIx_nat _ _ 1
    rw [e0]; omega)
  have cx : cutD (rowD a :: tl.map rowD) (some 1) none = tl.map rowD := cutD_drop (n := 1)
  have tl3 : tl.length ≤ 3 := by rw [List.length_cons] at h3; omega
  have i0' : atI (D.tup [D.str a.1, D.tup (a.2.map formD)] :: tl.map rowD) 0 = some (.tup [D.str a.1, D.tup (a.2.map formD)]) := at_zero
  have i0 : atI (rowD a :: tl.map rowD) 0 = some (rowD a) := at_zero
  have am : a.1 ∉ tl.map Prod.fst := (List.nodup_cons.mp (by simpa using plan.nd : (a.1 :: tl.map Prod.fst).Nodup)).1
  have at_ : a.1 ∈ TITLES := plan.nm a (List.mem_cons_self ..)
  have no : Str.ofString "other" ∉ (a :: tl).map Prod.fst := fun h => by
    obtain ⟨r, hr, e⟩ := List.mem_map.mp h
    exact other_new (e ▸ plan.nm r hr)
  have ok3 : RowsOk ((Str.ofString "other", a.2) :: tl) := ok.named (List.mem_append_right _ (by simp)) (fun h => no (List.mem_cons_of_mem _ h))
  simp only [aSeq, aIf, aRet, aRetN, aDrop, aAsg, aNext, aPar, agName, agTup, agCons, agNil, agSub, rSetA, aTest, aOp, aUn, aV, aC, aI, aI0, aU, aEq, aNe, aCons, aNil, aTup, aLst, aCB, aIfE, aNotV, aNotT, aAndV, aOrV, aAndT, aOrT, aChain, aIxL, aIxT, aIxS, aSl, aPart, aNoPart, aSlL, aSlT, aSlS, aCat, aCatT, aAddS, aDGet, aDIn, aDGet2, asDPut, aDNewK, aDNewT, aCall, aBM, aAppend, aPopAt, aLenS, aLenStr, aListOf, aTupleOf, aInt1, aMin2, aIsi, aIsN, aNotN, aCont, aBreak, aNever, aDisp, aPairs, kvs?, mergeD, EndA, D.eq2, D.isNon, D.key, D.items, ptrList, listM, seqAt, Cell.items, dGetM, dPutM, isDict, tyOf, kitD, updM_same, updM_upd, List.set_cons_zero, List.set_cons_succ, List.getElem?_cons_zero, List.getElem?_cons_succ, List.length_cons, List.length_nil, Option.map_some, Option.bind_some, Option.isSome_some, Option.isSome_none, Option.getD_some, Option.getD_none, List.foldl_cons, List.foldl_nil, decide_eq_true_eq, if_true, if_false, Bool.not_true, Bool.not_false, Bool.false_eq_true, true_and, and_true, Nat.reduceLT, Int.reduceLT, Int.reduceLE, ↓reduceIte, aCMeth, sx, false_and, cx]
  refine ⟨_, tl, rfl, .inl rfl, ok.tail, fun l μ1 hl m1 t1 => ?_⟩
  simp only [aSeq, aIf, aRet, aRetN, aDrop, aAsg, aNext, aPar, agName, agTup, agCons, agNil, agSub, rSetA, aTest, aOp, aUn, aV, aC, aI, aI0, aU, aEq, aNe, aCons, aNil, aTup, aLst, aCB, aIfE, aNotV, aNotT, aAndV, aOrV, aAndT, aOrT, aChain, aIxL, aIxT, aIxS, aSl, aPart, aNoPart, aSlL, aSlT, aSlS, aCat, aCatT, aAddS, aDGet, aDIn, aDGet2, asDPut, aDNewK, aDNewT, aCall, aBM, aAppend, aPopAt, aLenS, aLenStr, aListOf, aTupleOf, aInt1, aMin2, aIsi, aIsN, aNotN, aCont, aBreak, aNever, aDisp, aPairs, kvs?, mergeD, EndA, D.eq2, D.isNon, D.key, D.items, ptrList, listM, seqAt, Cell.items, dGetM, dPutM, isDict, tyOf, kitD, updM_same, updM_upd, List.set_cons_zero, List.set_cons_succ, List.getElem?_cons_zero, List.getElem?_cons_succ, List.length_cons, List.length_nil, Option.map_some, Option.bind_some, Option.isSome_some, Option.isSome_none, Option.getD_some, Option.getD_none, List.foldl_cons, List.foldl_nil, decide_eq_true_eq, if_true, if_false, Bool.not_true, Bool.not_false, Bool.false_eq_true, true_and, and_true, Nat.reduceLT, Int.reduceLT, Int.reduceLE, ↓reduceIte, aRevT]
  refine ⟨_, (a :: tl).reverse, rfl, .inl (by rw [List.map_reverse]; rfl), ok.rev, fun b μ2 hb m2 t2 => ?_⟩
  have p2 := ht.up (m1.trans m2)
  have l2 := t1.up m2
  refine eqO_no p2 l2 ok.p ok.tail.p (fun e => by have := congrArg List.length e; simp at this) ?_
  simp only [aSeq, aIf, aRet, aRetN, aDrop, aAsg, aNext, aPar, agName, agTup, agCons, agNil, agSub, rSetA, aTest, aOp, aUn, aV, aC, aI, aI0, aU, aEq, aNe, aCons, aNil, aTup, aLst, aCB, aIfE, aNotV, aNotT, aAndV, aOrV, aAndT, aOrT, aChain, aIxL, aIxT, aIxS, aSl, aPart, aNoPart, aSlL, aSlT, aSlS, aCat, aCatT, aAddS, aDGet, aDIn, aDGet2, asDPut, aDNewK, aDNewT, aCall, aBM, aAppend, aPopAt, aLenS, aLenStr, aListOf, aTupleOf, aInt1, aMin2, aIsi, aIsN, aNotN, aCont, aBreak, aNever, aDisp, aPairs, kvs?, mergeD, EndA, D.eq2, D.isNon, D.key, D.items, ptrList, listM, seqAt, Cell.items, dGetM, dPutM, isDict, tyOf, kitD, updM_same, updM_upd, List.set_cons_zero, List.set_cons_succ, List.getElem?_cons_zero, List.getElem?_cons_succ, List.length_cons, List.length_nil, Option.map_some, Option.bind_some, Option.isSome_some, Option.isSome_none, Option.getD_some, Option.getD_none, List.foldl_cons, List.foldl_nil, decide_eq_true_eq, if_true, if_false, Bool.not_true, Bool.not_false, Bool.false_eq_true, true_and, and_true, Nat.reduceLT, Int.reduceLT, Int.reduceLE, ↓reduceIte, id]
  refine eqO_no p2 l2 ok.p ok.tail.p (fun e => by have := congrArg List.length e; simp at this) ?_
  simp only [aSeq, aIf, aRet, aRetN, aDrop, aAsg, aNext, aPar, agName, agTup, agCons, agNil, agSub, rSetA, aTest, aOp, aUn, aV, aC, aI, aI0, aU, aEq, aNe, aCons, aNil, aTup, aLst, aCB, aIfE, aNotV, aNotT, aAndV, aOrV, aAndT, aOrT, aChain, aIxL, aIxT, aIxS, aSl, aPart, aNoPart, aSlL, aSlT, aSlS, aCat, aCatT, aAddS, aDGet, aDIn, aDGet2, asDPut, aDNewK, aDNewT, aCall, aBM, aAppend, aPopAt, aLenS, aLenStr, aListOf, aTupleOf, aInt1, aMin2, aIsi, aIsN, aNotN, aCont, aBreak, aNever, aDisp, aPairs, kvs?, mergeD, EndA, D.eq2, D.isNon, D.key, D.items, ptrList, listM, seqAt, Cell.items, dGetM, dPutM, isDict, tyOf, kitD, updM_same, updM_upd, List.set_cons_zero, List.set_cons_succ, List.getElem?_cons_zero, List.getElem?_cons_succ, List.length_cons, List.length_nil, Option.map_some, Option.bind_some, Option.isSome_some, Option.isSome_none, Option.getD_some, Option.getD_none, List.foldl_cons, List.foldl_nil, decide_eq_true_eq, if_true, if_false, Bool.not_true, Bool.not_false, Bool.false_eq_true, true_and, and_true, Nat.reduceLT, Int.reduceLT, Int.reduceLE, ↓reduceIte]
  have back : ∀ Q' : DK, Q' (.bl (decide ((((tl.map rowD).length + 1 : Nat) : Int) = 1))) μ2 → aEqO C (TS C) (ctEq C) id (.ptr p) (.ptr b) μ2 Q' := fun Q' hq => by
    by_cases e : tl = []
    · subst e
      exact eqO_yes p2 t2 ok.p hq
    · have hl2 : 2 ≤ (a :: tl).length := by
        cases tl with
        | nil => exact absurd rfl e
        | cons _ _ => simp
      refine eqO_no p2 t2 ok.p ok.rev.p (fun e2 => ?_) ?_
      · have := congrArg (List.map ttl) e2
        rw [ttl_map, ttl_map, List.map_reverse] at this
        exact nodup_rev ok.nd (by rw [List.length_map]; exact hl2) (by rw [List.length_map]; exact h3) this
      · rw [decide_eq_false (by rw [List.length_map]; simp at hl2; omega)] at hq
        exact hq
  refine back _ ?_
  have el : ∀ b : Bool, decide (b = b) = true := fun b => decide_eq_true rfl
  obtain ⟨lf, lr, lh1, lh2⟩ := id l2
  simp only [aSeq, aIf, aRet, aRetN, aDrop, aAsg, aNext, aPar, agName, agTup, agCons, agNil, agSub, rSetA, aTest, aOp, aUn, aV, aC, aI, aI0, aU, aEq, aNe, aCons, aNil, aTup, aLst, aCB, aIfE, aNotV, aNotT, aAndV, aOrV, aAndT, aOrT, aChain, aIxL, aIxT, aIxS, aSl, aPart, aNoPart, aSlL, aSlT, aSlS, aCat, aCatT, aAddS, aDGet, aDIn, aDGet2, asDPut, aDNewK, aDNewT, aCall, aBM, aAppend, aPopAt, aLenS, aLenStr, aListOf, aTupleOf, aInt1, aMin2, aIsi, aIsN, aNotN, aCont, aBreak, aNever, aDisp, aPairs, kvs?, mergeD, EndA, D.eq2, D.isNon, D.key, D.items, ptrList, listM, seqAt, Cell.items, dGetM, dPutM, isDict, tyOf, kitD, updM_same, updM_upd, List.set_cons_zero, List.set_cons_succ, List.getElem?_cons_zero, List.getElem?_cons_succ, List.length_cons, List.length_nil, Option.map_some, Option.bind_some, Option.isSome_some, Option.isSome_none, Option.getD_some, Option.getD_none, List.foldl_cons, List.foldl_nil, decide_eq_true_eq, if_true, if_false, Bool.not_true, Bool.not_false, Bool.false_eq_true, true_and, and_true, Nat.reduceLT, Int.reduceLT, Int.reduceLE, ↓reduceIte, el, aLenO, lh1]
  refine ⟨l, tl, rfl, l2, by omega, by omega, ?_⟩
  have dx : decide (((tl.length : Nat) : Int) = (((tl.map rowD).length + 1 : Nat) : Int) - 1) = true := decide_eq_true (by rw [List.length_map]; omega)
  have dx2 : ((tl.length : Nat) : Int) = (((tl.map rowD).length + 1 : Nat) : Int) - 1 := by rw [List.length_map]; omega
  simp only [aSeq, aIf, aRet, aRetN, aDrop, aAsg, aNext, aPar, agName, agTup, agCons, agNil, agSub, rSetA, aTest, aOp, aUn, aV, aC, aI, aI0, aU, aEq, aNe, aCons, aNil, aTup, aLst, aCB, aIfE, aNotV, aNotT, aAndV, aOrV, aAndT, aOrT, aChain, aIxL, aIxT, aIxS, aSl, aPart, aNoPart, aSlL, aSlT, aSlS, aCat, aCatT, aAddS, aDGet, aDIn, aDGet2, asDPut, aDNewK, aDNewT, aCall, aBM, aAppend, aPopAt, aLenS, aLenStr, aListOf, aTupleOf, aInt1, aMin2, aIsi, aIsN, aNotN, aCont, aBreak, aNever, aDisp, aPairs, kvs?, mergeD, EndA, D.eq2, D.isNon, D.key, D.items, ptrList, listM, seqAt, Cell.items, dGetM, dPutM, isDict, tyOf, kitD, updM_same, updM_upd, List.set_cons_zero, List.set_cons_succ, List.getElem?_cons_zero, List.getElem?_cons_succ, List.length_cons, List.length_nil, Option.map_some, Option.bind_some, Option.isSome_some, Option.isSome_none, Option.getD_some, Option.getD_none, List.foldl_cons, List.foldl_nil, decide_eq_true_eq, if_true, if_false, Bool.not_true, Bool.not_false, Bool.false_eq_true, true_and, and_true, Nat.reduceLT, Int.reduceLT, Int.reduceLE, ↓reduceIte, eq_true dx2, decide_true, i0, rowD, i0', aCMeth, sx, false_and]
  refine ⟨rfl, by decide, by decide, by rw [List.length_map]; omega, ?_⟩
  refine ⟨_, (Str.ofString "other", a.2) :: tl, rfl, .inl rfl, ok3, fun fr μ3 hf m3 t3 => ?_⟩
  have p3 := p2.up m3
  have nf : (a :: tl).map rowD ≠ ((Str.ofString "other", a.2) :: tl).map rowD := fun e => by
    have := congrArg (List.map ttl) e
    rw [ttl_map, ttl_map, List.map_cons, List.map_cons] at this
    exact other_new ((show a.1 = Str.ofString "other" from (List.cons.inj this).1) ▸ at_)
  refine eqO_no p3 t3 ok.p ok3.p nf ?_
  simp only [aSeq, aIf, aRet, aRetN, aDrop, aAsg, aNext, aPar, agName, agTup, agCons, agNil, agSub, rSetA, aTest, aOp, aUn, aV, aC, aI, aI0, aU, aEq, aNe, aCons, aNil, aTup, aLst, aCB, aIfE, aNotV, aNotT, aAndV, aOrV, aAndT, aOrT, aChain, aIxL, aIxT, aIxS, aSl, aPart, aNoPart, aSlL, aSlT, aSlS, aCat, aCatT, aAddS, aDGet, aDIn, aDGet2, asDPut, aDNewK, aDNewT, aCall, aBM, aAppend, aPopAt, aLenS, aLenStr, aListOf, aTupleOf, aInt1, aMin2, aIsi, aIsN, aNotN, aCont, aBreak, aNever, aDisp, aPairs, kvs?, mergeD, EndA, D.eq2, D.isNon, D.key, D.items, ptrList, listM, seqAt, Cell.items, dGetM, dPutM, isDict, tyOf, kitD, updM_same, updM_upd, List.set_cons_zero, List.set_cons_succ, List.getElem?_cons_zero, List.getElem?_cons_succ, List.length_cons, List.length_nil, Option.map_some, Option.bind_some, Option.isSome_some, Option.isSome_none, Option.getD_some, Option.getD_none, List.foldl_cons, List.foldl_nil, decide_eq_true_eq, if_true, if_false, Bool.not_true, Bool.not_false, Bool.false_eq_true, true_and, and_true, Nat.reduceLT, Int.reduceLT, Int.reduceLE, ↓reduceIte, id]
  refine eqO_no t3 p3 ok3.p ok.p (fun e => nf e.symm) ?_
  obtain ⟨gf, gr, gh1, gh2⟩ := id t3
  obtain ⟨pf, pr, ph1, ph2⟩ := id p3
  simp only [aSeq, aIf, aRet, aRetN, aDrop, aAsg, aNext, aPar, agName, agTup, agCons, agNil, agSub, rSetA, aTest, aOp, aUn, aV, aC, aI, aI0, aU, aEq, aNe, aCons, aNil, aTup, aLst, aCB, aIfE, aNotV, aNotT, aAndV, aOrV, aAndT, aOrT, aChain, aIxL, aIxT, aIxS, aSl, aPart, aNoPart, aSlL, aSlT, aSlS, aCat, aCatT, aAddS, aDGet, aDIn, aDGet2, asDPut, aDNewK, aDNewT, aCall, aBM, aAppend, aPopAt, aLenS, aLenStr, aListOf, aTupleOf, aInt1, aMin2, aIsi, aIsN, aNotN, aCont, aBreak, aNever, aDisp, aPairs, kvs?, mergeD, EndA, D.eq2, D.isNon, D.key, D.items, ptrList, listM, seqAt, Cell.items, dGetM, dPutM, isDict, tyOf, kitD, updM_same, updM_upd, List.set_cons_zero, List.set_cons_succ, List.getElem?_cons_zero, List.getElem?_cons_succ, List.length_cons, List.length_nil, Option.map_some, Option.bind_some, Option.isSome_some, Option.isSome_none, Option.getD_some, Option.getD_none, List.foldl_cons, List.foldl_nil, decide_eq_true_eq, if_true, if_false, Bool.not_true, Bool.not_false, Bool.false_eq_true, true_and, and_true, Nat.reduceLT, Int.reduceLT, Int.reduceLE, ↓reduceIte, aInO, gh1]
  refine ⟨fr, _, _, rfl, t3, .inl ⟨a.1, rfl, ?_⟩⟩
  rw [kvF_miss (rs := (Str.ofString "other", a.2) :: tl) (z := a.1) (fun h => by
    rcases List.mem_cons.mp h with h | h
    · exact other_new ((show a.1 = Str.ofString "other" from h) ▸ at_)
    · exact am h)]
  simp only [aSeq, aIf, aRet, aRetN, aDrop, aAsg, aNext, aPar, agName, agTup, agCons, agNil, agSub, rSetA, aTest, aOp, aUn, aV, aC, aI, aI0, aU, aEq, aNe, aCons, aNil, aTup, aLst, aCB, aIfE, aNotV, aNotT, aAndV, aOrV, aAndT, aOrT, aChain, aIxL, aIxT, aIxS, aSl, aPart, aNoPart, aSlL, aSlT, aSlS, aCat, aCatT, aAddS, aDGet, aDIn, aDGet2, asDPut, aDNewK, aDNewT, aCall, aBM, aAppend, aPopAt, aLenS, aLenStr, aListOf, aTupleOf, aInt1, aMin2, aIsi, aIsN, aNotN, aCont, aBreak, aNever, aDisp, aPairs, kvs?, mergeD, EndA, D.eq2, D.isNon, D.key, D.items, ptrList, listM, seqAt, Cell.items, dGetM, dPutM, isDict, tyOf, kitD, updM_same, updM_upd, List.set_cons_zero, List.set_cons_succ, List.getElem?_cons_zero, List.getElem?_cons_succ, List.length_cons, List.length_nil, Option.map_some, Option.bind_some, Option.isSome_some, Option.isSome_none, Option.getD_some, Option.getD_none, List.foldl_cons, List.foldl_nil, decide_eq_true_eq, if_true, if_false, Bool.not_true, Bool.not_false, Bool.false_eq_true, true_and, and_true, Nat.reduceLT, Int.reduceLT, Int.reduceLE, ↓reduceIte, id, ph1]
  refine ⟨p, _, _, rfl, p3, .inl ⟨_, rfl, ?_⟩⟩
  rw [kvF_miss no]
  simp only [aSeq, aIf, aRet, aRetN, aDrop, aAsg, aNext, aPar, agName, agTup, agCons, agNil, agSub, rSetA, aTest, aOp, aUn, aV, aC, aI, aI0, aU, aEq, aNe, aCons, aNil, aTup, aLst, aCB, aIfE, aNotV, aNotT, aAndV, aOrV, aAndT, aOrT, aChain, aIxL, aIxT, aIxS, aSl, aPart, aNoPart, aSlL, aSlT, aSlS, aCat, aCatT, aAddS, aDGet, aDIn, aDGet2, asDPut, aDNewK, aDNewT, aCall, aBM, aAppend, aPopAt, aLenS, aLenStr, aListOf, aTupleOf, aInt1, aMin2, aIsi, aIsN, aNotN, aCont, aBreak, aNever, aDisp, aPairs, kvs?, mergeD, EndA, D.eq2, D.isNon, D.key, D.items, ptrList, listM, seqAt, Cell.items, dGetM, dPutM, isDict, tyOf, kitD, updM_same, updM_upd, List.set_cons_zero, List.set_cons_succ, List.getElem?_cons_zero, List.getElem?_cons_succ, List.length_cons, List.length_nil, Option.map_some, Option.bind_some, Option.isSome_some, Option.isSome_none, Option.getD_some, Option.getD_none, List.foldl_cons, List.foldl_nil, decide_eq_true_eq, if_true, if_false, Bool.not_true, Bool.not_false, Bool.false_eq_true, true_and, and_true, Nat.reduceLT, Int.reduceLT, Int.reduceLE, ↓reduceIte, id]
  have pk : pairs2 (D.tup [D.str a.1, D.tup (a.2.map formD)] :: tl.map rowD) = some (kvF (a :: tl)) := pairs_rows (a :: tl)
  refine aLc_at ?_
  simp only [aSeq, aIf, aRet, aRetN, aDrop, aAsg, aNext, aPar, agName, agTup, agCons, agNil, agSub, rSetA, aTest, aOp, aUn, aV, aC, aI, aI0, aU, aEq, aNe, aCons, aNil, aTup, aLst, aCB, aIfE, aNotV, aNotT, aAndV, aOrV, aAndT, aOrT, aChain, aIxL, aIxT, aIxS, aSl, aPart, aNoPart, aSlL, aSlT, aSlS, aCat, aCatT, aAddS, aDGet, aDIn, aDGet2, asDPut, aDNewK, aDNewT, aCall, aBM, aAppend, aPopAt, aLenS, aLenStr, aListOf, aTupleOf, aInt1, aMin2, aIsi, aIsN, aNotN, aCont, aBreak, aNever, aDisp, aPairs, kvs?, mergeD, EndA, D.eq2, D.isNon, D.key, D.items, ptrList, listM, seqAt, Cell.items, dGetM, dPutM, isDict, tyOf, kitD, updM_same, updM_upd, List.set_cons_zero, List.set_cons_succ, List.getElem?_cons_zero, List.getElem?_cons_succ, List.length_cons, List.length_nil, Option.map_some, Option.bind_some, Option.isSome_some, Option.isSome_none, Option.getD_some, Option.getD_none, List.foldl_cons, List.foldl_nil, decide_eq_true_eq, if_true, if_false, Bool.not_true, Bool.not_false, Bool.false_eq_true, true_and, and_true, Nat.reduceLT, Int.reduceLT, Int.reduceLE, ↓reduceIte, aITup]
  intro e he
  simp only [aSeq, aIf, aRet, aRetN, aDrop, aAsg, aNext, aPar, agName, agTup, agCons, agNil, agSub, rSetA, aTest, aOp, aUn, aV, aC, aI, aI0, aU, aEq, aNe, aCons, aNil, aTup, aLst, aCB, aIfE, aNotV, aNotT, aAndV, aOrV, aAndT, aOrT, aChain, aIxL, aIxT, aIxS, aSl, aPart, aNoPart, aSlL, aSlT, aSlS, aCat, aCatT, aAddS, aDGet, aDIn, aDGet2, asDPut, aDNewK, aDNewT, aCall, aBM, aAppend, aPopAt, aLenS, aLenStr, aListOf, aTupleOf, aInt1, aMin2, aIsi, aIsN, aNotN, aCont, aBreak, aNever, aDisp, aPairs, kvs?, mergeD, EndA, D.eq2, D.isNon, D.key, D.items, ptrList, listM, seqAt, Cell.items, dGetM, dPutM, isDict, tyOf, kitD, updM_same, updM_upd, List.set_cons_zero, List.set_cons_succ, List.getElem?_cons_zero, List.getElem?_cons_succ, List.length_cons, List.length_nil, Option.map_some, Option.bind_some, Option.isSome_some, Option.isSome_none, Option.getD_some, Option.getD_none, List.foldl_cons, List.foldl_nil, decide_eq_true_eq, if_true, if_false, Bool.not_true, Bool.not_false, Bool.false_eq_true, true_and, and_true, Nat.reduceLT, Int.reduceLT, Int.reduceLE, ↓reduceIte, aDictT, pk]
  generalize (List.foldl (fun (acc : List (Key × D)) (kv : Key × D) => putD acc kv.1 kv.2) [] (kvF (a :: tl))) = mk
  intro d hd
  obtain ⟨nde, hd⟩ := fresh_upd hd
  refine ⟨by decide, ?_⟩
  have m4 : Mle μ3 (updM (updM μ3 e (.dk [])) d (.dk mk)) := (Mle.new he).trans (Mle.new (by rw [updM_ne nde]; exact hd))
  have f1 : (updM (updM μ3 e (.dk [])) d (.dk mk)) e = some (.dk []) := by rw [updM_ne nde.symm, updM_same]
  have f2 : (updM (updM μ3 e (.dk [])) d (.dk mk)) d = some (.dk mk) := updM_same
  generalize updM (updM μ3 e (.dk [])) d (.dk mk) = μ4 at m4 f1 f2 ⊢
  refine aLc_gen [D.tuz (D.tup [D.str a.1, D.tup (a.2.map formD)] :: tl.map rowD), .non, .int 5, .str a.1, .ptr e, .ptr d] (fun _ => True) (fun i acc => acc = []) (fun R h => h) (fun _ _ => trivial) rfl (fun i acc e => by rw [e]; exact Nat.zero_le _) (fun i x acc μ' hx ea hm Nx Sk hN hS => ?_) fun z acc μ5 hz hm5 hc5 ea5 => ?_
  · have p5 := p3.up (m4.trans hm)
    have g1 := hm _ _ f1
    have g2 := hm _ _ f2
    have ht : (∃ t, tyG μ' x = some t ∧ t ∈ TS C) ∧ isO C μ' x = some false := by
      have hmem := List.mem_of_getElem? hx
      simp only [List.mem_cons, List.not_mem_nil, or_false] at hmem
      unfold TS
      rcases hmem with rfl | rfl | rfl | rfl | rfl | rfl
      · exact ⟨⟨_, rfl, by simp⟩, rfl⟩
      · exact ⟨⟨_, rfl, by simp⟩, rfl⟩
      · exact ⟨⟨_, rfl, by simp⟩, rfl⟩
      · exact ⟨⟨_, rfl, by simp⟩, rfl⟩
      · refine ⟨⟨.type "dict", by unfold tyG; simp only [g1], by simp⟩, by unfold isO; simp only [g1]⟩
      · refine ⟨⟨.type "dict", by unfold tyG; simp only [g2], by simp⟩, by unfold isO; simp only [g2]⟩
    obtain ⟨⟨t, ht1, ht2⟩, io⟩ := ht
    simp only [aSeq, aIf, aRet, aRetN, aDrop, aAsg, aNext, aPar, agName, agTup, agCons, agNil, agSub, rSetA, aTest, aOp, aUn, aV, aC, aI, aI0, aU, aEq, aNe, aCons, aNil, aTup, aLst, aCB, aIfE, aNotV, aNotT, aAndV, aOrV, aAndT, aOrT, aChain, aIxL, aIxT, aIxS, aSl, aPart, aNoPart, aSlL, aSlT, aSlS, aCat, aCatT, aAddS, aDGet, aDIn, aDGet2, asDPut, aDNewK, aDNewT, aCall, aBM, aAppend, aPopAt, aLenS, aLenStr, aListOf, aTupleOf, aInt1, aMin2, aIsi, aIsN, aNotN, aCont, aBreak, aNever, aDisp, aPairs, kvs?, mergeD, EndA, D.eq2, D.isNon, D.key, D.items, ptrList, listM, seqAt, Cell.items, dGetM, dPutM, isDict, tyOf, kitD, updM_same, updM_upd, List.set_cons_zero, List.set_cons_succ, List.getElem?_cons_zero, List.getElem?_cons_succ, List.length_cons, List.length_nil, Option.map_some, Option.bind_some, Option.isSome_some, Option.isSome_none, Option.getD_some, Option.getD_none, List.foldl_cons, List.foldl_nil, decide_eq_true_eq, if_true, if_false, Bool.not_true, Bool.not_false, Bool.false_eq_true, true_and, and_true, Nat.reduceLT, Int.reduceLT, Int.reduceLE, ↓reduceIte, wipeD, List.map_cons, List.map_nil]
    refine eqO_other p5 ok.p ht1 ht2 io ?_
    simp only [aSeq, aIf, aRet, aRetN, aDrop, aAsg, aNext, aPar, agName, agTup, agCons, agNil, agSub, rSetA, aTest, aOp, aUn, aV, aC, aI, aI0, aU, aEq, aNe, aCons, aNil, aTup, aLst, aCB, aIfE, aNotV, aNotT, aAndV, aOrV, aAndT, aOrT, aChain, aIxL, aIxT, aIxS, aSl, aPart, aNoPart, aSlL, aSlT, aSlS, aCat, aCatT, aAddS, aDGet, aDIn, aDGet2, asDPut, aDNewK, aDNewT, aCall, aBM, aAppend, aPopAt, aLenS, aLenStr, aListOf, aTupleOf, aInt1, aMin2, aIsi, aIsN, aNotN, aCont, aBreak, aNever, aDisp, aPairs, kvs?, mergeD, EndA, D.eq2, D.isNon, D.key, D.items, ptrList, listM, seqAt, Cell.items, dGetM, dPutM, isDict, tyOf, kitD, updM_same, updM_upd, List.set_cons_zero, List.set_cons_succ, List.getElem?_cons_zero, List.getElem?_cons_succ, List.length_cons, List.length_nil, Option.map_some, Option.bind_some, Option.isSome_some, Option.isSome_none, Option.getD_some, Option.getD_none, List.foldl_cons, List.foldl_nil, decide_eq_true_eq, if_true, if_false, Bool.not_true, Bool.not_false, Bool.false_eq_true, true_and, and_true, Nat.reduceLT, Int.reduceLT, Int.reduceLE, ↓reduceIte, id]
    refine eqO_other p5 ok.p ht1 ht2 io ?_
    simp only [aSeq, aIf, aRet, aRetN, aDrop, aAsg, aNext, aPar, agName, agTup, agCons, agNil, agSub, rSetA, aTest, aOp, aUn, aV, aC, aI, aI0, aU, aEq, aNe, aCons, aNil, aTup, aLst, aCB, aIfE, aNotV, aNotT, aAndV, aOrV, aAndT, aOrT, aChain, aIxL, aIxT, aIxS, aSl, aPart, aNoPart, aSlL, aSlT, aSlS, aCat, aCatT, aAddS, aDGet, aDIn, aDGet2, asDPut, aDNewK, aDNewT, aCall, aBM, aAppend, aPopAt, aLenS, aLenStr, aListOf, aTupleOf, aInt1, aMin2, aIsi, aIsN, aNotN, aCont, aBreak, aNever, aDisp, aPairs, kvs?, mergeD, EndA, D.eq2, D.isNon, D.key, D.items, ptrList, listM, seqAt, Cell.items, dGetM, dPutM, isDict, tyOf, kitD, updM_same, updM_upd, List.set_cons_zero, List.set_cons_succ, List.getElem?_cons_zero, List.getElem?_cons_succ, List.length_cons, List.length_nil, Option.map_some, Option.bind_some, Option.isSome_some, Option.isSome_none, Option.getD_some, Option.getD_none, List.foldl_cons, List.foldl_nil, decide_eq_true_eq, if_true, if_false, Bool.not_true, Bool.not_false, Bool.false_eq_true, true_and, and_true, Nat.reduceLT, Int.reduceLT, Int.reduceLE, ↓reduceIte]
    exact hS _ (Mle.refl _) ea
  · subst ea5
    refine ⟨by decide, fun y hy => ?_⟩
    have nzy : z ≠ y := (fresh_ne hy hc5).symm
    rw [eq_nil (n := 0) (ys := []) (by rw [list_upd nzy]; exact list_cell hc5) list_at (fun _ h => nomatch h) (by decide)]
    simp only [aSeq, aIf, aRet, aRetN, aDrop, aAsg, aNext, aPar, agName, agTup, agCons, agNil, agSub, rSetA, aTest, aOp, aUn, aV, aC, aI, aI0, aU, aEq, aNe, aCons, aNil, aTup, aLst, aCB, aIfE, aNotV, aNotT, aAndV, aOrV, aAndT, aOrT, aChain, aIxL, aIxT, aIxS, aSl, aPart, aNoPart, aSlL, aSlT, aSlS, aCat, aCatT, aAddS, aDGet, aDIn, aDGet2, asDPut, aDNewK, aDNewT, aCall, aBM, aAppend, aPopAt, aLenS, aLenStr, aListOf, aTupleOf, aInt1, aMin2, aIsi, aIsN, aNotN, aCont, aBreak, aNever, aDisp, aPairs, kvs?, mergeD, EndA, D.eq2, D.isNon, D.key, D.items, ptrList, listM, seqAt, Cell.items, dGetM, dPutM, isDict, tyOf, kitD, updM_same, updM_upd, List.set_cons_zero, List.set_cons_succ, List.getElem?_cons_zero, List.getElem?_cons_succ, List.length_cons, List.length_nil, Option.map_some, Option.bind_some, Option.isSome_some, Option.isSome_none, Option.getD_some, Option.getD_none, List.foldl_cons, List.foldl_nil, decide_eq_true_eq, if_true, if_false, Bool.not_true, Bool.not_false, Bool.false_eq_true, true_and, and_true, Nat.reduceLT, Int.reduceLT, Int.reduceLE, ↓reduceIte, List.isEmpty_nil]
    exact ⟨μ, ((m1.trans m2).trans (m3.trans (m4.trans hm5))).trans (Mle.new hy), k⟩
end
end M53

set_option maxHeartbeats 4000000
namespace M53
open PySem PySem.Spec PyProof.Rows L2 Evl Gd DL StX
/-! ### tables nearly alike -/
theorem int_inj {a b : List Int} (h : a.map D.int = b.map D.int) : a = b := (List.map_inj_right (fun _ _ e => D.int.inj e)).mp h
theorem formD_inj {f g : Form} (h : formD f = formD g) : f.code = g.code ∧ f.fs = g.fs := by
  have e := D.tup.inj h
  exact ⟨int_inj (D.tup.inj (List.cons.inj e).1), D.tup.inj (List.cons.inj (List.cons.inj e).2).1⟩
/-- one form put for the last one of the first row -/
theorem rows_near {n : Str} {sh : List Form} {f g : Form} {tl : List Row} (ok : RowsOk ((n, sh ++ [f]) :: tl)) (h1 : g.fs.length = f.fs.length) (h2 : ∀ d ∈ g.fs, FldOk d) (h3 : flen g = flen f) (h4 : CodeOk g.code) (h5 : g.code = f.code ∨ ∀ d ∈ sh.map Form.code ++ codesOf tl, Apart d g.code) : RowsOk ((n, sh ++ [g]) :: tl) := by
  refine ⟨ok.few, fun r hr => ?_, ok.nd, fun r hr => ?_, ?_⟩
  · rcases List.mem_cons.mp hr with rfl | hr
    · exact ok.nm (n, sh ++ [f]) (List.mem_cons_self ..)
    · exact ok.nm r (List.mem_cons_of_mem _ hr)
  · rcases List.mem_cons.mp hr with rfl | hr
    · obtain ⟨o1, o2, many, o3, o4⟩ := ok.forms (n, sh ++ [f]) (List.mem_cons_self ..)
      refine ⟨by simp, by simpa using o2, many, o3, fun e he => ?_, ?_⟩
      · rcases List.mem_append.mp he with he | he
        · exact o4.fld e (List.mem_append_left _ he)
        · rw [List.mem_singleton.mp he]
          exact ⟨h1.trans (o4.fld f (by simp)).1, h2⟩
      · have up := List.pairwise_append.mp o4.up
        refine List.pairwise_append.mpr ⟨up.1, List.pairwise_singleton _ _, fun e he b hb => ?_⟩
        rw [List.mem_singleton.mp hb, h3]
        exact up.2.2 e he f (by simp)
    · exact ok.forms r (List.mem_cons_of_mem _ hr)
  · have hc := ok.codes
    rw [codes_cons] at hc ⊢
    simp only [List.map_append, List.map_cons, List.map_nil] at hc ⊢
    rcases h5 with h5 | h5
    · rw [h5]; exact hc
    · have sub : CodesR (sh.map Form.code ++ codesOf tl) := hc.sub (by
        rw [List.append_assoc]
        exact List.Sublist.append (List.Sublist.refl _) (List.sublist_append_right _ _))
      have sn : CodesR ((sh.map Form.code ++ codesOf tl) ++ [g.code]) := ⟨fun c hc => by
        rcases List.mem_append.mp hc with h | h
        · exact sub.ok c h
        · rw [List.mem_singleton.mp h]; exact h4, List.pairwise_append.mpr ⟨sub.pf, List.pairwise_singleton _ _, fun a ha b hb => by rw [List.mem_singleton.mp hb]; exact h5 a ha⟩⟩
      refine sn.perm ?_
      rw [List.append_assoc, List.append_assoc]
      exact List.Perm.append_left _ List.perm_append_comm
section
variable {P : Program} {w : World} {K : PySem.W.Frag} {mg : Str → Option Value} {base : Heap} {C fI fO fR fN fH fG fE : Addr}
/-- near forms: tables with one of them in the last one's place stand, and are others -/
def NearOk (n : Str) (sh : List Form) (f : Form) (tl : List Row) (g : Form) : Prop := RowsOk ((n, sh ++ [g]) :: tl) ∧ formD g ≠ formD f
def ctNear (C : Addr) : Ct := fun ds μ Q => ∃ p pl, ds = [.ptr p, .tuz (pl.map rowD)] ∧ TabAt C μ p pl ∧ PlanOk pl ∧ 1 ≤ pl.length ∧ pl.length ≤ 3 ∧ Q (.bl true) μ
theorem step_sum {fs : List D} {i : Nat} {d : D} {d' : D} (h : fs[i]? = some d) (e : fw d' = fw d) : ((fs.take i ++ [d'] ++ fs.drop (i + 1)).map fw).sum = (fs.map fw).sum := by
  conv => rhs; rw [split_at h]
  simp only [List.map_append, List.map_cons, List.map_nil, List.sum_append, List.sum_cons, List.sum_nil, e]
  omega
def N_law_near_unlike : List Str := ["_law_some", "_law_plan_here", "_law_title", "_law_shapes_here", "_law_code", "_law_slots", "_law_near", "_law_here", "_law_shape", "_law_far"]
abbrev s_law_near_unlike : Stmt := top 62
theorem sc_law_near_unlike : FnScope N_law_near_unlike ["_law_some", "_law_plan_here"] (defScope s_law_near_unlike) := ⟨rfl, rfl, rfl, by decide +kernel, rfl, by decide +kernel, by decide +kernel⟩
theorem ok_law_near_unlike {f : Addr} {fd : FuncData} (F : Fun K "_law_near_unlike" "_law_near_unlike" s_law_near_unlike f fd) (T : Tx K mg) (M : TabM P w K mg base C fI fO fR fN fH fG fE) (D_law_turned : Df P w K mg base CX0 1 "_law_turned" ["_law_slot_here"] (spOf ctTurned)) : FnOk P w K mg base CX0 10 f fd ["_law_some", "_law_plan_here"] (spOf (ctNear C)) := by
  obtain ⟨_, OE, BE⟩ := M.eqF
  obtain ⟨_, CM⟩ := M.cm
  refine okD F sc_law_near_unlike (fun ds μ Q h => ?_) (fun cdv A outer s H E hr => ⟨_, (qss_cons (qs_asg (qe_ix iq_tup (qv 1) qe_int (fun _ _ => rfl)) (qg_tup rfl (qgs_cons (qg_name (i := 2) sc_law_near_unlike.nd rfl (Or.inl rfl)) (qgs_cons (qg_name (i := 3) sc_law_near_unlike.nd rfl (Or.inl rfl)) qgs_nil))))
  (qss_cons (qs_asg (qe_ix iq_tup (qv 3) (qe_un uq_neg qe_int) (fun _ _ => rfl)) (qg_tup rfl (qgs_cons (qg_name (i := 4) sc_law_near_unlike.nd rfl (Or.inl rfl)) (qgs_cons (qg_name (i := 5) sc_law_near_unlike.nd rfl (Or.inl rfl)) qgs_nil))))
  (qss_cons (qs_set (i := 6) sc_law_near_unlike.nd rfl (Or.inl rfl) (qe_lst (qa_cons (qe_tup (qa_cons (qe_op oq_catT (qe_tup (qa_cons qe_int qa_nil)) (qe_slice slq_tup (qv 4) (qo_some qe_int) qo_none)) (qa_cons (qv 5) qa_nil))) qa_nil)))
  (qss_cons (qs_for PassesOwn.never rfl (qi_range1 rfl T.b_range (qa_cons (qe_callB cq_len (by rfl) T.b_len (by decide +kernel) (qa_cons (qv 5) qa_nil)) qa_nil)) (qg_name (i := 7) sc_law_near_unlike.nd rfl (Or.inl rfl))
    (qss_one (qs_expr (qe_append (qv 6) (qa_cons (qe_tup (qa_cons (qv 4) (qa_cons (qe_op oq_catT (qe_op oq_catT (qe_slice slq_tup (qv 5) qo_none (qo_some (qv 7))) (qe_tup (qa_cons (qe_df D_law_turned (hr.mono (by decide)) rfl (qa_cons (qe_ix iq_tup (qv 5) (qv 7) (fun _ _ => rfl)) qa_nil)) qa_nil))) (qe_slice slq_tup (qv 5) (qo_some (qe_op oq_add (qv 7) qe_int)) qo_none)) qa_nil))) qa_nil)))))
  (qss_cons (qs_for PassesOwn.never rfl (qi_list (qv 6)) (qg_name (i := 8) sc_law_near_unlike.nd rfl (Or.inl rfl))
    (qss_cons (qs_set (i := 9) sc_law_near_unlike.nd rfl (Or.inl rfl) (qe_cmeth (qe_gR rfl M.g) M.cr CM M.of_ (hr.mono (by decide)) (qa_cons (qe_op oq_catT (qe_tup (qa_cons (qe_tup (qa_cons (qv 2) (qa_cons (qe_op oq_catT (qe_slice slq_tup (qv 3) qo_none (qo_some (qe_un uq_neg qe_int))) (qe_tup (qa_cons (qv 8) qa_nil))) qa_nil))) qa_nil)) (qe_slice slq_tup (qv 1) (qo_some qe_int) qo_none)) qa_nil)))
      (qss_one (qs_if (QW.pt (qw_or (qt_cmpR (oq_eqO M.eq OE (hr.mono (by decide)) BE) (qv 0) (qv 9) (nomark _)) (qw_or (qt_not (qt_cmpR (oq_neO M.eq OE (hr.mono (by decide)) BE) (qv 0) (qv 9) (nomark _))) (qw_or1 (qt_cmpR (oq_eqO M.eq OE (hr.mono (by decide)) BE) (qv 9) (qv 0) (nomark _))))))
        (qss_one (qs_ret qe_bl))
        qss_nil))))
  (qss_one (qs_ret qe_bl))))))), ?_⟩)
  · obtain ⟨p, pl, rfl, _⟩ := h
    rfl
  rintro ds μ Q ⟨p, pl, rfl, ht, plan, h1, h3, k⟩
  have ok := plan_rows plan h3
  match pl, ht, plan, h1, h3, ok with
  | a :: tl, ht, plan, h1, h3, ok =>
  obtain ⟨n, sh0⟩ := a
  obtain ⟨sh, f, rfl⟩ : ∃ sh f, sh0 = sh ++ [f] := by
    have := (ok.forms (n, sh0) (List.mem_cons_self ..)).1
    rcases List.eq_nil_or_concat sh0 with e | ⟨L, x, e⟩
    · rw [e] at this; exact absurd this (Nat.not_succ_le_zero 0)
    · exact ⟨L, x, by rw [e, List.concat_eq_append]⟩
  have sx : (HT.sIx ((tl.map rowD).length + 1) 0 (some 1) = 0) = False := eq_false (by
    have e0 : HT.sIx ((tl.map rowD).length + 1) 0 (some 1) = min 1 ((tl.map rowD).length + 1) := HT.sIx_nat _ _ 1
    rw [e0]; omega)
  have r0 : ∀ x : D, atI (x :: tl.map rowD) 0 = some x := fun x => at_zero
  have l0 : atI ((sh ++ [f]).map formD) (-1) = some (formD f) := by rw [List.map_append]; exact at_last
  show (_ : AS) (EndA Q) [some (.ptr p), some (.tuz (rowD (n, sh ++ [f]) :: tl.map rowD)), none, none, none, none, none, none, none, none] μ
  have fmem : f ∈ (n, sh ++ [f]).2 := by simp
  have fok : FormOk f := form_at ok (List.mem_cons_self ..) fmem
  obtain ⟨x, c, hx⟩ : ∃ x c, f.code = x :: c := by
    have := fok.code.1
    cases e : f.code with
    | nil => rw [e] at this; exact absurd this (Nat.not_succ_le_zero 0)
    | cons x c => exact ⟨x, c, rfl⟩
  have h200 : ∀ d ∈ codesOf ((n, sh ++ [f]) :: tl), d.head? ≠ some 200 := plan.codes.hd
  have cc : cutD ((x :: c).map D.int) (some 1) none = c.map D.int := cutD_drop (n := 1)
  have clen := fok.code.2.1
  rw [hx, List.length_cons] at clen
  -- the near ones
  have near0 : NearOk n sh f tl ⟨200 :: c, f.fs⟩ := by
    refine ⟨rows_near ok rfl fok.fs ?_ ⟨by simp, by simpa using clen, fun y hy => ?_⟩ (.inr fun d hd => ?_), fun e => ?_⟩
    · unfold flen
      rw [hx]
      simp
    · rcases List.mem_cons.mp hy with rfl | hy
      · decide
      · exact fok.code.2.2 y (by rw [hx]; exact List.mem_cons_of_mem _ hy)
    · have hd2 : d ∈ codesOf ((n, sh ++ [f]) :: tl) := by
        rw [codes_cons]
        simp only [List.map_append, List.mem_append] at hd ⊢
        rcases hd with h | h
        · exact .inl (.inl h)
        · exact .inr h
      have h2 := h200 d hd2
      have h3 := (ok.codes.ok d hd2).1
      cases d with
      | nil => exact absurd h3 (Nat.not_succ_le_zero 0)
      | cons y t => exact apart_head fun e => h2 (by rw [e]; rfl)
    · have := (formD_inj e).1
      have h2 := h200 f.code (by rw [codes_cons]; simp)
      exact h2 (by rw [← this]; rfl)
  have nearT : ∀ (i : Nat) (d d' : D), f.fs[i]? = some d → FldOk d' → fw d' = fw d → d' ≠ d → NearOk n sh f tl ⟨f.code, f.fs.take i ++ [d'] ++ f.fs.drop (i + 1)⟩ := fun i d d' hd h1 h2 h3 => by
    have hi := (List.getElem?_eq_some_iff.mp hd).1
    have hl : (f.fs.take i ++ [d'] ++ f.fs.drop (i + 1)).length = f.fs.length := by
      simp only [List.length_append, List.length_take, List.length_drop, List.length_singleton]
      omega
    refine ⟨rows_near ok hl (fun y hy => ?_) ?_ fok.code (.inl rfl), fun e => ?_⟩
    · rcases List.mem_append.mp hy with hy | hy
      · rcases List.mem_append.mp hy with hy | hy
        · exact fok.fs y (List.mem_of_mem_take hy)
        · rw [List.mem_singleton.mp hy]; exact h1
      · exact fok.fs y (List.mem_of_mem_drop hy)
    · unfold flen
      rw [step_sum hd h2]
    · have e2 : f.fs.take i ++ [d'] ++ f.fs.drop (i + 1) = f.fs := (formD_inj e).2
      have e3 : (f.fs.take i ++ [d'] ++ f.fs.drop (i + 1))[i]? = some d' := by
        rw [List.append_assoc, List.getElem?_append_right (by rw [List.length_take]; omega), List.length_take, Nat.min_eq_left (Nat.le_of_lt hi), Nat.sub_self]
        rfl
      rw [e2, hd] at e3
      exact h3 (Option.some.inj e3).symm
  simp only [aSeq, aIf, aRet, aRetN, aDrop, aAsg, aNext, aPar, agName, agTup, agCons, agNil, agSub, rSetA, aTest, aOp, aUn, aV, aC, aI, aI0, aU, aEq, aNe, aCons, aNil, aTup, aLst, aCB, aIfE, aNotV, aNotT, aAndV, aOrV, aAndT, aOrT, aChain, aIxL, aIxT, aIxS, aSl, aPart, aNoPart, aSlL, aSlT, aSlS, aCat, aCatT, aAddS, aDGet, aDIn, aDGet2, asDPut, aDNewK, aDNewT, aCall, aBM, aAppend, aPopAt, aLenS, aLenStr, aListOf, aTupleOf, aInt1, aMin2, aIsi, aIsN, aNotN, aCont, aBreak, aNever, aDisp, aPairs, kvs?, mergeD, EndA, D.eq2, D.isNon, D.key, D.items, ptrList, listM, seqAt, Cell.items, dGetM, dPutM, isDict, tyOf, kitD, updM_same, updM_upd, List.set_cons_zero, List.set_cons_succ, List.getElem?_cons_zero, List.getElem?_cons_succ, List.length_cons, List.length_nil, Option.map_some, Option.bind_some, Option.isSome_some, Option.isSome_none, Option.getD_some, Option.getD_none, List.foldl_cons, List.foldl_nil, decide_eq_true_eq, if_true, if_false, Bool.not_true, Bool.not_false, Bool.false_eq_true, true_and, and_true, Nat.reduceLT, Int.reduceLT, Int.reduceLE, ↓reduceIte, r0, rowD, l0, formD, codeD, hx, cc]
  refine ⟨rfl, rfl, by decide, ?_⟩
  rw [List.length_map]
  refine ⟨by omega, by decide, by decide, ?_⟩
  intro q hq
  have nqp : q ≠ p := by
    obtain ⟨_, _, h1, _⟩ := ht
    exact fresh_ne hq h1
  simp only [aSeq, aIf, aRet, aRetN, aDrop, aAsg, aNext, aPar, agName, agTup, agCons, agNil, agSub, rSetA, aTest, aOp, aUn, aV, aC, aI, aI0, aU, aEq, aNe, aCons, aNil, aTup, aLst, aCB, aIfE, aNotV, aNotT, aAndV, aOrV, aAndT, aOrT, aChain, aIxL, aIxT, aIxS, aSl, aPart, aNoPart, aSlL, aSlT, aSlS, aCat, aCatT, aAddS, aDGet, aDIn, aDGet2, asDPut, aDNewK, aDNewT, aCall, aBM, aAppend, aPopAt, aLenS, aLenStr, aListOf, aTupleOf, aInt1, aMin2, aIsi, aIsN, aNotN, aCont, aBreak, aNever, aDisp, aPairs, kvs?, mergeD, EndA, D.eq2, D.isNon, D.key, D.items, ptrList, listM, seqAt, Cell.items, dGetM, dPutM, isDict, tyOf, kitD, updM_same, updM_upd, List.set_cons_zero, List.set_cons_succ, List.getElem?_cons_zero, List.getElem?_cons_succ, List.length_cons, List.length_nil, Option.map_some, Option.bind_some, Option.isSome_some, Option.isSome_none, Option.getD_some, Option.getD_none, List.foldl_cons, List.foldl_nil, decide_eq_true_eq, if_true, if_false, Bool.not_true, Bool.not_false, Bool.false_eq_true, true_and, and_true, Nat.reduceLT, Int.reduceLT, Int.reduceLE, ↓reduceIte, aFor, aIRng1]
  have few := fok.few
  refine ⟨by omega, by omega, ?_⟩
  refine ⟨fun i ρ' μ' => ∃ gs x7, ρ' = [some (.ptr p), some (.tuz (rowD (n, sh ++ [f]) :: tl.map rowD)), some (.str n), some (.tup ((sh ++ [f]).map formD)), some (codeD f.code), some (.tup f.fs), some (.ptr q), x7, none, none] ∧ μ' q = some (.lst (gs.map formD)) ∧ (∀ g ∈ gs, NearOk n sh f tl g) ∧ gs.length ≤ i + 1 ∧ Mle μ μ',
    ⟨[⟨200 :: c, f.fs⟩], none, by rw [hx]; rfl, updM_same, fun g hg => by rw [List.mem_singleton.mp hg]; exact near0, Nat.le_refl _, Mle.new hq⟩, fun _ _ _ _ _ => trivial, ?_, ?_⟩
  · rintro i y ρ' μ' hy ⟨gs, x7, rfl, g1, g2, g3, g4⟩
    obtain ⟨rfl, hi⟩ := rngD_at hy
    obtain ⟨d, hd⟩ : ∃ d, f.fs[i]? = some d := ⟨f.fs[i]'(by omega), List.getElem?_eq_getElem _⟩
    have ez : (0 : Int) + (i : Int) = (i : Int) := by omega
    have e1 : cutD f.fs none (some (i : Int)) = f.fs.take i := cutD_take
    have e2 : cutD f.fs (some ((i : Int) + 1)) none = f.fs.drop (i + 1) := cutD_drop (n := i + 1)
    have e3 : atI f.fs (i : Int) = some d := atI_nat hd
    simp only [aSeq, aIf, aRet, aRetN, aDrop, aAsg, aNext, aPar, agName, agTup, agCons, agNil, agSub, rSetA, aTest, aOp, aUn, aV, aC, aI, aI0, aU, aEq, aNe, aCons, aNil, aTup, aLst, aCB, aIfE, aNotV, aNotT, aAndV, aOrV, aAndT, aOrT, aChain, aIxL, aIxT, aIxS, aSl, aPart, aNoPart, aSlL, aSlT, aSlS, aCat, aCatT, aAddS, aDGet, aDIn, aDGet2, asDPut, aDNewK, aDNewT, aCall, aBM, aAppend, aPopAt, aLenS, aLenStr, aListOf, aTupleOf, aInt1, aMin2, aIsi, aIsN, aNotN, aCont, aBreak, aNever, aDisp, aPairs, kvs?, mergeD, EndA, D.eq2, D.isNon, D.key, D.items, ptrList, listM, seqAt, Cell.items, dGetM, dPutM, isDict, tyOf, kitD, updM_same, updM_upd, List.set_cons_zero, List.set_cons_succ, List.getElem?_cons_zero, List.getElem?_cons_succ, List.length_cons, List.length_nil, Option.map_some, Option.bind_some, Option.isSome_some, Option.isSome_none, Option.getD_some, Option.getD_none, List.foldl_cons, List.foldl_nil, decide_eq_true_eq, if_true, if_false, Bool.not_true, Bool.not_false, Bool.false_eq_true, true_and, and_true, Nat.reduceLT, Int.reduceLT, Int.reduceLE, ↓reduceIte, ez, e1, e2, e3, g1]
    refine ⟨d, rfl, fok.fs d (List.mem_of_getElem? hd), fun d' h1 h2 h3 => ?_⟩
    have hi2 := (List.getElem?_eq_some_iff.mp hd).1
    refine ⟨by decide, by rw [List.length_take]; omega, by rw [List.length_append, List.length_take, List.length_drop, List.length_singleton]; omega, by decide, ?_⟩
    simp only [aSeq, aIf, aRet, aRetN, aDrop, aAsg, aNext, aPar, agName, agTup, agCons, agNil, agSub, rSetA, aTest, aOp, aUn, aV, aC, aI, aI0, aU, aEq, aNe, aCons, aNil, aTup, aLst, aCB, aIfE, aNotV, aNotT, aAndV, aOrV, aAndT, aOrT, aChain, aIxL, aIxT, aIxS, aSl, aPart, aNoPart, aSlL, aSlT, aSlS, aCat, aCatT, aAddS, aDGet, aDIn, aDGet2, asDPut, aDNewK, aDNewT, aCall, aBM, aAppend, aPopAt, aLenS, aLenStr, aListOf, aTupleOf, aInt1, aMin2, aIsi, aIsN, aNotN, aCont, aBreak, aNever, aDisp, aPairs, kvs?, mergeD, EndA, D.eq2, D.isNon, D.key, D.items, ptrList, listM, seqAt, Cell.items, dGetM, dPutM, isDict, tyOf, kitD, updM_same, updM_upd, List.set_cons_zero, List.set_cons_succ, List.getElem?_cons_zero, List.getElem?_cons_succ, List.length_cons, List.length_nil, Option.map_some, Option.bind_some, Option.isSome_some, Option.isSome_none, Option.getD_some, Option.getD_none, List.foldl_cons, List.foldl_nil, decide_eq_true_eq, if_true, if_false, Bool.not_true, Bool.not_false, Bool.false_eq_true, true_and, and_true, Nat.reduceLT, Int.reduceLT, Int.reduceLE, ↓reduceIte, g1]
    refine ⟨by rw [List.length_map]; omega, gs ++ [⟨f.code, f.fs.take i ++ [d'] ++ f.fs.drop (i + 1)⟩], _, rfl, by rw [List.map_append]; rfl, fun g hg => ?_, by rw [List.length_append, List.length_singleton]; omega, mle_upd g4 hq⟩
    rcases List.mem_append.mp hg with hg | hg
    · exact g2 g hg
    · rw [List.mem_singleton.mp hg]; exact nearT i d d' hd h1 h2 h3
  · rintro ρ' μ' ⟨gs, x7, rfl, g1, g2, g3, g4⟩
    rw [rngD_len] at g3
    simp only [aSeq, aIf, aRet, aRetN, aDrop, aAsg, aNext, aPar, agName, agTup, agCons, agNil, agSub, rSetA, aTest, aOp, aUn, aV, aC, aI, aI0, aU, aEq, aNe, aCons, aNil, aTup, aLst, aCB, aIfE, aNotV, aNotT, aAndV, aOrV, aAndT, aOrT, aChain, aIxL, aIxT, aIxS, aSl, aPart, aNoPart, aSlL, aSlT, aSlS, aCat, aCatT, aAddS, aDGet, aDIn, aDGet2, asDPut, aDNewK, aDNewT, aCall, aBM, aAppend, aPopAt, aLenS, aLenStr, aListOf, aTupleOf, aInt1, aMin2, aIsi, aIsN, aNotN, aCont, aBreak, aNever, aDisp, aPairs, kvs?, mergeD, EndA, D.eq2, D.isNon, D.key, D.items, ptrList, listM, seqAt, Cell.items, dGetM, dPutM, isDict, tyOf, kitD, updM_same, updM_upd, List.set_cons_zero, List.set_cons_succ, List.getElem?_cons_zero, List.getElem?_cons_succ, List.length_cons, List.length_nil, Option.map_some, Option.bind_some, Option.isSome_some, Option.isSome_none, Option.getD_some, Option.getD_none, List.foldl_cons, List.foldl_nil, decide_eq_true_eq, if_true, if_false, Bool.not_true, Bool.not_false, Bool.false_eq_true, true_and, and_true, Nat.reduceLT, Int.reduceLT, Int.reduceLE, ↓reduceIte, aFor, aIList, g1]
    refine ⟨fun i ρ' μ' => ∃ x8 x9, ρ' = [some (.ptr p), some (.tuz (rowD (n, sh ++ [f]) :: tl.map rowD)), some (.str n), some (.tup ((sh ++ [f]).map formD)), some (codeD f.code), some (.tup f.fs), some (.ptr q), x7, x8, x9] ∧ μ' q = some (.lst (gs.map formD)) ∧ Mle μ μ', ⟨none, none, rfl, g1, g4⟩, fun i ρ' μ' _ ⟨x8, x9, _, e1, _⟩ => by rw [e1]; rfl, ?_, ?_⟩
    · rintro i y ρ' μ2 hy ⟨x8, x9, rfl, e1, e2⟩
      rw [List.getElem?_map] at hy
      obtain ⟨g, hg, rfl⟩ := Option.map_eq_some_iff.mp hy
      obtain ⟨rk, nd⟩ := g2 g (List.mem_of_getElem? hg)
      have ci : cutD ((sh ++ [f]).map formD) none (some (-1)) = sh.map formD := by rw [List.map_append]; exact cutD_init
      have cx : cutD (rowD (n, sh ++ [f]) :: tl.map rowD) (some 1) none = tl.map rowD := cutD_drop (n := 1)
      have s6 : sh.length ≤ 6 := by
        have := (ok.forms (n, sh ++ [f]) (List.mem_cons_self ..)).2.1
        rw [List.length_append] at this
        omega
      have t3 : tl.length ≤ 3 := by rw [List.length_cons] at h3; omega
      simp only [aSeq, aIf, aRet, aRetN, aDrop, aAsg, aNext, aPar, agName, agTup, agCons, agNil, agSub, rSetA, aTest, aOp, aUn, aV, aC, aI, aI0, aU, aEq, aNe, aCons, aNil, aTup, aLst, aCB, aIfE, aNotV, aNotT, aAndV, aOrV, aAndT, aOrT, aChain, aIxL, aIxT, aIxS, aSl, aPart, aNoPart, aSlL, aSlT, aSlS, aCat, aCatT, aAddS, aDGet, aDIn, aDGet2, asDPut, aDNewK, aDNewT, aCall, aBM, aAppend, aPopAt, aLenS, aLenStr, aListOf, aTupleOf, aInt1, aMin2, aIsi, aIsN, aNotN, aCont, aBreak, aNever, aDisp, aPairs, kvs?, mergeD, EndA, D.eq2, D.isNon, D.key, D.items, ptrList, listM, seqAt, Cell.items, dGetM, dPutM, isDict, tyOf, kitD, updM_same, updM_upd, List.set_cons_zero, List.set_cons_succ, List.getElem?_cons_zero, List.getElem?_cons_succ, List.length_cons, List.length_nil, Option.map_some, Option.bind_some, Option.isSome_some, Option.isSome_none, Option.getD_some, Option.getD_none, List.foldl_cons, List.foldl_nil, decide_eq_true_eq, if_true, if_false, Bool.not_true, Bool.not_false, Bool.false_eq_true, true_and, and_true, Nat.reduceLT, Int.reduceLT, Int.reduceLE, ↓reduceIte, aCMeth, ci, sx, false_and, cx]
      refine ⟨by decide, by rw [List.length_map]; omega, by decide, by decide, by rw [List.length_map]; omega, ?_⟩
      refine ⟨_, (n, sh ++ [g]) :: tl, rfl, .inl (by rw [List.map_cons]; unfold rowD; rw [List.map_append]; rfl), rk, fun l μ3 hl m3 t3 => ?_⟩
      have pp := (ht.up e2).up m3
      have ne : ((n, sh ++ [f]) :: tl).map rowD ≠ ((n, sh ++ [g]) :: tl).map rowD := fun e => by
        have e1 := (List.cons.inj (show rowD (n, sh ++ [f]) :: tl.map rowD = rowD (n, sh ++ [g]) :: tl.map rowD from e)).1
        have e2 : (sh ++ [f]).map formD = (sh ++ [g]).map formD := D.tup.inj (List.cons.inj (List.cons.inj (D.tup.inj e1)).2).1
        rw [List.map_append, List.map_append] at e2
        exact nd (List.cons.inj (List.append_cancel_left e2)).1.symm
      refine eqO_no pp t3 ok.p rk.p ne ?_
      simp only [aSeq, aIf, aRet, aRetN, aDrop, aAsg, aNext, aPar, agName, agTup, agCons, agNil, agSub, rSetA, aTest, aOp, aUn, aV, aC, aI, aI0, aU, aEq, aNe, aCons, aNil, aTup, aLst, aCB, aIfE, aNotV, aNotT, aAndV, aOrV, aAndT, aOrT, aChain, aIxL, aIxT, aIxS, aSl, aPart, aNoPart, aSlL, aSlT, aSlS, aCat, aCatT, aAddS, aDGet, aDIn, aDGet2, asDPut, aDNewK, aDNewT, aCall, aBM, aAppend, aPopAt, aLenS, aLenStr, aListOf, aTupleOf, aInt1, aMin2, aIsi, aIsN, aNotN, aCont, aBreak, aNever, aDisp, aPairs, kvs?, mergeD, EndA, D.eq2, D.isNon, D.key, D.items, ptrList, listM, seqAt, Cell.items, dGetM, dPutM, isDict, tyOf, kitD, updM_same, updM_upd, List.set_cons_zero, List.set_cons_succ, List.getElem?_cons_zero, List.getElem?_cons_succ, List.length_cons, List.length_nil, Option.map_some, Option.bind_some, Option.isSome_some, Option.isSome_none, Option.getD_some, Option.getD_none, List.foldl_cons, List.foldl_nil, decide_eq_true_eq, if_true, if_false, Bool.not_true, Bool.not_false, Bool.false_eq_true, true_and, and_true, Nat.reduceLT, Int.reduceLT, Int.reduceLE, ↓reduceIte, id]
      refine eqO_no pp t3 ok.p rk.p ne ?_
      simp only [aSeq, aIf, aRet, aRetN, aDrop, aAsg, aNext, aPar, agName, agTup, agCons, agNil, agSub, rSetA, aTest, aOp, aUn, aV, aC, aI, aI0, aU, aEq, aNe, aCons, aNil, aTup, aLst, aCB, aIfE, aNotV, aNotT, aAndV, aOrV, aAndT, aOrT, aChain, aIxL, aIxT, aIxS, aSl, aPart, aNoPart, aSlL, aSlT, aSlS, aCat, aCatT, aAddS, aDGet, aDIn, aDGet2, asDPut, aDNewK, aDNewT, aCall, aBM, aAppend, aPopAt, aLenS, aLenStr, aListOf, aTupleOf, aInt1, aMin2, aIsi, aIsN, aNotN, aCont, aBreak, aNever, aDisp, aPairs, kvs?, mergeD, EndA, D.eq2, D.isNon, D.key, D.items, ptrList, listM, seqAt, Cell.items, dGetM, dPutM, isDict, tyOf, kitD, updM_same, updM_upd, List.set_cons_zero, List.set_cons_succ, List.getElem?_cons_zero, List.getElem?_cons_succ, List.length_cons, List.length_nil, Option.map_some, Option.bind_some, Option.isSome_some, Option.isSome_none, Option.getD_some, Option.getD_none, List.foldl_cons, List.foldl_nil, decide_eq_true_eq, if_true, if_false, Bool.not_true, Bool.not_false, Bool.false_eq_true, true_and, and_true, Nat.reduceLT, Int.reduceLT, Int.reduceLE, ↓reduceIte]
      refine eqO_no t3 pp rk.p ok.p (fun e => ne e.symm) ?_
      simp only [aSeq, aIf, aRet, aRetN, aDrop, aAsg, aNext, aPar, agName, agTup, agCons, agNil, agSub, rSetA, aTest, aOp, aUn, aV, aC, aI, aI0, aU, aEq, aNe, aCons, aNil, aTup, aLst, aCB, aIfE, aNotV, aNotT, aAndV, aOrV, aAndT, aOrT, aChain, aIxL, aIxT, aIxS, aSl, aPart, aNoPart, aSlL, aSlT, aSlS, aCat, aCatT, aAddS, aDGet, aDIn, aDGet2, asDPut, aDNewK, aDNewT, aCall, aBM, aAppend, aPopAt, aLenS, aLenStr, aListOf, aTupleOf, aInt1, aMin2, aIsi, aIsN, aNotN, aCont, aBreak, aNever, aDisp, aPairs, kvs?, mergeD, EndA, D.eq2, D.isNon, D.key, D.items, ptrList, listM, seqAt, Cell.items, dGetM, dPutM, isDict, tyOf, kitD, updM_same, updM_upd, List.set_cons_zero, List.set_cons_succ, List.getElem?_cons_zero, List.getElem?_cons_succ, List.length_cons, List.length_nil, Option.map_some, Option.bind_some, Option.isSome_some, Option.isSome_none, Option.getD_some, Option.getD_none, List.foldl_cons, List.foldl_nil, decide_eq_true_eq, if_true, if_false, Bool.not_true, Bool.not_false, Bool.false_eq_true, true_and, and_true, Nat.reduceLT, Int.reduceLT, Int.reduceLE, ↓reduceIte, id]
      exact ⟨_, _, rfl, m3 _ _ e1, e2.trans m3⟩
    · rintro ρ' μ2 ⟨x8, x9, rfl, e1, e2⟩
      exact ⟨μ, e2, k⟩
end
end M53

set_option maxHeartbeats 4000000
namespace M53
open PySem PySem.Spec PyProof.Rows L2 Evl Gd DL StX
/-! ### the law -/
section
variable {P : Program} {w : World} {K : PySem.W.Frag} {mg : Str → Option Value} {base : Heap} {C NI fI fO fR fN fH fG fE : Addr}
def ctBeginK (K : PySem.W.Frag) : Ct := fun ds μ Q => ∃ (s : Addr) (i : Int) (is : List Int), ds = [.ptr s, .int i] ∧ Script K μ s is ∧ 0 ≤ i ∧ ∀ p c, μ p = none → StC c → Q (.ptr p) (updM μ p c)
theorem ok_law_beginK {f : Addr} {fd : FuncData} (F : Fun K "_law_begin" "_law_begin" s_law_begin f fd) (T : Tx K mg) : FnOk P w K mg base CX0 1 f fd ["_law_script", "_law_spot"] (spOf (ctBeginK K)) := by
  refine okD F sc_law_begin (fun ds μ Q h => ?_) (fun cdv A outer s H E hr => ⟨_, (qss_cons (qs_set (i := 2) sc_law_begin.nd rfl (Or.inl rfl) (qe_ifExp (qt_cmpR (oq_neK hr.units) (qv 0) (qe_lst qa_nil) (nomark _)) (qe_ix iq_K (qv 0) (qe_op oq_modN (qe_callTy cq_int1 (by rfl) T.b_int (by decide +kernel) (qa_cons (qv 1) qa_nil)) (qe_callB cq_lenK (by rfl) T.b_len (by decide +kernel) (qa_cons (qv 0) qa_nil))) (fun _ _ => rfl)) qe_int))
  (qss_one (qs_ret (qe_disp (QPs.cons qe_str (qe_ifExp (qt_cmpR oq_ge (qv 2) (qe_op oq_pow qe_int qe_int) (nomark _)) (qv 2) qe_int) (QPs.cons qe_str (qe_op oq_mod (qe_callTy cq_int1 (by rfl) T.b_int (by decide +kernel) (qa_cons (qe_op oq_add (qe_op oq_add (qe_op oq_mul qe_int (qv 2)) (qv 1)) qe_int) qa_nil)) qe_int) (QPs.cons qe_str qe_int QPs.nil))) rfl rfl (List.cons_ne_nil _ _) (by decide))))), ?_⟩)
  · obtain ⟨p, n, c, rfl, _⟩ := h
    rfl
  rintro ds μ Q ⟨s, i, is, rfl, hs, h0, k⟩
  show (_ : AS) (EndA Q) [some (.ptr s), some (.int i), none] μ
  simp only [aSeq, aIf, aRet, aRetN, aDrop, aAsg, aNext, aPar, agName, agTup, agCons, agNil, agSub, rSetA, aTest, aOp, aUn, aV, aC, aI, aI0, aU, aEq, aNe, aCons, aNil, aTup, aLst, aCB, aIfE, aNotV, aNotT, aAndV, aOrV, aAndT, aOrT, aChain, aIxL, aIxT, aIxS, aSl, aPart, aNoPart, aSlL, aSlT, aSlS, aCat, aCatT, aAddS, aDGet, aDIn, aDGet2, asDPut, aDNewK, aDNewT, aCall, aBM, aAppend, aPopAt, aLenS, aLenStr, aListOf, aTupleOf, aInt1, aMin2, aIsi, aIsN, aNotN, aCont, aBreak, aNever, aDisp, aPairs, kvs?, mergeD, EndA, D.eq2, D.isNon, D.key, D.items, ptrList, listM, seqAt, Cell.items, dGetM, dPutM, isDict, tyOf, kitD, updM_same, updM_upd, List.set_cons_zero, List.set_cons_succ, List.getElem?_cons_zero, List.getElem?_cons_succ, List.length_cons, List.length_nil, Option.map_some, Option.bind_some, Option.isSome_some, Option.isSome_none, Option.getD_some, Option.getD_none, List.foldl_cons, List.foldl_nil, decide_eq_true_eq, if_true, if_false, Bool.not_true, Bool.not_false, Bool.false_eq_true, true_and, and_true, Nat.reduceLT, Int.reduceLT, Int.reduceLE, ↓reduceIte, pow18]
  refine ⟨by decide, fun e he => ?_⟩
  have hs' : Script K (updM μ e (.lst [])) s is := hs.up fun c hc => by rw [updM_ne (fresh_ne he hc).symm]; exact hc
  have hf : ∀ p (c : Cell), updM μ e (.lst []) p = none → StC c → ∃ μ1, Mle μ1 (updM (updM μ e (.lst [])) p c) ∧ Q (.ptr p) μ1 := fun p c hp hc => by
    obtain ⟨_, hp⟩ := fresh_upd hp
    exact ⟨_, (Mle.new he).upd, k p c hp hc⟩
  refine ⟨s, is, e, rfl, rfl, hs', list_at, ?_⟩
  cases is with
  | nil =>
    simp only [aSeq, aIf, aRet, aRetN, aDrop, aAsg, aNext, aPar, agName, agTup, agCons, agNil, agSub, rSetA, aTest, aOp, aUn, aV, aC, aI, aI0, aU, aEq, aNe, aCons, aNil, aTup, aLst, aCB, aIfE, aNotV, aNotT, aAndV, aOrV, aAndT, aOrT, aChain, aIxL, aIxT, aIxS, aSl, aPart, aNoPart, aSlL, aSlT, aSlS, aCat, aCatT, aAddS, aDGet, aDIn, aDGet2, asDPut, aDNewK, aDNewT, aCall, aBM, aAppend, aPopAt, aLenS, aLenStr, aListOf, aTupleOf, aInt1, aMin2, aIsi, aIsN, aNotN, aCont, aBreak, aNever, aDisp, aPairs, kvs?, mergeD, EndA, D.eq2, D.isNon, D.key, D.items, ptrList, listM, seqAt, Cell.items, dGetM, dPutM, isDict, tyOf, kitD, updM_same, updM_upd, List.set_cons_zero, List.set_cons_succ, List.getElem?_cons_zero, List.getElem?_cons_succ, List.length_cons, List.length_nil, Option.map_some, Option.bind_some, Option.isSome_some, Option.isSome_none, Option.getD_some, Option.getD_none, List.foldl_cons, List.foldl_nil, decide_eq_true_eq, if_true, if_false, Bool.not_true, Bool.not_false, Bool.false_eq_true, true_and, and_true, Nat.reduceLT, Int.reduceLT, Int.reduceLE, ↓reduceIte, List.isEmpty_nil, pow18]
    exact fun p hp => ⟨by unfold CPow; decide, .inl (by decide), by decide, hf p _ hp ⟨_, _, _, rfl⟩⟩
  | cons x xs =>
    have hl : (0 : Int) < ((x :: xs).length : Int) := by rw [List.length_cons]; omega
    have f0 := Int.fmod_nonneg_of_pos i hl
    have f1 := Int.fmod_lt_of_pos i hl
    obtain ⟨j, hj⟩ : ∃ j : Nat, i.fmod ((x :: xs).length : Int) = (j : Int) := ⟨_, (Int.toNat_of_nonneg f0).symm⟩
    rw [hj] at f1
    have hx : j < (x :: xs).length := by omega
    have ha : L2.atI (x :: xs) (j : Int) = some (x :: xs)[j] := atI_nat (List.getElem?_eq_getElem hx)
    simp only [aSeq, aIf, aRet, aRetN, aDrop, aAsg, aNext, aPar, agName, agTup, agCons, agNil, agSub, rSetA, aTest, aOp, aUn, aV, aC, aI, aI0, aU, aEq, aNe, aCons, aNil, aTup, aLst, aCB, aIfE, aNotV, aNotT, aAndV, aOrV, aAndT, aOrT, aChain, aIxL, aIxT, aIxS, aSl, aPart, aNoPart, aSlL, aSlT, aSlS, aCat, aCatT, aAddS, aDGet, aDIn, aDGet2, asDPut, aDNewK, aDNewT, aCall, aBM, aAppend, aPopAt, aLenS, aLenStr, aListOf, aTupleOf, aInt1, aMin2, aIsi, aIsN, aNotN, aCont, aBreak, aNever, aDisp, aPairs, kvs?, mergeD, EndA, D.eq2, D.isNon, D.key, D.items, ptrList, listM, seqAt, Cell.items, dGetM, dPutM, isDict, tyOf, kitD, updM_same, updM_upd, List.set_cons_zero, List.set_cons_succ, List.getElem?_cons_zero, List.getElem?_cons_succ, List.length_cons, List.length_nil, Option.map_some, Option.bind_some, Option.isSome_some, Option.isSome_none, Option.getD_some, Option.getD_none, List.foldl_cons, List.foldl_nil, decide_eq_true_eq, if_true, if_false, Bool.not_true, Bool.not_false, Bool.false_eq_true, true_and, and_true, Nat.reduceLT, Int.reduceLT, Int.reduceLE, ↓reduceIte, List.isEmpty_cons]
    refine ⟨s, x :: xs, rfl, hs', ?_⟩
    simp only [aSeq, aIf, aRet, aRetN, aDrop, aAsg, aNext, aPar, agName, agTup, agCons, agNil, agSub, rSetA, aTest, aOp, aUn, aV, aC, aI, aI0, aU, aEq, aNe, aCons, aNil, aTup, aLst, aCB, aIfE, aNotV, aNotT, aAndV, aOrV, aAndT, aOrT, aChain, aIxL, aIxT, aIxS, aSl, aPart, aNoPart, aSlL, aSlT, aSlS, aCat, aCatT, aAddS, aDGet, aDIn, aDGet2, asDPut, aDNewK, aDNewT, aCall, aBM, aAppend, aPopAt, aLenS, aLenStr, aListOf, aTupleOf, aInt1, aMin2, aIsi, aIsN, aNotN, aCont, aBreak, aNever, aDisp, aPairs, kvs?, mergeD, EndA, D.eq2, D.isNon, D.key, D.items, ptrList, listM, seqAt, Cell.items, dGetM, dPutM, isDict, tyOf, kitD, updM_same, updM_upd, List.set_cons_zero, List.set_cons_succ, List.getElem?_cons_zero, List.getElem?_cons_succ, List.length_cons, List.length_nil, Option.map_some, Option.bind_some, Option.isSome_some, Option.isSome_none, Option.getD_some, Option.getD_none, List.foldl_cons, List.foldl_nil, decide_eq_true_eq, if_true, if_false, Bool.not_true, Bool.not_false, Bool.false_eq_true, true_and, and_true, Nat.reduceLT, Int.reduceLT, Int.reduceLE, ↓reduceIte]
    refine ⟨by have := hl; omega, ?_⟩
    rw [List.length_cons] at hj
    rw [hj]
    refine ⟨s, x :: xs, (j : Int), (x :: xs)[j], rfl, rfl, hs', ha, ?_⟩
    generalize (x :: xs)[j] = y
    simp only [aSeq, aIf, aRet, aRetN, aDrop, aAsg, aNext, aPar, agName, agTup, agCons, agNil, agSub, rSetA, aTest, aOp, aUn, aV, aC, aI, aI0, aU, aEq, aNe, aCons, aNil, aTup, aLst, aCB, aIfE, aNotV, aNotT, aAndV, aOrV, aAndT, aOrT, aChain, aIxL, aIxT, aIxS, aSl, aPart, aNoPart, aSlL, aSlT, aSlS, aCat, aCatT, aAddS, aDGet, aDIn, aDGet2, asDPut, aDNewK, aDNewT, aCall, aBM, aAppend, aPopAt, aLenS, aLenStr, aListOf, aTupleOf, aInt1, aMin2, aIsi, aIsN, aNotN, aCont, aBreak, aNever, aDisp, aPairs, kvs?, mergeD, EndA, D.eq2, D.isNon, D.key, D.items, ptrList, listM, seqAt, Cell.items, dGetM, dPutM, isDict, tyOf, kitD, updM_same, updM_upd, List.set_cons_zero, List.set_cons_succ, List.getElem?_cons_zero, List.getElem?_cons_succ, List.length_cons, List.length_nil, Option.map_some, Option.bind_some, Option.isSome_some, Option.isSome_none, Option.getD_some, Option.getD_none, List.foldl_cons, List.foldl_nil, decide_eq_true_eq, if_true, if_false, Bool.not_true, Bool.not_false, Bool.false_eq_true, true_and, and_true, Nat.reduceLT, Int.reduceLT, Int.reduceLE, ↓reduceIte]
    refine fun p hp => ⟨by unfold CPow; decide, ?_⟩
    split <;> exact ⟨.inl (by decide), by decide, hf p _ hp ⟨_, _, _, rfl⟩⟩
/-! what is odd -/
def OddOk (μ : Mu) (d : D) (t : Str) : Prop := (∃ n k, d.flat n = true ∧ n ≤ 63 ∧ Pr k d.py ∧ k ≤ 90000 ∧ t = (PyData.list [d.py]).shown) ∨ (∃ b z, d = .ptr b ∧ μ b = some (.lst [.str z]) ∧ Pr 100 (.str z) ∧ t = (PyData.list [.list [.str z]]).shown) ∨ (∃ e, d = .ptr e ∧ μ e = some (.dk []) ∧ t = (PyData.list [.dict []]).shown)
theorem OddOk.up {μ μ' : Mu} {d : D} {t : Str} (h : OddOk μ d t) (m : Mle μ μ') : OddOk μ' d t := by
  rcases h with h | ⟨b, z, h1, h2, h3⟩ | ⟨e, h1, h2, h3⟩
  · exact .inl h
  · exact .inr (.inl ⟨b, z, h1, m _ _ h2, h3⟩)
  · exact .inr (.inr ⟨e, h1, m _ _ h2, h3⟩)
theorem odd_repr {μ : Mu} {d : D} {t : Str} {l : Addr} {Q : DK} (h : OddOk μ d t) (hl : μ l = some (.lst [d])) (nl : l ≠ sysModules) (q : Q (.str t) μ) : aRepr2 [.ptr l] μ Q := by
  rcases h with ⟨n, k, h1, h2, h3, h4, rfl⟩ | ⟨b, z, rfl, h2, h3, rfl⟩ | ⟨e, rfl, h2, rfl⟩
  · exact repr_list (n := n) (k := (k + 1) * 1) (ys := [d]) (list_cell hl) (fun y hy => by rw [List.mem_singleton.mp hy]; exact h1) h2 (pr_list (k := k) (m := 1) (fun x hx => by rw [List.mem_singleton.mp hx]; exact h3) (Nat.le_refl _)) (by omega) q
  · exact repr_list2 (list_cell hl) (list_cell h2) h3 q
  · exact .inr ⟨l, e, rfl, nl, hl, h2, q⟩
def oddS (z : Str) : Bool := PyData.strOk z && (PyData.leavesShort 100 (.str z) && (decide (z.cps.size ≤ 100) && !TITLES.contains z))
theorem odd_str {μ : Mu} {z : Str} (h : oddS z = true) : (∃ t, OddOk μ (.str z) t) ∧ z ∉ TITLES := by
  unfold oddS at h
  simp only [Bool.and_eq_true, decide_eq_true_eq, Bool.not_eq_true', List.contains_eq_mem, decide_eq_false_iff_not] at h
  obtain ⟨h1, h2, h3, h4⟩ := h
  exact ⟨⟨_, .inl ⟨0, 100, h1, by decide, by rw [py_str]; exact pr_str h2 h3, by decide, rfl⟩⟩, h4⟩
theorem titles_odd : TITLES.all (fun z => oddS (z ++ Str.ofString "a") && (oddS (cutS z none (some (-1))) && decide (z.length ≤ 90000))) = true := by decide +kernel
def ctLaw (K : PySem.W.Frag) : Ct := fun ds μ Q => ∃ s is, ds = [.ptr s] ∧ Script K μ s is ∧ is.length ≤ 63 ∧ ∀ μ', Q (.bl true) μ'
/-- a table stands on while the state of the draws changes -/
theorem TabAt.upX {μ μ' : Mu} {p x : Addr} {c : Cell} {rs : List Row} (h : TabAt C μ x rs) (hp : μ p = some c) (hc : StC c) (m : MleX [p] μ μ') : TabAt C μ' x rs := by
  obtain ⟨q, r, h1, h2⟩ := h
  obtain ⟨a, b, t, rfl⟩ := hc
  have n1 : x ≠ p := fun e => by rw [e, hp] at h1; cases h1
  have n2 : q ≠ p := fun e => by
    rw [e, hp] at h2
    have e2 := Cell.dk.inj (Option.some.inj h2)
    unfold kv3 kvF at e2
    cases rs with
    | nil => simp at e2
    | cons r rs =>
      have e3 := (Prod.mk.inj (List.cons.inj e2).1).2
      cases e3
  exact ⟨q, r, m.get (by simpa using n1) h1, m.get (by simpa using n2) h2⟩
def N_law : List Str := ["_law_script", "_law_spot", "_law_m", "_law_plan_here", "_law_some", "_law_again", "_law_turn", "_law_near", "_law_odd", "_law_bare"]
abbrev s_law : Stmt := top 64
theorem sc_law : FnScope N_law ["_law_script"] (defScope s_law) := ⟨rfl, rfl, rfl, by decide +kernel, rfl, by decide +kernel, by decide +kernel⟩
theorem ok_law {f : Addr} {fd : FuncData} (F : Fun K "law" "law" s_law f fd) (T : Tx K mg) (M : TabM P w K mg base C fI fO fR fN fH fG fE)
    (D_law_begin : Df P w K mg base CX0 1 "_law_begin" ["_law_script", "_law_spot"] (spOf (ctBeginK K))) (D_law_plan : Df P w K mg base CX0 5 "_law_plan" ["_law_m"] (spOf ctPlan)) (D_law_pick : Df P w K mg base CX0 2 "_law_pick" ["_law_m", "_law_items"] (spOf ctPick))
    (D_law_made : Df P w K mg base CX0 8 "_law_made" ["_law_plan_here"] (spOf (ctMade C))) (D_law_tells : DfG P w K mg base CX0 4 "_law_tells" ["_law_some", "_law_plan_here"] (spOf (ctTells C))) (D_law_unlike : Df P w K mg base CX0 10 "_law_unlike" ["_law_some", "_law_plan_here"] (spOf (ctUnlike C)))
    (D_law_near_unlike : Df P w K mg base CX0 10 "_law_near_unlike" ["_law_some", "_law_plan_here"] (spOf (ctNear C))) (D_law_failed : Df P w K mg base CX0 7 "_law_failed" ["_law_some", "_law_odd"] (spOf (ctFailed C))) : GOk P w K mg base CX0 11 f fd ["_law_script"] (spOf (ctLaw K)) := by
  obtain ⟨_, OP, BP⟩ := M.pr
  obtain ⟨_, ON, BN⟩ := M.lnF
  obtain ⟨_, OH, BH⟩ := M.hsF
  obtain ⟨_, OE, BE⟩ := M.eqF
  obtain ⟨_, CM⟩ := M.cm
  refine okDG F sc_law (fun ds μ Q h => ?_) (fun cdv A outer s H E ca hr => ⟨_, (qss_cons (qs_for PassesOwn.never rfl (qi_range1 rfl T.b_range (qa_cons (qe_op oq_add qe_int (qe_callB (cq_min2 rfl) (by rfl) T.b_min (by decide +kernel) (qa_cons qe_int (qa_cons (qe_callB cq_lenK (by rfl) T.b_len (by decide +kernel) (qa_cons (qv 0) qa_nil)) qa_nil)))) qa_nil)) (qg_name (i := 1) sc_law.nd rfl (Or.inl rfl))
    (qss_cons (qs_set (i := 2) sc_law.nd rfl (Or.inl rfl) (qe_df D_law_begin (hr.mono (by decide)) rfl (qa_cons (qv 0) (qa_cons (qv 1) qa_nil))))
      (qss_cons (qs_set (i := 3) sc_law.nd rfl (Or.inl rfl) (qe_df D_law_plan (hr.mono (by decide)) rfl (qa_cons (qv 2) qa_nil)))
      (qss_cons (qs_par (i := 4) (j := 5) (by rfl) sc_law.nd rfl rfl (by decide) rfl rfl (qa_cons (qe_cmeth (qe_gR rfl M.g) M.cr CM M.of_ (hr.mono (by decide)) (qa_cons (qv 3) qa_nil)) (qa_cons (qe_df D_law_made (hr.mono (by decide)) rfl (qa_cons (qv 3) qa_nil)) qa_nil)) (by rfl))
      (qss_cons (qs_if (QW.pt (qw_or (qt_not (qt_cmpR (oq_eqO M.eq OE (hr.mono (by decide)) BE) (qv 4) (qv 5) (nomark _))) (qw_or (qt_cmpR (oq_neO M.eq OE (hr.mono (by decide)) BE) (qv 4) (qv 5) (nomark _)) (qw_or (qt_not (qt_val (qe_dfG D_law_tells ca (hr.mono (by decide)) rfl (qa_cons (qv 4) (qa_cons (qv 3) qa_nil))) (by intro _; rfl))) (qw_or1 (qt_not (qt_val (qe_dfG D_law_tells ca (hr.mono (by decide)) rfl (qa_cons (qv 5) (qa_cons (qv 3) qa_nil))) (by intro _; rfl))))))))
        (qss_one (qs_ret qe_bl))
        qss_nil)
      (qss_cons (qs_if (QW.pt (qw_or (qt_not (qt_val (qe_df D_law_unlike (hr.mono (by decide)) rfl (qa_cons (qv 4) (qa_cons (qv 3) qa_nil))) (by intro _; rfl))) (qw_or1 (qt_not (qt_val (qe_df D_law_near_unlike (hr.mono (by decide)) rfl (qa_cons (qv 4) (qa_cons (qv 3) qa_nil))) (by intro _; rfl))))))
        (qss_one (qs_ret qe_bl))
        qss_nil)
      (qss_cons (qs_for PassesOwn.never rfl (qi_range1 rfl T.b_range (qa_cons qe_int qa_nil)) (qg_name (i := 6) sc_law.nd rfl (Or.inl rfl))
        (qss_cons (qs_set (i := 7) sc_law.nd rfl (Or.inl rfl) (qe_lst (qa_cons (qe_op oq_add_str (qe_ix iq_tup (qe_ix iq_tup (qv 3) qe_int (fun _ _ => rfl)) qe_int (fun _ _ => rfl)) qe_str) (qa_cons (qe_slice slq_str (qe_ix iq_tup (qe_ix iq_tup (qv 3) qe_int (fun _ _ => rfl)) qe_int (fun _ _ => rfl)) qo_none (qo_some (qe_un uq_neg qe_int))) (qa_cons (qv 3) (qa_cons (qe_ix iq_tup (qv 3) qe_int (fun _ _ => rfl)) qa_nil))))))
          (qss_cons (qs_set (i := 8) sc_law.nd rfl (Or.inl rfl) (qe_df D_law_pick (hr.mono (by decide)) rfl (qa_cons (qv 2) (qa_cons (qe_op oq_cat (qv 7) (qe_lst (qa_cons qe_non (qa_cons qe_int (qa_cons qe_str (qa_cons qe_str (qa_cons qe_bl (qa_cons (qe_tup (qa_cons qe_str qa_nil)) (qa_cons (qe_lst (qa_cons qe_str qa_nil)) (qa_cons qe_dnewK qa_nil)))))))))) qa_nil))))
          (qss_one (qs_if (QW.pt (qw_or (qt_cmpR (oq_inO M.hs.1 M.hs.2 OH (hr.mono (by decide)) BH) (qv 8) (qv 4) rfl) (qw_or1 (qt_cmpR oq_ne (qe_callB (cq_repr2 ca hr) (by rfl) T.b_repr (by decide +kernel) (qa_cons (qe_df D_law_failed (hr.mono (by decide)) rfl (qa_cons (qv 4) (qa_cons (qv 8) qa_nil))) qa_nil)) (qe_callB (cq_repr2 ca hr) (by rfl) T.b_repr (by decide +kernel) (qa_cons (qe_lstN (qa_cons (qv 8) qa_nil)) qa_nil)) (nomark _)))))
            (qss_one (qs_ret qe_bl))
            qss_nil)))))
      (qss_one (qs_if (qt_not (qt_val (qe_dfG D_law_tells ca (hr.mono (by decide)) rfl (qa_cons (qv 4) (qa_cons (qv 3) qa_nil))) (by intro _; rfl)))
        (qss_one (qs_ret qe_bl))
        qss_nil)))))))))
  (qss_cons (qs_set (i := 9) sc_law.nd rfl (Or.inl rfl) (qe_make0 M.mka M.fi (hr.mono (by decide)) rfl M.g))
  (qss_one (qs_ret (qe_and (qe_cmpR oq_eq (qe_callB (cq_lenO M.ln.1 M.ln.2 ON (hr.mono (by decide)) BN) (by rfl) T.b_len (by decide +kernel) (qa_cons (qv 9) qa_nil)) qe_int (nomark _)) (qe_and (qe_cmpR (oq_eqD hr.units) (qe_propIn M.hpr OP (hr.mono (by decide)) BP (qv 9)) (qe_tup qa_nil) (nomark _)) (qe_and (qe_cmpR (oq_eqO M.eq OE (hr.mono (by decide)) BE) (qv 9) (qe_cmeth (qe_gR rfl M.g) M.cr CM M.of_ (hr.mono (by decide)) (qa_cons (qe_tup qa_nil) qa_nil)) (nomark _)) (qe_one (qe_cmpR (oq_notInO M.hs.1 M.hs.2 OH (hr.mono (by decide)) BH) qe_str (qv 9) rfl))))))))), ?_⟩)
  · obtain ⟨s, is, rfl, _⟩ := h
    rfl
  rintro ds μ Q ⟨s, is, rfl, hs, hl, k⟩
  show (_ : AS) (EndA Q) [some (.ptr s), none, none, none, none, none, none, none, none, none] μ
  simp only [aSeq, aIf, aRet, aRetN, aDrop, aAsg, aNext, aPar, agName, agTup, agCons, agNil, agSub, rSetA, aTest, aOp, aUn, aV, aC, aI, aI0, aU, aEq, aNe, aCons, aNil, aTup, aLst, aCB, aIfE, aNotV, aNotT, aAndV, aOrV, aAndT, aOrT, aChain, aIxL, aIxT, aIxS, aSl, aPart, aNoPart, aSlL, aSlT, aSlS, aCat, aCatT, aAddS, aDGet, aDIn, aDGet2, asDPut, aDNewK, aDNewT, aCall, aBM, aAppend, aPopAt, aLenS, aLenStr, aListOf, aTupleOf, aInt1, aMin2, aIsi, aIsN, aNotN, aCont, aBreak, aNever, aDisp, aPairs, kvs?, mergeD, EndA, D.eq2, D.isNon, D.key, D.items, ptrList, listM, seqAt, Cell.items, dGetM, dPutM, isDict, tyOf, kitD, updM_same, updM_upd, List.set_cons_zero, List.set_cons_succ, List.getElem?_cons_zero, List.getElem?_cons_succ, List.length_cons, List.length_nil, Option.map_some, Option.bind_some, Option.isSome_some, Option.isSome_none, Option.getD_some, Option.getD_none, List.foldl_cons, List.foldl_nil, decide_eq_true_eq, if_true, if_false, Bool.not_true, Bool.not_false, Bool.false_eq_true, true_and, and_true, Nat.reduceLT, Int.reduceLT, Int.reduceLE, ↓reduceIte, aFor, aIRng1]
  refine ⟨s, is, rfl, hs, ?_⟩
  simp only [aSeq, aIf, aRet, aRetN, aDrop, aAsg, aNext, aPar, agName, agTup, agCons, agNil, agSub, rSetA, aTest, aOp, aUn, aV, aC, aI, aI0, aU, aEq, aNe, aCons, aNil, aTup, aLst, aCB, aIfE, aNotV, aNotT, aAndV, aOrV, aAndT, aOrT, aChain, aIxL, aIxT, aIxS, aSl, aPart, aNoPart, aSlL, aSlT, aSlS, aCat, aCatT, aAddS, aDGet, aDIn, aDGet2, asDPut, aDNewK, aDNewT, aCall, aBM, aAppend, aPopAt, aLenS, aLenStr, aListOf, aTupleOf, aInt1, aMin2, aIsi, aIsN, aNotN, aCont, aBreak, aNever, aDisp, aPairs, kvs?, mergeD, EndA, D.eq2, D.isNon, D.key, D.items, ptrList, listM, seqAt, Cell.items, dGetM, dPutM, isDict, tyOf, kitD, updM_same, updM_upd, List.set_cons_zero, List.set_cons_succ, List.getElem?_cons_zero, List.getElem?_cons_succ, List.length_cons, List.length_nil, Option.map_some, Option.bind_some, Option.isSome_some, Option.isSome_none, Option.getD_some, Option.getD_none, List.foldl_cons, List.foldl_nil, decide_eq_true_eq, if_true, if_false, Bool.not_true, Bool.not_false, Bool.false_eq_true, true_and, and_true, Nat.reduceLT, Int.reduceLT, Int.reduceLE, ↓reduceIte]
  refine ⟨by split <;> omega, by split <;> omega, ?_⟩
  refine ⟨fun i ρ' μ' => ∃ x1 x2 x3 x4 x5 x6 x7 x8 x9, ρ' = [some (.ptr s), x1, x2, x3, x4, x5, x6, x7, x8, x9] ∧ Mle μ μ', ⟨_, _, _, _, _, _, _, _, _, rfl, Mle.refl _⟩, fun _ _ _ _ _ => trivial, ?_, ?_⟩
  · rintro i x ρ' μ' hx ⟨x1, x2, x3, x4, x5, x6, x7, x8, x9, rfl, hm⟩
    obtain ⟨rfl, hi⟩ := rngD_at hx
    have hs1 : Script K μ' s is := hs.up fun c h => hm _ _ h
    simp only [aSeq, aIf, aRet, aRetN, aDrop, aAsg, aNext, aPar, agName, agTup, agCons, agNil, agSub, rSetA, aTest, aOp, aUn, aV, aC, aI, aI0, aU, aEq, aNe, aCons, aNil, aTup, aLst, aCB, aIfE, aNotV, aNotT, aAndV, aOrV, aAndT, aOrT, aChain, aIxL, aIxT, aIxS, aSl, aPart, aNoPart, aSlL, aSlT, aSlS, aCat, aCatT, aAddS, aDGet, aDIn, aDGet2, asDPut, aDNewK, aDNewT, aCall, aBM, aAppend, aPopAt, aLenS, aLenStr, aListOf, aTupleOf, aInt1, aMin2, aIsi, aIsN, aNotN, aCont, aBreak, aNever, aDisp, aPairs, kvs?, mergeD, EndA, D.eq2, D.isNon, D.key, D.items, ptrList, listM, seqAt, Cell.items, dGetM, dPutM, isDict, tyOf, kitD, updM_same, updM_upd, List.set_cons_zero, List.set_cons_succ, List.getElem?_cons_zero, List.getElem?_cons_succ, List.length_cons, List.length_nil, Option.map_some, Option.bind_some, Option.isSome_some, Option.isSome_none, Option.getD_some, Option.getD_none, List.foldl_cons, List.foldl_nil, decide_eq_true_eq, if_true, if_false, Bool.not_true, Bool.not_false, Bool.false_eq_true, true_and, and_true, Nat.reduceLT, Int.reduceLT, Int.reduceLE, ↓reduceIte]
    refine ⟨s, _, is, rfl, hs1, by omega, fun p c hp hc => ?_⟩
    simp only [aSeq, aIf, aRet, aRetN, aDrop, aAsg, aNext, aPar, agName, agTup, agCons, agNil, agSub, rSetA, aTest, aOp, aUn, aV, aC, aI, aI0, aU, aEq, aNe, aCons, aNil, aTup, aLst, aCB, aIfE, aNotV, aNotT, aAndV, aOrV, aAndT, aOrT, aChain, aIxL, aIxT, aIxS, aSl, aPart, aNoPart, aSlL, aSlT, aSlS, aCat, aCatT, aAddS, aDGet, aDIn, aDGet2, asDPut, aDNewK, aDNewT, aCall, aBM, aAppend, aPopAt, aLenS, aLenStr, aListOf, aTupleOf, aInt1, aMin2, aIsi, aIsN, aNotN, aCont, aBreak, aNever, aDisp, aPairs, kvs?, mergeD, EndA, D.eq2, D.isNon, D.key, D.items, ptrList, listM, seqAt, Cell.items, dGetM, dPutM, isDict, tyOf, kitD, updM_same, updM_upd, List.set_cons_zero, List.set_cons_succ, List.getElem?_cons_zero, List.getElem?_cons_succ, List.length_cons, List.length_nil, Option.map_some, Option.bind_some, Option.isSome_some, Option.isSome_none, Option.getD_some, Option.getD_none, List.foldl_cons, List.foldl_nil, decide_eq_true_eq, if_true, if_false, Bool.not_true, Bool.not_false, Bool.false_eq_true, true_and, and_true, Nat.reduceLT, Int.reduceLT, Int.reduceLE, ↓reduceIte]
    refine ⟨p, c, rfl, updM_same, hc, fun pl c2 plan h1 h3 hc2 => ?_⟩
    match pl, plan, h1, h3 with
    | a :: tl, plan, h1, h3 =>
    have ok := plan_rows plan h3
    simp only [aSeq, aIf, aRet, aRetN, aDrop, aAsg, aNext, aPar, agName, agTup, agCons, agNil, agSub, rSetA, aTest, aOp, aUn, aV, aC, aI, aI0, aU, aEq, aNe, aCons, aNil, aTup, aLst, aCB, aIfE, aNotV, aNotT, aAndV, aOrV, aAndT, aOrT, aChain, aIxL, aIxT, aIxS, aSl, aPart, aNoPart, aSlL, aSlT, aSlS, aCat, aCatT, aAddS, aDGet, aDIn, aDGet2, asDPut, aDNewK, aDNewT, aCall, aBM, aAppend, aPopAt, aLenS, aLenStr, aListOf, aTupleOf, aInt1, aMin2, aIsi, aIsN, aNotN, aCont, aBreak, aNever, aDisp, aPairs, kvs?, mergeD, EndA, D.eq2, D.isNon, D.key, D.items, ptrList, listM, seqAt, Cell.items, dGetM, dPutM, isDict, tyOf, kitD, updM_same, updM_upd, List.set_cons_zero, List.set_cons_succ, List.getElem?_cons_zero, List.getElem?_cons_succ, List.length_cons, List.length_nil, Option.map_some, Option.bind_some, Option.isSome_some, Option.isSome_none, Option.getD_some, Option.getD_none, List.foldl_cons, List.foldl_nil, decide_eq_true_eq, if_true, if_false, Bool.not_true, Bool.not_false, Bool.false_eq_true, true_and, and_true, Nat.reduceLT, Int.reduceLT, Int.reduceLE, ↓reduceIte, aCMeth]
    refine ⟨_, a :: tl, rfl, .inr rfl, ok, fun xs μ2 hx2 m2 t2 => ?_⟩
    simp only [aSeq, aIf, aRet, aRetN, aDrop, aAsg, aNext, aPar, agName, agTup, agCons, agNil, agSub, rSetA, aTest, aOp, aUn, aV, aC, aI, aI0, aU, aEq, aNe, aCons, aNil, aTup, aLst, aCB, aIfE, aNotV, aNotT, aAndV, aOrV, aAndT, aOrT, aChain, aIxL, aIxT, aIxS, aSl, aPart, aNoPart, aSlL, aSlT, aSlS, aCat, aCatT, aAddS, aDGet, aDIn, aDGet2, asDPut, aDNewK, aDNewT, aCall, aBM, aAppend, aPopAt, aLenS, aLenStr, aListOf, aTupleOf, aInt1, aMin2, aIsi, aIsN, aNotN, aCont, aBreak, aNever, aDisp, aPairs, kvs?, mergeD, EndA, D.eq2, D.isNon, D.key, D.items, ptrList, listM, seqAt, Cell.items, dGetM, dPutM, isDict, tyOf, kitD, updM_same, updM_upd, List.set_cons_zero, List.set_cons_succ, List.getElem?_cons_zero, List.getElem?_cons_succ, List.length_cons, List.length_nil, Option.map_some, Option.bind_some, Option.isSome_some, Option.isSome_none, Option.getD_some, Option.getD_none, List.foldl_cons, List.foldl_nil, decide_eq_true_eq, if_true, if_false, Bool.not_true, Bool.not_false, Bool.false_eq_true, true_and, and_true, Nat.reduceLT, Int.reduceLT, Int.reduceLE, ↓reduceIte]
    refine ⟨a :: tl, rfl, ok, h1, h3, fun xa μ3 hx3 m3 t3 => ?_⟩
    have t2' := t2.up m3
    simp only [aSeq, aIf, aRet, aRetN, aDrop, aAsg, aNext, aPar, agName, agTup, agCons, agNil, agSub, rSetA, aTest, aOp, aUn, aV, aC, aI, aI0, aU, aEq, aNe, aCons, aNil, aTup, aLst, aCB, aIfE, aNotV, aNotT, aAndV, aOrV, aAndT, aOrT, aChain, aIxL, aIxT, aIxS, aSl, aPart, aNoPart, aSlL, aSlT, aSlS, aCat, aCatT, aAddS, aDGet, aDIn, aDGet2, asDPut, aDNewK, aDNewT, aCall, aBM, aAppend, aPopAt, aLenS, aLenStr, aListOf, aTupleOf, aInt1, aMin2, aIsi, aIsN, aNotN, aCont, aBreak, aNever, aDisp, aPairs, kvs?, mergeD, EndA, D.eq2, D.isNon, D.key, D.items, ptrList, listM, seqAt, Cell.items, dGetM, dPutM, isDict, tyOf, kitD, updM_same, updM_upd, List.set_cons_zero, List.set_cons_succ, List.getElem?_cons_zero, List.getElem?_cons_succ, List.length_cons, List.length_nil, Option.map_some, Option.bind_some, Option.isSome_some, Option.isSome_none, Option.getD_some, Option.getD_none, List.foldl_cons, List.foldl_nil, decide_eq_true_eq, if_true, if_false, Bool.not_true, Bool.not_false, Bool.false_eq_true, true_and, and_true, Nat.reduceLT, Int.reduceLT, Int.reduceLE, ↓reduceIte]
    refine eqO_yes t2' t3 ok.p ?_
    simp only [aSeq, aIf, aRet, aRetN, aDrop, aAsg, aNext, aPar, agName, agTup, agCons, agNil, agSub, rSetA, aTest, aOp, aUn, aV, aC, aI, aI0, aU, aEq, aNe, aCons, aNil, aTup, aLst, aCB, aIfE, aNotV, aNotT, aAndV, aOrV, aAndT, aOrT, aChain, aIxL, aIxT, aIxS, aSl, aPart, aNoPart, aSlL, aSlT, aSlS, aCat, aCatT, aAddS, aDGet, aDIn, aDGet2, asDPut, aDNewK, aDNewT, aCall, aBM, aAppend, aPopAt, aLenS, aLenStr, aListOf, aTupleOf, aInt1, aMin2, aIsi, aIsN, aNotN, aCont, aBreak, aNever, aDisp, aPairs, kvs?, mergeD, EndA, D.eq2, D.isNon, D.key, D.items, ptrList, listM, seqAt, Cell.items, dGetM, dPutM, isDict, tyOf, kitD, updM_same, updM_upd, List.set_cons_zero, List.set_cons_succ, List.getElem?_cons_zero, List.getElem?_cons_succ, List.length_cons, List.length_nil, Option.map_some, Option.bind_some, Option.isSome_some, Option.isSome_none, Option.getD_some, Option.getD_none, List.foldl_cons, List.foldl_nil, decide_eq_true_eq, if_true, if_false, Bool.not_true, Bool.not_false, Bool.false_eq_true, true_and, and_true, Nat.reduceLT, Int.reduceLT, Int.reduceLE, ↓reduceIte, id]
    refine eqO_yes t2' t3 ok.p ?_
    simp only [aSeq, aIf, aRet, aRetN, aDrop, aAsg, aNext, aPar, agName, agTup, agCons, agNil, agSub, rSetA, aTest, aOp, aUn, aV, aC, aI, aI0, aU, aEq, aNe, aCons, aNil, aTup, aLst, aCB, aIfE, aNotV, aNotT, aAndV, aOrV, aAndT, aOrT, aChain, aIxL, aIxT, aIxS, aSl, aPart, aNoPart, aSlL, aSlT, aSlS, aCat, aCatT, aAddS, aDGet, aDIn, aDGet2, asDPut, aDNewK, aDNewT, aCall, aBM, aAppend, aPopAt, aLenS, aLenStr, aListOf, aTupleOf, aInt1, aMin2, aIsi, aIsN, aNotN, aCont, aBreak, aNever, aDisp, aPairs, kvs?, mergeD, EndA, D.eq2, D.isNon, D.key, D.items, ptrList, listM, seqAt, Cell.items, dGetM, dPutM, isDict, tyOf, kitD, updM_same, updM_upd, List.set_cons_zero, List.set_cons_succ, List.getElem?_cons_zero, List.getElem?_cons_succ, List.length_cons, List.length_nil, Option.map_some, Option.bind_some, Option.isSome_some, Option.isSome_none, Option.getD_some, Option.getD_none, List.foldl_cons, List.foldl_nil, decide_eq_true_eq, if_true, if_false, Bool.not_true, Bool.not_false, Bool.false_eq_true, true_and, and_true, Nat.reduceLT, Int.reduceLT, Int.reduceLE, ↓reduceIte]
    refine ⟨xs, a :: tl, _, rfl, t2', .inr rfl, ok, h3, ?_⟩
    simp only [aSeq, aIf, aRet, aRetN, aDrop, aAsg, aNext, aPar, agName, agTup, agCons, agNil, agSub, rSetA, aTest, aOp, aUn, aV, aC, aI, aI0, aU, aEq, aNe, aCons, aNil, aTup, aLst, aCB, aIfE, aNotV, aNotT, aAndV, aOrV, aAndT, aOrT, aChain, aIxL, aIxT, aIxS, aSl, aPart, aNoPart, aSlL, aSlT, aSlS, aCat, aCatT, aAddS, aDGet, aDIn, aDGet2, asDPut, aDNewK, aDNewT, aCall, aBM, aAppend, aPopAt, aLenS, aLenStr, aListOf, aTupleOf, aInt1, aMin2, aIsi, aIsN, aNotN, aCont, aBreak, aNever, aDisp, aPairs, kvs?, mergeD, EndA, D.eq2, D.isNon, D.key, D.items, ptrList, listM, seqAt, Cell.items, dGetM, dPutM, isDict, tyOf, kitD, updM_same, updM_upd, List.set_cons_zero, List.set_cons_succ, List.getElem?_cons_zero, List.getElem?_cons_succ, List.length_cons, List.length_nil, Option.map_some, Option.bind_some, Option.isSome_some, Option.isSome_none, Option.getD_some, Option.getD_none, List.foldl_cons, List.foldl_nil, decide_eq_true_eq, if_true, if_false, Bool.not_true, Bool.not_false, Bool.false_eq_true, true_and, and_true, Nat.reduceLT, Int.reduceLT, Int.reduceLE, ↓reduceIte]
    refine ⟨xa, a :: tl, _, rfl, t3, .inr rfl, ok, h3, ?_⟩
    simp only [aSeq, aIf, aRet, aRetN, aDrop, aAsg, aNext, aPar, agName, agTup, agCons, agNil, agSub, rSetA, aTest, aOp, aUn, aV, aC, aI, aI0, aU, aEq, aNe, aCons, aNil, aTup, aLst, aCB, aIfE, aNotV, aNotT, aAndV, aOrV, aAndT, aOrT, aChain, aIxL, aIxT, aIxS, aSl, aPart, aNoPart, aSlL, aSlT, aSlS, aCat, aCatT, aAddS, aDGet, aDIn, aDGet2, asDPut, aDNewK, aDNewT, aCall, aBM, aAppend, aPopAt, aLenS, aLenStr, aListOf, aTupleOf, aInt1, aMin2, aIsi, aIsN, aNotN, aCont, aBreak, aNever, aDisp, aPairs, kvs?, mergeD, EndA, D.eq2, D.isNon, D.key, D.items, ptrList, listM, seqAt, Cell.items, dGetM, dPutM, isDict, tyOf, kitD, updM_same, updM_upd, List.set_cons_zero, List.set_cons_succ, List.getElem?_cons_zero, List.getElem?_cons_succ, List.length_cons, List.length_nil, Option.map_some, Option.bind_some, Option.isSome_some, Option.isSome_none, Option.getD_some, Option.getD_none, List.foldl_cons, List.foldl_nil, decide_eq_true_eq, if_true, if_false, Bool.not_true, Bool.not_false, Bool.false_eq_true, true_and, and_true, Nat.reduceLT, Int.reduceLT, Int.reduceLE, ↓reduceIte]
    refine ⟨xs, a :: tl, rfl, t2', plan, h1, h3, ?_⟩
    simp only [aSeq, aIf, aRet, aRetN, aDrop, aAsg, aNext, aPar, agName, agTup, agCons, agNil, agSub, rSetA, aTest, aOp, aUn, aV, aC, aI, aI0, aU, aEq, aNe, aCons, aNil, aTup, aLst, aCB, aIfE, aNotV, aNotT, aAndV, aOrV, aAndT, aOrT, aChain, aIxL, aIxT, aIxS, aSl, aPart, aNoPart, aSlL, aSlT, aSlS, aCat, aCatT, aAddS, aDGet, aDIn, aDGet2, asDPut, aDNewK, aDNewT, aCall, aBM, aAppend, aPopAt, aLenS, aLenStr, aListOf, aTupleOf, aInt1, aMin2, aIsi, aIsN, aNotN, aCont, aBreak, aNever, aDisp, aPairs, kvs?, mergeD, EndA, D.eq2, D.isNon, D.key, D.items, ptrList, listM, seqAt, Cell.items, dGetM, dPutM, isDict, tyOf, kitD, updM_same, updM_upd, List.set_cons_zero, List.set_cons_succ, List.getElem?_cons_zero, List.getElem?_cons_succ, List.length_cons, List.length_nil, Option.map_some, Option.bind_some, Option.isSome_some, Option.isSome_none, Option.getD_some, Option.getD_none, List.foldl_cons, List.foldl_nil, decide_eq_true_eq, if_true, if_false, Bool.not_true, Bool.not_false, Bool.false_eq_true, true_and, and_true, Nat.reduceLT, Int.reduceLT, Int.reduceLE, ↓reduceIte]
    refine ⟨xs, a :: tl, rfl, t2', plan, h1, h3, ?_⟩
    have p3 : μ3 p = some c2 := m3 _ _ (m2 _ _ updM_same)
    have mm : Mle μ μ3 := (hm.trans (Mle.new hp)).trans (m2.trans m3)
    simp only [aSeq, aIf, aRet, aRetN, aDrop, aAsg, aNext, aPar, agName, agTup, agCons, agNil, agSub, rSetA, aTest, aOp, aUn, aV, aC, aI, aI0, aU, aEq, aNe, aCons, aNil, aTup, aLst, aCB, aIfE, aNotV, aNotT, aAndV, aOrV, aAndT, aOrT, aChain, aIxL, aIxT, aIxS, aSl, aPart, aNoPart, aSlL, aSlT, aSlS, aCat, aCatT, aAddS, aDGet, aDIn, aDGet2, asDPut, aDNewK, aDNewT, aCall, aBM, aAppend, aPopAt, aLenS, aLenStr, aListOf, aTupleOf, aInt1, aMin2, aIsi, aIsN, aNotN, aCont, aBreak, aNever, aDisp, aPairs, kvs?, mergeD, EndA, D.eq2, D.isNon, D.key, D.items, ptrList, listM, seqAt, Cell.items, dGetM, dPutM, isDict, tyOf, kitD, updM_same, updM_upd, List.set_cons_zero, List.set_cons_succ, List.getElem?_cons_zero, List.getElem?_cons_succ, List.length_cons, List.length_nil, Option.map_some, Option.bind_some, Option.isSome_some, Option.isSome_none, Option.getD_some, Option.getD_none, List.foldl_cons, List.foldl_nil, decide_eq_true_eq, if_true, if_false, Bool.not_true, Bool.not_false, Bool.false_eq_true, true_and, and_true, Nat.reduceLT, Int.reduceLT, Int.reduceLE, ↓reduceIte, aFor, aIRng1]
    refine ⟨by decide, by decide, ?_⟩
    refine ⟨fun j ρ' μ' => ∃ y6 y7 y8 c', ρ' = [some (.ptr s), some (.int (0 + (i : Int))), some (.ptr p), some (.tuz ((a :: tl).map rowD)), some (.ptr xs), some (.ptr xa), y6, y7, y8, x9] ∧ μ' p = some c' ∧ StC c' ∧ MleX [p] μ3 μ', ⟨x6, x7, x8, c2, rfl, p3, hc2, MleX.refl _ _⟩, fun _ _ _ _ _ => trivial, ?_, ?_⟩
    · rintro j x ρ' μ4 hx4 ⟨y6, y7, y8, c', rfl, e1, e2, e3⟩
      have i0 : atI ((a :: tl).map rowD) 0 = some (rowD a) := at_zero
      have i1 : atI [D.str a.1, .tup (a.2.map formD)] 0 = some (.str a.1) := rfl
      have at_ : a.1 ∈ TITLES := plan.nm a (List.mem_cons_self ..)
      have ho := List.all_eq_true.mp titles_odd a.1 at_
      simp only [Bool.and_eq_true, decide_eq_true_eq] at ho
      obtain ⟨o1, o2, o3⟩ := ho
      have la : (Str.ofString "a").length = 1 := by decide +kernel
      simp only [aSeq, aIf, aRet, aRetN, aDrop, aAsg, aNext, aPar, agName, agTup, agCons, agNil, agSub, rSetA, aTest, aOp, aUn, aV, aC, aI, aI0, aU, aEq, aNe, aCons, aNil, aTup, aLst, aCB, aIfE, aNotV, aNotT, aAndV, aOrV, aAndT, aOrT, aChain, aIxL, aIxT, aIxS, aSl, aPart, aNoPart, aSlL, aSlT, aSlS, aCat, aCatT, aAddS, aDGet, aDIn, aDGet2, asDPut, aDNewK, aDNewT, aCall, aBM, aAppend, aPopAt, aLenS, aLenStr, aListOf, aTupleOf, aInt1, aMin2, aIsi, aIsN, aNotN, aCont, aBreak, aNever, aDisp, aPairs, kvs?, mergeD, EndA, D.eq2, D.isNon, D.key, D.items, ptrList, listM, seqAt, Cell.items, dGetM, dPutM, isDict, tyOf, kitD, updM_same, updM_upd, List.set_cons_zero, List.set_cons_succ, List.getElem?_cons_zero, List.getElem?_cons_succ, List.length_cons, List.length_nil, Option.map_some, Option.bind_some, Option.isSome_some, Option.isSome_none, Option.getD_some, Option.getD_none, List.foldl_cons, List.foldl_nil, decide_eq_true_eq, if_true, if_false, Bool.not_true, Bool.not_false, Bool.false_eq_true, true_and, and_true, Nat.reduceLT, Int.reduceLT, Int.reduceLE, ↓reduceIte, i0, rowD, i1]
      refine ⟨by rw [la]; omega, by omega, by decide, fun l1 hl1 => ⟨by decide, by decide, fun lg hlg => ?_⟩⟩
      obtain ⟨ng1, hlg⟩ := fresh_upd hlg
      intro le hle
      obtain ⟨neg, hle⟩ := fresh_upd hle
      obtain ⟨ne1, hle⟩ := fresh_upd hle
      refine ⟨by decide, fun l2 hl2 => ?_⟩
      obtain ⟨n2e, hl2⟩ := fresh_upd hl2
      obtain ⟨n2g, hl2⟩ := fresh_upd hl2
      obtain ⟨n21, hl2⟩ := fresh_upd hl2
      simp only [aSeq, aIf, aRet, aRetN, aDrop, aAsg, aNext, aPar, agName, agTup, agCons, agNil, agSub, rSetA, aTest, aOp, aUn, aV, aC, aI, aI0, aU, aEq, aNe, aCons, aNil, aTup, aLst, aCB, aIfE, aNotV, aNotT, aAndV, aOrV, aAndT, aOrT, aChain, aIxL, aIxT, aIxS, aSl, aPart, aNoPart, aSlL, aSlT, aSlS, aCat, aCatT, aAddS, aDGet, aDIn, aDGet2, asDPut, aDNewK, aDNewT, aCall, aBM, aAppend, aPopAt, aLenS, aLenStr, aListOf, aTupleOf, aInt1, aMin2, aIsi, aIsN, aNotN, aCont, aBreak, aNever, aDisp, aPairs, kvs?, mergeD, EndA, D.eq2, D.isNon, D.key, D.items, ptrList, listM, seqAt, Cell.items, dGetM, dPutM, isDict, tyOf, kitD, updM_same, updM_upd, List.set_cons_zero, List.set_cons_succ, List.getElem?_cons_zero, List.getElem?_cons_succ, List.length_cons, List.length_nil, Option.map_some, Option.bind_some, Option.isSome_some, Option.isSome_none, Option.getD_some, Option.getD_none, List.foldl_cons, List.foldl_nil, decide_eq_true_eq, if_true, if_false, Bool.not_true, Bool.not_false, Bool.false_eq_true, true_and, and_true, Nat.reduceLT, Int.reduceLT, Int.reduceLE, ↓reduceIte, updM_ne n21.symm, updM_ne ne1.symm, updM_ne ng1.symm]
      refine ⟨by decide, fun l3 hl3 => ?_⟩
      obtain ⟨n32, hl3⟩ := fresh_upd hl3
      obtain ⟨n3e, hl3⟩ := fresh_upd hl3
      obtain ⟨n3g, hl3⟩ := fresh_upd hl3
      obtain ⟨n31, hl3⟩ := fresh_upd hl3
      have q1 : l1 ≠ p := fresh_ne hl1 e1
      have qg : lg ≠ p := fresh_ne hlg e1
      have qe : le ≠ p := fresh_ne hle e1
      have q2 : l2 ≠ p := fresh_ne hl2 e1
      have q3 : l3 ≠ p := fresh_ne hl3 e1
      refine ⟨p, c', l3, [.str (a.1 ++ Str.ofString "a"), .str (cutS a.1 none (some (-1))), .tuz ((a :: tl).map rowD), .tup [.str a.1, .tup (a.2.map formD)], .non, .int 5, .str "", .str "nobody", .bl true, .tup [.str "go"], .ptr lg, .ptr le], rfl, ?_, e2, list_at, by show 0 < 12; decide, by show 12 < 100000; decide, fun d c6 hd hc6 => ?_⟩
      · rw [updM_ne q3.symm, updM_ne q2.symm, updM_ne qe.symm, updM_ne qg.symm, updM_ne q1.symm]
        exact e1
      generalize hM : updM (updM (updM (updM (updM (updM μ4 l1 _) lg _) le _) l2 _) l3 _) p c6 = μ7
      have f0 : μ7 p = some c6 := by rw [← hM, updM_same]
      have f1 : μ7 lg = some (.lst [.str "go"]) := by rw [← hM, updM_ne qg, updM_ne n3g.symm, updM_ne n2g.symm, updM_ne neg.symm, updM_same]
      have f2 : μ7 le = some (.dk []) := by rw [← hM, updM_ne qe, updM_ne n3e.symm, updM_ne n2e.symm, updM_same]
      have f3 : MleX [p] μ3 μ7 := by
        rw [← hM]
        refine MleX.upd ?_ (by simp)
        refine e3.trans (mleX_of fun z o hz => ?_)
        have z1 : z ≠ l1 := fun y => by rw [y, hl1] at hz; cases hz
        have zg : z ≠ lg := fun y => by rw [y, hlg] at hz; cases hz
        have ze : z ≠ le := fun y => by rw [y, hle] at hz; cases hz
        have z2 : z ≠ l2 := fun y => by rw [y, hl2] at hz; cases hz
        have z3 : z ≠ l3 := fun y => by rw [y, hl3] at hz; cases hz
        rw [updM_ne z3, updM_ne z2, updM_ne ze, updM_ne zg, updM_ne z1]
        exact hz
      clear hM
      have ts := t2'.upX p3 hc2 f3
      have noT : ∀ z, z ∉ TITLES → lookD (kvF (a :: tl)) (.inr z) = none := fun z hz => kvF_miss fun h => by
        obtain ⟨r, hr', e⟩ := List.mem_map.mp h
        exact hz (e ▸ plan.nm r hr')
      have str1 : ∀ z, oddS z = true → (∃ t, OddOk μ7 (.str z) t) ∧ NoName μ7 (a :: tl) (.str z) := fun z hz => by
        obtain ⟨h1, h2⟩ := odd_str (μ := μ7) hz
        exact ⟨h1, .inl ⟨z, rfl, noT z h2⟩⟩
      have key : (∃ t, OddOk μ7 d t) ∧ NoName μ7 (a :: tl) d := by
        simp only [List.mem_cons, List.not_mem_nil, or_false] at hd
        rcases hd with rfl | rfl | rfl | rfl | rfl | rfl | rfl | rfl | rfl | rfl | rfl | rfl
        · exact str1 _ o1
        · exact str1 _ o2
        · exact ⟨⟨_, .inl ⟨63, 58581, rows_flatz ok.p, by decide, by rw [rows_py ok.p]; exact rows_pr ok h3, by decide, rfl⟩⟩, .inr (.inr (.inr (.inr (.inr (.inl ⟨_, rfl⟩)))))⟩
        · exact ⟨⟨_, .inl ⟨7, 19526, pl_flat _ _ (rowD_pl (ok.p a (List.mem_cons_self ..))), by decide, rowD_pr ok (List.mem_cons_self ..), by decide, rfl⟩⟩, .inr (.inr (.inr (.inr (.inl ⟨_, rfl⟩))))⟩
        · exact ⟨⟨_, .inl ⟨0, 0, rfl, by decide, by unfold D.py D.pd; exact pr_non, by decide, rfl⟩⟩, .inr (.inl rfl)⟩
        · exact ⟨⟨_, .inl ⟨0, 70, rfl, by decide, by rw [py_int]; exact pr_int (by decide) (by decide), by decide, rfl⟩⟩, .inr (.inr (.inr (.inl ⟨_, rfl⟩)))⟩
        · exact str1 _ (by decide +kernel)
        · exact str1 _ (by decide +kernel)
        · exact ⟨⟨_, .inl ⟨0, 0, rfl, by decide, by unfold D.py D.pd; exact pr_bl true, by decide, rfl⟩⟩, .inr (.inr (.inl ⟨_, rfl⟩))⟩
        · have hf : (D.tup [D.str "go"]).flat 1 = true := by decide +kernel
          exact ⟨⟨_, .inl ⟨1, 101, hf, by decide, by rw [py_tup hf]; exact pr_tuple (k := 100) (m := 1) (fun x hx => by rw [List.mem_singleton.mp hx, py_str]; exact pr_str (by decide +kernel) (by decide +kernel)) (Nat.le_refl _), by decide, rfl⟩⟩, .inr (.inr (.inr (.inr (.inl ⟨_, rfl⟩))))⟩
        · exact ⟨⟨_, .inr (.inl ⟨lg, _, rfl, f1, pr_str (by decide +kernel) (by decide +kernel), rfl⟩)⟩, .inr (.inr (.inr (.inr (.inr (.inr (.inl ⟨_, _, rfl, f1⟩))))))⟩
        · exact ⟨⟨_, .inr (.inr ⟨le, rfl, f2, rfl⟩)⟩, .inr (.inr (.inr (.inr (.inr (.inr (.inr ⟨_, _, rfl, f2⟩))))))⟩
      obtain ⟨⟨t, odd⟩, nn⟩ := key
      have has : ∀ Q' : DK, Q' (.bl false) μ7 → ctHas C [.ptr xs, d] μ7 Q' := fun Q' hq => by
        rcases nn with ⟨z, rfl, hz⟩ | hn
        · exact ⟨xs, _, _, rfl, ts, .inl ⟨z, rfl, by rw [hz]; exact hq⟩⟩
        · exact ⟨xs, _, _, rfl, ts, .inr ⟨hn, hq⟩⟩
      obtain ⟨tq, tr, th1, th2⟩ := id ts
      simp only [aSeq, aIf, aRet, aRetN, aDrop, aAsg, aNext, aPar, agName, agTup, agCons, agNil, agSub, rSetA, aTest, aOp, aUn, aV, aC, aI, aI0, aU, aEq, aNe, aCons, aNil, aTup, aLst, aCB, aIfE, aNotV, aNotT, aAndV, aOrV, aAndT, aOrT, aChain, aIxL, aIxT, aIxS, aSl, aPart, aNoPart, aSlL, aSlT, aSlS, aCat, aCatT, aAddS, aDGet, aDIn, aDGet2, asDPut, aDNewK, aDNewT, aCall, aBM, aAppend, aPopAt, aLenS, aLenStr, aListOf, aTupleOf, aInt1, aMin2, aIsi, aIsN, aNotN, aCont, aBreak, aNever, aDisp, aPairs, kvs?, mergeD, EndA, D.eq2, D.isNon, D.key, D.items, ptrList, listM, seqAt, Cell.items, dGetM, dPutM, isDict, tyOf, kitD, updM_same, updM_upd, List.set_cons_zero, List.set_cons_succ, List.getElem?_cons_zero, List.getElem?_cons_succ, List.length_cons, List.length_nil, Option.map_some, Option.bind_some, Option.isSome_some, Option.isSome_none, Option.getD_some, Option.getD_none, List.foldl_cons, List.foldl_nil, decide_eq_true_eq, if_true, if_false, Bool.not_true, Bool.not_false, Bool.false_eq_true, true_and, and_true, Nat.reduceLT, Int.reduceLT, Int.reduceLE, ↓reduceIte, aInO, th1]
      refine has _ ?_
      simp only [aSeq, aIf, aRet, aRetN, aDrop, aAsg, aNext, aPar, agName, agTup, agCons, agNil, agSub, rSetA, aTest, aOp, aUn, aV, aC, aI, aI0, aU, aEq, aNe, aCons, aNil, aTup, aLst, aCB, aIfE, aNotV, aNotT, aAndV, aOrV, aAndT, aOrT, aChain, aIxL, aIxT, aIxS, aSl, aPart, aNoPart, aSlL, aSlT, aSlS, aCat, aCatT, aAddS, aDGet, aDIn, aDGet2, asDPut, aDNewK, aDNewT, aCall, aBM, aAppend, aPopAt, aLenS, aLenStr, aListOf, aTupleOf, aInt1, aMin2, aIsi, aIsN, aNotN, aCont, aBreak, aNever, aDisp, aPairs, kvs?, mergeD, EndA, D.eq2, D.isNon, D.key, D.items, ptrList, listM, seqAt, Cell.items, dGetM, dPutM, isDict, tyOf, kitD, updM_same, updM_upd, List.set_cons_zero, List.set_cons_succ, List.getElem?_cons_zero, List.getElem?_cons_succ, List.length_cons, List.length_nil, Option.map_some, Option.bind_some, Option.isSome_some, Option.isSome_none, Option.getD_some, Option.getD_none, List.foldl_cons, List.foldl_nil, decide_eq_true_eq, if_true, if_false, Bool.not_true, Bool.not_false, Bool.false_eq_true, true_and, and_true, Nat.reduceLT, Int.reduceLT, Int.reduceLE, ↓reduceIte, id]
      refine ⟨xs, a :: tl, d, rfl, ts, nn, fun lf hlf nlf => ?_⟩
      refine odd_repr (odd.up (Mle.new hlf)) updM_same nlf ?_
      simp only [aSeq, aIf, aRet, aRetN, aDrop, aAsg, aNext, aPar, agName, agTup, agCons, agNil, agSub, rSetA, aTest, aOp, aUn, aV, aC, aI, aI0, aU, aEq, aNe, aCons, aNil, aTup, aLst, aCB, aIfE, aNotV, aNotT, aAndV, aOrV, aAndT, aOrT, aChain, aIxL, aIxT, aIxS, aSl, aPart, aNoPart, aSlL, aSlT, aSlS, aCat, aCatT, aAddS, aDGet, aDIn, aDGet2, asDPut, aDNewK, aDNewT, aCall, aBM, aAppend, aPopAt, aLenS, aLenStr, aListOf, aTupleOf, aInt1, aMin2, aIsi, aIsN, aNotN, aCont, aBreak, aNever, aDisp, aPairs, kvs?, mergeD, EndA, D.eq2, D.isNon, D.key, D.items, ptrList, listM, seqAt, Cell.items, dGetM, dPutM, isDict, tyOf, kitD, updM_same, updM_upd, List.set_cons_zero, List.set_cons_succ, List.getElem?_cons_zero, List.getElem?_cons_succ, List.length_cons, List.length_nil, Option.map_some, Option.bind_some, Option.isSome_some, Option.isSome_none, Option.getD_some, Option.getD_none, List.foldl_cons, List.foldl_nil, decide_eq_true_eq, if_true, if_false, Bool.not_true, Bool.not_false, Bool.false_eq_true, true_and, and_true, Nat.reduceLT, Int.reduceLT, Int.reduceLE, ↓reduceIte, aLstN]
      refine ⟨by decide, fun lr hlr nlr => ?_⟩
      refine odd_repr ((odd.up (Mle.new hlf)).up (Mle.new hlr)) updM_same nlr ?_
      simp only [aSeq, aIf, aRet, aRetN, aDrop, aAsg, aNext, aPar, agName, agTup, agCons, agNil, agSub, rSetA, aTest, aOp, aUn, aV, aC, aI, aI0, aU, aEq, aNe, aCons, aNil, aTup, aLst, aCB, aIfE, aNotV, aNotT, aAndV, aOrV, aAndT, aOrT, aChain, aIxL, aIxT, aIxS, aSl, aPart, aNoPart, aSlL, aSlT, aSlS, aCat, aCatT, aAddS, aDGet, aDIn, aDGet2, asDPut, aDNewK, aDNewT, aCall, aBM, aAppend, aPopAt, aLenS, aLenStr, aListOf, aTupleOf, aInt1, aMin2, aIsi, aIsN, aNotN, aCont, aBreak, aNever, aDisp, aPairs, kvs?, mergeD, EndA, D.eq2, D.isNon, D.key, D.items, ptrList, listM, seqAt, Cell.items, dGetM, dPutM, isDict, tyOf, kitD, updM_same, updM_upd, List.set_cons_zero, List.set_cons_succ, List.getElem?_cons_zero, List.getElem?_cons_succ, List.length_cons, List.length_nil, Option.map_some, Option.bind_some, Option.isSome_some, Option.isSome_none, Option.getD_some, Option.getD_none, List.foldl_cons, List.foldl_nil, decide_eq_true_eq, if_true, if_false, Bool.not_true, Bool.not_false, Bool.false_eq_true, true_and, and_true, Nat.reduceLT, Int.reduceLT, Int.reduceLE, ↓reduceIte, eq_self, decide_true]
      have f4 := (Mle.new (c := .lst [d]) hlf).trans (Mle.new (c := .lst [d]) hlr)
      exact ⟨_, _, _, c6, rfl, f4 _ _ f0, hc6, f3.trans (mleX_of f4)⟩
    · rintro ρ' μ4 ⟨y6, y7, y8, c', rfl, e1, e2, e3⟩
      simp only [aSeq, aIf, aRet, aRetN, aDrop, aAsg, aNext, aPar, agName, agTup, agCons, agNil, agSub, rSetA, aTest, aOp, aUn, aV, aC, aI, aI0, aU, aEq, aNe, aCons, aNil, aTup, aLst, aCB, aIfE, aNotV, aNotT, aAndV, aOrV, aAndT, aOrT, aChain, aIxL, aIxT, aIxS, aSl, aPart, aNoPart, aSlL, aSlT, aSlS, aCat, aCatT, aAddS, aDGet, aDIn, aDGet2, asDPut, aDNewK, aDNewT, aCall, aBM, aAppend, aPopAt, aLenS, aLenStr, aListOf, aTupleOf, aInt1, aMin2, aIsi, aIsN, aNotN, aCont, aBreak, aNever, aDisp, aPairs, kvs?, mergeD, EndA, D.eq2, D.isNon, D.key, D.items, ptrList, listM, seqAt, Cell.items, dGetM, dPutM, isDict, tyOf, kitD, updM_same, updM_upd, List.set_cons_zero, List.set_cons_succ, List.getElem?_cons_zero, List.getElem?_cons_succ, List.length_cons, List.length_nil, Option.map_some, Option.bind_some, Option.isSome_some, Option.isSome_none, Option.getD_some, Option.getD_none, List.foldl_cons, List.foldl_nil, decide_eq_true_eq, if_true, if_false, Bool.not_true, Bool.not_false, Bool.false_eq_true, true_and, and_true, Nat.reduceLT, Int.reduceLT, Int.reduceLE, ↓reduceIte]
      refine ⟨xs, a :: tl, _, rfl, t2'.upX p3 hc2 e3, .inr rfl, ok, h3, ?_⟩
      simp only [aSeq, aIf, aRet, aRetN, aDrop, aAsg, aNext, aPar, agName, agTup, agCons, agNil, agSub, rSetA, aTest, aOp, aUn, aV, aC, aI, aI0, aU, aEq, aNe, aCons, aNil, aTup, aLst, aCB, aIfE, aNotV, aNotT, aAndV, aOrV, aAndT, aOrT, aChain, aIxL, aIxT, aIxS, aSl, aPart, aNoPart, aSlL, aSlT, aSlS, aCat, aCatT, aAddS, aDGet, aDIn, aDGet2, asDPut, aDNewK, aDNewT, aCall, aBM, aAppend, aPopAt, aLenS, aLenStr, aListOf, aTupleOf, aInt1, aMin2, aIsi, aIsN, aNotN, aCont, aBreak, aNever, aDisp, aPairs, kvs?, mergeD, EndA, D.eq2, D.isNon, D.key, D.items, ptrList, listM, seqAt, Cell.items, dGetM, dPutM, isDict, tyOf, kitD, updM_same, updM_upd, List.set_cons_zero, List.set_cons_succ, List.getElem?_cons_zero, List.getElem?_cons_succ, List.length_cons, List.length_nil, Option.map_some, Option.bind_some, Option.isSome_some, Option.isSome_none, Option.getD_some, Option.getD_none, List.foldl_cons, List.foldl_nil, decide_eq_true_eq, if_true, if_false, Bool.not_true, Bool.not_false, Bool.false_eq_true, true_and, and_true, Nat.reduceLT, Int.reduceLT, Int.reduceLE, ↓reduceIte]
      refine ⟨_, _, _, _, _, _, _, _, _, rfl, fun z o hz => ?_⟩
      have zp : z ≠ p := fun y => by rw [y] at hz; have := hm _ _ hz; rw [hp] at this; cases this
      exact e3.get (by simpa using zp) (mm _ _ hz)
  · rintro ρ' μ' ⟨x1, x2, x3, x4, x5, x6, x7, x8, x9, rfl, hm⟩
    have ok0 : RowsOk [] := ⟨Nat.zero_le _, (fun _ h => nomatch h), List.nodup_nil, (fun _ h => nomatch h), ⟨(fun _ h => nomatch h), List.Pairwise.nil⟩⟩
    simp only [aSeq, aIf, aRet, aRetN, aDrop, aAsg, aNext, aPar, agName, agTup, agCons, agNil, agSub, rSetA, aTest, aOp, aUn, aV, aC, aI, aI0, aU, aEq, aNe, aCons, aNil, aTup, aLst, aCB, aIfE, aNotV, aNotT, aAndV, aOrV, aAndT, aOrT, aChain, aIxL, aIxT, aIxS, aSl, aPart, aNoPart, aSlL, aSlT, aSlS, aCat, aCatT, aAddS, aDGet, aDIn, aDGet2, asDPut, aDNewK, aDNewT, aCall, aBM, aAppend, aPopAt, aLenS, aLenStr, aListOf, aTupleOf, aInt1, aMin2, aIsi, aIsN, aNotN, aCont, aBreak, aNever, aDisp, aPairs, kvs?, mergeD, EndA, D.eq2, D.isNon, D.key, D.items, ptrList, listM, seqAt, Cell.items, dGetM, dPutM, isDict, tyOf, kitD, updM_same, updM_upd, List.set_cons_zero, List.set_cons_succ, List.getElem?_cons_zero, List.getElem?_cons_succ, List.length_cons, List.length_nil, Option.map_some, Option.bind_some, Option.isSome_some, Option.isSome_none, Option.getD_some, Option.getD_none, List.foldl_cons, List.foldl_nil, decide_eq_true_eq, if_true, if_false, Bool.not_true, Bool.not_false, Bool.false_eq_true, true_and, and_true, Nat.reduceLT, Int.reduceLT, Int.reduceLE, ↓reduceIte, aMake]
    refine made_tab (rs := []) ok0 fun b μ2 hb m2 t2 => ?_
    obtain ⟨tq, tr, th1, th2⟩ := id t2
    simp only [aSeq, aIf, aRet, aRetN, aDrop, aAsg, aNext, aPar, agName, agTup, agCons, agNil, agSub, rSetA, aTest, aOp, aUn, aV, aC, aI, aI0, aU, aEq, aNe, aCons, aNil, aTup, aLst, aCB, aIfE, aNotV, aNotT, aAndV, aOrV, aAndT, aOrT, aChain, aIxL, aIxT, aIxS, aSl, aPart, aNoPart, aSlL, aSlT, aSlS, aCat, aCatT, aAddS, aDGet, aDIn, aDGet2, asDPut, aDNewK, aDNewT, aCall, aBM, aAppend, aPopAt, aLenS, aLenStr, aListOf, aTupleOf, aInt1, aMin2, aIsi, aIsN, aNotN, aCont, aBreak, aNever, aDisp, aPairs, kvs?, mergeD, EndA, D.eq2, D.isNon, D.key, D.items, ptrList, listM, seqAt, Cell.items, dGetM, dPutM, isDict, tyOf, kitD, updM_same, updM_upd, List.set_cons_zero, List.set_cons_succ, List.getElem?_cons_zero, List.getElem?_cons_succ, List.length_cons, List.length_nil, Option.map_some, Option.bind_some, Option.isSome_some, Option.isSome_none, Option.getD_some, Option.getD_none, List.foldl_cons, List.foldl_nil, decide_eq_true_eq, if_true, if_false, Bool.not_true, Bool.not_false, Bool.false_eq_true, true_and, and_true, Nat.reduceLT, Int.reduceLT, Int.reduceLE, ↓reduceIte, aLenO, th1]
    refine ⟨b, [], rfl, t2, ?_⟩
    refine ⟨Int.le_refl 0, by decide, ?_⟩
    have z0 : ((([] : List Row).length : Nat) : Int) = 0 := rfl
    simp only [aSeq, aIf, aRet, aRetN, aDrop, aAsg, aNext, aPar, agName, agTup, agCons, agNil, agSub, rSetA, aTest, aOp, aUn, aV, aC, aI, aI0, aU, aEq, aNe, aCons, aNil, aTup, aLst, aCB, aIfE, aNotV, aNotT, aAndV, aOrV, aAndT, aOrT, aChain, aIxL, aIxT, aIxS, aSl, aPart, aNoPart, aSlL, aSlT, aSlS, aCat, aCatT, aAddS, aDGet, aDIn, aDGet2, asDPut, aDNewK, aDNewT, aCall, aBM, aAppend, aPopAt, aLenS, aLenStr, aListOf, aTupleOf, aInt1, aMin2, aIsi, aIsN, aNotN, aCont, aBreak, aNever, aDisp, aPairs, kvs?, mergeD, EndA, D.eq2, D.isNon, D.key, D.items, ptrList, listM, seqAt, Cell.items, dGetM, dPutM, isDict, tyOf, kitD, updM_same, updM_upd, List.set_cons_zero, List.set_cons_succ, List.getElem?_cons_zero, List.getElem?_cons_succ, List.length_cons, List.length_nil, Option.map_some, Option.bind_some, Option.isSome_some, Option.isSome_none, Option.getD_some, Option.getD_none, List.foldl_cons, List.foldl_nil, decide_eq_true_eq, if_true, if_false, Bool.not_true, Bool.not_false, Bool.false_eq_true, true_and, and_true, Nat.reduceLT, Int.reduceLT, Int.reduceLE, ↓reduceIte, z0, eq_self, aProp, th1]
    refine ⟨b, [], rfl, t2, ?_⟩
    refine ⟨by decide, ?_⟩
    rw [eq_flat (n := 1) (m := 1) rfl rfl (by decide) (by decide), show PyData.eqv (D.tup (([] : List Row).map rowD)).py (D.tup []).py = true from by rw [py_tup (n := 1) rfl, py_tup (n := 1) rfl]; rfl]
    simp only [aSeq, aIf, aRet, aRetN, aDrop, aAsg, aNext, aPar, agName, agTup, agCons, agNil, agSub, rSetA, aTest, aOp, aUn, aV, aC, aI, aI0, aU, aEq, aNe, aCons, aNil, aTup, aLst, aCB, aIfE, aNotV, aNotT, aAndV, aOrV, aAndT, aOrT, aChain, aIxL, aIxT, aIxS, aSl, aPart, aNoPart, aSlL, aSlT, aSlS, aCat, aCatT, aAddS, aDGet, aDIn, aDGet2, asDPut, aDNewK, aDNewT, aCall, aBM, aAppend, aPopAt, aLenS, aLenStr, aListOf, aTupleOf, aInt1, aMin2, aIsi, aIsN, aNotN, aCont, aBreak, aNever, aDisp, aPairs, kvs?, mergeD, EndA, D.eq2, D.isNon, D.key, D.items, ptrList, listM, seqAt, Cell.items, dGetM, dPutM, isDict, tyOf, kitD, updM_same, updM_upd, List.set_cons_zero, List.set_cons_succ, List.getElem?_cons_zero, List.getElem?_cons_succ, List.length_cons, List.length_nil, Option.map_some, Option.bind_some, Option.isSome_some, Option.isSome_none, Option.getD_some, Option.getD_none, List.foldl_cons, List.foldl_nil, decide_eq_true_eq, if_true, if_false, Bool.not_true, Bool.not_false, Bool.false_eq_true, true_and, and_true, Nat.reduceLT, Int.reduceLT, Int.reduceLE, ↓reduceIte, aCMeth]
    refine ⟨by decide, _, [], rfl, .inl rfl, ok0, fun b2 μ3 hb2 m3 t3 => ?_⟩
    refine eqO_yes (t2.up m3) t3 ok0.p ?_
    obtain ⟨uq, ur, uh1, uh2⟩ := id (t2.up m3)
    simp only [aSeq, aIf, aRet, aRetN, aDrop, aAsg, aNext, aPar, agName, agTup, agCons, agNil, agSub, rSetA, aTest, aOp, aUn, aV, aC, aI, aI0, aU, aEq, aNe, aCons, aNil, aTup, aLst, aCB, aIfE, aNotV, aNotT, aAndV, aOrV, aAndT, aOrT, aChain, aIxL, aIxT, aIxS, aSl, aPart, aNoPart, aSlL, aSlT, aSlS, aCat, aCatT, aAddS, aDGet, aDIn, aDGet2, asDPut, aDNewK, aDNewT, aCall, aBM, aAppend, aPopAt, aLenS, aLenStr, aListOf, aTupleOf, aInt1, aMin2, aIsi, aIsN, aNotN, aCont, aBreak, aNever, aDisp, aPairs, kvs?, mergeD, EndA, D.eq2, D.isNon, D.key, D.items, ptrList, listM, seqAt, Cell.items, dGetM, dPutM, isDict, tyOf, kitD, updM_same, updM_upd, List.set_cons_zero, List.set_cons_succ, List.getElem?_cons_zero, List.getElem?_cons_succ, List.length_cons, List.length_nil, Option.map_some, Option.bind_some, Option.isSome_some, Option.isSome_none, Option.getD_some, Option.getD_none, List.foldl_cons, List.foldl_nil, decide_eq_true_eq, if_true, if_false, Bool.not_true, Bool.not_false, Bool.false_eq_true, true_and, and_true, Nat.reduceLT, Int.reduceLT, Int.reduceLE, ↓reduceIte, id, aInO, uh1]
    refine ⟨b, [], _, rfl, t2.up m3, .inl ⟨_, rfl, ?_⟩⟩
    have n0 : lookD (kvF []) (Sum.inr (Str.ofString "go") : Key) = none := rfl
    rw [n0]
    simp only [aSeq, aIf, aRet, aRetN, aDrop, aAsg, aNext, aPar, agName, agTup, agCons, agNil, agSub, rSetA, aTest, aOp, aUn, aV, aC, aI, aI0, aU, aEq, aNe, aCons, aNil, aTup, aLst, aCB, aIfE, aNotV, aNotT, aAndV, aOrV, aAndT, aOrT, aChain, aIxL, aIxT, aIxS, aSl, aPart, aNoPart, aSlL, aSlT, aSlS, aCat, aCatT, aAddS, aDGet, aDIn, aDGet2, asDPut, aDNewK, aDNewT, aCall, aBM, aAppend, aPopAt, aLenS, aLenStr, aListOf, aTupleOf, aInt1, aMin2, aIsi, aIsN, aNotN, aCont, aBreak, aNever, aDisp, aPairs, kvs?, mergeD, EndA, D.eq2, D.isNon, D.key, D.items, ptrList, listM, seqAt, Cell.items, dGetM, dPutM, isDict, tyOf, kitD, updM_same, updM_upd, List.set_cons_zero, List.set_cons_succ, List.getElem?_cons_zero, List.getElem?_cons_succ, List.length_cons, List.length_nil, Option.map_some, Option.bind_some, Option.isSome_some, Option.isSome_none, Option.getD_some, Option.getD_none, List.foldl_cons, List.foldl_nil, decide_eq_true_eq, if_true, if_false, Bool.not_true, Bool.not_false, Bool.false_eq_true, true_and, and_true, Nat.reduceLT, Int.reduceLT, Int.reduceLE, ↓reduceIte]
    exact ⟨_, Mle.refl _, k _⟩
end
end M53

set_option maxHeartbeats 4000000
namespace M53
open PySem PySem.Spec PyProof.Rows L2 Evl Gd DL
section
variable {P : Program} {w : World} {K : PySem.W.Frag} {mg : Str → Option Value} {base : Heap}
abbrev si_NoInstruction : Stmt := inClass (top 7) 0
theorem sci_NoInstruction : FnScope ["self", "given"] ["self", "given"] (defScope si_NoInstruction) := ⟨rfl, rfl, rfl, by decide +kernel, rfl, by decide +kernel, by decide +kernel⟩
theorem oki_NoInstruction {C fI : Addr} {fd : FuncData} (F : Fun K "__init__" "NoInstruction.__init__" si_NoInstruction fI fd) (T : OxF K C fI ["given"]) : FnOk P w K mg base CX0 1 fI fd ["self", "given"] (Gd.spI K C ["given"]) := by
  refine F.ok sci_NoInstruction (fun vs H Q E h => ?_) (fun cdv A outer s H vs Q E hr h => ?_)
  · obtain ⟨a, ys, rfl, hl, _⟩ := h
    simpa using hl
  · obtain ⟨a, ys, rfl, hl, ha, hq⟩ := h
    match ys, hl with
    | [y], _ => exact ⟨_, pss_one (ps_xst (pv 0) (pv 1)), ⟨y, rfl, .ref a, rfl, a, C, rfl, T.i.toOxC, T.nf _ (by simp), .inl ⟨ha, fun dx nd ne => hq dx nd ne⟩⟩⟩
def exmB (K : PySem.W.Frag) (NP : Addr) : Bool := decide (PySem.W.exmOne K (.ref NP) (.ref NP) = some true)
theorem exmB_ok {NP : Addr} (h : exmB K NP = true) : PySem.W.exmOne K (.ref NP) (.ref NP) = some true := of_decide_eq_true h
def fwOf (z : Str) : Int := fw (.str z)
def isW (o : Option (Option Value)) (n : Int) : Bool := match o with
  | some (some (.int i _)) => decide (i = n)
  | _ => false
def widB (K : PySem.W.Frag) (d : Addr) : Bool := FIELDS.all fun s => isW (PySem.W.nsIn K d s) (fw (.str s))
theorem widB_ok {d : Addr} (D : ∃ es n, KDict K w d es n) (h : widB K d = true) : (d == sysModules) = false ∧ ∀ z ∈ FIELDS, KDct K w d z (.int (fw (.str z))) := by
  obtain ⟨es, n, D⟩ := D
  refine ⟨D.low, fun z hz => ?_⟩
  have h1 := List.all_eq_true.mp h z hz
  unfold isW at h1
  split at h1
  · rename_i i t e
    exact ⟨es, n, _, D.at_, D.lit, e, t, by rw [of_decide_eq_true h1]⟩
  · cases h1
def TTS : List String := ["NoneType", "bool", "int", "str", "tuple", "list", "dict"]
def noKB (K : PySem.W.Frag) (C : Addr) : Bool := TTS.all fun t => decide (PySem.W.kitOne K (.type t) (.ref C) = some false)
theorem ownC_of {C : Addr} (hc : Cls K C) (h1 : kitB' K C = true) (h2 : decide (PySem.W.kitOne K (.ref C) (.ref C) = some true) = true) (h3 : noKB K C = true) : OwnC K C :=
  ⟨hc, (kitB'_ok h1).1, (kitB'_ok h1).2.1, (kitB'_ok h1).2.2.1, (kitB'_ok h1).2.2.2, of_decide_eq_true h2, fun t ht => of_decide_eq_true (List.all_eq_true.mp h3 t ht)⟩
theorem raw0 {k : Nat} {f : Addr} {fd : FuncData} {ps : List Str} {sp : Sp} (F : FnOk P w K mg base CX0 k f fd ps sp) (hb : L2.Binds K fd ps []) : FnR P w K mg base CX0 k f sp := by
  have h := FnOk.raw F hb .nil
  simpa only [List.append_nil] using h
def spLaw (K : PySem.W.Frag) : Sp := fun vs H Q _ => ∃ (a : Addr) (ns : List Int), vs = [.ref a] ∧ Scr K H a ns ∧ ns.length ≤ 63 ∧ ∀ H', Q (.bl true) H'
theorem law_fin {f : Addr} {fd : FuncData} (F : GOk P w K mg base CX0 11 f fd ["_law_script"] (spOf (ctLaw K))) : GOk P w K mg base CX0 11 f fd ["_law_script"] (spLaw K) := law_of F fun μ s is h hl Q q => ⟨s, is, rfl, h, hl, q⟩
end
end M53

set_option maxHeartbeats 8000000
namespace M53
open PySem PySem.Spec PyProof.Rows L2 Evl Gd DL SkE ClX StX
structure Tz (K : PySem.W.Frag) (mg : Str → Option Value) : Prop where
  b_len : mg "len" = none
  b_isinstance : mg "isinstance" = none
  b_str : mg "str" = none
  b_int : mg "int" = none
  b_bool : mg "bool" = none
  b_list : mg "list" = none
  b_tuple : mg "tuple" = none
  b_dict : mg "dict" = none
  b_set : mg "set" = none
  b_sorted : mg "sorted" = none
  b_repr : mg "repr" = none
  b_sum : mg "sum" = none
  b_all : mg "all" = none
  b_min : mg "min" = none
  b_range : mg "range" = none
  b_enumerate : mg "enumerate" = none
  g_LARGEST : ∃ t, mg "LARGEST" = some (.int 18446744073709551616 t)
  g_LAST_CELL : ∃ t, mg "LAST_CELL" = some (.int 255 t)
  g_MOST_IN_NAME : ∃ t, mg "MOST_IN_NAME" = some (.int 40 t)
  g_MOST_ROWS : ∃ t, mg "MOST_ROWS" = some (.int 100 t)
  g_MOST_FORMS : ∃ t, mg "MOST_FORMS" = some (.int 6 t)
  g_MOST_IN_OPCODE : ∃ t, mg "MOST_IN_OPCODE" = some (.int 3 t)
  g_MOST_OPERANDS : ∃ t, mg "MOST_OPERANDS" = some (.int 4 t)
  g_RESERVED : ∃ a, mg "RESERVED" = some (.ref a) ∧ ∀ H : Hp, SqT K H a (RES.map V.str)
theorem Tz.t {K : PySem.W.Frag} {mg : Str → Option Value} (h : Tz K mg) : Tx K mg := ⟨h.b_len, h.b_isinstance, h.b_str, h.b_int, h.b_bool, h.b_list, h.b_tuple, h.b_dict, h.b_set, h.b_sorted, h.b_repr, h.b_sum, h.b_all, h.b_min, h.b_range, h.b_enumerate⟩
theorem all_mk {l : PySem.W.OpenLaw} {w : World} {K : PySem.W.Frag} {h : Heap} {mg : Str → Option Value} {fa f0 f1 f2 f3 f4 f5 f6 f7 f8 f9 f10 f11 f12 f13 f14 f15 f16 f17 f18 f19 f20 f21 f22 f23 f24 f25 f26 f27 f28 f29 f30 f31 : Addr} (X : K.In h) (G : h.Ns mainGlobals mg) (hfa : mg "law" = some (.ref fa))
    {od0 od1 od2 od3 od4 od5 od6 od7 od8 od9 od10 od11 od12 od13 od14 od15 od16 od17 od18 od19 od20 od21 od22 od23 od24 od25 od26 od27 od28 od29 od30 od31 an0 an1 an2 an3 an4 an5 an6 an7 an8 an9 an10 an11 an12 an13 an14 an15 an16 an17 an18 an19 an20 an21 an22 an23 an24 an25 an26 an27 an28 an29 an30 an31 : Option Addr} {sl0 sl1 sl2 sl3 sl4 sl5 sl6 sl7 sl8 sl9 sl10 sl11 sl12 sl13 sl14 sl15 sl16 sl17 sl18 sl19 sl20 sl21 sl22 sl23 sl24 sl25 sl26 sl27 sl28 sl29 sl30 sl31 : Array (Option Value)} {oc0 oc1 oc2 oc3 oc4 oc5 oc6 oc7 oc8 oc9 oc10 oc11 oc12 oc13 oc14 oc15 oc16 oc17 oc18 oc19 oc20 oc21 oc22 oc23 oc24 oc25 oc26 oc27 oc28 oc29 oc30 oc31 kV0 kV1 kV2 kV3 kV4 kV5 kV6 kV7 kV8 kV9 kV10 kV11 kV12 kV13 kV14 kV15 kV16 kV17 kV18 kV19 kV20 kV21 kV22 kV23 kV24 kV25 kV26 kV27 kV28 kV29 kV30 kV31 dc0 dc1 dc2 dc3 dc4 dc5 dc6 dc7 dc8 dc9 dc10 dc11 dc12 dc13 dc14 dc15 dc16 dc17 dc18 dc19 dc20 dc21 dc22 dc23 dc24 dc25 dc26 dc27 dc28 dc29 dc30 dc31 pm0 pm1 pm2 pm3 pm4 pm5 pm6 pm7 pm8 pm9 pm10 pm11 pm12 pm13 pm14 pm15 pm16 pm17 pm18 pm19 pm20 pm21 pm22 pm23 pm24 pm25 pm26 pm27 pm28 pm29 pm30 pm31 cd0 cd1 cd2 cd3 cd4 cd5 cd6 cd7 cd8 cd9 cd10 cd11 cd12 cd13 cd14 cd15 cd16 cd17 cd18 cd19 cd20 cd21 cd22 cd23 cd24 cd25 cd26 cd27 cd28 cd29 cd30 cd31 ct0 ct1 ct2 ct3 ct4 ct5 ct6 ct7 ct8 ct9 ct10 ct11 ct12 ct13 ct14 ct15 ct16 ct17 ct18 ct19 ct20 ct21 ct22 ct23 ct24 ct25 ct26 ct27 ct28 ct29 ct30 ct31 : Value}
    (a0 : PySem.W.nsIn K mainGlobals "is_number" = some (some (.ref f0))) (l0 : K.lookup f0 = some ⟨oc0, od0, .func (PySem.W.fnOf "is_number" "is_number" (defArgs s_is_number) (defBody s_is_number) (defScope s_is_number) .none kV0 dc0 pm0 an0 cd0 ct0), sl0⟩) (c0 : PySem.W.codeIn K cd0 "is_number" = true) (k0 : PySem.W.keepIn K (.ref f0) = true)
    (a1 : PySem.W.nsIn K mainGlobals "is_value" = some (some (.ref f1))) (l1 : K.lookup f1 = some ⟨oc1, od1, .func (PySem.W.fnOf "is_value" "is_value" (defArgs s_is_value) (defBody s_is_value) (defScope s_is_value) .none kV1 dc1 pm1 an1 cd1 ct1), sl1⟩) (c1 : PySem.W.codeIn K cd1 "is_value" = true) (k1 : PySem.W.keepIn K (.ref f1) = true)
    (a2 : PySem.W.nsIn K mainGlobals "are_cells" = some (some (.ref f2))) (l2 : K.lookup f2 = some ⟨oc2, od2, .func (PySem.W.fnOf "are_cells" "are_cells" (defArgs s_are_cells) (defBody s_are_cells) (defScope s_are_cells) .none kV2 dc2 pm2 an2 cd2 ct2), sl2⟩) (c2 : PySem.W.codeIn K cd2 "are_cells" = true) (k2 : PySem.W.keepIn K (.ref f2) = true)
    (a3 : PySem.W.nsIn K mainGlobals "is_field" = some (some (.ref f3))) (l3 : K.lookup f3 = some ⟨oc3, od3, .func (PySem.W.fnOf "is_field" "is_field" (defArgs s_is_field) (defBody s_is_field) (defScope s_is_field) .none kV3 dc3 pm3 an3 cd3 ct3), sl3⟩) (c3 : PySem.W.codeIn K cd3 "is_field" = true) (k3 : PySem.W.keepIn K (.ref f3) = true)
    (a4 : PySem.W.nsIn K mainGlobals "width_of" = some (some (.ref f4))) (l4 : K.lookup f4 = some ⟨oc4, od4, .func (PySem.W.fnOf "width_of" "width_of" (defArgs s_width_of) (defBody s_width_of) (defScope s_width_of) .none kV4 dc4 pm4 an4 cd4 ct4), sl4⟩) (c4 : PySem.W.codeIn K cd4 "width_of" = true) (k4 : PySem.W.keepIn K (.ref f4) = true)
    (a5 : PySem.W.nsIn K mainGlobals "is_name" = some (some (.ref f5))) (l5 : K.lookup f5 = some ⟨oc5, od5, .func (PySem.W.fnOf "is_name" "is_name" (defArgs s_is_name) (defBody s_is_name) (defScope s_is_name) .none kV5 dc5 pm5 an5 cd5 ct5), sl5⟩) (c5 : PySem.W.codeIn K cd5 "is_name" = true) (k5 : PySem.W.keepIn K (.ref f5) = true)
    (a6 : PySem.W.nsIn K mainGlobals "is_reserved" = some (some (.ref f6))) (l6 : K.lookup f6 = some ⟨oc6, od6, .func (PySem.W.fnOf "is_reserved" "is_reserved" (defArgs s_is_reserved) (defBody s_is_reserved) (defScope s_is_reserved) .none kV6 dc6 pm6 an6 cd6 ct6), sl6⟩) (c6 : PySem.W.codeIn K cd6 "is_reserved" = true) (k6 : PySem.W.keepIn K (.ref f6) = true)
    (a7 : PySem.W.nsIn K mainGlobals "is_free_name" = some (some (.ref f7))) (l7 : K.lookup f7 = some ⟨oc7, od7, .func (PySem.W.fnOf "is_free_name" "is_free_name" (defArgs s_is_free_name) (defBody s_is_free_name) (defScope s_is_free_name) .none kV7 dc7 pm7 an7 cd7 ct7), sl7⟩) (c7 : PySem.W.codeIn K cd7 "is_free_name" = true) (k7 : PySem.W.keepIn K (.ref f7) = true)
    (a8 : PySem.W.nsIn K mainGlobals "length_of" = some (some (.ref f8))) (l8 : K.lookup f8 = some ⟨oc8, od8, .func (PySem.W.fnOf "length_of" "length_of" (defArgs s_length_of) (defBody s_length_of) (defScope s_length_of) .none kV8 dc8 pm8 an8 cd8 ct8), sl8⟩) (c8 : PySem.W.codeIn K cd8 "length_of" = true) (k8 : PySem.W.keepIn K (.ref f8) = true)
    (a9 : PySem.W.nsIn K mainGlobals "_check_rows" = some (some (.ref f9))) (l9 : K.lookup f9 = some ⟨oc9, od9, .func (PySem.W.fnOf "_check_rows" "_check_rows" (defArgs s_check_rows) (defBody s_check_rows) (defScope s_check_rows) .none kV9 dc9 pm9 an9 cd9 ct9), sl9⟩) (c9 : PySem.W.codeIn K cd9 "_check_rows" = true) (k9 : PySem.W.keepIn K (.ref f9) = true)
    (a10 : PySem.W.nsIn K mainGlobals "_is_row" = some (some (.ref f10))) (l10 : K.lookup f10 = some ⟨oc10, od10, .func (PySem.W.fnOf "_is_row" "_is_row" (defArgs s_is_row) (defBody s_is_row) (defScope s_is_row) .none kV10 dc10 pm10 an10 cd10 ct10), sl10⟩) (c10 : PySem.W.codeIn K cd10 "_is_row" = true) (k10 : PySem.W.keepIn K (.ref f10) = true)
    (a11 : PySem.W.nsIn K mainGlobals "_is_form" = some (some (.ref f11))) (l11 : K.lookup f11 = some ⟨oc11, od11, .func (PySem.W.fnOf "_is_form" "_is_form" (defArgs s_is_form) (defBody s_is_form) (defScope s_is_form) .none kV11 dc11 pm11 an11 cd11 ct11), sl11⟩) (c11 : PySem.W.codeIn K cd11 "_is_form" = true) (k11 : PySem.W.keepIn K (.ref f11) = true)
    (a12 : PySem.W.nsIn K mainGlobals "_may_follow" = some (some (.ref f12))) (l12 : K.lookup f12 = some ⟨oc12, od12, .func (PySem.W.fnOf "_may_follow" "_may_follow" (defArgs s_may_follow) (defBody s_may_follow) (defScope s_may_follow) .none kV12 dc12 pm12 an12 cd12 ct12), sl12⟩) (c12 : PySem.W.codeIn K cd12 "_may_follow" = true) (k12 : PySem.W.keepIn K (.ref f12) = true)
    (a13 : PySem.W.nsIn K mainGlobals "_is_met" = some (some (.ref f13))) (l13 : K.lookup f13 = some ⟨oc13, od13, .func (PySem.W.fnOf "_is_met" "_is_met" (defArgs s_is_met) (defBody s_is_met) (defScope s_is_met) .none kV13 dc13 pm13 an13 cd13 ct13), sl13⟩) (c13 : PySem.W.codeIn K cd13 "_is_met" = true) (k13 : PySem.W.keepIn K (.ref f13) = true)
    (a14 : PySem.W.nsIn K mainGlobals "_opcodes_of" = some (some (.ref f14))) (l14 : K.lookup f14 = some ⟨oc14, od14, .func (PySem.W.fnOf "_opcodes_of" "_opcodes_of" (defArgs s_opcodes_of) (defBody s_opcodes_of) (defScope s_opcodes_of) .none kV14 dc14 pm14 an14 cd14 ct14), sl14⟩) (c14 : PySem.W.codeIn K cd14 "_opcodes_of" = true) (k14 : PySem.W.keepIn K (.ref f14) = true)
    (a15 : PySem.W.nsIn K mainGlobals "_law_begin" = some (some (.ref f15))) (l15 : K.lookup f15 = some ⟨oc15, od15, .func (PySem.W.fnOf "_law_begin" "_law_begin" (defArgs s_law_begin) (defBody s_law_begin) (defScope s_law_begin) .none kV15 dc15 pm15 an15 cd15 ct15), sl15⟩) (c15 : PySem.W.codeIn K cd15 "_law_begin" = true) (k15 : PySem.W.keepIn K (.ref f15) = true)
    (a16 : PySem.W.nsIn K mainGlobals "_law_draw" = some (some (.ref f16))) (l16 : K.lookup f16 = some ⟨oc16, od16, .func (PySem.W.fnOf "_law_draw" "_law_draw" (defArgs s_law_draw) (defBody s_law_draw) (defScope s_law_draw) .none kV16 dc16 pm16 an16 cd16 ct16), sl16⟩) (c16 : PySem.W.codeIn K cd16 "_law_draw" = true) (k16 : PySem.W.keepIn K (.ref f16) = true)
    (a17 : PySem.W.nsIn K mainGlobals "_law_pick" = some (some (.ref f17))) (l17 : K.lookup f17 = some ⟨oc17, od17, .func (PySem.W.fnOf "_law_pick" "_law_pick" (defArgs s_law_pick) (defBody s_law_pick) (defScope s_law_pick) .none kV17 dc17 pm17 an17 cd17 ct17), sl17⟩) (c17 : PySem.W.codeIn K cd17 "_law_pick" = true) (k17 : PySem.W.keepIn K (.ref f17) = true)
    (a18 : PySem.W.nsIn K mainGlobals "_law_mixed" = some (some (.ref f18))) (l18 : K.lookup f18 = some ⟨oc18, od18, .func (PySem.W.fnOf "_law_mixed" "_law_mixed" (defArgs s_law_mixed) (defBody s_law_mixed) (defScope s_law_mixed) .none kV18 dc18 pm18 an18 cd18 ct18), sl18⟩) (c18 : PySem.W.codeIn K cd18 "_law_mixed" = true) (k18 : PySem.W.keepIn K (.ref f18) = true)
    (a19 : PySem.W.nsIn K mainGlobals "_law_codes" = some (some (.ref f19))) (l19 : K.lookup f19 = some ⟨oc19, od19, .func (PySem.W.fnOf "_law_codes" "_law_codes" (defArgs s_law_codes) (defBody s_law_codes) (defScope s_law_codes) .none kV19 dc19 pm19 an19 cd19 ct19), sl19⟩) (c19 : PySem.W.codeIn K cd19 "_law_codes" = true) (k19 : PySem.W.keepIn K (.ref f19) = true)
    (a20 : PySem.W.nsIn K mainGlobals "_law_slot" = some (some (.ref f20))) (l20 : K.lookup f20 = some ⟨oc20, od20, .func (PySem.W.fnOf "_law_slot" "_law_slot" (defArgs s_law_slot) (defBody s_law_slot) (defScope s_law_slot) .none kV20 dc20 pm20 an20 cd20 ct20), sl20⟩) (c20 : PySem.W.codeIn K cd20 "_law_slot" = true) (k20 : PySem.W.keepIn K (.ref f20) = true)
    (a21 : PySem.W.nsIn K mainGlobals "_law_width" = some (some (.ref f21))) (l21 : K.lookup f21 = some ⟨oc21, od21, .func (PySem.W.fnOf "_law_width" "_law_width" (defArgs s_law_width) (defBody s_law_width) (defScope s_law_width) .none kV21 dc21 pm21 an21 cd21 ct21), sl21⟩) (c21 : PySem.W.codeIn K cd21 "_law_width" = true) (k21 : PySem.W.keepIn K (.ref f21) = true)
    (a22 : PySem.W.nsIn K mainGlobals "_law_long" = some (some (.ref f22))) (l22 : K.lookup f22 = some ⟨oc22, od22, .func (PySem.W.fnOf "_law_long" "_law_long" (defArgs s_law_long) (defBody s_law_long) (defScope s_law_long) .none kV22 dc22 pm22 an22 cd22 ct22), sl22⟩) (c22 : PySem.W.codeIn K cd22 "_law_long" = true) (k22 : PySem.W.keepIn K (.ref f22) = true)
    (a23 : PySem.W.nsIn K mainGlobals "_law_shapes" = some (some (.ref f23))) (l23 : K.lookup f23 = some ⟨oc23, od23, .func (PySem.W.fnOf "_law_shapes" "_law_shapes" (defArgs s_law_shapes) (defBody s_law_shapes) (defScope s_law_shapes) .none kV23 dc23 pm23 an23 cd23 ct23), sl23⟩) (c23 : PySem.W.codeIn K cd23 "_law_shapes" = true) (k23 : PySem.W.keepIn K (.ref f23) = true)
    (a24 : PySem.W.nsIn K mainGlobals "_law_plan" = some (some (.ref f24))) (l24 : K.lookup f24 = some ⟨oc24, od24, .func (PySem.W.fnOf "_law_plan" "_law_plan" (defArgs s_law_plan) (defBody s_law_plan) (defScope s_law_plan) .none kV24 dc24 pm24 an24 cd24 ct24), sl24⟩) (c24 : PySem.W.codeIn K cd24 "_law_plan" = true) (k24 : PySem.W.keepIn K (.ref f24) = true)
    (a25 : PySem.W.nsIn K mainGlobals "_law_failed" = some (some (.ref f25))) (l25 : K.lookup f25 = some ⟨oc25, od25, .func (PySem.W.fnOf "_law_failed" "_law_failed" (defArgs s_law_failed) (defBody s_law_failed) (defScope s_law_failed) .none kV25 dc25 pm25 an25 cd25 ct25), sl25⟩) (c25 : PySem.W.codeIn K cd25 "_law_failed" = true) (k25 : PySem.W.keepIn K (.ref f25) = true)
    (a26 : PySem.W.nsIn K mainGlobals "_law_tells" = some (some (.ref f26))) (l26 : K.lookup f26 = some ⟨oc26, od26, .func (PySem.W.fnOf "_law_tells" "_law_tells" (defArgs s_law_tells) (defBody s_law_tells) (defScope s_law_tells) .none kV26 dc26 pm26 an26 cd26 ct26), sl26⟩) (c26 : PySem.W.codeIn K cd26 "_law_tells" = true) (k26 : PySem.W.keepIn K (.ref f26) = true)
    (a27 : PySem.W.nsIn K mainGlobals "_law_made" = some (some (.ref f27))) (l27 : K.lookup f27 = some ⟨oc27, od27, .func (PySem.W.fnOf "_law_made" "_law_made" (defArgs s_law_made) (defBody s_law_made) (defScope s_law_made) .none kV27 dc27 pm27 an27 cd27 ct27), sl27⟩) (c27 : PySem.W.codeIn K cd27 "_law_made" = true) (k27 : PySem.W.keepIn K (.ref f27) = true)
    (a28 : PySem.W.nsIn K mainGlobals "_law_turned" = some (some (.ref f28))) (l28 : K.lookup f28 = some ⟨oc28, od28, .func (PySem.W.fnOf "_law_turned" "_law_turned" (defArgs s_law_turned) (defBody s_law_turned) (defScope s_law_turned) .none kV28 dc28 pm28 an28 cd28 ct28), sl28⟩) (c28 : PySem.W.codeIn K cd28 "_law_turned" = true) (k28 : PySem.W.keepIn K (.ref f28) = true)
    (a29 : PySem.W.nsIn K mainGlobals "_law_near_unlike" = some (some (.ref f29))) (l29 : K.lookup f29 = some ⟨oc29, od29, .func (PySem.W.fnOf "_law_near_unlike" "_law_near_unlike" (defArgs s_law_near_unlike) (defBody s_law_near_unlike) (defScope s_law_near_unlike) .none kV29 dc29 pm29 an29 cd29 ct29), sl29⟩) (c29 : PySem.W.codeIn K cd29 "_law_near_unlike" = true) (k29 : PySem.W.keepIn K (.ref f29) = true)
    (a30 : PySem.W.nsIn K mainGlobals "_law_unlike" = some (some (.ref f30))) (l30 : K.lookup f30 = some ⟨oc30, od30, .func (PySem.W.fnOf "_law_unlike" "_law_unlike" (defArgs s_law_unlike) (defBody s_law_unlike) (defScope s_law_unlike) .none kV30 dc30 pm30 an30 cd30 ct30), sl30⟩) (c30 : PySem.W.codeIn K cd30 "_law_unlike" = true) (k30 : PySem.W.keepIn K (.ref f30) = true)
    (a31 : PySem.W.nsIn K mainGlobals "law" = some (some (.ref f31))) (l31 : K.lookup f31 = some ⟨oc31, od31, .func (PySem.W.fnOf "law" "law" (defArgs s_law) (defBody s_law) (defScope s_law) .none kV31 dc31 pm31 an31 cd31 ct31), sl31⟩) (c31 : PySem.W.codeIn K cd31 "law" = true) (k31 : PySem.W.keepIn K (.ref f31) = true)
    {tk_LARGEST tk_LAST_CELL tk_MOST_IN_NAME tk_MOST_ROWS tk_MOST_FORMS tk_MOST_IN_OPCODE tk_MOST_OPERANDS : Tok}
    (g_LARGEST : PySem.W.nsIn K mainGlobals "LARGEST" = some (some (.int 18446744073709551616 tk_LARGEST)))
    (g_LAST_CELL : PySem.W.nsIn K mainGlobals "LAST_CELL" = some (some (.int 255 tk_LAST_CELL)))
    (g_MOST_IN_NAME : PySem.W.nsIn K mainGlobals "MOST_IN_NAME" = some (some (.int 40 tk_MOST_IN_NAME)))
    (g_MOST_ROWS : PySem.W.nsIn K mainGlobals "MOST_ROWS" = some (some (.int 100 tk_MOST_ROWS)))
    (g_MOST_FORMS : PySem.W.nsIn K mainGlobals "MOST_FORMS" = some (some (.int 6 tk_MOST_FORMS)))
    (g_MOST_IN_OPCODE : PySem.W.nsIn K mainGlobals "MOST_IN_OPCODE" = some (some (.int 3 tk_MOST_IN_OPCODE)))
    (g_MOST_OPERANDS : PySem.W.nsIn K mainGlobals "MOST_OPERANDS" = some (some (.int 4 tk_MOST_OPERANDS)))
    {A_RESERVED : Addr} {odT_RESERVED : Option Addr} {nT_RESERVED : Nat} {slT_RESERVED : Array (Option Value)} {u0_RESERVED u1_RESERVED u2_RESERVED u3_RESERVED u4_RESERVED u5_RESERVED u6_RESERVED u7_RESERVED u8_RESERVED u9_RESERVED u10_RESERVED u11_RESERVED u12_RESERVED u13_RESERVED u14_RESERVED u15_RESERVED u16_RESERVED u17_RESERVED u18_RESERVED u19_RESERVED u20_RESERVED : Tok} (g_RESERVED : PySem.W.nsIn K mainGlobals "RESERVED" = some (some (.ref A_RESERVED)))
    (lT_RESERVED : K.lookup A_RESERVED = some ⟨.type "tuple", odT_RESERVED, .seq #[.str "mod" u0_RESERVED, .str "macro" u1_RESERVED, .str "endmacro" u2_RESERVED, .str "repeat" u3_RESERVED, .str "endrepeat" u4_RESERVED, .str "if" u5_RESERVED, .str "ifsame" u6_RESERVED, .str "else" u7_RESERVED, .str "endif" u8_RESERVED, .str "set" u9_RESERVED, .str "section" u10_RESERVED, .str "byte" u11_RESERVED, .str "word" u12_RESERVED, .str "long" u13_RESERVED, .str "text" u14_RESERVED, .str "space" u15_RESERVED, .str "align" u16_RESERVED, .str "scope" u17_RESERVED, .str "endscope" u18_RESERVED, .str "export" u19_RESERVED, .str "import" u20_RESERVED] nT_RESERVED, slT_RESERVED⟩)
    (b_len : PySem.W.nsIn K mainGlobals "len" = some none)
    (b_isinstance : PySem.W.nsIn K mainGlobals "isinstance" = some none)
    (b_str : PySem.W.nsIn K mainGlobals "str" = some none)
    (b_int : PySem.W.nsIn K mainGlobals "int" = some none)
    (b_bool : PySem.W.nsIn K mainGlobals "bool" = some none)
    (b_list : PySem.W.nsIn K mainGlobals "list" = some none)
    (b_tuple : PySem.W.nsIn K mainGlobals "tuple" = some none)
    (b_dict : PySem.W.nsIn K mainGlobals "dict" = some none)
    (b_set : PySem.W.nsIn K mainGlobals "set" = some none)
    (b_sorted : PySem.W.nsIn K mainGlobals "sorted" = some none)
    (b_repr : PySem.W.nsIn K mainGlobals "repr" = some none)
    (b_sum : PySem.W.nsIn K mainGlobals "sum" = some none)
    (b_all : PySem.W.nsIn K mainGlobals "all" = some none)
    (b_min : PySem.W.nsIn K mainGlobals "min" = some none)
    (b_range : PySem.W.nsIn K mainGlobals "range" = some none)
    (b_enumerate : PySem.W.nsIn K mainGlobals "enumerate" = some none)
    {C_L fi_L dL C_N fI_N N_N fm_O fm_R fm_N fm_H fm_G fm_E p_O p_R : Addr} {r_O r_R bs_N bm_N sb_N : List Value} {nm_N qn_N : Str} {sn_N : List Str} {ab_N : Bool} {col_N : Option Bool} {dd_N : Option Addr} {k0_N k1_N k2_N k3_N k5_N : Option Value}
    {ocm_O kVm_O dcm_O pmm_O cdm_O ctm_O ocm_R kVm_R dcm_R pmm_R cdm_R ctm_R ocm_N kVm_N dcm_N pmm_N cdm_N ctm_N ocm_H kVm_H dcm_H pmm_H cdm_H ctm_H ocm_G kVm_G dcm_G pmm_G cdm_G ctm_G ocm_E kVm_E dcm_E pmm_E cdm_E ctm_E ocI kVI dcI pmI cdI ctI oc_N kV_N dc_N pm_N cd_N ct_N : Value} {odm_O anm_O odm_R anm_R odm_N anm_N odm_H anm_H odm_G anm_G odm_E anm_E odI anI od_N an_N : Option Addr} {slm_O slm_R slm_N slm_H slm_G slm_E slI sl_N : Array (Option Value)}
    (a_Table : PySem.W.nsIn K mainGlobals "Table" = some (some (.ref C_L)))
    (icL : PySem.W.findIn K (.ref C_L) "__init__" = some (some (.ref fi_L)))
    (liL : K.lookup fi_L = some ⟨ocI, odI, .func (PySem.W.fnOf "__init__" "Table.__init__" (defArgs s_Table___init) (defBody s_Table___init) (defScope s_Table___init) .none kVI dcI pmI anI cdI ctI), slI⟩)
    (ciL : PySem.W.codeIn K cdI "Table.__init__" = true)
    (a_NoInstruction : PySem.W.nsIn K mainGlobals "NoInstruction" = some (some (.ref C_N)))
    (xL_N : K.lookup C_N = some (excClassObj nm_N qn_N C_N N_N bs_N bm_N true sn_N sb_N ab_N col_N dd_N k0_N k1_N k2_N k3_N k5_N "LookupError.__new__"))
    (hb_N : bm_N.dropWhile refV = [.type "LookupError", .type "Exception", .type "BaseException", .type "object"])
    (iC_N : PySem.W.findIn K (.ref C_N) "__init__" = some (some (.ref fI_N)))
    (li_N : K.lookup fI_N = some ⟨oc_N, od_N, .func (PySem.W.fnOf "__init__" "NoInstruction.__init__" (defArgs si_NoInstruction) (defBody si_NoInstruction) (defScope si_NoInstruction) .none kV_N dc_N pm_N an_N cd_N ct_N), sl_N⟩)
    (ci_N : PySem.W.codeIn K cd_N "NoInstruction.__init__" = true)
    (ki_N : PySem.W.keepIn K (.ref fI_N) = true)
    (ox_N : oxB K C_N fI_N ["given"] = true)
    (fex : exmB K C_N = true)
    (fp_O : PySem.W.findIn K (.ref C_L) "of" = some (some (.ref p_O)))
    (rc_O : PySem.W.recIn K p_O "classmethod" = some (.ref fm_O :: r_O))
    (lm_O : K.lookup fm_O = some ⟨ocm_O, odm_O, .func (PySem.W.fnOf "of" "Table.of" (defArgs s_Table_of) (defBody s_Table_of) (defScope s_Table_of) .none kVm_O dcm_O pmm_O anm_O cdm_O ctm_O), slm_O⟩)
    (cm_O : PySem.W.codeIn K cdm_O "Table.of" = true)
    (km_O : PySem.W.keepIn K (.ref fm_O) = true)
    (fp_R : PySem.W.findIn K (.ref C_L) "instructions" = some (some (.ref p_R)))
    (rc_R : PySem.W.recIn K p_R "property" = some (.ref fm_R :: r_R))
    (lm_R : K.lookup fm_R = some ⟨ocm_R, odm_R, .func (PySem.W.fnOf "instructions" "Table.instructions" (defArgs s_Table_instructions) (defBody s_Table_instructions) (defScope s_Table_instructions) .none kVm_R dcm_R pmm_R anm_R cdm_R ctm_R), slm_R⟩)
    (cm_R : PySem.W.codeIn K cdm_R "Table.instructions" = true)
    (km_R : PySem.W.keepIn K (.ref fm_R) = true)
    (fp_N : PySem.W.findIn K (.ref C_L) "__len__" = some (some (.ref fm_N)))
    (lm_N : K.lookup fm_N = some ⟨ocm_N, odm_N, .func (PySem.W.fnOf "__len__" "Table.__len__" (defArgs s_Table___len) (defBody s_Table___len) (defScope s_Table___len) .none kVm_N dcm_N pmm_N anm_N cdm_N ctm_N), slm_N⟩)
    (cm_N : PySem.W.codeIn K cdm_N "Table.__len__" = true)
    (km_N : PySem.W.keepIn K (.ref fm_N) = true)
    (fp_H : PySem.W.findIn K (.ref C_L) "__contains__" = some (some (.ref fm_H)))
    (lm_H : K.lookup fm_H = some ⟨ocm_H, odm_H, .func (PySem.W.fnOf "__contains__" "Table.__contains__" (defArgs s_Table___contains) (defBody s_Table___contains) (defScope s_Table___contains) .none kVm_H dcm_H pmm_H anm_H cdm_H ctm_H), slm_H⟩)
    (cm_H : PySem.W.codeIn K cdm_H "Table.__contains__" = true)
    (km_H : PySem.W.keepIn K (.ref fm_H) = true)
    (fp_G : PySem.W.findIn K (.ref C_L) "__getitem__" = some (some (.ref fm_G)))
    (lm_G : K.lookup fm_G = some ⟨ocm_G, odm_G, .func (PySem.W.fnOf "__getitem__" "Table.__getitem__" (defArgs s_Table___getitem) (defBody s_Table___getitem) (defScope s_Table___getitem) .none kVm_G dcm_G pmm_G anm_G cdm_G ctm_G), slm_G⟩)
    (cm_G : PySem.W.codeIn K cdm_G "Table.__getitem__" = true)
    (km_G : PySem.W.keepIn K (.ref fm_G) = true)
    (fp_E : PySem.W.findIn K (.ref C_L) "__eq__" = some (some (.ref fm_E)))
    (lm_E : K.lookup fm_E = some ⟨ocm_E, odm_E, .func (PySem.W.fnOf "__eq__" "Table.__eq__" (defArgs s_Table___eq) (defBody s_Table___eq) (defScope s_Table___eq) .none kVm_E dcm_E pmm_E anm_E cdm_E ctm_E), slm_E⟩)
    (cm_E : PySem.W.codeIn K cdm_E "Table.__eq__" = true)
    (km_E : PySem.W.keepIn K (.ref fm_E) = true)
    (fcls : clsB K C_L TFLD = true)
    (fkit : kitB' K C_L = true)
    (fyes : decide (PySem.W.kitOne K (.ref C_L) (.ref C_L) = some true) = true)
    (fno : noKB K C_L = true)
    (fmk : mkB K C_L fi_L = true)
    (feq : eqB K C_L fm_E [.type "int", .type "str", .type "NoneType", .type "tuple", .type "dict", .ref C_L] = true)
    (frd : readB K C_L = true)
    (a_WIDTHS : PySem.W.nsIn K mainGlobals "WIDTHS" = some (some (.ref dL)))
    (dw : He.dicW K dL = some (He.keysIn w.params FIELDS))
    (wb : widB K dL = true)
    (fcm_O : cmB K C_L "of" p_O fm_O = true)
    (fpr_R : propB K C_L "instructions" p_R fm_R = true)
    (fown_N : ownB K C_L "__len__" fm_N = true)
    (fown_H : ownB K C_L "__contains__" fm_H = true)
    (fown_G : ownB K C_L "__getitem__" fm_G = true)
    : ∃ fd : FuncData, (∀ (s : Shared) (v : Value), BindsTo s fd ⟨[v], []⟩ [("_law_script", v)]) ∧ ∀ base : Heap, K.In base → base.Ns mainGlobals mg → GOk l.prog w K mg base CX0 11 fa fd ["_law_script"] (spLaw K) := by
  have e := hfa.symm.trans (PySem.W.mg_of X G a31)
  cases e
  have T : Tz K mg := {
    b_len := PySem.W.mg_none_of X G b_len,
    b_isinstance := PySem.W.mg_none_of X G b_isinstance,
    b_str := PySem.W.mg_none_of X G b_str,
    b_int := PySem.W.mg_none_of X G b_int,
    b_bool := PySem.W.mg_none_of X G b_bool,
    b_list := PySem.W.mg_none_of X G b_list,
    b_tuple := PySem.W.mg_none_of X G b_tuple,
    b_dict := PySem.W.mg_none_of X G b_dict,
    b_set := PySem.W.mg_none_of X G b_set,
    b_sorted := PySem.W.mg_none_of X G b_sorted,
    b_repr := PySem.W.mg_none_of X G b_repr,
    b_sum := PySem.W.mg_none_of X G b_sum,
    b_all := PySem.W.mg_none_of X G b_all,
    b_min := PySem.W.mg_none_of X G b_min,
    b_range := PySem.W.mg_none_of X G b_range,
    b_enumerate := PySem.W.mg_none_of X G b_enumerate,
    g_LARGEST := ⟨_, PySem.W.mg_of X G g_LARGEST⟩,
    g_LAST_CELL := ⟨_, PySem.W.mg_of X G g_LAST_CELL⟩,
    g_MOST_IN_NAME := ⟨_, PySem.W.mg_of X G g_MOST_IN_NAME⟩,
    g_MOST_ROWS := ⟨_, PySem.W.mg_of X G g_MOST_ROWS⟩,
    g_MOST_FORMS := ⟨_, PySem.W.mg_of X G g_MOST_FORMS⟩,
    g_MOST_IN_OPCODE := ⟨_, PySem.W.mg_of X G g_MOST_IN_OPCODE⟩,
    g_MOST_OPERANDS := ⟨_, PySem.W.mg_of X G g_MOST_OPERANDS⟩,
    g_RESERVED := ⟨A_RESERVED, PySem.W.mg_of X G g_RESERVED, fun H => Or.inr ⟨_, _, _, lT_RESERVED, rfl, rfl, by show 21 ≤ sizeLine; decide, (.cons ⟨_, rfl⟩ (.cons ⟨_, rfl⟩ (.cons ⟨_, rfl⟩ (.cons ⟨_, rfl⟩ (.cons ⟨_, rfl⟩ (.cons ⟨_, rfl⟩ (.cons ⟨_, rfl⟩ (.cons ⟨_, rfl⟩ (.cons ⟨_, rfl⟩ (.cons ⟨_, rfl⟩ (.cons ⟨_, rfl⟩ (.cons ⟨_, rfl⟩ (.cons ⟨_, rfl⟩ (.cons ⟨_, rfl⟩ (.cons ⟨_, rfl⟩ (.cons ⟨_, rfl⟩ (.cons ⟨_, rfl⟩ (.cons ⟨_, rfl⟩ (.cons ⟨_, rfl⟩ (.cons ⟨_, rfl⟩ (.cons ⟨_, rfl⟩ .nil)))))))))))))))))))))⟩⟩ }
  have F0 := fun_mk (st := s_is_number) l0 c0 k0
  have B0 := F0.binds (ps := ["value"]) fun _ _ _ _ _ _ us hl => match us, hl with | [_], _ => rfl
  have F1 := fun_mk (st := s_is_value) l1 c1 k1
  have B1 := F1.binds (ps := ["value"]) fun _ _ _ _ _ _ us hl => match us, hl with | [_], _ => rfl
  have F2 := fun_mk (st := s_are_cells) l2 c2 k2
  have B2 := F2.binds (ps := ["values"]) fun _ _ _ _ _ _ us hl => match us, hl with | [_], _ => rfl
  have F3 := fun_mk (st := s_is_field) l3 c3 k3
  have B3 := F3.binds (ps := ["value"]) fun _ _ _ _ _ _ us hl => match us, hl with | [_], _ => rfl
  have F4 := fun_mk (st := s_width_of) l4 c4 k4
  have B4 := F4.binds (ps := ["field"]) fun _ _ _ _ _ _ us hl => match us, hl with | [_], _ => rfl
  have F5 := fun_mk (st := s_is_name) l5 c5 k5
  have B5 := F5.binds (ps := ["value"]) fun _ _ _ _ _ _ us hl => match us, hl with | [_], _ => rfl
  have F6 := fun_mk (st := s_is_reserved) l6 c6 k6
  have B6 := F6.binds (ps := ["value"]) fun _ _ _ _ _ _ us hl => match us, hl with | [_], _ => rfl
  have F7 := fun_mk (st := s_is_free_name) l7 c7 k7
  have B7 := F7.binds (ps := ["value"]) fun _ _ _ _ _ _ us hl => match us, hl with | [_], _ => rfl
  have F8 := fun_mk (st := s_length_of) l8 c8 k8
  have B8 := F8.binds (ps := ["form"]) fun _ _ _ _ _ _ us hl => match us, hl with | [_], _ => rfl
  have F9 := fun_mk (st := s_check_rows) l9 c9 k9
  have B9 := F9.binds (ps := ["rows"]) fun _ _ _ _ _ _ us hl => match us, hl with | [_], _ => rfl
  have F10 := fun_mk (st := s_is_row) l10 c10 k10
  have B10 := F10.binds (ps := ["value"]) fun _ _ _ _ _ _ us hl => match us, hl with | [_], _ => rfl
  have F11 := fun_mk (st := s_is_form) l11 c11 k11
  have B11 := F11.binds (ps := ["value"]) fun _ _ _ _ _ _ us hl => match us, hl with | [_], _ => rfl
  have F12 := fun_mk (st := s_may_follow) l12 c12 k12
  have B12 := F12.binds (ps := ["form", "earlier"]) fun _ _ _ _ _ _ us hl => match us, hl with | [_, _], _ => rfl
  have F13 := fun_mk (st := s_is_met) l13 c13 k13
  have B13 := F13.binds (ps := ["opcode", "begun"]) fun _ _ _ _ _ _ us hl => match us, hl with | [_, _], _ => rfl
  have F14 := fun_mk (st := s_opcodes_of) l14 c14 k14
  have B14 := F14.binds (ps := ["rows"]) fun _ _ _ _ _ _ us hl => match us, hl with | [_], _ => rfl
  have F15 := fun_mk (st := s_law_begin) l15 c15 k15
  have B15 := F15.binds (ps := ["_law_script", "_law_spot"]) fun _ _ _ _ _ _ us hl => match us, hl with | [_, _], _ => rfl
  have F16 := fun_mk (st := s_law_draw) l16 c16 k16
  have B16 := F16.binds (ps := ["_law_m", "_law_size"]) fun _ _ _ _ _ _ us hl => match us, hl with | [_, _], _ => rfl
  have F17 := fun_mk (st := s_law_pick) l17 c17 k17
  have B17 := F17.binds (ps := ["_law_m", "_law_items"]) fun _ _ _ _ _ _ us hl => match us, hl with | [_, _], _ => rfl
  have F18 := fun_mk (st := s_law_mixed) l18 c18 k18
  have B18 := F18.binds (ps := ["_law_m", "_law_items"]) fun _ _ _ _ _ _ us hl => match us, hl with | [_, _], _ => rfl
  have F19 := fun_mk (st := s_law_codes) l19 c19 k19
  have B19 := F19.binds (ps := ["_law_m"]) fun _ _ _ _ _ _ us hl => match us, hl with | [_], _ => rfl
  have F20 := fun_mk (st := s_law_slot) l20 c20 k20
  have B20 := F20.binds (ps := ["_law_m"]) fun _ _ _ _ _ _ us hl => match us, hl with | [_], _ => rfl
  have F21 := fun_mk (st := s_law_width) l21 c21 k21
  have B21 := F21.binds (ps := ["_law_slot_here"]) fun _ _ _ _ _ _ us hl => match us, hl with | [_], _ => rfl
  have F22 := fun_mk (st := s_law_long) l22 c22 k22
  have B22 := F22.binds (ps := ["_law_shape"]) fun _ _ _ _ _ _ us hl => match us, hl with | [_], _ => rfl
  have F23 := fun_mk (st := s_law_shapes) l23 c23 k23
  have B23 := F23.binds (ps := ["_law_m", "_law_codes_here", "_law_many"]) fun _ _ _ _ _ _ us hl => match us, hl with | [_, _, _], _ => rfl
  have F24 := fun_mk (st := s_law_plan) l24 c24 k24
  have B24 := F24.binds (ps := ["_law_m"]) fun _ _ _ _ _ _ us hl => match us, hl with | [_], _ => rfl
  have F25 := fun_mk (st := s_law_failed) l25 c25 k25
  have B25 := F25.binds (ps := ["_law_some", "_law_odd"]) fun _ _ _ _ _ _ us hl => match us, hl with | [_, _], _ => rfl
  have F26 := fun_mk (st := s_law_tells) l26 c26 k26
  have B26 := F26.binds (ps := ["_law_some", "_law_plan_here"]) fun _ _ _ _ _ _ us hl => match us, hl with | [_, _], _ => rfl
  have F27 := fun_mk (st := s_law_made) l27 c27 k27
  have B27 := F27.binds (ps := ["_law_plan_here"]) fun _ _ _ _ _ _ us hl => match us, hl with | [_], _ => rfl
  have F28 := fun_mk (st := s_law_turned) l28 c28 k28
  have B28 := F28.binds (ps := ["_law_slot_here"]) fun _ _ _ _ _ _ us hl => match us, hl with | [_], _ => rfl
  have F29 := fun_mk (st := s_law_near_unlike) l29 c29 k29
  have B29 := F29.binds (ps := ["_law_some", "_law_plan_here"]) fun _ _ _ _ _ _ us hl => match us, hl with | [_, _], _ => rfl
  have F30 := fun_mk (st := s_law_unlike) l30 c30 k30
  have B30 := F30.binds (ps := ["_law_some", "_law_plan_here"]) fun _ _ _ _ _ _ us hl => match us, hl with | [_, _], _ => rfl
  have F31 := fun_mk (st := s_law) l31 c31 k31
  refine ⟨PySem.W.fnOf "law" "law" (defArgs s_law) (defBody s_law) (defScope s_law) .none kV31 dc31 pm31 an31 cd31 ct31, fun s v => .of_eq rfl, fun base _ _ => ?_⟩
  have FFO := fun_mk (st := s_Table_of) lm_O cm_O km_O
  have BBO := FFO.binds (ps := ["cls", "rows"]) fun _ _ _ _ _ _ us hl => match us, hl with | [_, _], _ => rfl
  have FFR := fun_mk (st := s_Table_instructions) lm_R cm_R km_R
  have BBR := FFR.binds (ps := ["self"]) fun _ _ _ _ _ _ us hl => match us, hl with | [_], _ => rfl
  have FFN := fun_mk (st := s_Table___len) lm_N cm_N km_N
  have BBN := FFN.binds (ps := ["self"]) fun _ _ _ _ _ _ us hl => match us, hl with | [_], _ => rfl
  have FFH := fun_mk (st := s_Table___contains) lm_H cm_H km_H
  have BBH := FFH.binds (ps := ["self", "name"]) fun _ _ _ _ _ _ us hl => match us, hl with | [_, _], _ => rfl
  have FFG := fun_mk (st := s_Table___getitem) lm_G cm_G km_G
  have BBG := FFG.binds (ps := ["self", "name"]) fun _ _ _ _ _ _ us hl => match us, hl with | [_, _], _ => rfl
  have FFE := fun_mk (st := s_Table___eq) lm_E cm_E km_E
  have BBE := FFE.binds (ps := ["self", "other"]) fun _ _ _ _ _ _ us hl => match us, hl with | [_, _], _ => rfl
  have TC : TabC K C_L := ⟨(clsB_ok fcls).1, (clsB_ok fcls).2⟩
  have OC : OwnC K C_L := ownC_of TC.cls fkit fyes fno
  have gL := PySem.W.mg_of X G a_Table
  have WD := widB_ok (w := w) (He.dicW_ok dw) wb
  have Y : Ty K w mg := { g_LARGEST := T.g_LARGEST, g_LAST_CELL := T.g_LAST_CELL, g_MOST_IN_NAME := T.g_MOST_IN_NAME, g_MOST_ROWS := T.g_MOST_ROWS, g_MOST_FORMS := T.g_MOST_FORMS, g_MOST_IN_OPCODE := T.g_MOST_IN_OPCODE, g_MOST_OPERANDS := T.g_MOST_OPERANDS, g_WIDTHS := ⟨dL, PySem.W.mg_of X G a_WIDTHS, WD.1, WD.2⟩, g_RESERVED := T.g_RESERVED }
  have T := T.t
  have ON : OxF K C_N fI_N ["given"] := oxF_of fam_Lookup xL_N hb_N iC_N (kitB'_ok fkit).2.2.1 (kitB'_ok fkit).2.2.2 ox_N
  have FIN := fun_mk (st := si_NoInstruction) li_N ci_N ki_N
  have D_NoInstruction : Xc l.prog w K mg base CX0 "NoInstruction" C_N ["given"] := ⟨PySem.W.mg_of X G a_NoInstruction, fI_N, _, ON, oki_NoInstruction FIN ON, FIN.binds (ps := ["self", "given"]) (fun _ _ _ _ _ _ us hl => match us, hl with | [_, _], _ => rfl), FIN.kbindsR (ps := ["given"]) (fun _ _ _ _ _ _ u ws hl => match ws, hl with | [_], _ => rfl)⟩
  have D_is_number : Df l.prog w K mg base CX0 _ _ _ _ := ⟨_, _, ok_is_number F0 T, B0, k0, PySem.W.mg_of X G a0⟩
  have D_is_value : Df l.prog w K mg base CX0 _ _ _ _ := ⟨_, _, ok_is_value F1 T Y D_is_number, B1, k1, PySem.W.mg_of X G a1⟩
  have D_are_cells : Df l.prog w K mg base CX0 _ _ _ _ := ⟨_, _, ok_are_cells F2 T Y, B2, k2, PySem.W.mg_of X G a2⟩
  have D_is_field : Df l.prog w K mg base CX0 _ _ _ _ := ⟨_, _, ok_is_field F3 T Y D_is_value, B3, k3, PySem.W.mg_of X G a3⟩
  have D_width_of : Df l.prog w K mg base CX0 _ _ _ _ := ⟨_, _, ok_width_of F4 T Y, B4, k4, PySem.W.mg_of X G a4⟩
  have D_is_name : Df l.prog w K mg base CX0 _ _ _ _ := ⟨_, _, ok_is_name F5 T Y, B5, k5, PySem.W.mg_of X G a5⟩
  have D_is_reserved : Df l.prog w K mg base CX0 _ _ _ _ := ⟨_, _, ok_is_reserved F6 T Y, B6, k6, PySem.W.mg_of X G a6⟩
  have D_is_free_name : Df l.prog w K mg base CX0 _ _ _ _ := ⟨_, _, ok_is_free_name F7 T D_is_name D_is_reserved, B7, k7, PySem.W.mg_of X G a7⟩
  have D_length_of : Df l.prog w K mg base CX0 _ _ _ _ := ⟨_, _, ok_length_of F8 T D_width_of, B8, k8, PySem.W.mg_of X G a8⟩
  have D_is_row : Df l.prog w K mg base CX0 _ _ _ _ := ⟨_, _, ok_is_row F10 T Y D_is_free_name, B10, k10, PySem.W.mg_of X G a10⟩
  have D_is_form : Df l.prog w K mg base CX0 _ _ _ _ := ⟨_, _, ok_is_form F11 T Y D_are_cells D_is_field, B11, k11, PySem.W.mg_of X G a11⟩
  have D_may_follow : Df l.prog w K mg base CX0 _ _ _ _ := ⟨_, _, ok_may_follow F12 T D_length_of, B12, k12, PySem.W.mg_of X G a12⟩
  have D_is_met : Df l.prog w K mg base CX0 _ _ _ _ := ⟨_, _, ok_is_met F13 T, B13, k13, PySem.W.mg_of X G a13⟩
  have D_check_rows : Df l.prog w K mg base CX0 _ _ _ _ := ⟨_, _, ok_check_rows F9 T Y D_is_row D_is_form D_may_follow D_is_met, B9, k9, PySem.W.mg_of X G a9⟩
  have D_opcodes_of : Df l.prog w K mg base CX0 _ _ _ _ := ⟨_, _, ok_opcodes_of F14 T D_length_of, B14, k14, PySem.W.mg_of X G a14⟩
  have FI : FnR l.prog w K mg base CX0 6 fi_L (spOf (ctInit C_L)) := ok_Table_init liL ciL T TC D_check_rows D_length_of D_opcodes_of
  have MK := mkB_ok fmk
  have FO : FnOk l.prog w K mg base CX0 8 fm_O _ ["cls", "rows"] (spOf (ctOf C_L)) := ok_Table_of FFO T MK FI
  have oN := ownB_ok fown_N
  have oH := ownB_ok fown_H
  have oG := ownB_ok fown_G
  have M : TabM l.prog w K mg base C_L fi_L fm_O fm_R fm_N fm_H fm_G fm_E := {
    mka := MK, fi := FI, g := gL, of_ := raw0 FO BBO, cr := readB_ok frd, cm := ⟨_, cmB_ok fcm_O⟩
    hpr := fun D e => e ▸ ⟨TC.cls, p_R, propB_ok fpr_R⟩
    pr := ⟨_, ok_Table_instructions FFR TC, BBR⟩, ln := ⟨oN.1, oN.2.2.2⟩, lnF := ⟨_, ok_Table_len FFN T TC, BBN⟩
    hs := ⟨oH.1, oH.2.1⟩, hsF := ⟨_, ok_Table_contains FFH T TC, BBH⟩, gt := ⟨oG.1, oG.2.2.1, oG.2.1⟩, gtF := ⟨_, ok_Table_getitem FFG T TC, BBG⟩
    eq := eqB_ok feq, eqF := ⟨_, ok_Table_eq FFE T TC OC gL, BBE⟩ }
  have D_law_begin : Df l.prog w K mg base CX0 _ _ _ _ := ⟨_, _, ok_law_beginK F15 T, B15, k15, PySem.W.mg_of X G a15⟩
  have D_law_draw : Df l.prog w K mg base CX0 _ _ _ _ := ⟨_, _, ok_law_draw F16 T, B16, k16, PySem.W.mg_of X G a16⟩
  have D_law_pick : Df l.prog w K mg base CX0 _ _ _ _ := ⟨_, _, ok_law_pick F17 T D_law_draw, B17, k17, PySem.W.mg_of X G a17⟩
  have D_law_mixed : Df l.prog w K mg base CX0 _ _ _ _ := ⟨_, _, ok_law_mixed F18 T D_law_draw, B18, k18, PySem.W.mg_of X G a18⟩
  have D_law_codes : Df l.prog w K mg base CX0 _ _ _ _ := ⟨_, _, ok_law_codes F19 T D_law_draw D_law_mixed, B19, k19, PySem.W.mg_of X G a19⟩
  have D_law_slot : Df l.prog w K mg base CX0 _ _ _ _ := ⟨_, _, ok_law_slot F20 T D_law_draw D_law_pick, B20, k20, PySem.W.mg_of X G a20⟩
  have D_law_width : Df l.prog w K mg base CX0 _ _ _ _ := ⟨_, _, ok_law_width F21 T, B21, k21, PySem.W.mg_of X G a21⟩
  have D_law_long : Df l.prog w K mg base CX0 _ _ _ _ := ⟨_, _, ok_law_long F22 T D_law_width, B22, k22, PySem.W.mg_of X G a22⟩
  have D_law_shapes : Df l.prog w K mg base CX0 _ _ _ _ := ⟨_, _, ok_law_shapes F23 T D_law_draw D_law_slot D_law_long, B23, k23, PySem.W.mg_of X G a23⟩
  have D_law_plan : Df l.prog w K mg base CX0 _ _ _ _ := ⟨_, _, ok_law_plan F24 T D_law_draw D_law_codes D_law_mixed D_law_shapes, B24, k24, PySem.W.mg_of X G a24⟩
  have D_law_failed : Df l.prog w K mg base CX0 _ _ _ _ := ⟨_, _, ok_law_failed F25 T (PySem.W.mg_of X G a_NoInstruction) ON.xf (ON.nf _ List.mem_cons_self) (exmB_ok fex) oG.1 oG.2.2.1 oG.2.1 (ok_Table_getitemX FFG T TC D_NoInstruction) BBG, B25, k25, PySem.W.mg_of X G a25⟩
  have D_law_tells : DfG l.prog w K mg base CX0 _ _ _ _ := ⟨_, _, ok_law_tells F26 T M, B26, k26, PySem.W.mg_of X G a26⟩
  have D_law_made : Df l.prog w K mg base CX0 _ _ _ _ := ⟨_, _, ok_law_made F27 T M, B27, k27, PySem.W.mg_of X G a27⟩
  have D_law_turned : Df l.prog w K mg base CX0 _ _ _ _ := ⟨_, _, ok_law_turned F28 T, B28, k28, PySem.W.mg_of X G a28⟩
  have D_law_near_unlike : Df l.prog w K mg base CX0 _ _ _ _ := ⟨_, _, ok_law_near_unlike F29 T M D_law_turned, B29, k29, PySem.W.mg_of X G a29⟩
  have D_law_unlike : Df l.prog w K mg base CX0 _ _ _ _ := ⟨_, _, ok_law_unlike F30 T M, B30, k30, PySem.W.mg_of X G a30⟩
  exact law_fin (ok_law F31 T M D_law_begin D_law_plan D_law_pick D_law_made D_law_tells D_law_unlike D_law_near_unlike D_law_failed)
end M53
open PySem PySem.W PyProof.Rows
set_option maxRecDepth 100000 in
set_option maxHeartbeats 0 in
theorem PySem.Challenge.cw_macroasm_k53_tables_asked_holds : PySem.Challenge.rw_macroasm_k53_tables_asked.Holds := by
  w_on; o_law; k_head; (case hw => w_witness2)
  k_fill
  refine Gd.walk_calm (l := PySem.Challenge.rw_macroasm_k53_tables_asked) (n := 63) (k := 11) (x := "_law_script") (CX := fun _ => L2.CX0) (sp := fun w => M53.spLaw _) rfl (by decide) rfl ⟨rfl, by decide, by decide⟩ (fun w h Y => PySem.W.kIn_of Y) ?F (fun _ _ a ns hl _ hS => ⟨a, ns, rfl, hS, hl, fun _ => rfl⟩) (fun _ _ _ _ _ h => h)
  case F =>
    intro w mg fa h KX G hmg
    refine' M53.all_mk KX G hmg ?a0 ?l0 ?c0 ?k0 ?a1 ?l1 ?c1 ?k1 ?a2 ?l2 ?c2 ?k2 ?a3 ?l3 ?c3 ?k3 ?a4 ?l4 ?c4 ?k4 ?a5 ?l5 ?c5 ?k5 ?a6 ?l6 ?c6 ?k6 ?a7 ?l7 ?c7 ?k7 ?a8 ?l8 ?c8 ?k8 ?a9 ?l9 ?c9 ?k9 ?a10 ?l10 ?c10 ?k10 ?a11 ?l11 ?c11 ?k11 ?a12 ?l12 ?c12 ?k12 ?a13 ?l13 ?c13 ?k13 ?a14 ?l14 ?c14 ?k14 ?a15 ?l15 ?c15 ?k15 ?a16 ?l16 ?c16 ?k16 ?a17 ?l17 ?c17 ?k17 ?a18 ?l18 ?c18 ?k18 ?a19 ?l19 ?c19 ?k19 ?a20 ?l20 ?c20 ?k20 ?a21 ?l21 ?c21 ?k21 ?a22 ?l22 ?c22 ?k22 ?a23 ?l23 ?c23 ?k23 ?a24 ?l24 ?c24 ?k24 ?a25 ?l25 ?c25 ?k25 ?a26 ?l26 ?c26 ?k26 ?a27 ?l27 ?c27 ?k27 ?a28 ?l28 ?c28 ?k28 ?a29 ?l29 ?c29 ?k29 ?a30 ?l30 ?c30 ?k30 ?a31 ?l31 ?c31 ?k31 ?g_LARGEST ?g_LAST_CELL ?g_MOST_IN_NAME ?g_MOST_ROWS ?g_MOST_FORMS ?g_MOST_IN_OPCODE ?g_MOST_OPERANDS ?g_RESERVED ?lT_RESERVED ?b_len ?b_isinstance ?b_str ?b_int ?b_bool ?b_list ?b_tuple ?b_dict ?b_set ?b_sorted ?b_repr ?b_sum ?b_all ?b_min ?b_range ?b_enumerate ?a_Table ?icL ?liL ?ciL ?a_NoInstruction ?xL_N ?hb_N ?iC_N ?li_N ?ci_N ?ki_N ?ox_N ?fex ?fp_O ?rc_O ?lm_O ?cm_O ?km_O ?fp_R ?rc_R ?lm_R ?cm_R ?km_R ?fp_N ?lm_N ?cm_N ?km_N ?fp_H ?lm_H ?cm_H ?km_H ?fp_G ?lm_G ?cm_G ?km_G ?fp_E ?lm_E ?cm_E ?km_E ?fcls ?fkit ?fyes ?fno ?fmk ?feq ?frd ?a_WIDTHS ?dw ?wb ?fcm_O ?fpr_R ?fown_N ?fown_H ?fown_G
    (case a0 => k_is); (case l0 => k_is); (case c0 => k_is); (case k0 => k_is); (case a1 => k_is); (case l1 => k_is); (case c1 => k_is); (case k1 => k_is); (case a2 => k_is); (case l2 => k_is); (case c2 => k_is); (case k2 => k_is); (case a3 => k_is); (case l3 => k_is); (case c3 => k_is); (case k3 => k_is); (case a4 => k_is); (case l4 => k_is); (case c4 => k_is); (case k4 => k_is); (case a5 => k_is); (case l5 => k_is); (case c5 => k_is); (case k5 => k_is); (case a6 => k_is); (case l6 => k_is); (case c6 => k_is); (case k6 => k_is); (case a7 => k_is); (case l7 => k_is); (case c7 => k_is); (case k7 => k_is); (case a8 => k_is); (case l8 => k_is); (case c8 => k_is); (case k8 => k_is); (case a9 => k_is); (case l9 => k_is); (case c9 => k_is); (case k9 => k_is); (case a10 => k_is); (case l10 => k_is); (case c10 => k_is); (case k10 => k_is); (case a11 => k_is); (case l11 => k_is); (case c11 => k_is); (case k11 => k_is); (case a12 => k_is); (case l12 => k_is); (case c12 => k_is); (case k12 => k_is); (case a13 => k_is); (case l13 => k_is); (case c13 => k_is); (case k13 => k_is); (case a14 => k_is); (case l14 => k_is); (case c14 => k_is); (case k14 => k_is); (case a15 => k_is); (case l15 => k_is); (case c15 => k_is); (case k15 => k_is); (case a16 => k_is); (case l16 => k_is); (case c16 => k_is); (case k16 => k_is); (case a17 => k_is); (case l17 => k_is); (case c17 => k_is); (case k17 => k_is); (case a18 => k_is); (case l18 => k_is); (case c18 => k_is); (case k18 => k_is); (case a19 => k_is); (case l19 => k_is); (case c19 => k_is); (case k19 => k_is); (case a20 => k_is); (case l20 => k_is); (case c20 => k_is); (case k20 => k_is); (case a21 => k_is); (case l21 => k_is); (case c21 => k_is); (case k21 => k_is); (case a22 => k_is); (case l22 => k_is); (case c22 => k_is); (case k22 => k_is); (case a23 => k_is); (case l23 => k_is); (case c23 => k_is); (case k23 => k_is); (case a24 => k_is); (case l24 => k_is); (case c24 => k_is); (case k24 => k_is); (case a25 => k_is); (case l25 => k_is); (case c25 => k_is); (case k25 => k_is); (case a26 => k_is); (case l26 => k_is); (case c26 => k_is); (case k26 => k_is); (case a27 => k_is); (case l27 => k_is); (case c27 => k_is); (case k27 => k_is); (case a28 => k_is); (case l28 => k_is); (case c28 => k_is); (case k28 => k_is); (case a29 => k_is); (case l29 => k_is); (case c29 => k_is); (case k29 => k_is); (case a30 => k_is); (case l30 => k_is); (case c30 => k_is); (case k30 => k_is); (case a31 => k_is); (case l31 => k_is); (case c31 => k_is); (case k31 => k_is); (case g_LARGEST => k_is); (case g_LAST_CELL => k_is); (case g_MOST_IN_NAME => k_is); (case g_MOST_ROWS => k_is); (case g_MOST_FORMS => k_is); (case g_MOST_IN_OPCODE => k_is); (case g_MOST_OPERANDS => k_is); (case g_RESERVED => k_is); (case lT_RESERVED => k_is); (case b_len => k_is); (case b_isinstance => k_is); (case b_str => k_is); (case b_int => k_is); (case b_bool => k_is); (case b_list => k_is); (case b_tuple => k_is); (case b_dict => k_is); (case b_set => k_is); (case b_sorted => k_is); (case b_repr => k_is); (case b_sum => k_is); (case b_all => k_is); (case b_min => k_is); (case b_range => k_is); (case b_enumerate => k_is)
    (case a_Table => k_is)
    (case icL => k_is)
    (case liL => k_is)
    (case ciL => k_is)
    (case a_NoInstruction => k_is)
    (case xL_N => k_is)
    (case hb_N => rfl)
    (case iC_N => k_is)
    (case li_N => k_is)
    (case ci_N => k_is)
    (case ki_N => k_is)
    (case ox_N => kernel_rfl)
    (case fex => kernel_rfl)
    (case fp_O => k_is)
    (case rc_O => k_is)
    (case lm_O => k_is)
    (case cm_O => k_is)
    (case km_O => k_is)
    (case fp_R => k_is)
    (case rc_R => k_is)
    (case lm_R => k_is)
    (case cm_R => k_is)
    (case km_R => k_is)
    (case fp_N => k_is)
    (case lm_N => k_is)
    (case cm_N => k_is)
    (case km_N => k_is)
    (case fp_H => k_is)
    (case lm_H => k_is)
    (case cm_H => k_is)
    (case km_H => k_is)
    (case fp_G => k_is)
    (case lm_G => k_is)
    (case cm_G => k_is)
    (case km_G => k_is)
    (case fp_E => k_is)
    (case lm_E => k_is)
    (case cm_E => k_is)
    (case km_E => k_is)
    (case fcls => kernel_rfl)
    (case fkit => kernel_rfl)
    (case fyes => kernel_rfl)
    (case fno => kernel_rfl)
    (case fmk => kernel_rfl)
    (case feq => kernel_rfl)
    (case frd => kernel_rfl)
    (case a_WIDTHS => k_is)
    (case dw => kernel_rfl)
    (case wb => kernel_rfl)
    (case fcm_O => kernel_rfl)
    (case fpr_R => kernel_rfl)
    (case fown_N => kernel_rfl)
    (case fown_H => kernel_rfl)
    (case fown_G => kernel_rfl)
#print axioms PySem.Challenge.cw_macroasm_k53_tables_asked_holds

