import PyProof.Rows.All
import Wide.All
import OpenK.AllK
import Wide.FinOn
import HandS.ForMost
import HandS.Exc
import HandS.ExcInit
import HandS.Evl
import HandS.ExcOwn
import HandS.HotCalls
import HandS.Defaults
import HandS.IsInst
import HandS.Comp
import HandS.Iter
import PyProof.NeKinds
import PyProof.EqAt
import KE.KExcIs
import HandS.ExcField
import HandS.ExcValue
import HandS.ExcCtx
import HandS.Wide
import HandS.TupLe
import HandS.Style
import HandS.HeadHook4
import HandS.DeepEq
import HandS.WordsDict
import HandS.AnyAll
import HandS.GenOver
import PyProof.ConsumeS
import HandS.HeadWalk
import HandS.SortRule
import PyProof.Rows.SortKeyStr
import HandS.SetBool
import HandS.SetKeys
import HandS.MakeKw
import HandS.MakeKwOnly
import HandS.DictComp
import KE.KStateDown
import Lean
import HandS.Base
import HandS.Call
import HandS.Ends
import HandS.More
import HandS.Words
import HandS.WordsExc
import HandS.Head0
import HandS.Head1
import HandS.Head2
import HandS.HeadEnd
import HandS.HeadHook1
import HandS.HeadHook2
import HandS.Head3
import HandS.Strs
import HandS.NoneIn
import HandS.NestedK
import PySem.Challenge.RW_mostspecial_k01_words_and_names
set_option Elab.async false
set_option linter.all false
set_option maxRecDepth 100000
set_option maxHeartbeats 0
namespace PySem
namespace K9
open PySem.W PySem.Calls PyProof.Rows PySem.HandSPX
section
variable {M : Model} {A : Around} {E : Value → Shared → Prop} {h : Heap} {g : Array GenState} {d : Drawn} {t : Nat} {os : OsState}
variable {nm q : Str} {C N : Addr} {bs bm bmB : List Value} {hdct : Bool} {sn : List Str} {sub : List Value} {ab : Bool} {col : Option Bool} {dd : Option Addr} {k0 k1 k2 k3 k5 : Option Value} {B newId initId : String}
theorem chk_kw (F : ExcBaseFacts B newId initId bmB) (hT : ∀ X : String, bm.contains (.type X) = bmB.contains (.type X))
    {rest : List Value} {kw : List (Str × Value)} {Q : Unit → Shared → Prop}
    (hC : h.get? C = some (excClassObj nm q C N bs bm hdct sn sub ab col dd k0 k1 k2 k3 k5 newId))
    (hq : Q () ⟨h, g, d, t, os⟩) :
    wpAny M A (checkBuiltinCall newId ⟨.ref C :: rest, kw⟩) Q E ⟨h, g, d, t, os⟩ := by
  have inB : (Value.ref C :: bm).contains (.type B) = true := by
    rw [List.contains_cons, hT, F.hasB]
    exact Bool.or_true _
  have ns := F.noStar
  simp only [checkBuiltinCall, F.newKind, F.newSplit, F.newRow]
  repeat (first
    | refine wpAny_loadPart_at hC ?_
    | (refine wpAny_isSubtype_exc hC ?_
       rw [inB])
    | refine wpAny_staticBase_exc hC ?_
    | refine wpAny_madeBy_exc hC ?_
    | simp only [bne_self_eq_false, Bool.false_eq_true, if_false]
    | wp_step)
  exact hq
end
section
variable {prog : Program} {w : World} {A : Around} {E : Value → Shared → Prop} {R : Result → Shared → Prop} {h : Heap} {g : Array GenState} {d : Drawn} {t : Nat} {os : OsState}
variable {nm q : Str} {C N : Addr} {bs bm bmB : List Value} {hdct : Bool} {sn : List Str} {sub : List Value} {ab : Bool} {col : Option Bool} {dd : Option Addr} {k0 k1 k2 k3 k5 : Option Value} {B newId initId : String}
/-- the raw maker, keywords beside: they are passed over -/
theorem maker_kw (F : ExcBaseFacts B newId initId bmB) (hT : ∀ X : String, bm.contains (.type X) = bmB.contains (.type X))
    {rest : List Value} {kw : List (Str × Value)}
    (hC : h.get? C = some (excClassObj nm q C N bs bm hdct sn sub ab col dd k0 k1 k2 k3 k5 newId)) (room : rest.length ≤ sizeLine)
    (hq : R (.ok (.ret (.ref (h.objs.size + 1)))) ⟨(h.push (kdv_tup rest)).push (excO C h.objs.size), g, d, t, os⟩) :
    codeAny (model prog w) A (.builtin newId ⟨.ref C :: rest, kw⟩) R ⟨h, g, d, t, os⟩ := by
  have ends := F.ends
  have inB : (Value.ref C :: bm).contains (.type B) = true := by
    rw [List.contains_cons, hT, F.hasB]
    exact Bool.or_true _
  have noA : (Value.ref C :: bm).contains (.type "AttributeError") = false := by
    rw [List.contains_cons, hT, F.noAttr]
    rfl
  have noN : (Value.ref C :: bm).contains (.type "NameError") = false := by
    rw [List.contains_cons, hT, F.noName]
    rfl
  refine codeAny_builtinAt F.entry ?_
  unfold Builtin.«BaseException.__new__»
  refine wpAt_bind ?_
  show wpAt _ _ _ (stack >>= _) _ _ _
  refine wpAt_bind (wpAt_stack fun p below => wpAt_of_wpAny ?_)
  wp_walk
  refine wpAt_of_wpAny ?_
  rw [F.owner]
  repeat (first
    | with_reducible refine wpAny_madeHere_exc F.canon hC ?_
    | with_reducible refine wpAny_loadPart_at hC ?_
    | (with_reducible refine wpAny_isSubtype_exc hC ?_
       first
         | rw [inB]
         | rw [noA]
         | rw [noN])
    | wp_step)
  show R _ _
  rw [Heap.size_push]
  exact hq
/-- C(.., k = v ..): type.__call__, the maker, the own __init__ -/
theorem typeCall_kw (F : ExcBaseFacts B newId initId bmB) (hT : ∀ X : String, bm.contains (.type X) = bmB.contains (.type X))
    {rest : List Value} {kw : List (Str × Value)} {fI : Addr} {Q : Fin → Shared → Prop}
    (hC : h.get? C = some (excClassObj nm q C N bs bm hdct sn sub ab col dd k0 k1 k2 k3 k5 newId))
    (hi : Looks (model prog w) h (typeLookup (.ref C) "__init__") (some (.ref fI)))
    (hb : ∀ self, Looks (model prog w) h (bindSpecial (.ref fI) self) (.ref fI, [self])) (room : rest.length ≤ sizeLine)
    (hq : codeAny (model prog w) A (.call (.ref fI) ⟨.ref (h.objs.size + 1) :: rest, kw⟩)
      (fun r s' => match r with
        | .ok (.ret v) => v = .none ∧ Q (.done (.ret (.ref (h.objs.size + 1)))) s'
        | .ok _ => False
        | .error e => E e s')
      ⟨(h.push (kdv_tup rest)).push (excO C h.objs.size), g, d, t, os⟩) :
    wpAny (model prog w) A (Builtin.«type.__call__» ⟨.ref C :: rest, kw⟩) Q E ⟨h, g, d, t, os⟩ := by
  repeat (first
    | with_reducible refine wpAny_loadPart_at hC ?_
    | with_reducible refine wpAny_madeBy_exc hC ?_
    | wp_step)
  refine codeAny_call_builtin_code (Code.quiet_builtin _ F.quiet) (chk_kw F hT hC ?_)
  refine maker_kw F hT hC room ?_
  show wpAny _ _ _ _ _ _
  have keep : ∀ b o, h.get? b = some o → ((h.push (kdv_tup rest)).push (excO C h.objs.size)).get? b = some o :=
    fun b o e => Heap.get?_push_of_some _ (Heap.get?_push_of_some _ e)
  have hC2 := keep _ _ hC
  have new : ((h.push (kdv_tup rest)).push (excO C h.objs.size)).get? (h.objs.size + 1) = some (excO C h.objs.size) := by
    heap_get
  have self : (Value.ref C :: bm).contains (.ref C) = true := by simp
  have i2 := hi.keeps keep
  have b2 := (hb (.ref (h.objs.size + 1))).keeps keep
  unfold isInstance
  repeat (first
    | with_reducible refine wpAny_loadPart_at new ?_
    | (with_reducible refine wpAny_isSubtype_exc hC2 ?_
       rw [self])
    | wp_step)
  show wpAny _ _ (typeLookup (.ref C) _) _ _ _
  refine i2.at ?_
  refine wpAny_holding (wpAny_bind (b2.at ?_))
  refine wpAny_bind (wpAny_call (codeAny_mono hq fun r s' z => ?_))
  rcases r with e | (v | _ | _ | _) <;> first
    | exact z
    | exact z.elim
    | skip
  obtain ⟨e, z⟩ := z
  subst e
  first
    | exact wpAny_pure (wpAny_pure z)
    | (wp_walk
       exact z)
theorem call_kw (F : ExcBaseFacts B newId initId bmB) (hT : ∀ X : String, bm.contains (.type X) = bmB.contains (.type X))
    {rest : List Value} {kw : List (Str × Value)} {fI : Addr}
    (hC : h.get? C = some (excClassObj nm q C N bs bm hdct sn sub ab col dd k0 k1 k2 k3 k5 newId))
    (hi : Looks (model prog w) h (typeLookup (.ref C) "__init__") (some (.ref fI)))
    (hb : ∀ self, Looks (model prog w) h (bindSpecial (.ref fI) self) (.ref fI, [self])) (room : rest.length ≤ sizeLine)
    (hq : codeAny (model prog w) (A.under (.builtin "type.__call__" ⟨.ref C :: rest, kw⟩)) (.call (.ref fI) ⟨.ref (h.objs.size + 1) :: rest, kw⟩)
      (InitBack (h.objs.size + 1) R) ⟨(h.push (kdv_tup rest)).push (excO C h.objs.size), g, d, t, os⟩) :
    codeAny (model prog w) A (.call (.ref C) ⟨rest, kw⟩) R ⟨h, g, d, t, os⟩ := by
  have e1 := tc_lookup
  have e2 := tc_bind (.ref C)
  have ty : (⟨h, g, d, t, os⟩ : Shared).TypeIs (.ref C) "type" := ⟨_, hC, rfl⟩
  refine codeAny_of_tree ?_
  show wpAny _ _ (callAny (.ref C) _) _ _ _
  repeat (any_goals (first
    | assumption
    | with_reducible refine wpAny_loadPart_at hC ?_
    | wp_step))
  refine ⟨rfl, ?_⟩
  refine codeAny_call_builtin_at (Code.quiet_builtin _ (by decide +kernel)) entry_typeCall
    (wpAny_check_type_call_sub hC (typeCall_kw F hT hC hi hb room ?_))
  refine codeAny_mono hq fun r s' z => ?_
  rcases r with e | (v | _ | _ | _) <;> exact z
end
end K9
end PySem

namespace K9
open PySem PySem.Spec PyProof.Rows L2 L2H HotX Evl
abbrev St := L2.St
/-! ### bodies that run where nothing is handled, or where one exception is: the pin p -/
abbrev Pin := Option (Addr × Obj)
/-- nothing is handled and nothing pinned, or an exception that is pinned is handled -/
def Mood (X : Cx) : Prop := (X.calm = true ∧ X.pn = []) ∨ HotC X
/-- the pin that a callee sees -/
def CallC (X : Cx) (p : Pin) : Prop := (X.calm = true ∧ p = none) ∨ ∃ o, p = some o ∧ Hot1 X.A o ∧ o ∈ X.pn
/-- a def's context, in both cases -/
abbrev cxB (P : Program) (w : World) (K : PySem.W.Frag) (mg : Str → Option Value) (base : Heap) (N : List Str) (qual : Str) (scope : Scope) (f : Addr) (cd : Value)
    (A : Around) (outer : List Env) (s : Shared) (H : Hp) (E : XK) (c : Bool) (l : List (Addr × Obj)) : Cx :=
  { cxOf CX0 P w K mg base N qual scope f cd A outer s H E with calm := c, pn := l }
structure FnB (P : Program) (w : World) (K : PySem.W.Frag) (mg : Str → Option Value) (base : Heap) (k : Nat) (f : Addr) (fd : FuncData) (ps : List Str) (sp : Pin → Sp) : Prop where
  len : ∀ p vs H Q E, sp p vs H Q E → vs.length = ps.length
  cold : FnOk P w K mg base CX0 k f fd ps (sp none)
  hot : ∀ (p : Addr × Obj) (A : Around) (outer : List Env) (s : Shared) (H : Hp) (args : Args) (us : List Value) (vs : List V) (Q : VK) (E : XK),
    RoomH k A → Hot1 A p → PinOk outer H s p → Env0 P w K mg base A outer s H → BindsTo s fd args (ps.zip us) → Vals vs us → sp (some p) vs H Q E →
    codeAny (model P w) A (.call (.ref f) args) (CR CX0 outer P w H s Q E) s
theorem FnB.mono {P : Program} {w : World} {K : PySem.W.Frag} {mg : Str → Option Value} {base : Heap} {j k : Nat} {f : Addr} {fd : FuncData} {ps : List Str} {sp : Pin → Sp}
    (F : FnB P w K mg base j f fd ps sp) (h : j ≤ k) : FnB P w K mg base k f fd ps sp :=
  ⟨F.len, F.cold.mono h, fun p A outer s H args us vs Q E hr => F.hot p A outer s H args us vs Q E (hr.mono h)⟩
/-- a def by its body, for both -/
theorem fnB_of {P : Program} {w : World} {K : PySem.W.Frag} {mg : Str → Option Value} {base : Heap} {k : Nat} {f : Addr} {name qual : Str} {params : Arguments} {body : List Stmt} {scope : Scope}
    {dV kV doc pm cdv ct oc : Value} {an od : Option Addr} {osl : Array (Option Value)} {N ps : List Str} {sp : Pin → Sp}
    (lk : K.lookup f = some ⟨oc, od, .func (PySem.W.fnOf name qual params body scope dV kV doc pm an cdv ct), osl⟩) (hcd : PySem.W.codeIn K cdv qual = true) (S : FnScope N ps scope)
    (len : ∀ p vs H Q E, sp p vs H Q E → vs.length = ps.length)
    (hbody : ∀ (A : Around) (outer : List Env) (s : Shared) (H : Hp) (vs : List V) (Q : VK) (E : XK) (p : Pin) (c : Bool),
      Mood (cxB P w K mg base N qual scope f cdv A outer s H E c p.toList) → CallC (cxB P w K mg base N qual scope f cdv A outer s H E c p.toList) p →
      RoomH k (A.deeper (envOfC qual scope s.heap.objs.size f cdv)) → sp p vs H Q E →
      ∃ t, PSs (cxB P w K mg base N qual scope f cdv A outer s H E c p.toList) body t ∧ t { nx := fun _ H' => Q .non H', rt := Q } (start N vs) H) :
    FnB P w K mg base (k + 1) f (PySem.W.fnOf name qual params body scope dV kV doc pm an cdv ct) ps sp := by
  refine ⟨len, ?_, ?_⟩
  · refine fn_of lk hcd S (len none) fun A outer s H vs Q E hr hsp => ?_
    exact hbody A outer s H vs Q E none true (.inl ⟨rfl, rfl⟩) (.inl ⟨rfl, rfl⟩) (roomH_of hr) hsp
  · intro p A outer s H args us vs Q E hr hot hpin e0 hb r hsp
    have hl := len _ _ _ _ _ hsp
    have KX : K.In s.heap := e0.mod.kin.keeps fun b o e => (e0.bs b o e).1
    have lim : s.heap.NoLimit := e0.mod.nolimit.keeps fun b o e => (e0.bs b o e).1
    have kinds : ∀ y ∈ ps.zip us, scope.names.lookup y.1 = some .local ∨
        (scope.names.lookup y.1 = some .cell ∧ ((cellsFrom (s.heap.objs.size + 1) scope.names []).lookup y.1).isSome = true) := by
      rintro ⟨n, v⟩ hy
      rcases S.par n (List.of_mem_zip hy).1 with q | q
      · exact .inl q
      · exact .inr ⟨q, PySem.W.cellsFrom_some _ _ _ (.inl q)⟩
    refine codeAny_call_function hr.depth (KX _ _ lk) rfl S.co S.gen rfl (PySem.W.codeRec_of KX hcd) (hb _ _ _ _ ?_)
    refine wpAny_newFunctionEnv_cells S.kind kinds fun env he s1 x => ?_
    subst he
    refine ⟨lim.keeps x.toInCall.keep, codeAny_func ?_⟩
    have hc : HotC (cxB P w K mg base N qual scope f cdv A outer s H E false [p]) := ⟨p, hot, List.mem_singleton.mpr rfl⟩
    obtain ⟨t, ht, hq⟩ := hbody A outer s H vs Q E (some p) false (.inr hc) (.inr ⟨p, rfl, hot, List.mem_singleton.mpr rfl⟩) (hr.deeper _) hsp
    have I : Inv (cxB P w K mg base N qual scope f cdv A outer s H E false [p]) [] (start N vs) H s1 :=
      inv_startH (CX := CX0) S hpin e0 hl r x
    refine wpAny_mono (ht.run [] s1 (start N vs) H _ I hq) (fun fl s' hs => ?_) fun e s' hs => hs
    have done : ∀ {σ' : St} {H' : Hp} {v : V} {u : Value}, Inv (cxB P w K mg base N qual scope f cdv A outer s H E false [p]) [] σ' H' s' →
        RelV v u → Q v H' → CE outer P w H s Q u s' := fun {σ' H' v u} J rv q => ⟨v, H', J.os, J.bare, J.base, J.hok, rv, q⟩
    cases fl with
    | ret u =>
      obtain ⟨v, σ', H', J, rv, q⟩ := hs
      exact done J rv q
    | next =>
      obtain ⟨σ', H', J, q⟩ := hs
      exact done (v := V.non) (u := Value.none) J rfl q
    | brk =>
      obtain ⟨_, _, _, q⟩ := hs
      exact q.elim
    | cont =>
      obtain ⟨_, _, _, q⟩ := hs
      exact q.elim
/-! ### the call of such a def -/
section
variable {X : Cx} {k : Nat} {f : Addr} {fd : FuncData} {ps : List Str} {sp : Pin → Sp} {x : Str} {q pos : Pos} {e : Expr} {es : List Expr} {t : TA}
theorem runB {p : Pin} {pins : List (Addr × Obj)} {σ : St} {H : Hp} {s : Shared} {Q : VK} {us : List Value} {vs : List V} {args : Args} (F : FnB X.prog X.w X.K X.mg X.base k f fd ps sp) (hr : RoomH k X.A)
    (hc : CallC X p) (hb : BindsTo s fd args (ps.zip us)) (I : Inv X pins σ H s) (r : Vals vs us) (h : sp p vs H Q E0) :
    codeAny (model X.prog X.w) X.A (.call (.ref f) args) (fun r s' => match r with
      | .ok (.ret u) => EP X pins σ Q u s'
      | .ok _ => False
      | .error e => X.xe e s') s := by
  have fin : ∀ (r : Result) (s' : Shared), CR CX0 X.stack X.prog X.w H s Q E0 r s' → (match r with
      | .ok (.ret u) => EP X pins σ Q u s'
      | .ok _ => False
      | .error e => X.xe e s') := by
    intro r s' hq
    cases r with
    | error e => exact False.elim hq
    | ok fl =>
      cases fl with
      | ret u => exact I.after hq
      | next => exact False.elim hq
      | brk => exact False.elim hq
      | cont => exact False.elim hq
  rcases hc with ⟨hc, rfl⟩ | ⟨o, rfl, hot, hp⟩
  · have rm : Room k X.A := ⟨I.ok.hd hc, hr.dp, hr.un⟩
    exact codeAny_mono (F.cold.run X.A X.stack s H args us vs Q E0 rm I.env0 hb r h) fin
  · have P1 := I.pin o (List.mem_append_left _ hp)
    have pin : PinOk X.stack H s o := ⟨P1.1, P1.2.1, fun hm => by
      rcases List.mem_cons.mp (I.stkSub o.1 hm) with z | z
      · exact P1.2.2.1 z
      · exact P1.2.2.2.1 z, P1.2.2.2.2⟩
    exact codeAny_mono (F.hot o X.A X.stack s H args us vs Q E0 hr hot pin I.env0 hb r h) fin
/-- f(e, ..) -/
def tCallB (sp : Sp) (t : TA) : TE := fun σ H Q => t σ H fun vs H1 => sp vs H1 Q E0
theorem pe_callC {p : Pin} (F : FnB X.prog X.w X.K X.mg X.base k f fd ps sp) (hr : RoomH k X.A) (hc : CallC X p) (hg : Gl X x) (hm : X.mg x = some (.ref f)) (hk : PySem.W.keepIn X.K (.ref f) = true)
    (hb : Binds X.K fd ps []) (ha : PA X (e :: es) t) (hdb : (x == ("__debug__" : Str)) = false := by decide)
    (he : starEach (e :: es) X.env = (false, eval e X.env) :: starEach es X.env := by rfl) (hpl : (backTo pos (starEach es X.env)).any (·.1) = false := by rfl) :
    PE X (.Call (.Name x q) (e :: es) [] pos) (tCallB (sp p) t) := by
  refine ⟨fun pins s σ H Q I h => ?_⟩
  refine wpAny_Call_Name_kw (ld_glob I hg hm ?_ hdb)
  refine PySem.W.callWith_K (h₀ := X.base) I.ok.mod.kin hk (thn (ha.run pos pins s σ H _ I h) fun us s1 ⟨vs, H1, I1, r, q1⟩ => ⟨I1.kIn, ?_⟩) he hpl
  have hl : us.length = ps.length := by
    rw [← r.length]
    exact F.len _ _ _ _ _ q1
  have b := hb s1 us I1.kIn (by rw [List.append_nil]; exact hl)
  rw [List.append_nil] at b
  refine wpAny_call (codeAny_mono (runB F hr hc b I1 r q1) fun r s' z => ?_)
  cases r with
  | error e => exact z
  | ok fl => cases fl <;> exact z
end
end K9

namespace PySem
namespace K9S
open PySem.Spec PyProof.Rows HotX
section
variable {prog : Program} {w : World} {A : Around} {E : Value → Shared → Prop} {s : Shared}
/-- StopIteration, made and raised where x1 is handled, then caught by next -/
theorem stop_hot {x1 : Addr} {P : Fin → Shared → Prop} {Q : Option Value → Shared → Prop} (hot : HotAt A x1 s.heap)
    (hQ : ∀ h', (∀ b o, s.heap.get? b = some o → h'.get? b = some o) → Q none { s with heap := h' }) :
    wpAny (model prog w) A.in1 Builtin.SmallTypes.stopIteration P (fun e s' => wpAny (model prog w) A (do
      let yes ← isInstance e (.type "StopIteration")
      if yes = true then pure none else throw e) Q E s') s := by
  obtain ⟨hh, o1, vs1, h1, d1, c1⟩ := hot
  show wpAny _ _ (newExc (.type "StopIteration") [] >>= _) _ _ _
  refine wpAny_bind ?_
  simp only [newExc, newTuple]
  refine wpAny_bind (wpAny_newObj_type ?_ (by size_fits))
  refine wpAny_bind (m := firstArgMember _ _) (wpAny_of_eq (a := Value.none) (by
    first
      | rfl
      | (simp only [firstArgMember]; rfl)) ?_)
  refine wpAny_newObj_type ?_ (by size_fits)
  refine raiseNew_hot ⟨hh, o1, vs1, Heap.get?_push_of_some _ (Heap.get?_push_of_some _ h1), d1, c1⟩ (Nat.ne_of_lt (Heap.lt_size (Heap.get?_push_of_some _ h1))) (Heap.get?_push_size _ rfl) rfl (by
    first
      | (simp; done)
      | (simp; omega)
      | (simp only [Array.size_append]; simp; omega)) ?_
  refine wpAny_bind (wpAny_isInstance (T := "StopIteration") (b := true) ⟨_, Heap.get?_update_self _ (Heap.get?_push_size _ rfl) rfl, rfl⟩ isSubtype_stop ?_)
  refine wpAny_pure (hQ _ fun b o e => ?_)
  rw [Heap.get?_update_other _ _ (Nat.ne_of_gt (Heap.lt_size (Heap.get?_push_of_some _ e)))]
  exact Heap.get?_push_of_some _ (Heap.get?_push_of_some _ e)
/-- an object other than the one that was updated -/
theorem past {h : Heap} {it b : Addr} {f : Obj → Obj} {o : Obj} (ne : b ≠ it) (e : h.get? b = some o) : (h.update it f).get? b = some o := by
  rw [Heap.get?_update_other h f (Ne.symm ne)]
  exact e
theorem tuple_end_hot {it t x1 : Addr} {i : Nat} {items : Array Value} {Q : Option Value → Shared → Prop} (hot : HotAt A x1 s.heap) (ne : x1 ≠ it)
    (hit : s.heap.IsTupleIter it t i) (ht : s.heap.IsTuple t items) (hx : items[i]? = none)
    (hQ : ∀ h', Heap.ExtBut it s.heap h' → Q none { s with heap := h' }) : wpAny (model prog w) A (pyNext (.ref it)) Q E s := by
  obtain ⟨hh, o1, vs1, h1, d1, c1⟩ := hot
  obtain ⟨o, ho, hc, hd⟩ := id hit
  obtain ⟨ol, hol, _, nl, hdl⟩ := ht
  unfold pyNext
  refine wpAny_bind (wpAny_attempt (wpAny_callSpecial?_slot (name := Str.ofString "__next__") hit.typeIs F.slot_tuple_iterator_next
    (wpAny_call_entry F.slot_tuple_iterator_next hit.typeIs F.entry_tuple_iterator_next ?_ (F.args_tuple_iterator_next_1 _))))
  show wpAny _ _ (field (.ref it) 0 >>= _) _ _ s
  refine wpAny_bind (wpAny_field ho hd (x := .ref t) rfl ?_)
  show wpAny _ _ (if (Value.ref t == Value.none) = true then _ else _) _ _ s
  rw [if_neg (show ¬ ((Value.ref t == Value.none) = true) from Bool.false_ne_true)]
  show wpAny _ _ (field (.ref it) 1 >>= _) _ _ s
  refine wpAny_bind (wpAny_field ho hd (x := .int i 0) rfl ?_)
  show wpAny _ _ (seqItems? (.ref t) >>= _) _ _ s
  refine wpAny_bind (wpAny_seqItems hol hdl ?_)
  simp only [Int.toNat_natCast, hx]
  refine wpAny_bind (wpAny_rule (wpAny_bind (wpAny_setField ho hd (by simp) ?_)))
  exact stop_hot (x1 := x1) ⟨hh, o1, vs1, past ne h1, d1, c1⟩ fun h' k => hQ h' fun b o hb e => k b o (past hb e)
theorem list_end_hot {it t x1 : Addr} {i : Nat} {items : Array Value} {Q : Option Value → Shared → Prop} (hot : HotAt A x1 s.heap) (ne : x1 ≠ it)
    (hit : s.heap.IsListIter it t i) (ht : s.heap.IsList t items) (hx : items[i]? = none)
    (hQ : ∀ h', Heap.ExtBut it s.heap h' → Q none { s with heap := h' }) : wpAny (model prog w) A (pyNext (.ref it)) Q E s := by
  obtain ⟨hh, o1, vs1, h1, d1, c1⟩ := hot
  obtain ⟨o, ho, hc, hd⟩ := id hit
  obtain ⟨ol, hol, _, nl, hdl⟩ := ht
  unfold pyNext
  refine wpAny_bind (wpAny_attempt (wpAny_callSpecial?_slot (name := Str.ofString "__next__") hit.typeIs slot_listiter_next
    (wpAny_call_entry slot_listiter_next hit.typeIs entry_listiter_next ?_ (args_listiter_next _))))
  show wpAny _ _ (field (.ref it) 0 >>= _) _ _ s
  refine wpAny_bind (wpAny_field ho hd (x := .ref t) rfl ?_)
  show wpAny _ _ (if (Value.ref t == Value.none) = true then _ else _) _ _ s
  rw [if_neg (show ¬ ((Value.ref t == Value.none) = true) from Bool.false_ne_true)]
  show wpAny _ _ (field (.ref it) 1 >>= _) _ _ s
  refine wpAny_bind (wpAny_field ho hd (x := .int i 0) rfl ?_)
  show wpAny _ _ (seqItems? (.ref t) >>= _) _ _ s
  refine wpAny_bind (wpAny_seqItems hol hdl ?_)
  simp only [Int.toNat_natCast, hx]
  refine wpAny_bind (wpAny_rule (wpAny_bind (wpAny_setField ho hd (by simp) ?_)))
  exact stop_hot (x1 := x1) ⟨hh, o1, vs1, past ne h1, d1, c1⟩ fun h' k => hQ h' fun b o hb e => k b o (past hb e)
end
section
variable {prog : Program} {w : World} {A : Around} {E : Value → Shared → Prop} {s : Shared} {K : Type} [DecidableEq K] {knd : KeyKind prog w K}
theorem dict_end_hot {it d x1 : Addr} {i ep : Nat} {kvs : List (K × Value)} {Q : Option Value → Shared → Prop} (hot : HotAt A x1 s.heap) (ne : x1 ≠ it) (hit : s.heap.IsKeyIter it d i kvs.length ep)
    (hm : s.heap.DictAt knd d kvs ep) (hx : kvs[i]? = none)
    (hQ : ∀ h', Heap.ExtBut it s.heap h' → Q none { s with heap := h' }) : wpAny (model prog w) A (pyNext (.ref it)) Q E s := by
  obtain ⟨hh, o1, vs1, h1, d1, c1⟩ := hot
  obtain ⟨o, ho, hc, hd⟩ := id hit
  obtain ⟨od, es, hod, hcd, hdd, hk, hp, hn⟩ := id hm
  unfold pyNext
  refine wpAny_bind (wpAny_attempt (wpAny_callSpecial?_slot (name := Str.ofString "__next__") hit.typeIs F.slot_dict_keyiterator_next
    (wpAny_call_entry F.slot_dict_keyiterator_next hit.typeIs F.entry_dict_keyiterator_next ?_ (F.args_dict_keyiterator_next_1 _))))
  refine wpAny_bind (wpAny_pure (wpAny_bind (wpAny_bind ?_)))
  first
    | refine wpAny_bind (wpAny_typeNameOfWhole_keyiter hit.typeIs (wpAny_pure ?_))
    | refine wpAny_bind (wpAny_typeNameOf_keyiter hit.typeIs (wpAny_pure ?_))
  refine wpAny_bind (wpAny_fieldsOf ho hd ?_)
  have own : Builtin.Dict_items.ownsTuple "dict_keyiterator" = false := by decide
  simp only [own, Bool.false_eq_true, if_false]
  show wpAny _ _ (if (Value.ref d == Value.none) = true then _ else _) _ _ s
  rw [if_neg (show ¬ ((Value.ref d == Value.none) = true) from Bool.false_ne_true)]
  refine wpAny_bind (wpAny_pure (wpAny_bind (wpAny_dictEntries hod hdd ?_)))
  have many : es.size = kvs.length := by
    rw [← hp.length]
    simp
  rw [if_neg (by rw [many]; simp)]
  refine wpAny_bind (wpAny_pure (wpAny_bind (wpAny_dictEpoch hod hdd ?_)))
  rw [if_neg (by simp)]
  refine wpAny_pure ?_
  have over : es.size ≤ i := by
    rw [many]
    simpa using hx
  simp only [show ¬ ((i : Int) < 0) from by omega, if_false, Int.toNat_natCast, Array.getElem?_eq_none over]
  refine wpAny_bind ?_
  first
    | refine wpAny_bind (wpAny_typeNameOfWhole_keyiter hit.typeIs (wpAny_pure ?_))
    | refine wpAny_bind (wpAny_typeNameOf_keyiter hit.typeIs (wpAny_pure ?_))
  show wpAny _ _ (setField (.ref it) 0 .none >>= _) _ _ s
  refine wpAny_bind (wpAny_setField ho hd (by simp) ?_)
  exact stop_hot (x1 := x1) ⟨hh, o1, vs1, past ne h1, d1, c1⟩ fun h' k => hQ h' fun b o hb e => k b o (past hb e)
end
end K9S
end PySem

namespace K9
open PySem PySem.Spec PyProof.Rows L2 L2H HotX Evl
theorem hot_pin {X : Cx} {pins : List (Addr × Obj)} {σ : St} {H : Hp} {s : Shared} (c : HotC X) (I : Inv X pins σ H s) : ∃ p : Addr × Obj, p ∈ X.pn ∧ HotAt X.A p.1 s.heap := by
  obtain ⟨p, ⟨hh, vs, e1, c1⟩, hp⟩ := c
  exact ⟨p, hp, hh, p.2, vs, (I.pin p (List.mem_append_left _ hp)).1, e1, c1⟩
section
variable {P : Program} {w : World} {K : PySem.W.Frag} {tg : Expr}
theorem turnH_list (a it : Addr) : TurnH P w K tg (Itl K a) [it] it (fun i h => h.IsListIter it a i) where
  mem := by simp
  obj := (turn_list (P := P) (w := w) (K := K) (tg := tg) a it).obj
  keep := (turn_list (P := P) (w := w) (K := K) (tg := tg) a it).keep
  item := by
    intro X hP hw hK hc i pins s σ H E I hf st hg
    subst hP hw hK
    obtain ⟨xs, x, hq, hx⟩ := hg
    obtain ⟨its, rv, p, hz⟩ := I.list hq
    obtain ⟨u, hu, ru⟩ := rv.get hx
    obtain ⟨f0, f1, f2, f3, f4, f5⟩ := hf it (by simp)
    refine wpAny_pyNext_list_item st p.isList (x := u) (by simpa using hu) fun h' st' sb => ?_
    have J : Inv X pins σ H { s with heap := h' } := I.turned (t' := s.toks) (fun b o hb e => (sb.2 b hb).trans e) f0 f1 f3 f4 f5
    obtain ⟨o, e, c, d⟩ := id st'
    refine ⟨u, rfl, go_of (s := { s with heap := h' }) e c d (by decide) ⟨x, H, J, ru, ⟨rfl, fun ys hy => ?_⟩, st', fun b hb => (hf b hb).1⟩⟩
    rw [I.list_inj hy hq]
    exact hx
  done := by
    intro X hP hw hK hc i pins s σ H E I hf st hg
    subst hP hw hK
    obtain ⟨xs, hq, hx⟩ := hg
    obtain ⟨its, rv, p, hz⟩ := I.list hq
    obtain ⟨f0, f1, f2, f3, f4, f5⟩ := hf it (by simp)
    obtain ⟨q, hq2, hot⟩ := hot_pin hc I
    have hl := rv.length
    exact PySem.K9S.list_end_hot hot (f5 q (List.mem_append_left _ hq2)) st p.isList (by simp; omega) fun h' eb =>
      ⟨rfl, I.turned (t' := s.toks) (fun b o hb e => eb b o hb e) f0 f1 f3 f4 f5⟩
  self := (turn_list (P := P) (w := w) (K := K) (tg := tg) a it).self
theorem turnH_tuple (a it : Addr) : TurnH P w K tg (Itt K a) [it] it (fun i h => h.IsTupleIter it a i) where
  mem := by simp
  obj := (turn_tuple (P := P) (w := w) (K := K) (tg := tg) a it).obj
  keep := (turn_tuple (P := P) (w := w) (K := K) (tg := tg) a it).keep
  item := by
    intro X hP hw hK hc i pins s σ H E I hf st hg
    subst hP hw hK
    obtain ⟨xs, x, hq, hx⟩ := hg
    obtain ⟨its, rv, p, hz⟩ := I.tuple hq
    obtain ⟨u, hu, ru⟩ := rv.get hx
    obtain ⟨f0, f1, f2, f3, f4, f5⟩ := hf it (by simp)
    refine wpAny_pyNext_tuple_item st (show s.heap.IsTuple a its.toArray from p) (x := u) (by simpa using hu) fun h' st' sb => ?_
    have J : Inv X pins σ H { s with heap := h' } := I.turned (t' := s.toks) (fun b o hb e => (sb.2 b hb).trans e) f0 f1 f3 f4 f5
    obtain ⟨o, e, c, d⟩ := id st'
    refine ⟨u, rfl, go_of (s := { s with heap := h' }) e c d (by decide) ⟨x, H, J, ru, ⟨rfl, fun ys hy => ?_⟩, st', fun b hb => (hf b hb).1⟩⟩
    rw [I.tuple_inj hy hq]
    exact hx
  done := by
    intro X hP hw hK hc i pins s σ H E I hf st hg
    subst hP hw hK
    obtain ⟨xs, hq, hx⟩ := hg
    obtain ⟨its, rv, p, hz⟩ := I.tuple hq
    obtain ⟨f0, f1, f2, f3, f4, f5⟩ := hf it (by simp)
    obtain ⟨q, hq2, hot⟩ := hot_pin hc I
    have hl := rv.length
    exact PySem.K9S.tuple_end_hot hot (f5 q (List.mem_append_left _ hq2)) st (show s.heap.IsTuple a its.toArray from p) (by simp; omega) fun h' eb =>
      ⟨rfl, I.turned (t' := s.toks) (fun b o hb e => eb b o hb e) f0 f1 f3 f4 f5⟩
  self := (turn_tuple (P := P) (w := w) (K := K) (tg := tg) a it).self
theorem turnH_keys {d : Addr} {o : Obj} {es : Array DictEntry} {ep : Nat} {kvs : List (Key × V)} (it : Addr) (hod : o.data = .dict es ep) :
    TurnH P w K tg (Itk d o kvs) [it] it (fun i h => h.IsKeyIter it d i kvs.length ep) where
  mem := by simp
  obj := (turn_keys (P := P) (w := w) (K := K) (tg := tg) (d := d) (kvs := kvs) it hod).obj
  keep := (turn_keys (P := P) (w := w) (K := K) (tg := tg) (d := d) (kvs := kvs) it hod).keep
  item := by
    intro X hP hw hK hc i pins s σ H E I hf st hg
    subst hP hw hK
    obtain ⟨hd, hi⟩ := hg
    obtain ⟨f0, f1, f2, f3, f4, f5⟩ := hf it (by simp)
    obtain ⟨hs, hgd, hx, es', ep', vs, hdt, hsz, kv, hm⟩ := I.frzK hd
    obtain ⟨rfl, rfl⟩ := dict_ep hod hdt
    obtain ⟨⟨k, v⟩, hkv⟩ : ∃ p, kvs[i]? = some p := ⟨kvs[i], List.getElem?_eq_getElem hi⟩
    obtain ⟨u, hu, ru⟩ := kv_get kv hkv
    have hl : kvs.length = vs.length := Paired.length kv
    rw [hl] at st
    refine wpAny_pyNext_dict_item st hm hu fun key h' hkey st' sb => ?_
    have J : Inv X pins σ H { s with heap := h' } := I.turned (t' := s.toks) (fun b ob hb e => (sb.2 b hb).trans e) f0 f1 f3 f4 f5
    obtain ⟨oi, e, c, dd⟩ := id st'
    refine ⟨key, rfl, go_of (s := { s with heap := h' }) e c dd (by decide) ⟨kV k, H, J, relV_key (show keyIs k key = true from hkey), ⟨rfl, k, v, hkv, rfl⟩, ?_, fun b hb => (hf b hb).1⟩⟩
    show h'.IsKeyIter it d (i + 1) kvs.length _
    rw [hl]
    exact st'
  done := by
    intro X hP hw hK hc i pins s σ H E I hf st hg
    subst hP hw hK
    obtain ⟨hd, hi⟩ := hg
    obtain ⟨f0, f1, f2, f3, f4, f5⟩ := hf it (by simp)
    obtain ⟨hs, hgd, hx, es', ep', vs, hdt, hsz, kv, hm⟩ := I.frzK hd
    obtain ⟨rfl, rfl⟩ := dict_ep hod hdt
    obtain ⟨q, hq2, hot⟩ := hot_pin hc I
    have hl : kvs.length = vs.length := Paired.length kv
    rw [hl] at st hi
    exact PySem.K9S.dict_end_hot hot (f5 q (List.mem_append_left _ hq2)) st hm (List.getElem?_eq_none hi) fun h' eb =>
      ⟨rfl, I.turned (t' := s.toks) (fun b ob hb e => eb b ob hb e) f0 f1 f3 f4 f5⟩
  self := (turn_keys (P := P) (w := w) (K := K) (tg := tg) (d := d) (kvs := kvs) it hod).self
end
section
variable {X : Cx} {tg : Expr}
theorem pieH_one {pins : List (Addr × Obj)} {σ : St} {H : Hp} {s : Shared} {R : It → Hp → Prop} {J : It} {tn : Nat → Heap → Prop} {o : Obj} (I : Inv X pins σ H s)
    (T : TurnH X.prog X.w X.K tg J [s.heap.objs.size] s.heap.objs.size tn) (t0 : tn 0 (s.heap.push o)) (q : R J H) :
    PIEH X pins σ tg R (.ref s.heap.objs.size) { s with heap := s.heap.push o } := by
  refine ⟨s.heap.objs.size, [s.heap.objs.size], tn, J, H, rfl, I.kept (t' := s.toks) fun b u e => Heap.get?_push_of_some _ e, T, t0, fun b hb => ?_, q⟩
  have e : b = s.heap.objs.size := by simpa using hb
  subst e
  exact I.fpOk (Nat.le_refl _) (I.hok.fresh (Nat.le_refl _))
theorem piH_list {l : Expr} {tl : TE} (hl : PE X l tl) : PIH X tg l (iList X.K tl) := by
  refine ⟨fun pins s σ H R I h => ?_⟩
  refine thn (hl.run pins s σ H _ I h) fun v s1 ⟨x, H1, I1, r1, a, e, ⟨xs, hq⟩, q⟩ => ?_
  subst e
  cases r1
  obtain ⟨its, rv, p, hz⟩ := I1.list hq
  exact wpAny_pyIter_list p.isList (pieH_one I1 (turnH_list a _) ⟨_, Heap.get?_push_size _ rfl, rfl, rfl⟩ q)
theorem piH_tup {l : Expr} {tl : TE} (hl : PE X l tl) : PIH X tg l (iTup X.K tl) := by
  refine ⟨fun pins s σ H R I h => ?_⟩
  refine thn (hl.run pins s σ H _ I h) fun v s1 ⟨x, H1, I1, r1, a, e, ⟨xs, hq⟩, q⟩ => ?_
  subst e
  cases r1
  obtain ⟨its, rv, p, hz⟩ := I1.tuple hq
  exact wpAny_pyIter_tuple (show s1.heap.IsTuple a its.toArray from p) (pieH_one I1 (turnH_tuple a _) ⟨_, Heap.get?_push_size _ rfl, rfl, rfl⟩ q)
/-- the keys of a locked dict of keys that are ints or texts -/
def iKeyK (td : TE) : TI := fun σ H R => td σ H fun x H1 => ∃ d o, x = .ref d ∧ ∃ kvs, H1 d = some (.frz o (.dK kvs)) ∧ R (Itk d o kvs) H1
theorem pi_keyK {l : Expr} {td : TE} (hl : PE X l td) : PI X tg l (iKeyK td) := by
  refine ⟨fun pins s σ H R I h => ?_⟩
  refine thn (hl.run pins s σ H _ I h) fun u s1 ⟨x, H1, I1, rx, d, o, ex, kvs, hd, q⟩ => ?_
  subst ex
  obtain rfl : u = Value.ref d := rx
  obtain ⟨hs, hgd, hx, es, ep, vs, hdt, hsz, kv, hm⟩ := I1.frzK hd
  refine iter_keys hs hgd hx hdt (pi_one (tk := s1.toks) I1 _ (turn_keys _ hdt) ⟨_, Heap.get?_push_size _ rfl, rfl, ?_⟩ q)
  rw [hsz] <;> rfl
theorem piH_keyK {l : Expr} {td : TE} (hl : PE X l td) : PIH X tg l (iKeyK td) := by
  refine ⟨fun pins s σ H R I h => ?_⟩
  refine thn (hl.run pins s σ H _ I h) fun u s1 ⟨x, H1, I1, rx, d, o, ex, kvs, hd, q⟩ => ?_
  subst ex
  obtain rfl : u = Value.ref d := rx
  obtain ⟨hs, hgd, hx, es, ep, vs, hdt, hsz, kv, hm⟩ := I1.frzK hd
  refine iter_keys hs hgd hx hdt (pieH_one I1 (turnH_keys _ hdt) ⟨_, Heap.get?_push_size _ rfl, rfl, ?_⟩ q)
  rw [hsz] <;> rfl
end
/-! ### a list comprehension, in both moods -/
/-- the block's context: the pins stay -/
abbrev blkC (X : Cx) (s : Shared) (H : Hp) (scope : Scope) (ce : Env) (fp : List Addr) : Cx := { X.blk s H scope ce fp with pn := X.pn }
section
variable {X : Cx} {pins : List (Addr × Obj)} {σ σ' : St} {H H' : Hp} {s s' : Shared} {scope : Scope} {ce : Env} {fp : List Addr}
/-- the same state, with the pins of the def borne along -/
theorem blk_pins (I : Inv (X.blk s H scope ce fp) [] σ' H' s') (hp : ∀ p ∈ X.pn, s'.heap.get? p.1 = some p.2 ∧ H' p.1 = none ∧ p.1 ≠ ce.locals ∧ p.1 ∉ frs X.stack ∧ ∀ v, p.2.data ≠ .cell v) :
    Inv (blkC X s H scope ce fp) [] σ' H' s' :=
  ⟨⟨I.ok.mod, I.ok.kind, I.ok.glob, I.ok.blt, I.ok.above, I.ok.inj, I.ok.has, I.ok.cab, I.ok.hd, I.ok.frames, I.ok.stk, I.ok.exf, I.ok.bs, I.ok.bsz, I.ok.noex, I.ok.exfs, I.ok.funs, I.ok.frf⟩,
    I.os, I.bare, I.base, I.loc, I.cell, I.free, I.freeC, (fun p h => by
      rcases List.mem_append.mp h with h | h
      · exact hp p h
      · cases h), I.hok, I.len⟩
end
section
variable {X : Cx} {elt tg iter : Expr} {ifs : List Expr} {scope : Scope} {own : List (Str × Nat)} {pos : Pos} {wi : TI} {g : TG} {tt : TT} {te : TE}
theorem pe_lcH (hc : HotC X) (hN : X.N.Nodup) (hi : PIH X tg iter wi) (ok : BlkOk X.N X.env.scope scope own)
    (hg : ∀ (s : Shared) (H : Hp) (C : Addr) (cl : List (Str × Addr)) (fp : List Addr), PG (blkC X s H scope (compEnvC scope cl C X.env) fp) tg g)
    (ht : ∀ (s : Shared) (H : Hp) (C : Addr) (cl : List (Str × Addr)) (fp : List Addr), PTs (blkC X s H scope (compEnvC scope cl C X.env) fp) ifs tt)
    (he : ∀ (s : Shared) (H : Hp) (C : Addr) (cl : List (Str × Addr)) (fp : List Addr), PE (blkC X s H scope (compEnvC scope cl C X.env) fp) elt te)
    (hs : ∀ x, foldedSetIterable iter X.env x = pure x := by intro _; rfl) :
    PE X (.ListComp elt [⟨tg, iter, ifs, 0⟩] scope pos) (tLc wi g tt te (own.map (·.2))) := by
  refine ⟨fun pins s σ H Q I h => ?_⟩
  rw [eval_ListComp]
  have caps : ∀ y ∈ scope.names, y.2 = .free → ∃ c, X.env.cells.lookup y.1 = some c := fun y hy e => by
    rcases ok.free y hy e with k | k
    · exact I.ok.has _ (.inl k)
    · exact I.ok.has _ (.inr k)
  refine wpAny_comprehension_free (use := none) rfl hs (closure_ok caps) ok.kind (fun y hy e => by rw [ok.uniq y hy, e])
    (thn (hi.run pins s σ H _ I h) fun xv s1 hx => thn hx fun itv s2 h2 => ?_)
  obtain ⟨it, fp, tn, J, H2, e, I2, T, st2, f2, q⟩ := h2
  subst e
  refine wpAny_newObj_type (newEnv_comp ?_) (by show 0 ≤ sizeLine; decide)
  generalize hD : s2.heap.objs.size = D
  have freeD : H2 D = none := I2.hok.fresh (Nat.le_of_eq hD)
  obtain ⟨W, ⟨m0, w0⟩, turn⟩ := q D freeD
  generalize hs3 : ({ s2 with heap := s2.heap.push { cls := .type "list", data := .seq ([] : List Value).toArray } } : Shared) = s3
  have h3 : s3.heap = s2.heap.push { cls := .type "list", data := .seq ([] : List Value).toArray } := by rw [← hs3]
  have I3 : Inv X pins σ (upd H2 D (.lst [])) s3 := by
    rw [← hs3]
    refine I2.laid (t' := s2.toks) (fun b o e => Heap.get?_push_of_some _ e) (Nat.le_of_eq hD) ⟨Nat.zero_le _, [], 0, .nil, ?_⟩
    rw [← hD]
    exact Heap.get?_push_size _ rfl
  have below : ∀ b ∈ fp, b < s2.heap.objs.size := fun b hb => by
    obtain ⟨o, e, _⟩ := T.obj _ _ st2 b hb
    exact Heap.lt_size e
  have f3 : ∀ b ∈ fp, FpOk X pins (upd H2 D (.lst [])) b ∧ b < s3.heap.objs.size := fun b hb => by
    have lt := below b hb
    constructor
    · refine ⟨?_, (f2 b hb).2⟩
      rw [upd_ne (by rw [← hD]; exact Nat.ne_of_lt lt)]
      exact (f2 b hb).1
    · rw [h3, Heap.size_push]
      exact Nat.lt_succ_of_lt lt
  have st3 : tn 0 s3.heap := T.keep _ _ _ st2 fun b _ o e => by
    rw [h3]
    exact Heap.get?_push_of_some _ e
  have I4 := block_start I3 ok hN f3
  have pg := hg s3 (upd H2 D (.lst [])) s3.heap.objs.size (cellsFrom (s3.heap.objs.size + 1) scope.names (cloFrom X.env.cells scope.names [])) fp
  have pt := ht s3 (upd H2 D (.lst [])) s3.heap.objs.size (cellsFrom (s3.heap.objs.size + 1) scope.names (cloFrom X.env.cells scope.names [])) fp
  have pe := he s3 (upd H2 D (.lst [])) s3.heap.objs.size (cellsFrom (s3.heap.objs.size + 1) scope.names (cloFrom X.env.cells scope.names [])) fp
  show codeAny _ _ (.compStart (.ListComp elt [⟨tg, iter, ifs, 0⟩] scope pos) 0 (.ref it) (.ref D) (compEnvC scope (cellsFrom (s3.heap.objs.size + 1) scope.names (cloFrom X.env.cells scope.names [])) s3.heap.objs.size X.env)) _ { s3 with heap := pushCells (s3.heap.push { cls := .type "dict", data := .dict #[] }) scope.names }
  have nfp : ∀ b ∈ fp, (upd H2 D (.lst [])) b = none := fun b hb => (f3 b hb).1.1
  generalize hce : compEnvC scope (cellsFrom (s3.heap.objs.size + 1) scope.names (cloFrom X.env.cells scope.names [])) s3.heap.objs.size X.env = ce at I4 pg pt pe ⊢
  have cL : ce.locals = s3.heap.objs.size := by
    subst hce
    rfl
  have nfr : ∀ p ∈ X.pn, p.1 ≠ ce.locals ∧ p.1 ∉ frs X.stack := fun p hp => by
    have z := I3.pin p (List.mem_append_left _ hp)
    refine ⟨?_, fun hm => ?_⟩
    · rw [cL]
      exact Nat.ne_of_lt (Heap.lt_size z.1)
    · rcases List.mem_cons.mp (I3.stkSub p.1 hm) with y | y
      · exact z.2.2.1 y
      · exact z.2.2.2.1 y
  generalize hH3 : upd H2 D (.lst []) = H3 at I3 I4 pg pt pe w0 nfp f3
  generalize hs4 : ({ s3 with heap := pushCells (s3.heap.push { cls := .type "dict", data := .dict #[] }) scope.names } : Shared) = s4 at I4 ⊢
  have st4 : tn 0 s4.heap := T.keep _ _ _ st3 fun b _ o e => by
    rw [← hs4]
    exact pushCells_keeps _ _ _ _ (Heap.get?_push_of_some _ e)
  have J4 : Inv (blkC X s3 H3 scope ce fp) [] (wipe σ (own.map (·.2))) H3 s4 := by
    refine blk_pins I4 fun p hp => ?_
    have z := I3.pin p (List.mem_append_left _ hp)
    refine ⟨?_, z.2.1, (nfr p hp).1, (nfr p hp).2, z.2.2.2.2⟩
    rw [← hs4]
    exact pushCells_keeps _ _ _ _ (Heap.get?_push_of_some _ z.1)
  have hotB : HotC (blkC X s3 H3 scope ce fp) := hc
  have stat : ∀ {σ' : St} {H' : Hp} {s' : Shared}, Inv (blkC X s3 H3 scope ce fp) [] σ' H' s' → (∀ b ∈ fp, H' b = none) → ∀ b ∈ fp, FpOk (blkC X s3 H3 scope ce fp) [] H' b := fun {σ' H' s'} I' hn b hb =>
    ⟨hn b hb, (I'.ok.exf b hb).1, I'.ok.exfs b hb, .inl hb, fun x c e => (I'.ok.exf b hb).2 x c e, fun p hp => by
      rcases List.mem_append.mp hp with y | y
      · exact (f3 b hb).1.2.2.2.2.2 p (List.mem_append_left _ y)
      · cases y⟩
  have loop : codeAny (model X.prog X.w) X.A (.compLoop (.ListComp elt [⟨tg, iter, ifs, 0⟩] scope pos) 0 (.ref it) (.ref D) ce) (compPost (model X.prog X.w) X.A X.xe none (EP X pins σ Q) (.ref D) s3.heap.objs.size) s4 := by
    refine compLoop_any (fun n s' => ∃ i H', Inv (blkC X s3 H3 scope ce fp) [] (wipe σ (own.map (·.2))) H' s' ∧ tn i s'.heap ∧ (∀ b ∈ fp, H' b = none) ∧ W i n H') ?_ m0 ⟨0, H3, J4, st4, nfp, w0⟩
    rintro n s5 ⟨i, H5, I5, st5, n5, w5⟩
    rcases turn i n H5 w5 with ⟨stop, qq⟩ | ⟨go, Nx, hNx, step⟩
    · refine thnF (T.done (blkC X s3 H3 scope ce fp) rfl rfl rfl hotB i [] s5 _ H5 (fun _ _ => False) I5 (stat I5 n5) st5 stop) fun r s6 ⟨hr, I6⟩ => ?_
      subst hr
      have I7 : Inv X pins σ H5 s6 := I3.call' (ch := fp) I6.os I6.base I6.hok I6.bare fun b hb =>
        ⟨(f3 b hb).1.2.2.2.1, (f3 b hb).1.2.1, (f3 b hb).1.2.2.2.2.1, (f3 b hb).1.2.2.2.2.2⟩
      have nC : H5 s3.heap.objs.size = none := by
        have z : H5 ce.locals = none := I6.free
        rw [cL] at z
        exact z
      obtain ⟨m, hn, _⟩ := I6.loc
      have hn : s6.heap.Ns ce.locals m := hn
      rw [cL] at hn
      refine ⟨m, hn, fun h'' sb => ?_⟩
      obtain ⟨y0, y1, y2, y3, y4, y5⟩ := I3.fpOk (Nat.le_refl _) nC
      exact ⟨.ref D, H5, I7.turned (t' := s6.toks) (fun b o hb e => (sb.2 b hb).trans e) y0 y1 y3 y4 y5, rfl, qq⟩
    · refine thnF (T.item (blkC X s3 H3 scope ce fp) rfl rfl rfl hotB i [] s5 _ H5 (fun _ _ => False) I5 (stat I5 n5) st5 go) fun r s6 ⟨u, hr, h6⟩ => ?_
      subst hr
      refine thnF h6 fun _ s7 ⟨x, H7, I7, r7, y7, st7, n7⟩ => ?_
      have I7' := I7.pinned (stat I7 n7) (T.obj _ _ st7)
      refine thnF (pg.run _ s7 _ H7 x u _ I7' r7 (step x H7 y7)) fun _ s8 ⟨σ8, H8, I8, hw8, q8⟩ => ?_
      refine thnF (pt.run _ s8 σ8 H8 _ I8 q8) fun b s9 ⟨H9, I9, q9⟩ => ?_
      have next : ∀ {s' : Shared} {H' : Hp}, Inv (blkC X s3 H3 scope ce fp) ([] ++ pinsAt fp s7.heap) σ8 H' s' → Nx H' →
          ∃ m, m < n ∧ ∃ i H', Inv (blkC X s3 H3 scope ce fp) [] (wipe σ (own.map (·.2))) H' s' ∧ tn i s'.heap ∧ (∀ b ∈ fp, H' b = none) ∧ W i m H' := fun {s' H'} I' nx => by
        obtain ⟨m', hm, w'⟩ := hNx H' nx
        have still : ∀ b ∈ fp, ∀ o, s7.heap.get? b = some o → s'.heap.get? b = some o ∧ H' b = none := fun b hb o e =>
          let z := I'.pin (b, o) (List.mem_append_right _ (List.mem_append_right _ (mem_pinsAt hb e)))
          ⟨z.1, z.2.1⟩
        have hl : (wipe σ (own.map (·.2))).length = σ8.length := by rw [← hw8, wipe_length]
        refine ⟨m', hm, i + 1, H', (I'.unpinned (pins := [])).weak hl (fun j v e => ?_), T.keep _ _ _ st7 fun b hb o e => (still b hb o e).1, fun b hb => ?_, w'⟩
        · rw [← hw8] at e
          exact (wipe_some e).1
        · obtain ⟨o, e, _⟩ := T.obj _ _ st7 b hb
          exact (still b hb o e).2
      cases b with
      | false =>
        simp only [Bool.false_eq_true, if_false] at q9 ⊢
        exact next I9 q9
      | true =>
        simp only [if_true] at q9 ⊢
        refine thnF (pe.run _ s9 σ8 H9 _ I9 q9) fun z s10 ⟨yv, H10, I10, r10, acc, hD10, hz10, nx⟩ => ?_
        exact app_ok (X := blkC X s3 H3 scope ce fp) I10 hD10 hz10 r10 fun s11 I11 => next I11 nx
  exact codeAny_compStart_list loop (T.self X.A 0 _ _ _ st4 loop)
theorem pe_lcC (hc : Mood X) (hN : X.N.Nodup) (hi : X.calm = true → PI X tg iter wi) (hiH : HotC X → PIH X tg iter wi) (ok : BlkOk X.N X.env.scope scope own)
    (hg : ∀ (s : Shared) (H : Hp) (C : Addr) (cl : List (Str × Addr)) (fp : List Addr), PG (blkC X s H scope (compEnvC scope cl C X.env) fp) tg g)
    (ht : ∀ (s : Shared) (H : Hp) (C : Addr) (cl : List (Str × Addr)) (fp : List Addr), PTs (blkC X s H scope (compEnvC scope cl C X.env) fp) ifs tt)
    (he : ∀ (s : Shared) (H : Hp) (C : Addr) (cl : List (Str × Addr)) (fp : List Addr), PE (blkC X s H scope (compEnvC scope cl C X.env) fp) elt te)
    (hs : ∀ x, foldedSetIterable iter X.env x = pure x := by intro _; rfl) :
    PE X (.ListComp elt [⟨tg, iter, ifs, 0⟩] scope pos) (tLc wi g tt te (own.map (·.2))) := by
  rcases hc with ⟨hc, hp⟩ | hc
  · have e : ∀ (s : Shared) (H : Hp) (ce : Env) (fp : List Addr), blkC X s H scope ce fp = X.blk s H scope ce fp := fun s H ce fp => by
      unfold blkC
      rw [hp]
    refine pe_lc hc hN (hi hc) ok (fun s H C cl fp => ?_) (fun s H C cl fp => ?_) (fun s H C cl fp => ?_) hs
    · rw [← e]
      exact hg s H C cl fp
    · rw [← e]
      exact ht s H C cl fp
    · rw [← e]
      exact he s H C cl fp
  · exact pe_lcH hc hN (hiH hc) ok hg ht he hs
end
end K9

namespace PySem
namespace K9S
open PySem.Spec PyProof.Rows HotX
section
variable {prog : Program} {w : World} {A : Around} {E : Value → Shared → Prop} {s : Shared}
theorem unpack_hot {x1 t : Addr} {items : Array Value} {targets : List (Bool × (Value → Sem Unit))} {Q : Unit → Shared → Prop} (hot : HotAt A x1 s.heap) (ht : IsTup s.heap t items)
    (hn : targets.length = items.size) (star : targets.findIdx? (·.1) = none)
    (h : ∀ h', Heap.ExtBut s.heap.objs.size s.heap h' → wpAny (model prog w) A (assignInOrder (targets.map (·.2)) items.toList) Q E { s with heap := h' }) :
    wpAny (model prog w) A (unpack (.ref t) targets) Q E s := by
  obtain ⟨hh, o1, vs1, h1, d1, c1⟩ := hot
  have lt : t < s.heap.objs.size := by
    obtain ⟨o, ho, _⟩ := ht
    exact Heap.lt_size ho
  have ne := Nat.ne_of_lt lt
  have ne1 := Nat.ne_of_lt (Heap.lt_size h1)
  unfold unpack
  rw [hn, star]
  refine wpAny_bind (wpAny_holding ?_)
  unfold unpackItems
  refine wpAny_bind ?_
  unfold notIterableAtAll
  refine wpAny_bind (wpAny_specialOf ht.typeIs slot_tuple_iter.lookup (wpAny_pure ?_))
  simp only [Bool.false_eq_true, if_false]
  refine wpAny_bind (wpAny_holding (iter_tuple ht (wpAny_bind (wpAny_holding
    (draw_tuple ne items.size 0 _ _ ⟨_, Heap.get?_push_size _ rfl, rfl, rfl⟩ (ht.push _) (by omega) fun ha it1 sb1 => ?_)))))
  have all : List.take items.size (List.drop 0 items.toList) = items.toList := by
    rw [List.drop_zero]
    exact List.take_of_length_le (by simp)
  rw [all, if_neg (by simp)]
  have ht1 : IsTup ha t items := (ht.push _).extBut sb1.extBut ne
  have k1 : ha.get? x1 = some o1 := sb1.extBut x1 o1 ne1 (Heap.get?_push_of_some _ h1)
  refine wpAny_bind (wpAny_holding (tuple_end_hot (x1 := x1) (i := 0 + items.size) (items := items) ⟨hh, o1, vs1, k1, d1, c1⟩ ne1 it1 ht1 (by simp) fun hb eb => ?_))
  simp only [Option.isSome_none, Bool.false_eq_true, if_false]
  exact wpAny_pure (h hb fun b o hb' e => eb b o hb' (sb1.extBut b o hb' (Heap.get?_push_of_some _ e)))
theorem assign_tuple_hot {x1 : Addr} {env : Env} {elts : List Expr} {k} {pos : Pos} {t : Addr} {items : Array Value} {Q : Unit → Shared → Prop} (hot : HotAt A x1 s.heap) (ht : IsTup s.heap t items)
    (hn : (assignEach elts env).length = items.size) (star : (assignEach elts env).findIdx? (·.1) = none)
    (h : ∀ h', Heap.ExtBut s.heap.objs.size s.heap h' → wpAny (model prog w) A (assignInOrder ((assignEach elts env).map (·.2)) items.toList) Q E { s with heap := h' }) :
    wpAny (model prog w) A (assign (.Tuple elts k pos) env (.ref t)) Q E s := by
  rw [assign_Tuple]
  exact wpAny_bind (wpAny_standAt (unpack_hot hot ht hn star h))
end
end K9S
end PySem
namespace K9
open PySem PySem.Spec PyProof.Rows L2 L2H HotX Evl
section
variable {X : Cx} {pos : Pos}
/-- (a, b, ..) = a tuple of that length, in both moods -/
theorem pg_tupC {es : List Expr} {k : Nat} {t : TGs} {n : Nat} (hc : Mood X) (h : PGs X es t)
    (hn : (assignEach es X.env).length = n := by rfl) (hst : (assignEach es X.env).findIdx? (·.1) = none := by rfl) : PG X (.Tuple es k pos) (gTup X.K n t) := by
  rcases hc with ⟨hc, _⟩ | hc
  · exact pg_tup hc h hn hst
  · refine ⟨fun pins s σ H v u Q I r ⟨a, xs, e1, hq, hl, hw⟩ => ?_⟩
    subst e1
    cases r
    obtain ⟨its, rv, ht, hz⟩ := I.tuple hq
    obtain ⟨p, hp, hot⟩ := hot_pin hc I
    refine PySem.K9S.assign_tuple_hot hot ht (by simp [hn, ← hl, rv.length]) hst fun h' hx => ?_
    have J : Inv X pins σ H { s with heap := h' } := I.kept (t' := s.toks) fun b o e => hx b o (Nat.ne_of_lt (Heap.lt_size e)) e
    exact h.run pins _ σ H xs _ Q J (by simpa using rv) hw
/-! ### a list against the empty list -/
def rEq0 (K : PySem.W.Frag) : R2 := fun x y H Q => ∃ a b xs, x = .ref a ∧ y = .ref b ∧ SqL K H a xs ∧ SqL K H b [] ∧ Q (.bl xs.isEmpty) H
def rNe0 (K : PySem.W.Frag) : R2 := fun x y H Q => ∃ a b xs, x = .ref a ∧ y = .ref b ∧ SqL K H a xs ∧ SqL K H b [] ∧ Q (.bl (!xs.isEmpty)) H
theorem op_eq0 (hu : X.A.units + 64 < cLine) : OpR X (compareOp .Eq) (rEq0 X.K) := by
  intro pins s σ H x y v u Q I rx ry ⟨a, b, xs, ex, ey, ha, hb, q⟩
  subst ex ey
  obtain rfl : v = Value.ref a := rx
  obtain rfl : u = Value.ref b := ry
  obtain ⟨i1, r1, p1, z1⟩ := I.list ha
  obtain ⟨i2, r2, p2, z2⟩ := I.list hb
  have hu' : X.A.units < cLine := by omega
  cases r2
  cases r1 with
  | nil => exact SeqAt.RcAt.lists (e := fun _ => true) p1.isList p2.isList rfl hu' (fun j h1 => absurd h1 (by simp)) X.prog X.w _ _ ⟨.bl true, H, I, rfl, q⟩
  | cons r rr => exact SeqAt.RcAt.lists_lengths p1.isList p2.isList (by simp) hu' X.prog X.w _ _ ⟨.bl false, H, I, rfl, q⟩
theorem op_ne0 (hu : X.A.units + 64 < cLine) : OpR X (compareOp .NotEq) (rNe0 X.K) := by
  intro pins s σ H x y v u Q I rx ry ⟨a, b, xs, ex, ey, ha, hb, q⟩
  subst ex ey
  obtain rfl : v = Value.ref a := rx
  obtain rfl : u = Value.ref b := ry
  obtain ⟨i1, r1, p1, z1⟩ := I.list ha
  obtain ⟨i2, r2, p2, z2⟩ := I.list hb
  have hu' : X.A.units < cLine := by omega
  cases r2
  cases r1 with
  | nil => exact SeqAt.RcNeAt.lists (e := fun _ => true) p1.isList p2.isList rfl hu' (fun j h1 => absurd h1 (by simp)) X.prog X.w _ _ ⟨.bl false, H, I, rfl, q⟩
  | cons r rr => exact SeqAt.RcNeAt.lists_lengths p1.isList p2.isList (by simp) hu' X.prog X.w _ _ ⟨.bl true, H, I, rfl, q⟩
end
end K9

namespace K9
open PySem PySem.Spec PyProof.Rows L2 L2H HotX Evl
/-! ### errors as values -/
/-- at a stands an error of the class at C: tracked, or the one that is handled -/
def EAt (l : List (Addr × Obj)) (H : Hp) (a C : Addr) (d : Option Addr) : Prop :=
  H a = some (exo a C d) ∨ ∃ oe, (a, oe) ∈ l ∧ Zc (.ref C) d oe ∧ ∃ vs, oe.data = .fields vs
/-- at d stands a dict of these fields -/
def FAt (H : Hp) (d : Addr) (fs : List (Str × V)) : Prop := H d = some (exd d fs) ∨ H d = some (.xd fs)
/-- an error with its fields, none if it has no dict -/
def Err (l : List (Addr × Obj)) (H : Hp) (a C : Addr) : Option (List (Str × V)) → Prop
  | none => EAt l H a C none
  | some fs => ∃ d, EAt l H a C (some d) ∧ FAt H d fs
theorem FAt.ext {H H' : Hp} {d : Addr} {fs : List (Str × V)} (e : Ex H H') (h : FAt H d fs) : FAt H' d fs := by
  rcases h with h | h
  · exact .inl (e _ _ h)
  · exact .inr (e _ _ h)
theorem EAt.ext {l : List (Addr × Obj)} {H H' : Hp} {a C : Addr} {d : Option Addr} (e : Ex H H') (h : EAt l H a C d) : EAt l H' a C d := by
  rcases h with h | h
  · exact .inl (e _ _ h)
  · exact .inr h
theorem Err.ext {l : List (Addr × Obj)} {H H' : Hp} {a C : Addr} {o : Option (List (Str × V))} (e : Ex H H') (h : Err l H a C o) : Err l H' a C o := by
  cases o with
  | none => exact EAt.ext e h
  | some fs =>
    obtain ⟨d, h1, h2⟩ := h
    exact ⟨d, h1.ext e, h2.ext e⟩
/-- what the written part says of an error's class -/
structure ErrC (K : PySem.W.Frag) (C : Addr) : Prop where
  ox : OexC K C
  xf : XfC K C
  cl : (PySem.W.clsIn K C).isSome = true
  ha : PySem.W.findIn K (.ref C) "__class__" = some (some (.builtin "object.__class__"))
  hn : PySem.W.specialIn K (.builtin "object.__class__") "__get__" = some (some (.builtin "getset_descriptor.__get__"))
  ht : PySem.W.takesIn K (.builtin "object.__class__") = some true
  hm : PySem.W.mroIn K C (.type "object") = some true
section
variable {X : Cx} {pins : List (Addr × Obj)} {σ : St} {H : Hp} {s : Shared} {a C d : Addr} {fs : List (Str × V)}
theorem FAt.ns (I : Inv X pins σ H s) (h : FAt H d fs) : ∃ mA, s.heap.Ns1 d mA ∧ ∀ f, RelO (fs.lookup f) (mA f) := by
  rcases h with h | h
  · exact exd_at I.hok h
  · exact (show ObjOk X.prog X.w H s.heap d (.xd fs) from I.hok d _ h)
theorem EAt.obj {d : Option Addr} (I : Inv X pins σ H s) (h : EAt X.pn H a C d) : ∃ ox, s.heap.get? a = some ox ∧ ox.cls = .ref C ∧ ox.dict = d ∧ PySem.W.notCls ox = true := by
  rcases h with h | ⟨oe, hp, hz, vs, hd⟩
  · obtain ⟨t1, e⟩ := exo_at I.hok h
    exact ⟨_, e, rfl, rfl, rfl⟩
  · refine ⟨oe, (I.pin (a, oe) (List.mem_append_left _ hp)).1, hz.1, hz.2, ?_⟩
    unfold PySem.W.notCls
    rw [hd] <;> rfl
theorem Err.inst {o : Option (List (Str × V))} (I : Inv X pins σ H s) (h : Err X.pn H a C o) : ∃ ox od, PySem.W.InstAt s.heap a ox C od := by
  cases o with
  | none =>
    obtain ⟨ox, e, h1, h2, h3⟩ := EAt.obj I h
    refine ⟨ox, none, e, h1, h3, ?_⟩
    rw [h2]
    trivial
  | some fs =>
    obtain ⟨d, h, hf⟩ := h
    obtain ⟨ox, e, h1, h2, h3⟩ := EAt.obj I h
    obtain ⟨mA, hns, _⟩ := hf.ns I
    obtain ⟨od, ho, _⟩ := lookIn_ns hns
    refine ⟨ox, some od, e, h1, h3, ?_⟩
    rw [h2]
    exact ho
/-- e.f of an error -/
def tGetE (K : PySem.W.Frag) (l : List (Addr × Obj)) (f : Str) (te : TE) : TE := fun σ H Q => te σ H fun x H1 =>
  ∃ (a C : Addr) (fs : List (Str × V)) (v : V), x = .ref a ∧ Err l H1 a C (some fs) ∧ ErrC K C ∧ PySem.W.findIn K (.ref C) f = some none ∧ fs.lookup f = some v ∧ Q v H1
theorem pe_getE {e : Expr} {te : TE} {pos : Pos} {n : Str} (he : PE X e te) (hb : attributeBase e n X.env (eval e X.env) = eval e X.env := by rfl) :
    PE X (.Attribute e n pos) (tGetE X.K X.pn n te) := by
  refine ⟨fun pins s σ H Q I h => ?_⟩
  refine attr_of hb (thn (he.run pins s σ H _ I h) fun u s1 hh => ?_)
  obtain ⟨x, H1, I1, rx, a, C, fs, v, ex, ⟨d, h1, hf⟩, T, hno, l, q⟩ := hh
  subst ex
  obtain rfl : u = Value.ref a := rx
  obtain ⟨ox, e1, e2, e3, e4⟩ := EAt.obj I1 h1
  obtain ⟨mA, hns, hr⟩ := hf.ns I1
  obtain ⟨od, ho, hl⟩ := lookIn_ns hns
  obtain ⟨u, hu, ru⟩ := RelO.some_of (v := v) (o := mA n) (by
    rw [← l]
    exact hr n)
  have J : PySem.W.InstAt s1.heap a ox C (some od) := ⟨e1, e2, e4, by
    rw [e3]
    exact ho⟩
  exact HandSPX.exc_get I1.kIn J T.xf.ga T.xf.gg T.xf.exC (PySem.W.findObj_own T.xf.hdC hno rfl (by rw [hl, hu])) (handed_of ru) ⟨v, H1, I1.tok _, ru, q⟩
/-- isinstance(e, c) and isinstance(e, (c1, c2, ..)) of an error -/
def rIsE1 (K : PySem.W.Frag) (l : List (Addr × Obj)) : List V → Hp → VK → Prop := fun xs H Q =>
  ∃ (a C : Addr) (o : Option (List (Str × V))) (c : V) (u : Value) (b : Bool), xs = [.ref a, c] ∧ Err l H a C o ∧ ErrC K C ∧ ClsV c u ∧ PySem.W.kitOne K (.ref C) u = some b ∧ Q (.bl b) H
def rIsET (K : PySem.W.Frag) (l : List (Addr × Obj)) : List V → Hp → VK → Prop := fun xs H Q =>
  ∃ (a C tp : Addr) (o : Option (List (Str × V))) (cs : List V) (us : List Value) (b : Bool), xs = [.ref a, .ref tp] ∧ Err l H a C o ∧ ErrC K C ∧ H tp = some (.tup cs) ∧ Paired ClsV cs us ∧
    PySem.W.kitAny K (.ref C) us = some b ∧ Q (.bl b) H
theorem call_isE1 : CallR X (.builtin "isinstance") (rIsE1 X.K X.pn) := by
  intro pins s σ H xs us Q I r ⟨a, C, o, c, u, b, ex, he, T, k, e, q⟩
  subst ex
  obtain ⟨u1, u2, rfl, r1, r2⟩ := vals2 r
  cases (show u1 = Value.ref a from r1)
  have e2 := k.eq r2
  subst e2
  obtain ⟨ox, od, J⟩ := Err.inst I he
  exact PySem.W.kia_one (PySem.W.kitx_exc (gt := none) T.cl T.xf.ga T.xf.gg T.xf.exC T.ha T.hn T.ht T.hm) I.kIn J e (fun z => nomatch z) fun tk => ⟨.bl b, H, I.tok tk, rfl, q⟩
theorem call_isET : CallR X (.builtin "isinstance") (rIsET X.K X.pn) := by
  intro pins s σ H xs us Q I r ⟨a, C, tp, o, cs, ws, b, ex, he, T, hT, k, e, q⟩
  subst ex
  obtain ⟨u1, u2, rfl, r1, r2⟩ := vals2 r
  cases (show u1 = Value.ref a from r1)
  cases (show u2 = Value.ref tp from r2)
  obtain ⟨ox, od, J⟩ := Err.inst I he
  obtain ⟨_, its, rv, ob, h1, h2, n, h3⟩ := (show ObjOk X.prog X.w H s.heap tp (.tup cs) from I.hok tp _ hT)
  have e3 := ClsV.all k rv
  subst e3
  obtain ⟨oc, od2, dt, sl⟩ := ob
  simp only at h2 h3
  subst h2 h3
  exact PySem.W.kia_tup (PySem.W.kitx_exc (gt := none) T.cl T.xf.ga T.xf.gg T.xf.exC T.ha T.hn T.ht T.hm) I.kIn J h1 e (fun z => nomatch z) fun tk => ⟨.bl b, H, I.tok tk, rfl, q⟩
end
/-! ### C(.., k = v ..): an error made, not raised -/
/-- what __init__ asks and leaves: the error at a gets the fields fs, in a dict of its own -/
def spErr (C : Addr) (ns : List Str) : Sp := fun vs H Q _ => ∃ (a : Addr) (us : List V), vs = .ref a :: us ∧ us.length = ns.length ∧ H a = some (exo a C none) ∧
  ∀ (d : Addr) (H' : Hp), H d = none → (∀ b o, b ≠ a → H b = some o → H' b = some o) → H' a = some (exo a C (some d)) → H' d = some (exd d (ns.zip us).reverse) → Q .non H'
def tNewE (C : Addr) (n m : Nat) (ns : List Str) (gV : List V → List V → List V) (t tk : TA) : TE := fun σ H Q => t σ H fun vs H1 => tk σ H1 fun zs H2 => vs.length = n ∧ zs.length = m ∧
  ∃ us, (∀ x, gV (x :: vs) zs = x :: us) ∧ us.length = ns.length ∧ ∀ (a d : Addr) (H3 : Hp), H2 a = none → H2 d = none → Ex H2 H3 → H3 a = some (exo a C (some d)) → H3 d = some (exd d (ns.zip us).reverse) → Q (.ref a) H3
section
variable {X : Cx} {k n : Nat} {fI C : Addr} {fd : FuncData} {ps ks ns : List Str} {x : Str} {p pos : Pos} {e : Expr} {es : List Expr} {kws : List Keyword} {t tk : TA} {g : List Value → List Value → List Value} {gV : List V → List V → List V}
theorem run_newE {pins : List (Addr × Obj)} {σ : St} {H : Hp} {s : Shared} {Q : VK} {us ws : List Value} {vs zs : List V} (T : OexC X.K C) (iC : PySem.W.findIn X.K (.ref C) "__init__" = some (some (.ref fI))) (tI : PySem.W.typeIn X.K (.ref fI) = some (.type "function"))
    (F1 : FnOk X.prog X.w X.K X.mg X.base CX0 k fI fd ps (spErr C ns)) (hr : RoomH (k + 1) X.A) (hc : X.calm = true) (hn : n ≤ 1000) (hb : KBn X.K fd ps (n + 1) ks g gV)
    (I : Inv X pins σ H s) (r : Vals vs us) (rz : Vals zs ws) (l1 : vs.length = n) (l2 : zs.length = ks.length)
    (h : ∃ us, (∀ x, gV (x :: vs) zs = x :: us) ∧ us.length = ns.length ∧ ∀ (a d : Addr) (H3 : Hp), H a = none → H d = none → Ex H H3 → H3 a = some (exo a C (some d)) → H3 d = some (exd d (ns.zip us).reverse) → Q (.ref a) H3) :
    wpAny (model X.prog X.w) X.A (call (.ref C) us (ks.zip ws)) (EP X pins σ Q) X.xe s := by
  obtain ⟨nm, q, N, bs, bm, sn, sub, ab, col, dd, k0, k1, k2, k3, k5, hC, hbm⟩ := T.cls
  obtain ⟨zs2, hz, lz, hq⟩ := h
  have rm : Room (k + 1) X.A := ⟨I.ok.hd hc, hr.dp, hr.un⟩
  obtain ⟨hp, gg, dr, tk, os⟩ := s
  have new : H (hp.objs.size + 1) = none := I.hok.fresh (Nat.le_succ _)
  have keep : ∀ b o, hp.get? b = some o → ((hp.push (PySem.W.kdv_tup us)).push (PySem.HandSPX.excO C hp.objs.size)).get? b = some o := fun b o e => Heap.get?_push_of_some _ (Heap.get?_push_of_some _ e)
  have hget : ((hp.push (PySem.W.kdv_tup us)).push (PySem.HandSPX.excO C hp.objs.size)).get? (hp.objs.size + 1) = some (PySem.HandSPX.excO C hp.objs.size) := by heap_get
  have I2 : Inv X pins σ (upd H (hp.objs.size + 1) (exo (hp.objs.size + 1) C none)) ⟨(hp.push (PySem.W.kdv_tup us)).push (PySem.HandSPX.excO C hp.objs.size), gg, dr, tk, os⟩ :=
    I.laid (t' := tk) keep (Nat.le_succ _) (exo_ok hget)
  have r2 : Vals (V.ref (hp.objs.size + 1) :: zs2) (g (Value.ref (hp.objs.size + 1) :: us) ws) := by
    have y := hb.rel (vs := V.ref (hp.objs.size + 1) :: vs) (us := Value.ref (hp.objs.size + 1) :: us) (.cons rfl r) rz
    rw [hz] at y
    exact y
  have n1 : (Value.ref (hp.objs.size + 1) :: us).length = n + 1 := by rw [List.length_cons, ← r.length, l1]
  have room : us.length ≤ sizeLine := by
    rw [← r.length, l1, sizeLine_eq]
    omega
  have sp : spErr C ns (V.ref (hp.objs.size + 1) :: zs2) (upd H (hp.objs.size + 1) (exo (hp.objs.size + 1) C none)) (fun v H2 => v = .non ∧ Q (.ref (hp.objs.size + 1)) H2) E0 := by
    refine ⟨_, zs2, rfl, lz, upd_same, fun d H' hd k1 ha hd2 => ⟨rfl, hq _ d H' new ?_ (fun b o e => k1 b o ?_ ?_) ha hd2⟩⟩
    · by_cases z : d = hp.objs.size + 1
      · rw [z, upd_same] at hd
        cases hd
      · rw [upd_ne z] at hd
        exact hd
    · exact ne_of_none e new
    · rw [upd_ne (ne_of_none e new)]
      exact e
  refine wpAny_call (PySem.K9.call_kw PySem.F.excBase_ValueError (fun Y => PySem.HandSPX.refsVE_contains Y bm hbm) (I.kIn _ _ hC) (PySem.W.looks_findIn I.kIn iC) (fun self => PySem.W.bind_fn I.kIn self tI) room
    (codeAny_mono (F1.run _ X.stack _ _ ⟨Value.ref (hp.objs.size + 1) :: us, ks.zip ws⟩ _ _ _ E0 (rm.make C us (ks.zip ws)) (I2.env0.make C us (ks.zip ws)) (hb.to _ _ ws I2.kIn n1 (rz.length.symm.trans l2)) r2 sp) fun r s' hq' => ?_))
  cases r with
  | error e => exact False.elim hq'
  | ok fl =>
    cases fl with
    | ret u =>
      obtain ⟨v, H', I3, rv, ev, q3⟩ := I2.after hq'
      subst ev
      exact ⟨rv, V.ref (hp.objs.size + 1), H', I3, rfl, q3⟩
    | next => exact False.elim hq'
    | brk => exact False.elim hq'
    | cont => exact False.elim hq'
/-- C(k = v, ..) -/
theorem pe_newE0 (T : OexC X.K C) (iC : PySem.W.findIn X.K (.ref C) "__init__" = some (some (.ref fI))) (tI : PySem.W.typeIn X.K (.ref fI) = some (.type "function"))
    (F1 : FnOk X.prog X.w X.K X.mg X.base CX0 k fI fd ps (spErr C ns)) (hr : RoomH (k + 1) X.A) (hc : X.calm = true) (hg : Gl X x) (hm : X.mg x = some (.ref C)) (hb : KBn X.K fd ps 1 ks g gV) (hkw : PK X kws tk)
    (hall : (backToKw pos (keywordEach kws X.env)).all (·.1.isSome) = true := by rfl) (hks : (backToKw pos (keywordEach kws X.env)).filterMap (·.1) = ks := by rfl)
    (hdb : (x == ("__debug__" : Str)) = false := by decide)
    (hpl : ((backTo pos (starEach [] X.env)).any (·.1) || (backToKw pos (keywordEach kws X.env)).any (·.1.isNone)) = false := by rfl) :
    PE X (.Call (.Name x p) [] kws pos) (tNewE C 0 ks.length ns gV tNil tk) := by
  refine ⟨fun pins s σ H Q I h => ?_⟩
  refine wpAny_Call_Name_kw (ld_glob I hg hm ?_ hdb)
  refine PySem.W.callWith_KW0 (h₀ := X.base) I.ok.mod.kin T.kC hall ?_ hpl
  refine thn (hkw.run pos pins s σ H _ I h) fun ws s2 ⟨zs, H2, I2, rz, l1, l2, q2⟩ => ⟨I2.kIn, ?_⟩
  rw [hks]
  exact run_newE (us := []) (vs := []) T iC tI F1 hr hc (by omega) hb I2 .nil rz rfl l2 q2
/-- C(e, .., k = v, ..) -/
theorem pe_newEK (hn : n ≤ 1000) (T : OexC X.K C) (iC : PySem.W.findIn X.K (.ref C) "__init__" = some (some (.ref fI))) (tI : PySem.W.typeIn X.K (.ref fI) = some (.type "function"))
    (F1 : FnOk X.prog X.w X.K X.mg X.base CX0 k fI fd ps (spErr C ns)) (hr : RoomH (k + 1) X.A) (hc : X.calm = true) (hg : Gl X x) (hm : X.mg x = some (.ref C)) (hb : KBn X.K fd ps (n + 1) ks g gV) (ha : PA X (e :: es) t) (hkw : PK X kws tk)
    (hall : (backToKw pos (keywordEach kws X.env)).all (·.1.isSome) = true := by rfl) (hks : (backToKw pos (keywordEach kws X.env)).filterMap (·.1) = ks := by rfl)
    (hdb : (x == ("__debug__" : Str)) = false := by decide) (he : starEach (e :: es) X.env = (false, eval e X.env) :: starEach es X.env := by rfl)
    (hpl : ((backTo pos (starEach (e :: es) X.env)).any (·.1) || (backToKw pos (keywordEach kws X.env)).any (·.1.isNone)) = false := by rfl) :
    PE X (.Call (.Name x p) (e :: es) kws pos) (tNewE C n ks.length ns gV t tk) := by
  refine ⟨fun pins s σ H Q I h => ?_⟩
  refine wpAny_Call_Name_kw (ld_glob I hg hm ?_ hdb)
  refine PySem.W.callWith_KW (h₀ := X.base) I.ok.mod.kin T.kC hall (thn (ha.run pos pins s σ H _ I h) fun us s1 ⟨vs, H1, I1, r, q⟩ => ?_) hpl he
  refine thn (hkw.run pos pins s1 σ H1 _ I1 q) fun ws s2 ⟨zs, H2, I2, rz, l1, l2, q2⟩ => ⟨I2.kIn, ?_⟩
  rw [hks]
  exact run_newE T iC tI F1 hr hc hn hb I2 r rz l1 l2 q2
/-- C(), C a class over ValueError without an own __init__ -/
def tNewX (C : Addr) : TE := fun _ H Q => ∀ (a : Addr) (H1 : Hp), H a = none → Ex H H1 → H1 a = some (exo a C none) → Q (.ref a) H1
theorem pe_newX {bmB : List Value} {B newId initId : String} (F : ExcBaseFacts B newId initId bmB) (q : PySem.W.excIn X.K C bmB newId = true) (gC : X.mg x = some (.ref C)) (kC : PySem.W.keepIn X.K (.ref C) = true) (hg : Gl X x)
    (hdb : (x == ("__debug__" : Str)) = false := by decide) : PE X (.Call (.Name x p) [] [] pos) (tNewX C) := by
  refine ⟨fun pins s σ H Q I h => ?_⟩
  refine wpAny_Call_Name_kw (ld_glob I hg gC ?_ hdb)
  refine PySem.W.callWith_K0 I.kIn kC ?_
  show wpAny _ _ (call (.ref C) []) _ _ _
  obtain ⟨bm, N, nm, qn, bs, hdct, sn, sub, ab, col, dd, k0, k1, k2, k3, k5, mN, hC, hN, hni, T⟩ := exc_obj I.kIn q
  refine wpAny_call_exc_subT F T hC hN hni (fun h' a hm => ?_) (Nat.zero_le _)
  have hn : H a = none := I.hok.gone hm.new
  obtain ⟨t, ht, _, _⟩ := hm.there
  exact ⟨.ref a, upd H a (exo a C none), I.laidN hm.keeps hm.new hn (exo_ok ht), rfl, h a _ hn (Ex.new hn) upd_same⟩
end
end K9

namespace K9
open PySem PySem.Spec PyProof.Rows L2 L2H HotX Evl
/-! ### raise C(.., k = v ..) where nothing is handled -/
def tMkE (C : Addr) (n m : Nat) (ns : List Str) (gV : List V → List V → List V) (t tk : TA) : St → Hp → XK → Prop := fun σ H Q => t σ H fun vs H1 => tk σ H1 fun zs H2 => vs.length = n ∧ zs.length = m ∧
  ∃ us, (∀ x, gV (x :: vs) zs = x :: us) ∧ us.length = ns.length ∧ ∀ (d : Addr) (H3 : Hp), H2 d = none → Ex H2 H3 → H3 d = some (.xd (ns.zip us).reverse) → Q (.ref C) (some d) H3
section
variable {X : Cx} {k n : Nat} {fI C : Addr} {fd : FuncData} {ps ks ns : List Str} {x : Str} {p pos : Pos} {e : Expr} {es : List Expr} {kws : List Keyword} {t tk : TA} {g : List Value → List Value → List Value} {gV : List V → List V → List V}
theorem run_mkE {pins : List (Addr × Obj)} {σ : St} {H : Hp} {s : Shared} {Q : XK} {us ws : List Value} {vs zs : List V} (T : OexC X.K C) (iC : PySem.W.findIn X.K (.ref C) "__init__" = some (some (.ref fI))) (tI : PySem.W.typeIn X.K (.ref fI) = some (.type "function"))
    (F1 : FnOk X.prog X.w X.K X.mg X.base CX0 k fI fd ps (spErr C ns)) (hr : RoomH (k + 1) X.A) (hc : X.calm = true) (hn : n ≤ 1000) (hb : KBn X.K fd ps (n + 1) ks g gV)
    (I : Inv X pins σ H s) (r : Vals vs us) (rz : Vals zs ws) (l1 : vs.length = n) (l2 : zs.length = ks.length)
    (h : ∃ us, (∀ x, gV (x :: vs) zs = x :: us) ∧ us.length = ns.length ∧ ∀ (d : Addr) (H3 : Hp), H d = none → Ex H H3 → H3 d = some (.xd (ns.zip us).reverse) → Q (.ref C) (some d) H3) :
    wpAny (model X.prog X.w) X.A (call (.ref C) us (ks.zip ws)) (L2N.MkP X pins σ Q) X.xe s := by
  obtain ⟨nm, q, N, bs, bm, sn, sub, ab, col, dd, k0, k1, k2, k3, k5, hC, hbm⟩ := T.cls
  obtain ⟨zs2, hz, lz, hq⟩ := h
  have rm : Room (k + 1) X.A := ⟨I.ok.hd hc, hr.dp, hr.un⟩
  obtain ⟨hp, gg, dr, tk, os⟩ := s
  have new : H (hp.objs.size + 1) = none := I.hok.fresh (Nat.le_succ _)
  have keep : ∀ b o, hp.get? b = some o → ((hp.push (PySem.W.kdv_tup us)).push (PySem.HandSPX.excO C hp.objs.size)).get? b = some o := fun b o e => Heap.get?_push_of_some _ (Heap.get?_push_of_some _ e)
  have hget : ((hp.push (PySem.W.kdv_tup us)).push (PySem.HandSPX.excO C hp.objs.size)).get? (hp.objs.size + 1) = some (PySem.HandSPX.excO C hp.objs.size) := by heap_get
  have I2 : Inv X pins σ (upd H (hp.objs.size + 1) (exo (hp.objs.size + 1) C none)) ⟨(hp.push (PySem.W.kdv_tup us)).push (PySem.HandSPX.excO C hp.objs.size), gg, dr, tk, os⟩ :=
    I.laid (t' := tk) keep (Nat.le_succ _) (exo_ok hget)
  have r2 : Vals (V.ref (hp.objs.size + 1) :: zs2) (g (Value.ref (hp.objs.size + 1) :: us) ws) := by
    have y := hb.rel (vs := V.ref (hp.objs.size + 1) :: vs) (us := Value.ref (hp.objs.size + 1) :: us) (.cons rfl r) rz
    rw [hz] at y
    exact y
  have n1 : (Value.ref (hp.objs.size + 1) :: us).length = n + 1 := by rw [List.length_cons, ← r.length, l1]
  have room : us.length ≤ sizeLine := by
    rw [← r.length, l1, sizeLine_eq]
    omega
  have sp : spErr C ns (V.ref (hp.objs.size + 1) :: zs2) (upd H (hp.objs.size + 1) (exo (hp.objs.size + 1) C none))
      (fun v H2 => v = .non ∧ ∃ (d : Addr), H2 (hp.objs.size + 1) = some (exo (hp.objs.size + 1) C (some d)) ∧ H2 d = some (exd d (ns.zip zs2).reverse) ∧ H d = none ∧ Q (.ref C) (some d) (upd (del H2 (hp.objs.size + 1)) d (.xd (ns.zip zs2).reverse))) E0 := by
    refine ⟨_, zs2, rfl, lz, upd_same, fun d H' hd k1 ha hd2 => ?_⟩
    have nd : d ≠ hp.objs.size + 1 := fun z => by
      rw [z, upd_same] at hd
      cases hd
    have hd0 : H d = none := by
      rw [upd_ne nd] at hd
      exact hd
    refine ⟨rfl, d, ha, hd2, hd0, hq d _ hd0 (fun b o e => ?_) upd_same⟩
    have nb : b ≠ hp.objs.size + 1 := ne_of_none e new
    rw [upd_ne (ne_of_none e hd0), del_ne nb]
    refine k1 b o nb ?_
    rw [upd_ne nb]
    exact e
  refine wpAny_call (PySem.K9.call_kw PySem.F.excBase_ValueError (fun Y => PySem.HandSPX.refsVE_contains Y bm hbm) (I.kIn _ _ hC) (PySem.W.looks_findIn I.kIn iC) (fun self => PySem.W.bind_fn I.kIn self tI) room
    (codeAny_mono (F1.run _ X.stack _ _ ⟨Value.ref (hp.objs.size + 1) :: us, ks.zip ws⟩ _ _ _ E0 (rm.make C us (ks.zip ws)) (I2.env0.make C us (ks.zip ws)) (hb.to _ _ ws I2.kIn n1 (rz.length.symm.trans l2)) r2 sp) fun r s' hq' => ?_))
  cases r with
  | error e => exact False.elim hq'
  | ok fl =>
    cases fl with
    | ret u =>
      obtain ⟨v, H2, os2, bare2, un2, hok2, rv, ev, d, ea, ed, hd1, q2⟩ := hq'
      subst ev
      obtain ⟨h2, g2, d2, t2, os'⟩ := s'
      obtain ⟨t0, G, J, kG, ge, hoe, na⟩ := mk_end0 (d2 := d2) (t2 := t2) I (Nat.le_succ _) keep un2 hok2 os2 bare2 ea ed hd1
      exact ⟨rv, hp.objs.size + 1, _, _, ⟨G, g2, d2, t2, os'⟩, _, .ref C, some d, rfl, J, kG, ge, hoe, ⟨rfl, rfl, fun vs e => by cases e; rfl⟩, rfl, rfl, na, rfl, bare2, raises_own T.exC T.tyC, q2⟩
    | next => exact False.elim hq'
    | brk => exact False.elim hq'
    | cont => exact False.elim hq'
theorem pmk_E0 (T : OexC X.K C) (iC : PySem.W.findIn X.K (.ref C) "__init__" = some (some (.ref fI))) (tI : PySem.W.typeIn X.K (.ref fI) = some (.type "function"))
    (F1 : FnOk X.prog X.w X.K X.mg X.base CX0 k fI fd ps (spErr C ns)) (hr : RoomH (k + 1) X.A) (hc : X.calm = true) (hg : Gl X x) (hm : X.mg x = some (.ref C)) (hb : KBn X.K fd ps 1 ks g gV) (hkw : PK X kws tk)
    (hall : (backToKw pos (keywordEach kws X.env)).all (·.1.isSome) = true := by rfl) (hks : (backToKw pos (keywordEach kws X.env)).filterMap (·.1) = ks := by rfl)
    (hdb : (x == ("__debug__" : Str)) = false := by decide)
    (hpl : ((backTo pos (starEach [] X.env)).any (·.1) || (backToKw pos (keywordEach kws X.env)).any (·.1.isNone)) = false := by rfl) :
    L2N.PMk X (.Call (.Name x p) [] kws pos) (tMkE C 0 ks.length ns gV tNil tk) := by
  intro pins s σ H Q I h
  refine wpAny_Call_Name_kw (ld_glob I hg hm ?_ hdb)
  refine PySem.W.callWith_KW0 (h₀ := X.base) I.ok.mod.kin T.kC hall ?_ hpl
  refine thn (hkw.run pos pins s σ H _ I h) fun ws s2 ⟨zs, H2, I2, rz, l1, l2, q2⟩ => ⟨I2.kIn, ?_⟩
  rw [hks]
  exact run_mkE (us := []) (vs := []) T iC tI F1 hr hc (by omega) hb I2 .nil rz rfl l2 q2
theorem pmk_EK (hn : n ≤ 1000) (T : OexC X.K C) (iC : PySem.W.findIn X.K (.ref C) "__init__" = some (some (.ref fI))) (tI : PySem.W.typeIn X.K (.ref fI) = some (.type "function"))
    (F1 : FnOk X.prog X.w X.K X.mg X.base CX0 k fI fd ps (spErr C ns)) (hr : RoomH (k + 1) X.A) (hc : X.calm = true) (hg : Gl X x) (hm : X.mg x = some (.ref C)) (hb : KBn X.K fd ps (n + 1) ks g gV) (ha : PA X (e :: es) t) (hkw : PK X kws tk)
    (hall : (backToKw pos (keywordEach kws X.env)).all (·.1.isSome) = true := by rfl) (hks : (backToKw pos (keywordEach kws X.env)).filterMap (·.1) = ks := by rfl)
    (hdb : (x == ("__debug__" : Str)) = false := by decide) (he : starEach (e :: es) X.env = (false, eval e X.env) :: starEach es X.env := by rfl)
    (hpl : ((backTo pos (starEach (e :: es) X.env)).any (·.1) || (backToKw pos (keywordEach kws X.env)).any (·.1.isNone)) = false := by rfl) :
    L2N.PMk X (.Call (.Name x p) (e :: es) kws pos) (tMkE C n ks.length ns gV t tk) := by
  intro pins s σ H Q I h
  refine wpAny_Call_Name_kw (ld_glob I hg hm ?_ hdb)
  refine PySem.W.callWith_KW (h₀ := X.base) I.ok.mod.kin T.kC hall (thn (ha.run pos pins s σ H _ I h) fun us s1 ⟨vs, H1, I1, r, q⟩ => ?_) hpl he
  refine thn (hkw.run pos pins s1 σ H1 _ I1 q) fun ws s2 ⟨zs, H2, I2, rz, l1, l2, q2⟩ => ⟨I2.kIn, ?_⟩
  rw [hks]
  exact run_mkE T iC tI F1 hr hc hn hb I2 r rz l1 l2 q2
theorem pmk_X {bmB : List Value} {B newId initId : String} (F : ExcBaseFacts B newId initId bmB) (q : PySem.W.excIn X.K C bmB newId = true) (gC : X.mg x = some (.ref C)) (kC : PySem.W.keepIn X.K (.ref C) = true) (r : Raises X (.ref C)) (hg : Gl X x)
    (hdb : (x == ("__debug__" : Str)) = false := by decide) : L2N.PMk X (.Call (.Name x p) [] [] pos) (fun _ H Q => Q (.ref C) none H) := by
  intro pins s σ H Q I h
  refine wpAny_Call_Name_kw (ld_glob I hg gC ?_ hdb)
  refine PySem.W.callWith_K0 I.kIn kC ?_
  show wpAny _ _ (call (.ref C) []) _ _ _
  obtain ⟨bm, N, nm, qn, bs, hdct, sn, sub, ab, col, dd, k0, k1, k2, k3, k5, mN, hC, hN, hni, T⟩ := exc_obj I.kIn q
  refine wpAny_call_exc_subT F T hC hN hni (fun h' a hm => ?_) (Nat.zero_le _)
  exact L2N.mk_of I hm r h (I.hok.gone hm.new)
end
/-- the suite of a caught error: its mood, the pin that its callees see -/
theorem suite_hot {X : Cx} {a : Addr} {oe : Obj} {cls : Value} {d : Option Addr} {pn : List (Addr × Obj)} (hz : L2N.Zn cls d oe) (hf : ∃ vs, oe.data = .fields vs) : HotC (X.suite a ((a, oe) :: pn)) := by
  obtain ⟨vs, hd⟩ := hf
  exact ⟨(a, oe), ⟨rfl, vs, hd, hz.2.2 vs hd⟩, List.mem_cons_self⟩
theorem suite_call {X : Cx} {a : Addr} {oe : Obj} {cls : Value} {d : Option Addr} {pn : List (Addr × Obj)} (hz : L2N.Zn cls d oe) (hf : ∃ vs, oe.data = .fields vs) : CallC (X.suite a ((a, oe) :: pn)) (some (a, oe)) := by
  obtain ⟨vs, hd⟩ := hf
  exact .inr ⟨(a, oe), rfl, ⟨rfl, vs, hd, hz.2.2 vs hd⟩, List.mem_cons_self⟩
end K9

namespace K9
open PySem PySem.Spec PyProof.Rows L2 L2H HotX Evl
/-! ### a def that stands in the module and keeps its promise, in both moods -/
def Ok (P : Program) (w : World) (K : PySem.W.Frag) (mg : Str → Option Value) (base : Heap) (k : Nat) (x : Str) (ps : List Str) (sp : Pin → Sp) : Prop :=
  ∃ f fd, FnB P w K mg base k f fd ps sp ∧ mg x = some (.ref f) ∧ PySem.W.keepIn K (.ref f) = true ∧ Binds K fd ps []
theorem Ok.mono {P : Program} {w : World} {K : PySem.W.Frag} {mg : Str → Option Value} {base : Heap} {j k : Nat} {x : Str} {ps : List Str} {sp : Pin → Sp} (o : Ok P w K mg base j x ps sp) (h : j ≤ k) :
    Ok P w K mg base k x ps sp := by
  obtain ⟨f, fd, F, r⟩ := o
  exact ⟨f, fd, F.mono h, r⟩
theorem ok_of {P : Program} {w : World} {K : PySem.W.Frag} {mg : Str → Option Value} {base : Heap} {k : Nat} {x : Str} {params : Arguments} {body : List Stmt} {scope : Scope} {f : Addr} {fd : FuncData} {N ps : List Str} {sp : Pin → Sp}
    (F : FunD K x x params body scope [] [] f fd) (hm : mg x = some (.ref f)) (S : FnScope N ps scope)
    (hb : ∀ (kV doc pm : Value) (an : Option Addr) (cdv ct : Value) (us : List Value), us.length = ps.length → bindArgs (PySem.W.fnOf x x params body scope .none kV doc pm an cdv ct) ⟨us, []⟩ = pure (ps.zip us))
    (len : ∀ p vs H Q E, sp p vs H Q E → vs.length = ps.length)
    (hbody : ∀ (cdv : Value) (A : Around) (outer : List Env) (s : Shared) (H : Hp) (vs : List V) (Q : VK) (E : XK) (p : Pin) (c : Bool),
      Mood (cxB P w K mg base N x scope f cdv A outer s H E c p.toList) → CallC (cxB P w K mg base N x scope f cdv A outer s H E c p.toList) p →
      RoomH k (A.deeper (envOfC x scope s.heap.objs.size f cdv)) → sp p vs H Q E →
      ∃ t, PSs (cxB P w K mg base N x scope f cdv A outer s H E c p.toList) body t ∧ t { nx := fun _ H' => Q .non H', rt := Q } (start N vs) H) :
    Ok P w K mg base (k + 1) x ps sp := by
  have bn := F.bindsN (ps := ps) hb
  obtain ⟨oc, od, dV, kV, doc, pm, an, cdv, ct, osl, rfl, lk, hcd, _, _⟩ := F.ex
  exact ⟨f, _, fnB_of lk hcd S len (fun A outer s H vs Q E p c hc hp hr hsp => hbody cdv A outer s H vs Q E p c hc hp hr hsp), hm, F.kp, bn⟩
/-- the call of such a def -/
theorem pe_callO {X : Cx} {k : Nat} {x : Str} {ps : List Str} {sp : Pin → Sp} {p : Pin} {q pos : Pos} {e : Expr} {es : List Expr} {t : TA} (o : Ok X.prog X.w X.K X.mg X.base k x ps sp) (hr : RoomH k X.A) (hc : CallC X p)
    (hg : Gl X x) (ha : PA X (e :: es) t) (hdb : (x == ("__debug__" : Str)) = false := by decide)
    (he : starEach (e :: es) X.env = (false, eval e X.env) :: starEach es X.env := by rfl) (hpl : (backTo pos (starEach es X.env)).any (·.1) = false := by rfl) :
    PE X (.Call (.Name x q) (e :: es) [] pos) (tCallB (sp p) t) := by
  obtain ⟨f, fd, F, hm, hk, hb⟩ := o
  exact pe_callC F hr hc hg hm hk hb ha hdb he hpl
end K9
namespace K9
open PySem PySem.Spec PyProof.Rows L2 L2H HotX Evl
/-! ### a def that is called where nothing is handled -/
def OkC (P : Program) (w : World) (K : PySem.W.Frag) (mg : Str → Option Value) (base : Heap) (k : Nat) (x : Str) (ps : List Str) (sp : Sp) : Prop :=
  ∃ f fd, FnOk P w K mg base CX0 k f fd ps sp ∧ mg x = some (.ref f) ∧ PySem.W.keepIn K (.ref f) = true ∧ Binds K fd ps []
theorem OkC.mono {P : Program} {w : World} {K : PySem.W.Frag} {mg : Str → Option Value} {base : Heap} {j k : Nat} {x : Str} {ps : List Str} {sp : Sp} (o : OkC P w K mg base j x ps sp) (h : j ≤ k) :
    OkC P w K mg base k x ps sp := by
  obtain ⟨f, fd, F, r⟩ := o
  exact ⟨f, fd, F.mono h, r⟩
theorem Ok.cold {P : Program} {w : World} {K : PySem.W.Frag} {mg : Str → Option Value} {base : Heap} {k : Nat} {x : Str} {ps : List Str} {sp : Pin → Sp} (o : Ok P w K mg base k x ps sp) : OkC P w K mg base k x ps (sp none) := by
  obtain ⟨f, fd, F, r⟩ := o
  exact ⟨f, fd, F.cold, r⟩
theorem okC_of {P : Program} {w : World} {K : PySem.W.Frag} {mg : Str → Option Value} {base : Heap} {k : Nat} {x : Str} {params : Arguments} {body : List Stmt} {scope : Scope} {f : Addr} {fd : FuncData} {N ps : List Str} {sp : Sp}
    (F : FunD K x x params body scope [] [] f fd) (hm : mg x = some (.ref f)) (S : FnScope N ps scope)
    (hb : ∀ (kV doc pm : Value) (an : Option Addr) (cdv ct : Value) (us : List Value), us.length = ps.length → bindArgs (PySem.W.fnOf x x params body scope .none kV doc pm an cdv ct) ⟨us, []⟩ = pure (ps.zip us))
    (len : ∀ vs H Q E, sp vs H Q E → vs.length = ps.length)
    (hbody : ∀ (cdv : Value) (A : Around) (outer : List Env) (s : Shared) (H : Hp) (vs : List V) (Q : VK) (E : XK), Room k (A.deeper (envOfC x scope s.heap.objs.size f cdv)) → sp vs H Q E →
      ∃ t, PSs (cxOf CX0 P w K mg base N x scope f cdv A outer s H E) body t ∧ t { nx := fun _ H' => Q .non H', rt := Q } (start N vs) H) :
    OkC P w K mg base (k + 1) x ps sp := by
  refine ⟨f, fd, F.ok S len fun cdv A outer s H vs Q E hr h => ?_, hm, F.kp, F.bindsN (ps := ps) hb⟩
  exact hbody cdv A outer s H vs Q E hr h
theorem pe_callK0 {X : Cx} {k : Nat} {x : Str} {ps : List Str} {sp : Sp} {q pos : Pos} {e : Expr} {es : List Expr} {t : TA} (o : OkC X.prog X.w X.K X.mg X.base k x ps sp) (hr : Room k X.A)
    (hg : Gl X x) (ha : PA X (e :: es) t) (hdb : (x == ("__debug__" : Str)) = false := by decide)
    (he : starEach (e :: es) X.env = (false, eval e X.env) :: starEach es X.env := by rfl) (hpl : (backTo pos (starEach es X.env)).any (·.1) = false := by rfl) :
    PE X (.Call (.Name x q) (e :: es) [] pos) (tCallB sp t) := by
  obtain ⟨f, fd, F, hm, hk, hb⟩ := o
  have e2 : tCallB sp t = tCall sp [] E0 t := by
    funext σ H Q
    show t σ H (fun vs H1 => sp vs H1 Q E0) = t σ H (fun vs H1 => sp (vs ++ []) H1 Q E0)
    simp only [List.append_nil]
  rw [e2]
  exact pe_call F hr hg hm hk hb .nil pass0 ha hdb he hpl
end K9

namespace K9
open PySem PySem.Spec PyProof.Rows L2 L2H HotX Evl
/-! ### the classes of errors, told by one Bool of the written part -/
def oexB (K : PySem.W.Frag) (C : Addr) : Bool :=
  match K.lookup C with
  | some ⟨.type t, _, .cls ⟨_, _, .ref C' :: bm, _, _, hd, _, _, _, _, hdel⟩, ⟨[_, _, _, _, some (.builtin n), _]⟩⟩ => t == "type" && C' == C && n == "ValueError.__new__" && hd && !hdel && PySem.HandSPX.refsVE bm
  | _ => false
theorem oexB_of {K : PySem.W.Frag} {C : Addr} (h : oexB K C = true) : ∃ nm q N bs bm sn sub ab col dd k0 k1 k2 k3 k5,
    K.lookup C = some (excClassObj nm q C N bs bm true sn sub ab col dd k0 k1 k2 k3 k5 "ValueError.__new__") ∧ PySem.HandSPX.refsVE bm = true := by
  unfold oexB at h
  split at h
  · rename_i t dd nm bs C' bm N q hd sn sub ab col hdel k0 k1 k2 k3 n k5 hl
    simp only [Bool.and_eq_true, beq_iff_eq, Bool.not_eq_true'] at h
    obtain ⟨⟨⟨⟨⟨rfl, rfl⟩, rfl⟩, rfl⟩, rfl⟩, hb⟩ := h
    exact ⟨nm, q, N, bs, bm, sn, sub, ab, col, dd, k0, k1, k2, k3, k5, hl, hb⟩
  · cases h
def errB (K : PySem.W.Frag) (C : Addr) : Bool :=
  oexB K C && decide (PySem.W.findIn K (.ref C) "__setattr__" = some (some (.builtin "object.__setattr__"))) && decide (PySem.W.subIn K (.ref C) (.type "BaseException") = some true) &&
  decide (PySem.W.typeIn K (.ref C) = some (.type "type")) && PySem.W.keepIn K (.ref C) && decide (PySem.W.findIn K (.ref C) "__getattribute__" = some (some (.builtin "BaseException.__getattribute__"))) &&
  decide (PySem.W.findIn K (.ref C) "__getattr__" = some none) && PySem.W.hasDictIn K C && (PySem.W.clsIn K C).isSome && decide (PySem.W.findIn K (.ref C) "__class__" = some (some (.builtin "object.__class__"))) &&
  decide (PySem.W.mroIn K C (.type "object") = some true)
def spcB (K : PySem.W.Frag) : Bool :=
  decide (PySem.W.specialIn K (.builtin "object.__class__") "__get__" = some (some (.builtin "getset_descriptor.__get__"))) && decide (PySem.W.takesIn K (.builtin "object.__class__") = some true)
theorem errC_of {K : PySem.W.Frag} {C : Addr} (h : errB K C = true) (hs : spcB K = true) : ErrC K C := by
  simp only [errB, spcB, Bool.and_eq_true, decide_eq_true_eq] at h hs
  obtain ⟨⟨⟨⟨⟨⟨⟨⟨⟨⟨h0, h1⟩, h2⟩, h3⟩, h4⟩, h5⟩, h6⟩, h7⟩, h8⟩, h9⟩, h10⟩ := h
  exact ⟨⟨oexB_of h0, h1, h2, h3, h4⟩, ⟨h5, h6, h2, h7⟩, h8, h9, hs.1, hs.2, h10⟩
/-- the facts of a module's own errors: cs their names, top the one over all of them, ini those with an own __init__, fs the fields -/
structure Errs (K : PySem.W.Frag) (cs : List Str) (tp : Str) (ini fs : List Str) : Prop where
  err : ∀ x ∈ cs, ErrC K (He.ga K x)
  fld : ∀ x ∈ cs, ∀ f ∈ fs, PySem.W.findIn K (.ref (He.ga K x)) f = some none
  init : ∀ x ∈ ini, PySem.W.findIn K (.ref (He.ga K x)) "__init__" = some (some (.ref (He.fAd K (x, some "__init__"))))
  fn : ∀ x ∈ ini, PySem.W.typeIn K (.ref (He.fAd K (x, some "__init__"))) = some (.type "function")
  kit : ∀ x ∈ cs, ∀ y ∈ cs, PySem.W.kitOne K (.ref (He.ga K x)) (.ref (He.ga K y)) = some (decide (x = y) || decide (y = tp))
  kve : ∀ x ∈ cs, PySem.W.kitOne K (.ref (He.ga K x)) (.type "ValueError") = some true
def errsB (cs : List Str) (tp : Str) (ini fs : List Str) (K : PySem.W.Frag) : Bool :=
  spcB K && cs.all (fun x => errB K (He.ga K x)) && cs.all (fun x => fs.all fun f => decide (PySem.W.findIn K (.ref (He.ga K x)) f = some none)) &&
  ini.all (fun x => decide (PySem.W.findIn K (.ref (He.ga K x)) "__init__" = some (some (.ref (He.fAd K (x, some "__init__")))))) &&
  ini.all (fun x => decide (PySem.W.typeIn K (.ref (He.fAd K (x, some "__init__"))) = some (.type "function"))) &&
  cs.all (fun x => cs.all fun y => decide (PySem.W.kitOne K (.ref (He.ga K x)) (.ref (He.ga K y)) = some (decide (x = y) || decide (y = tp)))) &&
  cs.all (fun x => decide (PySem.W.kitOne K (.ref (He.ga K x)) (.type "ValueError") = some true))
theorem errs_of {cs : List Str} {tp : Str} {ini fs : List Str} {K : PySem.W.Frag} (h : errsB cs tp ini fs K = true) : Errs K cs tp ini fs := by
  simp only [errsB, Bool.and_eq_true, List.all_eq_true, decide_eq_true_eq] at h
  obtain ⟨⟨⟨⟨⟨⟨h0, h1⟩, h2⟩, h3⟩, h4⟩, h5⟩, h6⟩ := h
  exact ⟨fun x hx => errC_of (h1 x hx) h0, h2, h3, h4, h5, h6⟩
/-- isinstance of several of them -/
theorem Errs.any {K : PySem.W.Frag} {cs : List Str} {tp : Str} {ini fs : List Str} (E : Errs K cs tp ini fs) {x : Str} (hx : x ∈ cs) (ys : List Str) (hy : ∀ y ∈ ys, y ∈ cs) (ht : ∀ y ∈ ys, y ≠ tp) :
    PySem.W.kitAny K (.ref (He.ga K x)) (ys.map fun y => .ref (He.ga K y)) = some (decide (x ∈ ys)) := by
  induction ys with
  | nil => rfl
  | cons y r ih =>
    have h1 := E.kit x hx y (hy y List.mem_cons_self)
    have h2 := ih (fun z hz => hy z (List.mem_cons_of_mem _ hz)) (fun z hz => ht z (List.mem_cons_of_mem _ hz))
    have h3 : decide (y = tp) = false := decide_eq_false (ht y List.mem_cons_self)
    rw [h3, Bool.or_false] at h1
    by_cases e : x = y
    · subst e
      rw [decide_eq_true rfl] at h1
      simp [PySem.W.kitAny, h1]
    · rw [decide_eq_false e] at h1
      simp [PySem.W.kitAny, h1, h2, e]
end K9

namespace K9
open PySem PySem.Spec PyProof.Rows L2 L2H HotX Evl
/-! ### __init__ by its fields -/
section
variable {K : PySem.W.Frag} {C : Addr} {vs : List V} {H : Hp} {Q : VK} {E : XK} {f1 f2 f3 f4 n1 n2 n3 n4 : Str}
theorem up2 {H : Hp} {a d : Addr} {o : HO} (hd : H d = none) (ne : d ≠ a) {u : HO} : ∀ b o', b ≠ a → H b = some o' → upd (upd H d u) a o b = some o' := fun b o' nb e => by
  rw [upd_ne nb, upd_ne (ne_of_none e hd)]
  exact e
theorem ini1 (T : OexC K C) (h1 : PySem.W.findIn K (.ref C) f1 = some none) (h : spErr C [f1] vs H Q E) :
    tOst K f1 (tVar 0) (tVar 1) { nx := fun _ H' => Q .non H', rt := Q } (start ["self", n1] vs) H := by
  obtain ⟨a, us, rfl, hl, ha, q⟩ := h
  match us, hl with
  | [u], _ =>
    refine ⟨_, rfl, _, rfl, a, C, rfl, T, h1, .inl ⟨ha, fun d hd ne => ?_⟩⟩
    refine q d _ hd (up2 hd ne) upd_same ?_
    rw [upd_ne ne, upd_same]
    rfl
theorem ini2 (T : OexC K C) (h1 : PySem.W.findIn K (.ref C) f1 = some none) (h2 : PySem.W.findIn K (.ref C) f2 = some none) (h : spErr C [f1, f2] vs H Q E) :
    tSeq (tOst K f1 (tVar 0) (tVar 1)) (tOst K f2 (tVar 0) (tVar 2)) { nx := fun _ H' => Q .non H', rt := Q } (start ["self", n1, n2] vs) H := by
  obtain ⟨a, us, rfl, hl, ha, q⟩ := h
  match us, hl with
  | [u1, u2], _ =>
    refine ⟨_, rfl, _, rfl, a, C, rfl, T, h1, .inl ⟨ha, fun d hd ne => ?_⟩⟩
    refine ⟨_, rfl, _, rfl, a, C, rfl, T, h2, .inr ⟨d, _, upd_same, by rw [upd_ne ne, upd_same], (by show (1 : Nat) ≤ 900; decide), ?_⟩⟩
    refine q d _ hd (fun b o nb e => ?_) ?_ ?_
    · rw [upd_ne (ne_of_none e hd)]
      exact up2 hd ne b o nb e
    · rw [upd_ne (Ne.symm ne), upd_same]
    · rw [upd_same]
      rfl
theorem ini3 (T : OexC K C) (h1 : PySem.W.findIn K (.ref C) f1 = some none) (h2 : PySem.W.findIn K (.ref C) f2 = some none) (h3 : PySem.W.findIn K (.ref C) f3 = some none) (h : spErr C [f1, f2, f3] vs H Q E) :
    tSeq (tOst K f1 (tVar 0) (tVar 1)) (tSeq (tOst K f2 (tVar 0) (tVar 2)) (tOst K f3 (tVar 0) (tVar 3))) { nx := fun _ H' => Q .non H', rt := Q } (start ["self", n1, n2, n3] vs) H := by
  obtain ⟨a, us, rfl, hl, ha, q⟩ := h
  match us, hl with
  | [u1, u2, u3], _ =>
    refine ⟨_, rfl, _, rfl, a, C, rfl, T, h1, .inl ⟨ha, fun d hd ne => ?_⟩⟩
    refine ⟨_, rfl, _, rfl, a, C, rfl, T, h2, .inr ⟨d, _, upd_same, by rw [upd_ne ne, upd_same], (by show (1 : Nat) ≤ 900; decide), ?_⟩⟩
    refine ⟨_, rfl, _, rfl, a, C, rfl, T, h3, .inr ⟨d, _, by rw [upd_ne (Ne.symm ne), upd_same], upd_same, (by show (2 : Nat) ≤ 900; decide), ?_⟩⟩
    refine q d _ hd (fun b o nb e => ?_) ?_ ?_
    · rw [upd_ne (ne_of_none e hd), upd_ne (ne_of_none e hd)]
      exact up2 hd ne b o nb e
    · rw [upd_ne (Ne.symm ne), upd_ne (Ne.symm ne), upd_same]
    · rw [upd_same]
      rfl
theorem ini4 (T : OexC K C) (h1 : PySem.W.findIn K (.ref C) f1 = some none) (h2 : PySem.W.findIn K (.ref C) f2 = some none) (h3 : PySem.W.findIn K (.ref C) f3 = some none) (h4 : PySem.W.findIn K (.ref C) f4 = some none) (h : spErr C [f1, f2, f3, f4] vs H Q E) :
    tSeq (tOst K f1 (tVar 0) (tVar 1)) (tSeq (tOst K f2 (tVar 0) (tVar 2)) (tSeq (tOst K f3 (tVar 0) (tVar 3)) (tOst K f4 (tVar 0) (tVar 4)))) { nx := fun _ H' => Q .non H', rt := Q } (start ["self", n1, n2, n3, n4] vs) H := by
  obtain ⟨a, us, rfl, hl, ha, q⟩ := h
  match us, hl with
  | [u1, u2, u3, u4], _ =>
    refine ⟨_, rfl, _, rfl, a, C, rfl, T, h1, .inl ⟨ha, fun d hd ne => ?_⟩⟩
    refine ⟨_, rfl, _, rfl, a, C, rfl, T, h2, .inr ⟨d, _, upd_same, by rw [upd_ne ne, upd_same], (by show (1 : Nat) ≤ 900; decide), ?_⟩⟩
    refine ⟨_, rfl, _, rfl, a, C, rfl, T, h3, .inr ⟨d, _, by rw [upd_ne (Ne.symm ne), upd_same], upd_same, (by show (2 : Nat) ≤ 900; decide), ?_⟩⟩
    refine ⟨_, rfl, _, rfl, a, C, rfl, T, h4, .inr ⟨d, _, by rw [upd_ne (Ne.symm ne), upd_ne (Ne.symm ne), upd_same], upd_same, (by show (3 : Nat) ≤ 900; decide), ?_⟩⟩
    refine q d _ hd (fun b o nb e => ?_) ?_ ?_
    · rw [upd_ne (ne_of_none e hd), upd_ne (ne_of_none e hd), upd_ne (ne_of_none e hd)]
      exact up2 hd ne b o nb e
    · rw [upd_ne (Ne.symm ne), upd_ne (Ne.symm ne), upd_ne (Ne.symm ne), upd_same]
    · rw [upd_same]
      rfl
end
theorem spErr_len {C : Addr} {ns : List Str} (vs : List V) (H : Hp) (Q : VK) (E : XK) (h : spErr C ns vs H Q E) : vs.length = ns.length + 1 := by
  obtain ⟨a, us, rfl, hl, _⟩ := h
  simp [hl]
end K9

namespace K9
open PySem PySem.Spec PyProof.Rows L2 L2H HotX Evl
/-! ### arguments by position and by name, in any order -/
def gP (ix : List Nat) (us ws : List Value) : List Value := us ++ ix.map fun i => ws.getD i .none
def gPV (ix : List Nat) (vs zs : List V) : List V := vs ++ ix.map fun i => zs.getD i .non
theorem vals_getD {zs : List V} {ws : List Value} (r : Vals zs ws) (i : Nat) : RelV (zs.getD i .non) (ws.getD i .none) := by
  induction r generalizing i with
  | nil => rfl
  | cons h r ih =>
    cases i with
    | zero => exact h
    | succ i => exact ih i
theorem gP_rel {ix : List Nat} {vs zs : List V} {us ws : List Value} (r : Vals vs us) (rz : Vals zs ws) : Vals (gPV ix vs zs) (gP ix us ws) := by
  refine Vals.append r ?_
  induction ix with
  | nil => exact .nil
  | cons i ix ih => exact .cons (vals_getD rz i) ih
theorem kbn_of {K : PySem.W.Frag} {x qual : Str} {params : Arguments} {body : List Stmt} {scope : Scope} {kws : List (Str × V)} {f : Addr} {fd : FuncData} {ps ks : List Str} {n : Nat} {ix : List Nat}
    (F : FunD K x qual params body scope [] kws f fd)
    (hb : ∀ (kV doc pm : Value) (an : Option Addr) (cdv ct : Value) (us ws : List Value), us.length = n → ws.length = ks.length →
      bindArgs (PySem.W.fnOf x qual params body scope .none kV doc pm an cdv ct) ⟨us, ks.zip ws⟩ = pure (ps.zip (gP ix us ws))) : KBn K fd ps n ks (gP ix) (gPV ix) := by
  refine ⟨fun s us ws hk hu hw => ?_, gP_rel⟩
  obtain ⟨oc, od, dV, kV, doc, pm, an, cdv, ct, osl, rfl, lk, hc, hd, hkw⟩ := F.ex
  rcases hd with ⟨_, rfl⟩ | ⟨z, _⟩
  · intro M A E Q q
    rw [hb kV doc pm an cdv ct us ws hu hw]
    exact wpAny_pure q
  · exact absurd rfl z
/-! ### a module's own class of errors with its __init__ -/
structure Ini (P : Program) (w : World) (K : PySem.W.Frag) (mg : Str → Option Value) (base : Heap) (x : Str) (ns : List Str) (ways : List (Nat × List Str × List Nat)) : Prop where
  err : ErrC K (He.ga K x)
  ic : PySem.W.findIn K (.ref (He.ga K x)) "__init__" = some (some (.ref (He.fAd K (x, some "__init__"))))
  ti : PySem.W.typeIn K (.ref (He.fAd K (x, some "__init__"))) = some (.type "function")
  gl : mg x = some (.ref (He.ga K x))
  ok : ∃ fd, FnOk P w K mg base CX0 1 (He.fAd K (x, some "__init__")) fd ("self" :: ns) (spErr (He.ga K x) ns) ∧ ∀ q ∈ ways, KBn K fd ("self" :: ns) q.1 q.2.1 (gP q.2.2) (gPV q.2.2)
section
variable {X : Cx} {n : Nat} {ns ks : List Str} {ix : List Nat} {ways : List (Nat × List Str × List Nat)} {x : Str} {p pos : Pos} {e : Expr} {es : List Expr} {kws : List Keyword} {t tk : TA}
theorem pe_iniK (i : Ini X.prog X.w X.K X.mg X.base x ns ways) (hq : (n + 1, ks, ix) ∈ ways) (hr : RoomH 2 X.A) (hc : X.calm = true) (hg : Gl X x) (ha : PA X (e :: es) t) (hkw : PK X kws tk) (hn : n ≤ 1000 := by decide)
    (hall : (backToKw pos (keywordEach kws X.env)).all (·.1.isSome) = true := by rfl) (hks : (backToKw pos (keywordEach kws X.env)).filterMap (·.1) = ks := by rfl)
    (hdb : (x == ("__debug__" : Str)) = false := by decide) (he : starEach (e :: es) X.env = (false, eval e X.env) :: starEach es X.env := by rfl)
    (hpl : ((backTo pos (starEach (e :: es) X.env)).any (·.1) || (backToKw pos (keywordEach kws X.env)).any (·.1.isNone)) = false := by rfl) :
    PE X (.Call (.Name x p) (e :: es) kws pos) (tNewE (He.ga X.K x) n ks.length ns (gPV ix) t tk) := by
  obtain ⟨fd, F, hb⟩ := i.ok
  exact pe_newEK hn i.err.ox i.ic i.ti F hr hc hg i.gl (hb _ hq) ha hkw hall hks hdb he hpl
theorem pe_ini0 (i : Ini X.prog X.w X.K X.mg X.base x ns ways) (hq : (1, ks, ix) ∈ ways) (hr : RoomH 2 X.A) (hc : X.calm = true) (hg : Gl X x) (hkw : PK X kws tk)
    (hall : (backToKw pos (keywordEach kws X.env)).all (·.1.isSome) = true := by rfl) (hks : (backToKw pos (keywordEach kws X.env)).filterMap (·.1) = ks := by rfl)
    (hdb : (x == ("__debug__" : Str)) = false := by decide)
    (hpl : ((backTo pos (starEach [] X.env)).any (·.1) || (backToKw pos (keywordEach kws X.env)).any (·.1.isNone)) = false := by rfl) :
    PE X (.Call (.Name x p) [] kws pos) (tNewE (He.ga X.K x) 0 ks.length ns (gPV ix) tNil tk) := by
  obtain ⟨fd, F, hb⟩ := i.ok
  exact pe_newE0 i.err.ox i.ic i.ti F hr hc hg i.gl (hb _ hq) hkw hall hks hdb hpl
theorem pmk_iniK (i : Ini X.prog X.w X.K X.mg X.base x ns ways) (hq : (n + 1, ks, ix) ∈ ways) (hr : RoomH 2 X.A) (hc : X.calm = true) (hg : Gl X x) (ha : PA X (e :: es) t) (hkw : PK X kws tk) (hn : n ≤ 1000 := by decide)
    (hall : (backToKw pos (keywordEach kws X.env)).all (·.1.isSome) = true := by rfl) (hks : (backToKw pos (keywordEach kws X.env)).filterMap (·.1) = ks := by rfl)
    (hdb : (x == ("__debug__" : Str)) = false := by decide) (he : starEach (e :: es) X.env = (false, eval e X.env) :: starEach es X.env := by rfl)
    (hpl : ((backTo pos (starEach (e :: es) X.env)).any (·.1) || (backToKw pos (keywordEach kws X.env)).any (·.1.isNone)) = false := by rfl) :
    L2N.PMk X (.Call (.Name x p) (e :: es) kws pos) (tMkE (He.ga X.K x) n ks.length ns (gPV ix) t tk) := by
  obtain ⟨fd, F, hb⟩ := i.ok
  exact pmk_EK hn i.err.ox i.ic i.ti F hr hc hg i.gl (hb _ hq) ha hkw hall hks hdb he hpl
theorem pmk_ini0 (i : Ini X.prog X.w X.K X.mg X.base x ns ways) (hq : (1, ks, ix) ∈ ways) (hr : RoomH 2 X.A) (hc : X.calm = true) (hg : Gl X x) (hkw : PK X kws tk)
    (hall : (backToKw pos (keywordEach kws X.env)).all (·.1.isSome) = true := by rfl) (hks : (backToKw pos (keywordEach kws X.env)).filterMap (·.1) = ks := by rfl)
    (hdb : (x == ("__debug__" : Str)) = false := by decide)
    (hpl : ((backTo pos (starEach [] X.env)).any (·.1) || (backToKw pos (keywordEach kws X.env)).any (·.1.isNone)) = false := by rfl) :
    L2N.PMk X (.Call (.Name x p) [] kws pos) (tMkE (He.ga X.K x) 0 ks.length ns (gPV ix) tNil tk) := by
  obtain ⟨fd, F, hb⟩ := i.ok
  exact pmk_E0 i.err.ox i.ic i.ti F hr hc hg i.gl (hb _ hq) hkw hall hks hdb hpl
end
/-! ### several errors made into a list -/
def ErrsAt (K : PySem.W.Frag) (l : List (Addr × Obj)) (H : Hp) : List V → List (Str × List (Str × V)) → Prop := Paired fun r q => ∃ a, r = .ref a ∧ Err l H a (He.ga K q.1) (some q.2)
theorem ErrsAt.ext {K : PySem.W.Frag} {l : List (Addr × Obj)} {H H' : Hp} {rs : List V} {qs : List (Str × List (Str × V))} (e : Ex H H') (h : ErrsAt K l H rs qs) : ErrsAt K l H' rs qs :=
  by
  induction h with
  | nil => exact .nil
  | cons r _ ih =>
    obtain ⟨a, e1, e2⟩ := r
    exact .cons ⟨a, e1, e2.ext e⟩ ih
theorem ErrsAt.app {K : PySem.W.Frag} {l : List (Addr × Obj)} {H : Hp} {rs rs' : List V} {qs qs' : List (Str × List (Str × V))} (h : ErrsAt K l H rs qs) (h' : ErrsAt K l H rs' qs') : ErrsAt K l H (rs ++ rs') (qs ++ qs') := by
  induction h with
  | nil => exact h'
  | cons a _ ih => exact .cons a ih
/-- te makes the error q, whatever lies there; t makes these -/
def Mk1 (K : PySem.W.Frag) (l : List (Addr × Obj)) (σ : St) (te : TE) (q : Str × List (Str × V)) : Prop := ∀ (H : Hp) (Q : VK), (∀ (a : Addr) (H' : Hp), Ex H H' → Err l H' a (He.ga K q.1) (some q.2) → Q (.ref a) H') → te σ H Q
def MkL (K : PySem.W.Frag) (l : List (Addr × Obj)) (σ : St) (t : TA) (qs : List (Str × List (Str × V))) : Prop := ∀ (H : Hp) (Q : List V → Hp → Prop), (∀ (rs : List V) (H' : Hp), Ex H H' → ErrsAt K l H' rs qs → Q rs H') → t σ H Q
theorem mk_nil {K : PySem.W.Frag} {l : List (Addr × Obj)} {σ : St} : MkL K l σ tNil [] := fun H Q q => q [] H (Ex.refl H) .nil
theorem mk_cons {K : PySem.W.Frag} {l : List (Addr × Obj)} {σ : St} {te : TE} {t : TA} {q : Str × List (Str × V)} {qs : List (Str × List (Str × V))} (h : Mk1 K l σ te q) (hs : MkL K l σ t qs) : MkL K l σ (tCons te t) (q :: qs) := fun H Q k =>
  h H _ fun a H1 e1 r1 => hs H1 _ fun rs H2 e2 r2 => k _ H2 (e1.trans e2) (.cons ⟨a, rfl, r1.ext e2⟩ r2)
/-- arguments that are values told by the slots -/
def Vs (σ : St) (t : TA) (vs : List V) : Prop := ∀ (H : Hp) (Q : List V → Hp → Prop), Q vs H → t σ H Q
theorem vs_nil {σ : St} : Vs σ tNil [] := fun H Q q => q
theorem vs_var {σ : St} {i : Nat} {v : V} {t : TA} {vs : List V} (h : σ[i]? = some (some v)) (ht : Vs σ t vs) : Vs σ (tCons (tVar i) t) (v :: vs) := fun H Q q => ⟨v, h, ht H _ q⟩
theorem mk_new {K : PySem.W.Frag} {l : List (Addr × Obj)} {σ : St} {x : Str} {n m : Nat} {ns : List Str} {ix : List Nat} {t tk : TA} {vs zs us : List V} (h : Vs σ t vs) (hk : Vs σ tk zs) (hn : vs.length = n) (hm : zs.length = m) (hu : gPV ix vs zs = us) (hl : us.length = ns.length) :
    Mk1 K l σ (tNewE (He.ga K x) n m ns (gPV ix) t tk) (x, (ns.zip us).reverse) := fun H Q q =>
  h H _ (hk H _ ⟨hn, hm, us, fun y => by rw [← hu]; rfl, hl, fun a d H3 ha hd e e1 e2 => q a H3 e ⟨d, .inl e1, .inl e2⟩⟩)
end K9

namespace K9
open PySem PySem.Spec PyProof.Rows L2 L2H HotX Evl
/-! ### what a walk tells: n items, the heap stays -/
/-- all but D stands -/
def ExB (D : Addr) (H H' : Hp) : Prop := ∀ a o, a ≠ D → H a = some o → H' a = some o
theorem ExB.refl {D : Addr} {H : Hp} : ExB D H H := fun _ _ _ e => e
theorem ExB.trans {D : Addr} {H H1 H2 : Hp} (e : ExB D H H1) (e' : ExB D H1 H2) : ExB D H H2 := fun a o n h => e' a o n (e a o n h)
theorem Ex.but {D : Addr} {H H' : Hp} (e : Ex H H') : ExB D H H' := fun a o _ h => e a o h
theorem ExB.set {D : Addr} {H : Hp} {o : HO} : ExB D H (upd H D o) := fun a o' n h => by
  rw [upd_ne n]
  exact h
theorem ExB.new {D : Addr} {H H' : Hp} (e : ExB D H H') (h : H D = none) : Ex H H' := fun a o h1 => e a o (ne_of_none h1 h) h1
structure Walks (J : It) (n : Nat) (item : Nat → V) (H : Hp) : Prop where
  go : ∀ (i : Nat) (H1 : Hp), Ex H H1 → i < n → J.go i H1
  yld : ∀ (i : Nat) (H1 : Hp) (x : V) (H' : Hp), Ex H H1 → i < n → J.yld i H1 x H' → H' = H1 ∧ x = item i
  stop : ∀ (H1 : Hp), Ex H H1 → J.stop n H1
theorem walks_rng {lo : Int} {n : Nat} {H : Hp} : Walks (Itr lo n) n (fun i => .int (lo + (i : Int))) H :=
  ⟨fun _ _ _ h => h, fun _ _ _ _ _ _ h => h, fun _ _ => Nat.le_refl _⟩
theorem walks_rng0 {n : Nat} {H : Hp} : Walks (Itr 0 n) n (fun i => .int (i : Int)) H :=
  ⟨fun _ _ _ h => h, fun i _ _ _ _ _ h => ⟨h.1, by rw [h.2, Int.zero_add]⟩, fun _ _ => Nat.le_refl _⟩
theorem SqL.ext {K : PySem.W.Frag} {H H' : Hp} {a : Addr} {xs : List V} (e : Ex H H') (h : SqL K H a xs) : SqL K H' a xs := by
  rcases h with h | h
  · rcases h with h | ⟨o, h⟩
    · exact .inl (.inl (e _ _ h))
    · exact .inl (.inr ⟨o, e _ _ h⟩)
  · exact .inr h
theorem walks_list {K : PySem.W.Frag} {a : Addr} {xs : List V} {H : Hp} (h : SqL K H a xs) : Walks (Itl K a) xs.length (fun i => xs.getD i .non) H := by
  refine ⟨fun i H1 e hi => ⟨xs, xs[i], SqL.ext e h, List.getElem?_eq_getElem hi⟩, fun i H1 x H' e hi hy => ?_, fun H1 e => ⟨xs, SqL.ext e h, Nat.le_refl _⟩⟩
  refine ⟨hy.1, ?_⟩
  have z := hy.2 xs (SqL.ext e h)
  show x = xs.getD i .non
  rw [List.getD_eq_getElem?_getD, z]
  rfl
/-! ### a list comprehension, by an invariant of what is made so far -/
theorem lc_by {wi : TI} {i : Nat} {tt : TT} {te : TE} {σ : St} {H : Hp} {Q : VK} {J : It} {n : Nat} {item : Nat → V} (P : Addr → Nat → List V → Hp → Prop)
    (hn : n ≤ sizeLine) (hi : i < σ.length) (hw : ∀ R : It → Hp → Prop, R J H → wi σ H R) (wk : Walks J n item H)
    (mono : ∀ D j acc H1 H2, ExB D H1 H2 → P D j acc H1 → P D j acc H2) (h0 : ∀ D, H D = none → P D 0 [] H)
    (step : ∀ D j acc H1 (C : V → Hp → Prop) (Cf : Hp → Prop), j < n → H D = none → Ex H H1 → H1 D = some (.lst acc) → P D j acc H1 → (∀ H3, Ex H1 H3 → P D (j + 1) acc H3 → Cf H3) → (∀ y H4, Ex H1 H4 → P D (j + 1) (acc ++ [y]) H4 → C y H4) →
      tt ((wipe σ [i]).set i (some (item j))) H1 fun b H3 => if b = true then te ((wipe σ [i]).set i (some (item j))) H3 C else Cf H3)
    (fin : ∀ D acc H1, H D = none → Ex H H1 → H1 D = some (.lst acc) → P D n acc H1 → Q (.ref D) H1) : tLc wi (gName i) tt te [i] σ H Q := by
  refine hw _ fun D hD => ?_
  refine ⟨fun j m H1 => m = n - j ∧ j ≤ n ∧ Ex H H1 ∧ ∃ acc, H1 D = some (.lst acc) ∧ acc.length ≤ j ∧ P D j acc H1, ⟨n - 0, rfl, Nat.zero_le _, Ex.new hD, [], upd_same, Nat.le_refl _, mono _ _ _ _ _ ExB.set (h0 D hD)⟩, ?_⟩
  rintro j m H1 ⟨rfl, hj, e, acc, ha, hl, hp⟩
  by_cases hjn : j = n
  · subst hjn
    exact .inl ⟨wk.stop H1 e, fin D acc H1 hD e ha hp⟩
  · have hj2 : j < n := by omega
    refine .inr ⟨wk.go j H1 e hj2, fun H' => n - (j + 1) < n - j ∧ j + 1 ≤ n ∧ Ex H H' ∧ ∃ acc, H' D = some (.lst acc) ∧ acc.length ≤ j + 1 ∧ P D (j + 1) acc H', ?_, ?_⟩
    · rintro H' ⟨h1, h2, h3⟩
      exact ⟨n - (j + 1), h1, rfl, h2, h3⟩
    · intro x H' hy
      obtain ⟨rfl, rfl⟩ := wk.yld j H1 x H' e hj2 hy
      refine ⟨?_, ?_⟩
      · simp [wipe]
      · refine step D j acc H' _ _ hj2 hD e ha hp (fun H3 e3 p3 => ?_) (fun y H4 e4 p4 => ?_)
        · exact ⟨by omega, by omega, e.trans e3, acc, e3 _ _ ha, by omega, p3⟩
        · have hd := e4 _ _ ha
          refine ⟨acc, hd, by omega, by omega, by omega, ?_, acc ++ [y], upd_same, by simp; omega, mono _ _ _ _ _ ExB.set p4⟩
          exact ExB.new (fun a o na h => (by rw [upd_ne na]; exact (e.trans e4) a o h)) hD
/-- nothing is kept: the list is empty -/
theorem lc_none {wi : TI} {i : Nat} {tt : TT} {te : TE} {σ : St} {H : Hp} {Q : VK} {J : It} {n : Nat} {item : Nat → V} (hn : n ≤ sizeLine) (hi : i < σ.length) (hw : ∀ R : It → Hp → Prop, R J H → wi σ H R) (wk : Walks J n item H)
    (step : ∀ j H1 (R : Bool → Hp → Prop), j < n → Ex H H1 → (∀ H3, Ex H1 H3 → R false H3) → tt ((wipe σ [i]).set i (some (item j))) H1 R)
    (fin : ∀ D H1, H D = none → Ex H H1 → H1 D = some (.lst []) → Q (.ref D) H1) : tLc wi (gName i) tt te [i] σ H Q := by
  refine lc_by (fun _ _ acc _ => acc = []) hn hi hw wk (fun _ _ _ _ _ _ h => h) (fun _ _ => rfl) (fun D j acc H1 C Cf hj hD e ha hp kf kt => ?_) (fun D acc H1 hD e ha hp => ?_)
  · refine step j H1 _ hj e fun H3 e3 => ?_
    rw [if_neg (by decide)]
    exact kf H3 e3 hp
  · subst hp
    exact fin D H1 hD e ha
/-- what is kept is told ahead: the heap stays in the test -/
theorem lc_keep {wi : TI} {i : Nat} {tt : TT} {te : TE} {σ : St} {H : Hp} {Q : VK} {J : It} {n : Nat} {item : Nat → V} (keep : Nat → Bool) (val : Nat → V) (hn : n ≤ sizeLine) (hi : i < σ.length) (hw : ∀ R : It → Hp → Prop, R J H → wi σ H R) (wk : Walks J n item H)
    (test : ∀ j H1 (R : Bool → Hp → Prop), j < n → Ex H H1 → R (keep j) H1 → tt ((wipe σ [i]).set i (some (item j))) H1 R)
    (elem : ∀ j H1 (R : V → Hp → Prop), j < n → Ex H H1 → R (val j) H1 → te ((wipe σ [i]).set i (some (item j))) H1 R)
    (fin : ∀ D H1, H D = none → Ex H H1 → H1 D = some (.lst (((List.range n).filter keep).map val)) → Q (.ref D) H1) : tLc wi (gName i) tt te [i] σ H Q := by
  refine lc_by (fun _ j acc _ => acc = ((List.range j).filter keep).map val) hn hi hw wk (fun _ _ _ _ _ _ h => h) (fun _ _ => rfl) (fun D j acc H1 C Cf hj hD e ha hp kf kt => ?_) (fun D acc H1 hD e ha hp => ?_)
  · refine test j H1 _ hj e ?_
    cases hk : keep j with
    | true =>
      rw [if_pos rfl]
      refine elem j H1 _ hj e (kt _ _ (Ex.refl _) ?_)
      rw [hp, List.range_succ, List.filter_append, List.map_append]
      simp [hk]
    | false =>
      rw [if_neg (by decide)]
      refine kf _ (Ex.refl _) ?_
      rw [hp, List.range_succ, List.filter_append]
      simp [hk]
  · subst hp
    exact fin D H1 hD e ha
/-! ### found = found + [..] -/
theorem grow_step {σ : St} {H : Hp} {j : Nat} {q : Addr} {bs : List V} {t : TA} {R : VK} {n : Nat} {Pc : List V → Hp → Prop} (hv : σ[j]? = some (some (.ref q))) (hq : H q = some (.lst bs)) (ht : ∀ Q : List V → Hp → Prop, (∀ cs H', Ex H H' → Pc cs H' → Q cs H') → t σ H Q)
    (len : ∀ cs H', Pc cs H' → cs.length = n) (hs : bs.length + n ≤ sizeLine)
    (k : ∀ (p : Addr) (cs : List V) (H1 H' : Hp), Ex H H1 → Pc cs H1 → Ex H1 H' → H' p = some (.lst (bs ++ cs)) → R (.ref p) H') : tOp rCat (tVar j) (tLst t) σ H R := by
  refine ⟨_, hv, ht _ fun cs H1 e pc => ?_⟩
  have hl := len _ _ pc
  refine ⟨by omega, fun p hp => ⟨q, p, bs, cs, rfl, rfl, ?_, upd_same, by omega, fun r hr => ?_⟩⟩
  · exact (e.trans (Ex.new hp)) _ _ hq
  · exact k r cs H1 _ e pc ((Ex.new hp).trans (Ex.new hr)) upd_same
/-! ### isinstance of an error, again and again -/
def BlL (K : PySem.W.Frag) (l : List (Addr × Obj)) (σ : St) (a C : Addr) (o : Option (List (Str × V))) (t : TA) (bs : List V) : Prop := ∀ (H : Hp) (Q : List V → Hp → Prop), Err l H a C o → Q bs H → t σ H Q
theorem bl_nil {K : PySem.W.Frag} {l : List (Addr × Obj)} {σ : St} {a C : Addr} {o : Option (List (Str × V))} : BlL K l σ a C o tNil [] := fun H Q _ q => q
theorem bl_cons {K : PySem.W.Frag} {l : List (Addr × Obj)} {σ : St} {a : Addr} {o : Option (List (Str × V))} {cs ini fs : List Str} {tp x y : Str} {i : Nat} {t : TA} {bs : List V} (E : Errs K cs tp ini fs) (hv : σ[i]? = some (some (.ref a))) (hx : x ∈ cs) (hy : y ∈ cs) (ht : y ≠ tp)
    (h : BlL K l σ a (He.ga K x) o t bs) : BlL K l σ a (He.ga K x) o (tCons (tCB (rIsE1 K l) (tCons (tVar i) (tCons (tC (.ref (He.ga K y))) tNil))) t) (.bl (decide (x = y)) :: bs) := fun H Q he q => by
  refine ⟨_, hv, a, _, o, _, _, _, rfl, he, E.err x hx, .own _, E.kit x hx y hy, ?_⟩
  rw [decide_eq_false ht, Bool.or_false]
  exact h H _ he q
theorem seq_asg {te : TE} {j : Nat} {r : TS} {D} {σ : St} {H : Hp} (h : te σ H fun v H1 => r D (σ.set j (some v)) H1) : tSeq (tAsg te (gName j)) r D σ H := h
theorem op_l {r : R2} {ta tb : TE} {σ : St} {H : Hp} {Q : VK} (h : ta σ H fun x H1 => tb σ H1 fun y H2 => r x y H2 Q) : tOp r ta tb σ H Q := h
theorem ret_l {te : TE} {D} {σ : St} {H : Hp} (h : te σ H fun v H1 => D.rt v H1) : tRet te D σ H := h
theorem nx_l {nx bk ct : St → Hp → Prop} {rt : VK} {σ : St} {H : Hp} (h : nx σ H) : tNext { nx := nx, rt := rt, bk := bk, ct := ct } σ H := h
theorem BlL.use {K : PySem.W.Frag} {l : List (Addr × Obj)} {σ : St} {a C : Addr} {o : Option (List (Str × V))} {t : TA} {H : Hp} {Q : List V → Hp → Prop} (bs : List V) (h : BlL K l σ a C o t bs) (he : Err l H a C o) (q : Q bs H) : t σ H Q := h H Q he q
theorem BlL.tlst {K : PySem.W.Frag} {l : List (Addr × Obj)} {σ : St} {a C : Addr} {o : Option (List (Str × V))} {t : TA} {H : Hp} {Q : VK} (bs : List V) (h : BlL K l σ a C o t bs) (he : Err l H a C o) (q : bs.length ≤ sizeLine ∧ ∀ p, H p = none → Q (.ref p) (upd H p (.lst bs))) : tLst t σ H Q := h H _ he q
theorem BlL.lst {K : PySem.W.Frag} {l : List (Addr × Obj)} {σ : St} {a C : Addr} {o : Option (List (Str × V))} {t : TA} {bs : List V} (h : BlL K l σ a C o t bs) {H : Hp} (he : Err l H a C o) : ∀ Q : List V → Hp → Prop, (∀ cs H', Ex H H' → cs = bs → Q cs H') → t σ H Q :=
  fun Q q => h H Q he (q bs H (Ex.refl H) rfl)
end K9

namespace K9
open PySem PySem.Spec PyProof.Rows L2 L2H HotX Evl
theorem op_isB {X : Cx} {b : Bool} : OpR X (compareOp .Is) (fun x y H Q => y = .bl b ∧ (x = .non ∨ ∃ c, x = .bl c) ∧ Q (.bl (decide (x = .bl b))) H) := by
  rintro pins s σ H x y v u Q I rx ry ⟨rfl, hx, q⟩
  obtain rfl : u = Value.bool b := ry
  rcases hx with rfl | ⟨c, rfl⟩
  · obtain rfl : v = Value.none := rx
    refine wpAny_is_plain (by cases b <;> rfl) (Q := EP X pins σ Q) ⟨_, H, I, ?_, q⟩
    cases b <;> rfl
  · obtain rfl : v = Value.bool c := rx
    refine wpAny_is_plain (by cases b <;> cases c <;> rfl) (Q := EP X pins σ Q) ⟨.bl (decide (V.bl c = .bl b)), H, I, ?_, q⟩
    cases c <;> cases b <;> rfl
/-- len of a list, a tuple, a dict -/
def rLenA (K : PySem.W.Frag) : List V → Hp → VK → Prop := fun xs H Q => (∃ p ys, xs = [.ref p] ∧ (SqL K H p ys ∨ SqT K H p ys) ∧ Q (.int ((ys.length : Nat) : Int)) H) ∨ ∃ a kvs, xs = [V.ref a] ∧ H a = some (.dK kvs) ∧ Q (.int ((kvs.length : Nat) : Int)) H
theorem call_lenA {X : Cx} : CallR X (.builtin "len") (rLenA X.K) := by
  intro pins s σ H xs us Q I r h
  rcases h with h | h
  · exact call_len_seq pins s σ H xs us Q I r h
  · exact call_lenD pins s σ H xs us Q I r h
/-! ### two values of one shape: lists, tuples, dicts of equal ones, with their weight -/
mutual
inductive Lk (H : Hp) : V → V → Nat → Prop
  | non : Lk H .non .non 1
  | bl (b : Bool) : Lk H (.bl b) (.bl b) 1
  | int (i : Int) : Lk H (.int i) (.int i) 1
  | str (z : Str) : Lk H (.str z) (.str z) 1
  | lst {a b : Addr} {vs us : List V} {n : Nat} : H a = some (.lst vs) → H b = some (.lst us) → LkL H vs us n → Lk H (.ref a) (.ref b) (n + 1)
  | tup {a b : Addr} {vs us : List V} {n : Nat} : H a = some (.tup vs) → H b = some (.tup us) → LkL H vs us n → Lk H (.ref a) (.ref b) (n + 1)
  | dic {a b : Addr} {ks ls : List (Key × V)} {n : Nat} : H a = some (.dK ks) → H b = some (.dK ls) → ks.map (·.1) = ls.map (·.1) → (ls.map (·.1)).Nodup → LkL H (ks.map (·.2)) (ls.map (·.2)) n → Lk H (.ref a) (.ref b) (n + 1)
inductive LkL (H : Hp) : List V → List V → Nat → Prop
  | nil : LkL H [] [] 0
  | cons {v u : V} {vs us : List V} {n m : Nat} : Lk H v u n → LkL H vs us m → LkL H (v :: vs) (u :: us) (n + m)
end
theorem Lk.pos {H : Hp} {v u : V} {n : Nat} (h : Lk H v u n) : 1 ≤ n := by
  cases h <;> omega
mutual
theorem Lk.ext {H H' : Hp} (e : Ex H H') {v u : V} {n : Nat} (h : Lk H v u n) : Lk H' v u n :=
  match h with
  | .non => .non
  | .bl b => .bl b
  | .int i => .int i
  | .str z => .str z
  | .lst h1 h2 h3 => .lst (e _ _ h1) (e _ _ h2) (h3.ext e)
  | .tup h1 h2 h3 => .tup (e _ _ h1) (e _ _ h2) (h3.ext e)
  | .dic h1 h2 h4 h5 h3 => .dic (e _ _ h1) (e _ _ h2) h4 h5 (h3.ext e)
theorem LkL.ext {H H' : Hp} (e : Ex H H') {vs us : List V} {n : Nat} (h : LkL H vs us n) : LkL H' vs us n :=
  match h with
  | .nil => .nil
  | .cons h1 h2 => .cons (h1.ext e) (h2.ext e)
end
theorem LkL.get {H : Hp} {vs us : List V} {n : Nat} (h : LkL H vs us n) : ∃ ns : List Nat, vs.length = us.length ∧ ns.length = us.length ∧ ns.sum = n ∧ us.length ≤ n ∧ ∀ i, i < us.length → Lk H (vs.getD i .non) (us.getD i .non) (ns.getD i 0) := by
  induction vs generalizing us n with
  | nil =>
    cases h
    exact ⟨[], rfl, rfl, rfl, Nat.le_refl _, fun i hi => absurd hi (by simp)⟩
  | cons v vs ih =>
    cases h with
    | @cons _ u _ us k m h1 h2 =>
      obtain ⟨ns, e1, e2, e3, e4, h3⟩ := ih h2
      have p := h1.pos
      refine ⟨k :: ns, by simp [e1], by simp [e2], by simp [e3], by simp; omega, fun i hi => ?_⟩
      cases i with
      | zero => exact h1
      | succ i => exact h3 i (by simpa using hi)
/-! ### the stack of pairs that are still to be compared -/
structure It4 where
  r : Addr
  v : V
  u : V
  n : Nat
def refs (st : List It4) : List V := st.map fun q => .ref q.r
def wt (st : List It4) : Nat := (st.map fun q => q.n).sum
def StOk (H0 H' : Hp) (L : Addr) (st : List It4) : Prop := ∀ q ∈ st, q.r ≠ L ∧ H' q.r = some (.tup [q.v, q.u]) ∧ Lk H0 q.v q.u q.n
theorem StOk.ext {H0 H' H2 : Hp} {L : Addr} {st : List It4} (e : ExB L H' H2) (h : StOk H0 H' L st) : StOk H0 H2 L st := fun q hq => by
  obtain ⟨h1, h2, h3⟩ := h q hq
  exact ⟨h1, e _ _ h1 h2, h3⟩
theorem StOk.app {H0 H' : Hp} {L : Addr} {st st' : List It4} (h : StOk H0 H' L st) (h' : StOk H0 H' L st') : StOk H0 H' L (st ++ st') := fun q hq => by
  rcases List.mem_append.mp hq with z | z
  · exact h q z
  · exact h' q z
theorem wt_app {st st' : List It4} : wt (st ++ st') = wt st + wt st' := by simp [wt]
theorem wt_len {H0 H' : Hp} {L : Addr} {st : List It4} (h : StOk H0 H' L st) : st.length ≤ wt st := by
  induction st with
  | nil => exact Nat.le_refl _
  | cons q r ih =>
    have h1 := (h q List.mem_cons_self).2.2.pos
    have h2 := ih fun z hz => h z (List.mem_cons_of_mem _ hz)
    simp [wt] at h2 ⊢
    omega
/-! ### dicts -/
def itemK (ls : List (Key × V)) (i : Nat) : V := (ls.map fun q => kV q.1).getD i .non
theorem itemK_at {ls : List (Key × V)} {i : Nat} {k : Key} {v : V} (h : ls[i]? = some (k, v)) : itemK ls i = kV k := by
  unfold itemK
  rw [List.getD_eq_getElem?_getD, List.getElem?_map, h]
  rfl
theorem walks_key {d : Addr} {o : Obj} {ls : List (Key × V)} {H : Hp} (h : H d = some (.frz o (.dK ls))) : Walks (Itk d o ls) ls.length (itemK ls) H := by
  refine ⟨fun i H1 e hi => ⟨e _ _ h, hi⟩, fun i H1 x H' e hi hy => ?_, fun H1 e => ⟨e _ _ h, Nat.le_refl _⟩⟩
  obtain ⟨h1, k, v, h2, h3⟩ := hy
  exact ⟨h1, by rw [h3, itemK_at h2]⟩
theorem valV_at {ks : List (Key × V)} (hd : (ks.map (·.1)).Nodup) {i : Nat} {k : Key} {v : V} (h : ks[i]? = some (k, v)) : valV ks k = some v := by
  induction ks generalizing i with
  | nil => simp at h
  | cons q r ih =>
    rw [List.map_cons, List.nodup_cons] at hd
    cases i with
    | zero =>
      simp at h
      subst h
      simp [valV]
    | succ i =>
      have h2 : r[i]? = some (k, v) := by simpa using h
      have ne : q.1 ≠ k := fun z => hd.1 (by
        rw [z]
        exact List.mem_map.mpr ⟨(k, v), List.mem_of_getElem? h2, rfl⟩)
      have := ih hd.2 h2
      unfold valV at this ⊢
      rw [List.find?_cons_of_neg (by simpa using ne)]
      exact this
/-- the i-th key of two dicts of the same keys, its value in each -/
theorem dic_at {ks ls : List (Key × V)} (hk : ks.map (·.1) = ls.map (·.1)) (hd : (ls.map (·.1)).Nodup) {i : Nat} (hi : i < ls.length) :
    ∃ k, itemK ls i = kV k ∧ valV ks k = some ((ks.map (·.2)).getD i .non) ∧ valV ls k = some ((ls.map (·.2)).getD i .non) := by
  have hl : ks.length = ls.length := by
    have := congrArg List.length hk
    simpa using this
  have hi2 : i < ks.length := by omega
  have e : ks[i].1 = ls[i].1 := by
    have h1 : (ks.map (·.1))[i]? = some ks[i].1 := by rw [List.getElem?_map, List.getElem?_eq_getElem hi2]; rfl
    have h2 : (ls.map (·.1))[i]? = some ls[i].1 := by rw [List.getElem?_map, List.getElem?_eq_getElem hi]; rfl
    rw [hk, h2] at h1
    exact (Option.some.inj h1).symm
  refine ⟨ls[i].1, itemK_at (v := ls[i].2) (by rw [List.getElem?_eq_getElem hi]), ?_, ?_⟩
  · have h := valV_at (by rw [hk]; exact hd) (i := i) (k := ks[i].1) (v := ks[i].2) (by rw [List.getElem?_eq_getElem hi2])
    rw [← e, h, List.getD_eq_getElem?_getD, List.getElem?_map, List.getElem?_eq_getElem hi2]
    rfl
  · have h := valV_at hd (i := i) (k := ls[i].1) (v := ls[i].2) (by rw [List.getElem?_eq_getElem hi])
    rw [h, List.getD_eq_getElem?_getD, List.getElem?_map, List.getElem?_eq_getElem hi]
    rfl
/-- a dict is read also where it is locked -/
theorem rd_lock {H H' : Hp} {a b : Addr} {o : Obj} {ks ls : List (Key × V)} (ha : H a = some (.dK ks)) (hb : H b = some (.dK ls)) (e : Ex (upd H b (.frz o (.dK ls))) H') : Rd H' a (.dK ks) := by
  by_cases z : a = b
  · subst z
    rw [hb] at ha
    cases ha
    exact .inr ⟨o, e _ _ upd_same⟩
  · exact .inl (e _ _ (by rw [upd_ne z]; exact ha))
theorem ex_lock {H H' : Hp} {b : Addr} {o : Obj} {u : HO} (hb : H b = some u) (e : Ex (upd H b (.frz o u)) H') : Ex H (upd H' b u) := fun a w h => by
  by_cases z : a = b
  · subst z
    rw [hb] at h
    cases h
    exact upd_same
  · rw [upd_ne z]
    exact e _ _ (by rw [upd_ne z]; exact h)
/-! ### the pairs that a list comprehension makes -/
def Made (H0 : Hp) (L : Addr) (vs us : List V) (ns : List Nat) (D : Addr) (j : Nat) (acc : List V) (H' : Hp) : Prop :=
  ∃ its : List It4, acc = refs its ∧ its.map (·.n) = (List.range j).map (fun i => ns.getD i 0) ∧ ∀ q ∈ its, q.r ≠ D ∧ q.r ≠ L ∧ H' q.r = some (.tup [q.v, q.u]) ∧ Lk H0 q.v q.u q.n
theorem Made.nil {H0 : Hp} {L : Addr} {vs us : List V} {ns : List Nat} {D : Addr} {H' : Hp} : Made H0 L vs us ns D 0 [] H' := ⟨[], rfl, rfl, fun q hq => absurd hq (by simp)⟩
theorem Made.mono {H0 : Hp} {L : Addr} {vs us : List V} {ns : List Nat} {D : Addr} {j : Nat} {acc : List V} {H1 H2 : Hp} (e : ExB D H1 H2) (h : Made H0 L vs us ns D j acc H1) : Made H0 L vs us ns D j acc H2 := by
  obtain ⟨its, h1, h2, h3⟩ := h
  refine ⟨its, h1, h2, fun q hq => ?_⟩
  obtain ⟨a, b, c, d⟩ := h3 q hq
  exact ⟨a, b, e _ _ a c, d⟩
theorem Made.next {H0 : Hp} {L : Addr} {vs us : List V} {ns : List Nat} {D : Addr} {j : Nat} {acc : List V} {H1 : Hp} {t : Addr} {o oL : HO} (h : Made H0 L vs us ns D j acc H1) (ht : H1 t = none) (hD : H1 D = some o) (hL : H1 L = some oL)
    (lk : Lk H0 (vs.getD j .non) (us.getD j .non) (ns.getD j 0)) : Made H0 L vs us ns D (j + 1) (acc ++ [.ref t]) (upd H1 t (.tup [vs.getD j .non, us.getD j .non])) := by
  obtain ⟨its, rfl, h2, h3⟩ := h
  refine ⟨its ++ [⟨t, vs.getD j .non, us.getD j .non, ns.getD j 0⟩], by simp [refs], by rw [List.range_succ]; simp [h2], fun q hq => ?_⟩
  rcases List.mem_append.mp hq with z | z
  · obtain ⟨a, b, c, d⟩ := h3 q z
    exact ⟨a, b, by rw [upd_ne (ne_of_none c ht)]; exact c, d⟩
  · obtain rfl := List.mem_singleton.mp z
    exact ⟨(ne_of_none hD ht).symm, (ne_of_none hL ht).symm, upd_same, lk⟩
theorem Made.wt {H0 : Hp} {L : Addr} {vs us : List V} {ns : List Nat} {D : Addr} {acc : List V} {H1 : Hp} (h : Made H0 L vs us ns D ns.length acc H1) : ∃ its : List It4, acc = refs its ∧ K9.wt its = ns.sum ∧ StOk H0 H1 L its := by
  obtain ⟨its, h1, h2, h3⟩ := h
  refine ⟨its, h1, ?_, fun q hq => (h3 q hq).2⟩
  unfold K9.wt
  rw [h2]
  congr 1
  refine List.ext_getElem (by simp) fun i h4 h5 => ?_
  simp [List.getD_eq_getElem?_getD, List.getElem?_eq_getElem h5]
theorem cons_l {te : TE} {t : TA} {σ : L2.St} {H : Hp} {Q : List V → Hp → Prop} (h : te σ H fun x H1 => t σ H1 fun xs H2 => Q (x :: xs) H2) : tCons te t σ H Q := h
theorem getD_at {vs : List V} {j : Nat} (h : j < vs.length) : vs[j]? = some (vs.getD j .non) := by
  rw [List.getD_eq_getElem?_getD, List.getElem?_eq_getElem h]
  rfl
theorem ite0 {c : Prop} [Decidable c] {A B : Prop} (h : ¬ c) (b : B) : if c then A else B := by
  rw [if_neg h]
  exact b
theorem ite1 {c : Prop} [Decidable c] {A B : Prop} (h : c) (b : A) : if c then A else B := by
  rw [if_pos h]
  exact b
end K9

namespace K9
open PySem PySem.Spec PyProof.Rows L2 L2H HotX Evl
/-! ### isinstance of an error or of another value -/
def rIsA (K : PySem.W.Frag) (l : List (Addr × Obj)) : List V → Hp → VK → Prop := fun xs H Q => rIsE1 K l xs H Q ∨ rIsi K xs H Q
theorem call_isA {X : Cx} : CallR X (.builtin "isinstance") (rIsA X.K X.pn) := by
  intro pins s σ H xs us Q I r h
  rcases h with h | h
  · exact call_isE1 pins s σ H xs us Q I r h
  · exact call_isi pins s σ H xs us Q I r h
theorem kit_ty {K : PySem.W.Frag} {C : Addr} {T : String} (E : ErrC K C) (h : PySem.W.subIn K (.type T) (.ref C) = some false) : PySem.W.kitOne K (.type T) (.ref C) = some false := by
  unfold PySem.W.kitOne PySem.W.kitCls
  rw [if_neg (by
    intro z
    have := eq_of_beq z
    cases this)]
  simp only [E.cl, E.ox.tyC, beq_self_eq_true, Bool.and_self, if_true]
  exact h
theorem Lk.ty1 {K : PySem.W.Frag} {H : Hp} {v u : V} {n : Nat} (h : Lk H v u n) (C : Addr) : ∃ T, TyX K H v (.type T) ∧ PySem.W.subIn K (.type T) (.ref C) = some false := by
  cases h with
  | non => exact ⟨_, .base .non, rfl⟩
  | bl b => exact ⟨_, .base (.bl _), rfl⟩
  | int i => exact ⟨_, .base (.int _), rfl⟩
  | str z => exact ⟨_, .base (.str _), rfl⟩
  | lst ha hb _ => exact ⟨_, .base (.lst ha), rfl⟩
  | tup ha hb _ => exact ⟨_, .base (.tup ha), rfl⟩
  | dic ha hb _ _ _ => exact ⟨_, .base (.dK ha), rfl⟩
theorem Lk.ty2 {K : PySem.W.Frag} {H : Hp} {v u : V} {n : Nat} (h : Lk H v u n) (C : Addr) : ∃ T, TyX K H u (.type T) ∧ PySem.W.subIn K (.type T) (.ref C) = some false := by
  cases h with
  | non => exact ⟨_, .base .non, rfl⟩
  | bl b => exact ⟨_, .base (.bl _), rfl⟩
  | int i => exact ⟨_, .base (.int _), rfl⟩
  | str z => exact ⟨_, .base (.str _), rfl⟩
  | lst ha hb _ => exact ⟨_, .base (.lst hb), rfl⟩
  | tup ha hb _ => exact ⟨_, .base (.tup hb), rfl⟩
  | dic ha hb _ _ _ => exact ⟨_, .base (.dK hb), rfl⟩
/-! ### what more pins change: nothing -/
theorem Err.more {l : List (Addr × Obj)} {H : Hp} {a C : Addr} {o : Option (List (Str × V))} (h : Err [] H a C o) : Err l H a C o := by
  have t : ∀ d, EAt [] H a C d → EAt l H a C d := fun d h => by
    rcases h with h | ⟨oe, hp, _⟩
    · exact .inl h
    · cases hp
  cases o with
  | none => exact t _ h
  | some fs =>
    obtain ⟨d, h1, h2⟩ := h
    exact ⟨d, t _ h1, h2⟩
/-! ### a list of four numbers that changes to another one -/
def Four (H : Hp) (b : Addr) : Prop := ∃ (g m c : Int) (w : Bool), H b = some (.lst [.int g, .bl w, .int m, .int c])
theorem same_at {H : Hp} {a1 a2 : Addr} {o1 o2 : HO} (hv : V.ref a1 = V.ref a2) (ha : H a1 = some o1) (hb : H a2 = some o2) : o1 = o2 := by
  cases hv
  rw [ha] at hb
  exact Option.some.inj hb
theorem four_n {g m c : Int} {w : Bool} {H : Hp} {n : Nat} {us : List V} (hs : LkL H [.int g, .bl w, .int m, .int c] us n) : n = 1 + (1 + (1 + (1 + 0))) := by
  cases hs with
  | cons h hs => cases h with
    | int => cases hs with
      | cons h hs => cases h with
        | bl => cases hs with
          | cons h hs => cases h with
            | int => cases hs with
              | cons h hs => cases h with
                | int => cases hs with
                  | nil => rfl
theorem four_lst {H H' : Hp} {b : Addr} (e : ExB b H H') (h0 : Four H b) (h1 : Four H' b) {a1 a2 : Addr} {vs us : List V} {n : Nat} (hv : V.ref a1 = V.ref a2) (ha : H a1 = some (.lst vs)) (hb : H a2 = some (.lst us)) (hs : LkL H vs us n) (ih : LkL H' vs us n) : Lk H' (.ref a1) (.ref a2) (n + 1) := by
  cases hv
  by_cases z : a1 = b
  · subst z
    obtain ⟨g, m, c, w, x⟩ := h0
    obtain ⟨g', m', c', w', x'⟩ := h1
    rw [x] at ha
    cases ha
    rw [four_n hs]
    exact .lst x' x' (.cons (.int _) (.cons (.bl _) (.cons (.int _) (.cons (.int _) .nil))))
  · exact .lst (e _ _ z ha) (e _ _ z hb) ih
theorem not_four {H : Hp} {a b : Addr} {o : HO} (h0 : Four H b) (ha : H a = some o) (no : ∀ vs, o ≠ .lst vs) : a ≠ b := fun z => by
  obtain ⟨g, m, c, w, x⟩ := h0
  rw [z, x] at ha
  exact no _ (Option.some.inj ha).symm
mutual
theorem Lk.four {H H' : Hp} {b : Addr} (e : ExB b H H') (h0 : Four H b) (h1 : Four H' b) {v u : V} {n : Nat} (h : Lk H v u n) (hv : v = u) : Lk H' v u n :=
  match h with
  | .non => .non
  | .bl b => .bl b
  | .int i => .int i
  | .str z => .str z
  | .lst ha hb hs => four_lst e h0 h1 hv ha hb hs (hs.four e h0 h1 (HO.lst.inj (same_at hv ha hb)))
  | .tup ha hb hs => .tup (e _ _ (not_four h0 ha fun _ => nofun) ha) (e _ _ (not_four h0 hb fun _ => nofun) hb) (hs.four e h0 h1 (HO.tup.inj (same_at hv ha hb)))
  | .dic ha hb hk hd hs => .dic (e _ _ (not_four h0 ha fun _ => nofun) ha) (e _ _ (not_four h0 hb fun _ => nofun) hb) hk hd (hs.four e h0 h1 (congrArg (List.map (·.2)) (HO.dK.inj (same_at hv ha hb))))
theorem LkL.four {H H' : Hp} {b : Addr} (e : ExB b H H') (h0 : Four H b) (h1 : Four H' b) {vs us : List V} {n : Nat} (h : LkL H vs us n) (hv : vs = us) : LkL H' vs us n :=
  match h with
  | .nil => .nil
  | .cons h2 h3 => .cons (h2.four e h0 h1 (List.cons.inj hv).1) (h3.four e h0 h1 (List.cons.inj hv).2)
end
theorem Err.four {l : List (Addr × Obj)} {H H' : Hp} {b a C : Addr} {o : Option (List (Str × V))} (e : ExB b H H') (h0 : Four H b) (h : Err l H a C o) : Err l H' a C o := by
  obtain ⟨g, m, c, w, x⟩ := h0
  have t : ∀ d, EAt l H a C d → EAt l H' a C d := fun d h => by
    rcases h with h | h
    · refine .inl (e _ _ (fun z => ?_) h)
      rw [z, x] at h
      cases h
    · exact .inr h
  cases o with
  | none => exact t _ h
  | some fs =>
    obtain ⟨d, h1, h2⟩ := h
    refine ⟨d, t _ h1, ?_⟩
    rcases h2 with h2 | h2
    · refine .inl (e _ _ (fun z => ?_) h2)
      rw [z, x] at h2
      cases h2
    · refine .inr (e _ _ (fun z => ?_) h2)
      rw [z, x] at h2
      cases h2
end K9

namespace K9
open PySem PySem.Spec PyProof.Rows L2 L2H HotX Evl
/-! ### a for loop, by an invariant -/
theorem for_by {wi : TI} {i : Nat} {tb : TS} {D} {σ : L2.St} {H : Hp} {J : It} {n : Nat} {item : Nat → V} (P : Nat → L2.St → Hp → Prop) (hw : ∀ R : It → Hp → Prop, R J H → wi σ H R) (wk : Walks J n item H) (h0 : P 0 σ H)
    (step : ∀ (j : Nat) (σ1 : L2.St) (H1 : Hp) (N : L2.St → Hp → Prop), j < n → Ex H H1 → P j σ1 H1 → (∀ σ2 H2, Ex H1 H2 → P (j + 1) σ2 H2 → N σ2 H2) → tb { nx := N, rt := D.rt, bk := D.nx, ct := N } (σ1.set i (some (item j))) H1)
    (fin : ∀ σ1 H1, Ex H H1 → P n σ1 H1 → D.nx σ1 H1) : tFor wi (gName i) tb D σ H := by
  refine hw _ ⟨fun j m σ1 H1 => m = n - j ∧ j ≤ n ∧ Ex H H1 ∧ P j σ1 H1, ⟨n - 0, rfl, Nat.zero_le _, Ex.refl H, h0⟩, ?_⟩
  rintro j m σ1 H1 ⟨rfl, hj, e, hp⟩
  by_cases hjn : j = n
  · subst hjn
    exact .inl ⟨wk.stop H1 e, fin σ1 H1 e hp⟩
  · have hj2 : j < n := by omega
    refine .inr ⟨wk.go j H1 e hj2, fun σ' H' => n - (j + 1) < n - j ∧ j + 1 ≤ n ∧ Ex H H' ∧ P (j + 1) σ' H', ?_, ?_⟩
    · rintro σ' H' ⟨h1, h2, h3⟩
      exact ⟨n - (j + 1), h1, rfl, h2, h3⟩
    · intro x H' hy
      obtain ⟨rfl, rfl⟩ := wk.yld j H1 x H' e hj2 hy
      exact step j σ1 H' _ hj2 e hp fun σ2 H2 e2 p2 => ⟨by omega, by omega, e.trans e2, p2⟩
theorem paired_get {α β : Type} {R : α → β → Prop} {xs : List α} {ys : List β} (h : Paired R xs ys) {j : Nat} {y : β} (e : ys[j]? = some y) : ∃ x, xs[j]? = some x ∧ R x y := by
  induction h generalizing j with
  | nil => simp at e
  | cons r _ ih =>
    cases j with
    | zero =>
      simp at e
      subst e
      exact ⟨_, rfl, r⟩
    | succ j =>
      simp at e
      obtain ⟨x, h1, h2⟩ := ih e
      exact ⟨x, by simpa using h1, h2⟩
theorem ErrsAt.get {K : PySem.W.Frag} {l : List (Addr × Obj)} {H : Hp} {rs : List V} {qs : List (Str × List (Str × V))} (h : ErrsAt K l H rs qs) {j : Nat} {q : Str × List (Str × V)} (e : qs[j]? = some q) : ∃ a, rs[j]? = some (.ref a) ∧ Err l H a (He.ga K q.1) (some q.2) := by
  obtain ⟨x, h1, a, rfl, h2⟩ := paired_get h e
  exact ⟨a, h1, h2⟩
theorem nx_p {nx bk ct : L2.St → Hp → Prop} {rt : VK} {σ : L2.St} {H : Hp} (h : nx σ H) : ({ nx := nx, rt := rt, bk := bk, ct := ct } : Ends).nx σ H := h
theorem ifs_op {r : R2} {ta tb : TE} {t u : TS} {D : Ends} {σ : L2.St} {H : Hp} (h : ta σ H fun x H1 => tb σ H1 fun y H2 => r x y H2 fun z H3 => ∃ c, z = .bl c ∧ if c = true then t D σ H3 else u D σ H3) : tIfS (tTest (tOp r ta tb)) t u D σ H := h
/-! ### the suite of an except: whatever object was caught -/
theorem suite_all {X : Cx} {a : Addr} {cls : Value} {d : Option Addr} {b : List Stmt} {t : Obj → List (Addr × Obj) → TS} (h : ∀ (oe : Obj) (pn : List (Addr × Obj)), L2N.Zn cls d oe → (∃ vs, oe.data = .fields vs) → PSs (X.suite a ((a, oe) :: pn)) b (t oe pn))
    (oe : Obj) (pn : List (Addr × Obj)) (hz : L2N.Zn cls d oe) (hf : ∃ vs, oe.data = .fields vs) : PSs (X.suite a ((a, oe) :: pn)) b (fun D σ H => ∀ (oe : Obj) (pn : List (Addr × Obj)), L2N.Zn cls d oe → (∃ vs, oe.data = .fields vs) → t oe pn D σ H) :=
  ⟨fun pins s σ H D I g => (h oe pn hz hf).run pins s σ H D I (g oe pn hz hf)⟩
theorem markR {k : Nat} {A : Around} {o : Option Value} (hr : Room k A) : RoomH k (A.mark o) := ⟨hr.dp, hr.un⟩
theorem takes_never {X : Cx} : L2N.Takes X (fun _ _ _ _ => False) := fun u s' ⟨_, _, _, _, _, _, _, _, _, _, _, _, _, _, _, _, h⟩ => h.elim
/-- the caught error, with its fields -/
theorem caught_err {H : Hp} {a C d : Addr} {oe : Obj} {fs : List (Str × V)} (hz : L2N.Zn (.ref C) (some d) oe) (hf : ∃ vs, oe.data = .fields vs) (h : H d = some (.xd fs)) : Err [(a, oe)] H a C (some fs) :=
  ⟨d, .inr ⟨oe, List.mem_singleton.mpr rfl, ⟨hz.1, hz.2.1⟩, hf⟩, .inr h⟩
theorem caught_err0 {H : Hp} {a C : Addr} {oe : Obj} (hz : L2N.Zn (.ref C) none oe) (hf : ∃ vs, oe.data = .fields vs) : Err [(a, oe)] H a C none :=
  .inr ⟨oe, List.mem_singleton.mpr rfl, ⟨hz.1, hz.2.1⟩, hf⟩
section
variable {X : Cx} {W : WX} {n : Nat} {ns ks : List Str} {ix : List Nat} {ways : List (Nat × List Str × List Nat)} {x : Str} {p pos pos2 : Pos} {e : Expr} {es : List Expr} {kws : List Keyword} {t tk : TA}
theorem ps_raise_iniK {K0 : PySem.W.Frag} (hw : L2N.Takes X W) (hK : X.K = K0) (i : Ini X.prog X.w X.K X.mg X.base x ns ways) (hq : (n + 1, ks, ix) ∈ ways) (hr : RoomH 2 X.A) (hc : X.calm = true) (hg : Gl X x) (ha : PA X (e :: es) t) (hkw : PK X kws tk) (hn : n ≤ 1000 := by decide)
    (hall : (backToKw pos (keywordEach kws X.env)).all (·.1.isSome) = true := by rfl) (hks : (backToKw pos (keywordEach kws X.env)).filterMap (·.1) = ks := by rfl)
    (hdb : (x == ("__debug__" : Str)) = false := by decide) (he : starEach (e :: es) X.env = (false, eval e X.env) :: starEach es X.env := by rfl)
    (hpl : ((backTo pos (starEach (e :: es) X.env)).any (·.1) || (backToKw pos (keywordEach kws X.env)).any (·.1.isNone)) = false := by rfl) :
    PS X (.Raise (some (.Call (.Name x p) (e :: es) kws pos)) none pos2) (fun _ σ H => tMkE (He.ga K0 x) n ks.length ns (gPV ix) t tk σ H fun cls d H' => W cls d σ H') := by
  subst hK
  exact L2N.ps_raise hc hw (pmk_iniK i hq hr hc hg ha hkw hn hall hks hdb he hpl)
theorem ps_raise_ini0 {K0 : PySem.W.Frag} (hw : L2N.Takes X W) (hK : X.K = K0) (i : Ini X.prog X.w X.K X.mg X.base x ns ways) (hq : (1, ks, ix) ∈ ways) (hr : RoomH 2 X.A) (hc : X.calm = true) (hg : Gl X x) (hkw : PK X kws tk)
    (hall : (backToKw pos (keywordEach kws X.env)).all (·.1.isSome) = true := by rfl) (hks : (backToKw pos (keywordEach kws X.env)).filterMap (·.1) = ks := by rfl)
    (hdb : (x == ("__debug__" : Str)) = false := by decide)
    (hpl : ((backTo pos (starEach [] X.env)).any (·.1) || (backToKw pos (keywordEach kws X.env)).any (·.1.isNone)) = false := by rfl) :
    PS X (.Raise (some (.Call (.Name x p) [] kws pos)) none pos2) (fun _ σ H => tMkE (He.ga K0 x) 0 ks.length ns (gPV ix) tNil tk σ H fun cls d H' => W cls d σ H') := by
  subst hK
  exact L2N.ps_raise hc hw (pmk_ini0 i hq hr hc hg hkw hall hks hdb hpl)
theorem ps_raise_X {bmB : List Value} {B newId initId : String} {C : Addr} (hw : L2N.Takes X W) (hc : X.calm = true) (F : ExcBaseFacts B newId initId bmB) (q : PySem.W.excIn X.K C bmB newId = true) (gC : X.mg x = some (.ref C)) (kC : PySem.W.keepIn X.K (.ref C) = true) (r : Raises X (.ref C)) (hg : Gl X x)
    (hdb : (x == ("__debug__" : Str)) = false := by decide) : PS X (.Raise (some (.Call (.Name x p) [] [] pos)) none pos2) (fun _ σ H => W (.ref C) none σ H) :=
  L2N.ps_raise hc hw (pmk_X F q gC kC r hg hdb)
end
/-- a try statement's body, its suite -/
def tryBody (b : List Stmt) (i : Nat) : List Stmt := match b[i]? with
  | some (.Try body _ _ _ _) => body
  | _ => []
def trySuite (b : List Stmt) (i : Nat) : List Stmt := match b[i]? with
  | some (.Try _ [.ExceptHandler _ _ s _] _ _ _) => s
  | _ => []
end K9

namespace K9
open PySem PySem.Spec PyProof.Rows L2 L2H HotX Evl
/-! ### tables of code objects: tracked, whatever they hold -/
def TabF (P : Addr) (h : Heap) : Prop := ∃ ps : Array Value, h.get? P = some { cls := .none, data := .fields ps } ∧ TriplesOk ps.toList
def TabX (H : Hp) (P : Addr) : Prop := H P = some (.ext (TabF P))
theorem TabX.ext {H H' : Hp} {P : Addr} (e : Ex H H') (h : TabX H P) : TabX H' P := e _ _ h
theorem tabF_ok {Pg : Program} {w : World} {H : Hp} {h : Heap} {P : Addr} (x : TabF P h) : ObjOk Pg w H h P (.ext (TabF P)) := by
  refine ⟨x, ?_, fun h1 h2 ⟨ps, e, t⟩ k => ⟨ps, k _ e, t⟩⟩
  obtain ⟨ps, e, _⟩ := x
  exact ⟨_, e⟩
/-- the running def's code object at c, its table at P -/
structure TabK (base : Heap) (mg : Str → Option Value) (c P : Addr) : Prop where
  code : PySem.W.CodeHd base c P
  bm : ∃ (bm : Addr) (ob : Obj), mg "__builtins__" = some (.ref bm) ∧ bm ≠ builtinsNs ∧ base.get? bm = some ob ∧ ob.cls = .type "module" ∧ ob.dict = some builtinsNs ∧ ob.data = .plain
section
variable {X : Cx} {pins : List (Addr × Obj)} {σ : L2.St} {H : Hp} {s : Shared}
theorem inv_same {s' : Shared} (I : Inv X pins σ H s) (hh : s'.heap = s.heap) (ho : s'.os = s.os) (hg : AllBare s'.gens) : Inv X pins σ H s' := by
  obtain ⟨h', g', d', t', o'⟩ := s'
  have hh : h' = s.heap := hh
  have ho : o' = s.os := ho
  subst hh ho
  exact ⟨I.ok, I.os, hg, I.base, I.loc, I.cell, I.free, I.freeC, I.pin, I.hok, I.len⟩
/-- the table has grown; what stood is kept -/
theorem inv_tabX {P : Addr} {h' : Heap} {t' : Nat} (I : Inv X pins σ H s) (hP : TabX H P) (k : ∀ b o, b ≠ P → s.heap.get? b = some o → h'.get? b = some o) (hm : TabF P h') :
    Inv X pins σ H { s with heap := h', toks := t' } := by
  have nN : ∀ b, H b = none → b ≠ P := fun b e z => by
    rw [z, hP] at e
    cases e
  have nP : ∀ b u, H b = some u → u ≠ .ext (TabF P) → b ≠ P := fun b u e q z => by
    rw [z, hP] at e
    exact q (Option.some.inj e).symm
  refine I.step (g' := s.gens) (d' := s.drawn) (ch := []) (fun b hb => absurd hb (by simp)) (fun b o _ _ _ e n => k b o (nN b n) e) (fun b o _ _ _ e n => ⟨o.slots, k b o (nN b n) e⟩)
    (fun b o _ e n => n) (fun b o _ e => ?_) (fun b xs e => e) (fun b o u e => e) (fun b qs e => ⟨#[], by rw [e]; simp⟩) (fun m hn => ?_) (fun b u e => ?_) I.bare
  · by_cases hb : b = P
    · rw [hb]
      obtain ⟨ps, z, _⟩ := hm
      exact ⟨_, z⟩
    · exact ⟨o, k b o hb e⟩
  · obtain ⟨ob, es, ep, ho, r⟩ := hn
    exact ⟨ob, es, ep, k _ ob (nN _ I.free) ho, r⟩
  · by_cases hb2 : b = P
    · rw [hb2, hP] at e
      cases e
      rw [hb2]
      exact tabF_ok hm
    · refine (I.hok b u e).stay (fun d v hd q => k d v ?_ q) (fun d q => q) fun d xs q => q
      rcases hd with z | z
      · rw [z]
        exact hb2
      · exact nP d _ z (by intro z; cases z)
end
/-! ### a generator expression: its frame's context -/
/-- the context of a generator's frame, made at s, its iterator's objects at fp, pinned: the generator's own object -/
abbrev gX (X : Cx) (A : Around) (s : Shared) (H : Hp) (scope : Scope) (C : Addr) (code : Value) (fp : List Addr) (pn : List (Addr × Obj)) : Cx :=
  { X with A := A, s_0 := s, H_0 := H, env := genEnv scope (cloFrom X.env.cells scope.names []) C code builtinsNs X.env, outer := X.stack, stack := genEnv scope (cloFrom X.env.cells scope.names []) C code builtinsNs X.env :: X.stack, ex := fp, fn := fun _ => false, calm := true, pn := pn, xe := fun _ _ => False }
section
variable {X : Cx} {pins : List (Addr × Obj)} {σ : L2.St} {H : Hp} {s s' : Shared}
theorem gen_start {scope : Scope} {own : List (Str × Nat)} {fp : List Addr} {A : Around} {C a : Addr} {code : Value} {go : Obj} {m : Str → Option Value} (I : Inv X pins σ H s) (ok : BlkOk X.N X.env.scope scope own) (hcell : ∀ y ∈ scope.names, y.2 ≠ .cell)
    (hN : X.N.Nodup) (hfp : ∀ b ∈ fp, FpOk X pins H b ∧ b < s.heap.objs.size) (kp : ∀ b o, s.heap.get? b = some o → s'.heap.get? b = some o) (hC : s.heap.objs.size ≤ C) (hns : s'.heap.Ns C m)
    (hfr : A.frames = some (genEnv scope (cloFrom X.env.cells scope.names []) C code builtinsNs X.env :: X.stack)) (hh : A.handled = none) (hos : s'.os = s.os) (hg : AllBare s'.gens)
    (ha : s'.heap.get? a = some go) (haz : s.heap.objs.size ≤ a) (haC : a ≠ C) (hgo : ∀ v, go.data ≠ .cell v) :
    Inv (gX X A s H scope C code fp [(a, go)]) [] (wipe σ (own.map (·.2))) H s' := by
  have hfree : ∀ y ∈ scope.names, y.2 = .free → ∃ c, X.env.cells.lookup y.1 = some c := fun y hy e => by
    rcases ok.free y hy e with k | k
    · exact I.ok.has _ (.inl k)
    · exact I.ok.has _ (.inr k)
  generalize hcenv : genEnv scope (cloFrom X.env.cells scope.names []) C code builtinsNs X.env = cenv at hfr
  have hL : cenv.locals = C := by rw [← hcenv]; rfl
  have hcl : cenv.cells = cloFrom X.env.cells scope.names [] := by rw [← hcenv]; rfl
  have hsc : cenv.scope = scope := by rw [← hcenv]; rfl
  have cm : ∀ {y c}, cenv.cells.lookup y = some c → X.env.cells.lookup y = some c ∧ c < s.heap.objs.size := fun {y c} hm => by
    rw [hcl] at hm
    rcases cloFrom_mem (PySem.mem_of_lookup hm) with hm | ⟨h1, rfl⟩
    · cases hm
    · obtain ⟨c, hc⟩ := hfree _ h1 rfl
      rw [hc]
      obtain ⟨w, z⟩ := I.cell _ _ hc
      exact ⟨rfl, z.lt⟩
  have look : ∀ {y}, scope.names.lookup y = some .free → ∃ c, cenv.cells.lookup y = some c ∧ X.env.cells.lookup y = some c := fun {y} hl => by
    have hy : (y, NameKind.free) ∈ scope.names := PySem.mem_of_lookup hl
    obtain ⟨c', e'⟩ := mem_lookup (cloFrom_has (cells := X.env.cells) (acc := []) hy)
    rw [← hcl] at e'
    exact ⟨c', e', (cm e').1⟩
  have old : ∀ {b : Addr}, s.heap.objs.size ≤ b → b ∉ frs X.stack := fun {b} hb z => by
    rcases List.mem_cons.mp (I.stkSub b z) with z | z
    · exact Nat.ne_of_gt (Nat.lt_of_lt_of_le I.lt hb) z
    · exact I.nofs hb z
  have okB : (gX X A s H scope C code fp [(a, go)]).Ok := by
    refine ⟨I.ok.mod, ok.kind, I.ok.glob, rfl, hC, fun y z c e1 e2 => ?_, fun y hy => ?_, fun y c z e => absurd (show (false : Bool) = true from z) (by decide), fun _ => hh, by show A.frames = some (genEnv scope (cloFrom X.env.cells scope.names []) C code builtinsNs X.env :: X.stack); rw [hcenv]; exact hfr, .inr ⟨rfl, rfl⟩, fun b hb => ⟨?_, fun y c e z => ?_⟩, I.bs, Nat.le_trans I.ok.bsz I.sz, fun b o e hb => ?_, fun b hb z => ?_, I.stack, I.stkFree⟩
    · have e1 : (genEnv scope (cloFrom X.env.cells scope.names []) C code builtinsNs X.env).cells.lookup y = some c := e1
      have e2 : (genEnv scope (cloFrom X.env.cells scope.names []) C code builtinsNs X.env).cells.lookup z = some c := e2
      rw [hcenv] at e1 e2
      exact I.ok.inj y z c (cm e1).1 (cm e2).1
    · show ∃ c, (genEnv scope (cloFrom X.env.cells scope.names []) C code builtinsNs X.env).cells.lookup y = some c
      rw [hcenv]
      rcases hy with hy | hy
      · have hy : scope.names.lookup y = some .cell := hy
        exact absurd rfl (hcell _ (PySem.mem_of_lookup hy))
      · have hy : scope.names.lookup y = some .free := hy
        obtain ⟨c, h1, _⟩ := look hy
        exact ⟨c, h1⟩
    · exact Nat.ne_of_lt (Nat.lt_of_lt_of_le (hfp b hb).2 hC)
    · have e : (genEnv scope (cloFrom X.env.cells scope.names []) C code builtinsNs X.env).cells.lookup y = some c := e
      rw [hcenv] at e
      exact (hfp b hb).1.2.2.2.2.1 y c (cm e).1 z
    · rcases (hfp b hb).1.2.2.2.1 with z | z
      · exact I.ok.noex b o e z
      · exact absurd (Nat.lt_of_lt_of_le (Heap.lt_size e) (Nat.le_trans I.ok.bsz z)) (Nat.lt_irrefl _)
    · rcases List.mem_cons.mp (I.stkSub b z) with z | z
      · exact (hfp b hb).1.2.1 z
      · exact (hfp b hb).1.2.2.1 z
  refine ⟨okB, hos, hg, Un.kept kp, ⟨m, hns, fun i y av e1 e2 e3 => ?_⟩, fun y c e => ?_, I.hok.fresh hC, fun y c e => ?_, fun p hp => ?_, I.hok.kept kp, by rw [wipe_length]; exact I.len⟩
  · obtain ⟨e2, hne⟩ := wipe_some e2
    have hfr : scope.names.lookup y = some .free := by
      have no : ∀ k, scope.names.lookup y = some k → ¬ (k = .local ∨ k = .cell) := fun k e hk => by
        rcases ok.own _ (PySem.mem_of_lookup e) hk with e' | e'
        · obtain ⟨p, hp, hpy⟩ := List.mem_map.mp e'
          have e3 := ok.ix p hp
          have : p.1 = y := hpy
          rw [this] at e3
          exact hne (List.mem_map.mpr ⟨p, hp, nodup_ix hN e3 e1⟩)
        · exact e' (List.mem_of_getElem? e1)
      have e3 : Vis scope y := e3
      rcases e3 with e3 | e3 | e3
      · exact absurd (.inl rfl) (no _ e3)
      · exact absurd (.inr rfl) (no _ e3)
      · exact e3
    obtain ⟨m0, hn, hl⟩ := I.loc
    have hvis : Vis X.env.scope y := (ok.free _ (PySem.mem_of_lookup hfr) rfl).elim (fun k => .inr (.inl k)) (fun k => .inr (.inr k))
    obtain ⟨w, r, q⟩ := hl i y av e1 e2 hvis
    refine ⟨w, r, .inr ⟨.inr hfr, ?_⟩⟩
    obtain ⟨c, h1, h2⟩ := look hfr
    rw [← hcenv] at h1
    rcases q with ⟨k, _⟩ | ⟨_, c', e', z⟩
    · have k : X.env.scope.names.lookup y = some .local := k
      rcases ok.free _ (PySem.mem_of_lookup hfr) rfl with k' | k' <;> rw [show X.env.scope.names.lookup y = _ from k'] at k <;> cases k
    · rw [h2] at e'; cases e'
      exact ⟨c, h1, z.keeps kp⟩
  · have e : (genEnv scope (cloFrom X.env.cells scope.names []) C code builtinsNs X.env).cells.lookup y = some c := e
    rw [hcenv] at e
    obtain ⟨w, z⟩ := I.cell y c (cm e).1
    exact ⟨w, z.keeps kp⟩
  · have e : (genEnv scope (cloFrom X.env.cells scope.names []) C code builtinsNs X.env).cells.lookup y = some c := e
    rw [hcenv] at e
    exact I.freeC y c (cm e).1
  · obtain rfl : p = (a, go) := by simpa using hp
    exact ⟨ha, I.hok.fresh haz, haC, old haz, hgo⟩
end
end K9

namespace PySem
theorem compTurn_genD (elt target iter : Expr) (scope : Scope) (pos : Pos) (it acc : Value) (env : Env) :
    compTurn (.GeneratorExp elt [⟨target, iter, [], 0⟩] scope pos) 0 it acc env = (do
      standAt iter.pos
      match ← pyNext it with
      | none => pure (.done .next)
      | some v =>
        letOwnedTupleGo target it v
        assign target env v
        (do let v ← eval elt env; standAt elt.pos; let _ ← yieldOut env v)
        again (.compLoop (.GeneratorExp elt [⟨target, iter, [], 0⟩] scope pos) 0 it acc env)) := by rfl
end PySem
namespace K9
open PySem PySem.Spec PyProof.Rows L2 L2H HotX Evl
/-- what stands between two draws -/
def Alive (a : Addr) (gn : Nat) (s : Shared) : Prop := s.heap.IsGen a gn ∧ s.heap.NoLimit ∧ AllBare s.gens
abbrev GEnd (X : Cx) (pins : List (Addr × Obj)) (σ : L2.St) (Q : VK) (z : Bool) : GenEnd := fun n s₀ r s₁ => r = .ok .next ∧ (fun (_ : Nat) (_ : Shared) (s₁ : Shared) => ∃ H', Inv X pins σ H' s₁ ∧ Q (.bl (!z)) H') n s₀ s₁
def GPro (X : Cx) (pins : List (Addr × Obj)) (σ : L2.St) (Q : VK) (z : Bool) (a : Addr) (gn : Nat) : Protocol := fun _ _ v s kap =>
  ∃ b, v = .bool b ∧ Alive a gn s ∧ s.os = X.s_0.os ∧ if b = z then ∃ H', Inv X pins σ H' s ∧ Q (.bl z) H' else ∀ s'', s''.heap = s.heap → s''.os = s.os → AllBare s''.gens → kap (.send .none) s''
/-- all, any (z: what ends it early) of a generator's items -/
def tAllG (P : Addr) (z : Bool) (wi : TI) (g : TG) (te : TE) (own : List Nat) : TE := fun σ H Q => wi σ H fun J H1 => TabX H1 P ∧ ∃ W : Nat → Nat → Hp → Prop, (∃ m, W 0 m H1) ∧ ∀ i m H', W i m H' →
  (J.stop i H' ∧ Q (.bl (!z)) H') ∨ (J.go i H' ∧ ∃ (m' : Nat) (N : Hp → Prop), m = m' + 1 ∧ (∀ H'', N H'' → W (i + 1) m' H'') ∧ ∀ x H'', J.yld i H' x H'' → g x (wipe σ own) H'' fun σ8 H8 => wipe σ8 own = wipe σ own ∧
    te σ8 H8 fun v H9 => ∃ c, v = .bl c ∧ if c = z then Q (.bl z) H9 else N H9)
section
variable {X : Cx} {pins : List (Addr × Obj)} {σ : L2.St} {elt tg iter : Expr} {scope : Scope} {own : List (Str × Nat)} {gpos : Pos} {g : TG} {te : TE}
variable {z : Bool} {A Ai : Around} {s3 : Shared} {H3 : Hp} {C a it : Addr} {code : Value} {fp : List Addr} {go : Obj} {gn : Nat} {tn : Nat → Heap → Prop} {J : It} {Q : VK} {W : Nat → Nat → Hp → Prop}
theorem seg_loopG (I3 : Inv X pins σ H3 s3) (T : Turn X.prog X.w X.K tg J fp it tn) (f3 : ∀ b ∈ fp, FpOk X pins H3 b ∧ b < s3.heap.objs.size) (haz : s3.heap.objs.size ≤ a) (hgen : ∀ h : Heap, h.get? a = some go → h.IsGen a gn)
    (hco : scope.isCoroutine = false)
    (hA : A.over (.compLoop (.GeneratorExp elt [⟨tg, iter, [], 0⟩] scope gpos) 0 (.ref it) .none (genEnv scope (cloFrom X.env.cells scope.names []) C code builtinsNs X.env)) [] = Ai)
    (pg : PG (gX X Ai s3 H3 scope C code fp [(a, go)]) tg g) (pe : PE (gX X Ai s3 H3 scope C code fp [(a, go)]) elt te)
    (turn : ∀ i m H', W i m H' → (J.stop i H' ∧ Q (.bl (!z)) H') ∨ (J.go i H' ∧ ∃ (m' : Nat) (N : Hp → Prop), m = m' + 1 ∧ (∀ H'', N H'' → W (i + 1) m' H'') ∧ ∀ x H'', J.yld i H' x H'' → g x (wipe σ (own.map (·.2))) H'' fun σ8 H8 => wipe σ8 (own.map (·.2)) = wipe σ (own.map (·.2)) ∧
      te σ8 H8 fun v H9 => ∃ c, v = .bl c ∧ if c = z then Q (.bl z) H9 else N H9)) :
    ∀ (m i : Nat) (s : Shared) (H' : Hp) (s₀ : Shared), Inv (gX X Ai s3 H3 scope C code fp [(a, go)]) [] (wipe σ (own.map (·.2))) H' s → tn i s.heap → (∀ b ∈ fp, H' b = none) → W i m H' →
      Seg (model X.prog X.w) A (GEnd X pins σ Q z) (GPro X pins σ Q z a gn) m s₀
        (.compLoop (.GeneratorExp elt [⟨tg, iter, [], 0⟩] scope gpos) 0 (.ref it) .none (genEnv scope (cloFrom X.env.cells scope.names []) C code builtinsNs X.env))
        ((model X.prog X.w).den (.compLoop (.GeneratorExp elt [⟨tg, iter, [], 0⟩] scope gpos) 0 (.ref it) .none (genEnv scope (cloFrom X.env.cells scope.names []) C code builtinsNs X.env))) [] s := by
  have stat : ∀ {σ' : L2.St} {H' : Hp} {s' : Shared}, Inv (gX X Ai s3 H3 scope C code fp [(a, go)]) [] σ' H' s' → (∀ b ∈ fp, H' b = none) → ∀ b ∈ fp, FpOk (gX X Ai s3 H3 scope C code fp [(a, go)]) [] H' b := fun {σ' H' s'} I' hn b hb =>
    ⟨hn b hb, (I'.ok.exf b hb).1, I'.ok.exfs b hb, .inl hb, fun x c e => (I'.ok.exf b hb).2 x c e, fun p hp => by
      obtain rfl : p = (a, go) := by simpa using hp
      exact Nat.ne_of_gt (Nat.lt_of_lt_of_le (f3 b hb).2 haz)⟩
  have outer : ∀ {pl : List (Addr × Obj)} {σ' : L2.St} {H' : Hp} {s' : Shared}, Inv (gX X Ai s3 H3 scope C code fp [(a, go)]) pl σ' H' s' → Inv X pins σ H' s' := fun {pl σ' H' s'} I' =>
    I3.call' (ch := fp) I'.os I'.base I'.hok I'.bare fun b hb => ⟨(f3 b hb).1.2.2.2.1, (f3 b hb).1.2.1, (f3 b hb).1.2.2.2.2.1, (f3 b hb).1.2.2.2.2.2⟩
  have nox : ∀ {α : Type} {t : Sem α} {Q1 : α → Shared → Prop} {E : Value → Shared → Prop} {s : Shared}, wpAny (model X.prog X.w) Ai t Q1 (fun _ _ => False) s → wpAny (model X.prog X.w) Ai t Q1 E s := fun h => wpAny_mono h (fun _ _ q => q) fun _ _ q => q.elim
  intro m
  induction m with
  | zero =>
    intro i s H' s₀ I st hn hw
    rcases turn i 0 H' hw with ⟨stop, q⟩ | ⟨_, m', N, e, _⟩
    · show Seg _ A _ _ _ s₀ _ ((compTurn (.GeneratorExp elt [⟨tg, iter, [], 0⟩] scope gpos) 0 (.ref it) .none (genEnv scope (cloFrom X.env.cells scope.names []) C code builtinsNs X.env)).onRaise (leaving (genEnv scope (cloFrom X.env.cells scope.names []) C code builtinsNs X.env))) [] s
      rw [compTurn_genD, Sem.onRaise_eq_wrap]
      refine seg_bind_wrap (wpAny_standAt ?_)
      refine seg_bind_wrap ?_
      rw [hA]
      refine nox (thnF (T.done (gX X Ai s3 H3 scope C code fp [(a, go)]) rfl rfl rfl rfl i [] s _ H' (fun _ _ => False) I (stat I hn) st stop) fun r s1 ⟨hr, I1⟩ => ?_)
      subst hr
      exact seg_end (.ok .next) ⟨rfl, H', outer I1, q⟩
    · cases e
  | succ m ih =>
    intro i s H' s₀ I st hn hw
    show Seg _ A _ _ _ s₀ _ ((compTurn (.GeneratorExp elt [⟨tg, iter, [], 0⟩] scope gpos) 0 (.ref it) .none (genEnv scope (cloFrom X.env.cells scope.names []) C code builtinsNs X.env)).onRaise (leaving (genEnv scope (cloFrom X.env.cells scope.names []) C code builtinsNs X.env))) [] s
    rw [compTurn_genD, Sem.onRaise_eq_wrap]
    refine seg_bind_wrap (wpAny_standAt ?_)
    refine seg_bind_wrap ?_
    rw [hA]
    rcases turn i (m + 1) H' hw with ⟨stop, q⟩ | ⟨goes, m', N, e, hN, step⟩
    · refine nox (thnF (T.done (gX X Ai s3 H3 scope C code fp [(a, go)]) rfl rfl rfl rfl i [] s _ H' (fun _ _ => False) I (stat I hn) st stop) fun r s1 ⟨hr, I1⟩ => ?_)
      subst hr
      exact seg_end (.ok .next) ⟨rfl, H', outer I1, q⟩
    · obtain rfl : m = m' := Nat.succ.inj e
      refine nox (thnF (T.item (gX X Ai s3 H3 scope C code fp [(a, go)]) rfl rfl rfl rfl i [] s _ H' (fun _ _ => False) I (stat I hn) st goes) fun r s6 ⟨u, hr, h6⟩ => ?_)
      subst hr
      refine seg_bind_wrap ?_
      rw [hA]
      refine nox (thnF h6 fun _ s7 ⟨x, H7, I7, r7, y7, st7, n7⟩ => ?_)
      have I7' := I7.pinned (stat I7 n7) (T.obj _ _ st7)
      refine seg_bind_wrap ?_
      rw [hA]
      refine nox (thnF (pg.run _ s7 _ H7 x u _ I7' r7 (step x H7 y7)) fun _ s8 ⟨σ8, H8, I8, hw8, q8⟩ => ?_)
      have hy : ∀ v, yieldOut (genEnv scope (cloFrom X.env.cells scope.names []) C code builtinsNs X.env) v = yieldValue v := fun v => by
        show (if scope.isCoroutine = true then _ else _) = _
        rw [hco]
        rfl
      simp only [hy]
      rw [Sem.bind_eq_wrap', Sem.bind_eq_wrap', Sem.wrap_wrap, Sem.wrap_wrap]
      refine seg_wrap ?_
      rw [hA]
      refine nox (thnF (pe.run _ s8 σ8 H8 _ I8 q8) fun y s9 ⟨yv, H9, I9, r9, c, ec, q9⟩ => ?_)
      subst ec
      obtain rfl : y = Value.bool c := r9
      have pinA := I9.pin (a, go) (List.mem_append_left _ (List.mem_singleton.mpr rfl))
      refine seg_at (seg_yield rfl rfl rfl ⟨c, rfl, ⟨hgen _ pinA.1, I9.nolimit, I9.bare⟩, I9.os.trans I3.os, ?_⟩)
      by_cases hz : c = z
      · rw [if_pos hz] at q9 ⊢
        exact ⟨H9, outer I9, q9⟩
      · rw [if_neg hz] at q9 ⊢
        intro s'' h1 h2 h3
        have I10 := inv_same I9 h1 h2 h3
        have w' := hN H9 q9
        have still : ∀ b ∈ fp, ∀ o, s7.heap.get? b = some o → s''.heap.get? b = some o ∧ H9 b = none := fun b hb o e =>
          let zz := I10.pin (b, o) (List.mem_append_right _ (List.mem_append_right _ (mem_pinsAt hb e)))
          ⟨zz.1, zz.2.1⟩
        have hl : (wipe σ (own.map (·.2))).length = σ8.length := by rw [← hw8, wipe_length]
        refine seg_again rfl (ih (i + 1) s'' H9 s'' ((I10.unpinned (pins := [])).weak hl (fun j v e => ?_)) (T.keep _ _ _ st7 fun b hb o e => (still b hb o e).1) (fun b hb => ?_) w')
        · rw [← hw8] at e
          exact (wipe_some e).1
        · obtain ⟨o, e, _⟩ := T.obj _ _ st7 b hb
          exact (still b hb o e).2
theorem seg_startG {m : Nat} {s₀ s : Shared} (T : Turn X.prog X.w X.K tg J fp it tn) (st : tn 0 s.heap)
    (loop : Seg (model X.prog X.w) A (GEnd X pins σ Q z) (GPro X pins σ Q z a gn) m s₀
        (.compLoop (.GeneratorExp elt [⟨tg, iter, [], 0⟩] scope gpos) 0 (.ref it) .none (genEnv scope (cloFrom X.env.cells scope.names []) C code builtinsNs X.env))
        ((model X.prog X.w).den (.compLoop (.GeneratorExp elt [⟨tg, iter, [], 0⟩] scope gpos) 0 (.ref it) .none (genEnv scope (cloFrom X.env.cells scope.names []) C code builtinsNs X.env))) [] s) :
    Seg (model X.prog X.w) A (GEnd X pins σ Q z) (GPro X pins σ Q z a gn) m s₀
        (.compStart (.GeneratorExp elt [⟨tg, iter, [], 0⟩] scope gpos) 0 (.ref it) .none (genEnv scope (cloFrom X.env.cells scope.names []) C code builtinsNs X.env))
        ((model X.prog X.w).den (.compStart (.GeneratorExp elt [⟨tg, iter, [], 0⟩] scope gpos) 0 (.ref it) .none (genEnv scope (cloFrom X.env.cells scope.names []) C code builtinsNs X.env))) [] s := by
  show Seg _ A _ _ _ s₀ _ ((compStart (.GeneratorExp elt [⟨tg, iter, [], 0⟩] scope gpos) 0 (.ref it) .none (genEnv scope (cloFrom X.env.cells scope.names []) C code builtinsNs X.env)).onRaise (leaving (genEnv scope (cloFrom X.env.cells scope.names []) C code builtinsNs X.env))) [] s
  unfold compStart
  rw [Sem.onRaise_eq_wrap]
  show Seg _ A _ _ _ s₀ _ ((ask >>= _).wrap _ _ _ _) [] s
  refine seg_bind_wrap (wpAny_askSetting ?_)
  split
  · exact seg_again rfl loop
  · first
      | exact seg_bind_wrap (wpAny_rule (seg_bind_wrap (wpAny_standAt (seg_bind_wrap (T.self _ 0 s _ _ st (seg_again rfl loop))))))
      | (refine seg_bind_wrap (wpAny_rule ?_); show Seg _ A _ _ _ s₀ _ ((standAt iter.pos >>= _).wrap _ _ _ _) [] s; exact seg_bind_wrap (wpAny_standAt (seg_bind_wrap (T.self _ 0 s _ _ st (seg_again rfl loop)))))
end
/-! ### the consumers -/
section
variable {X : Cx} {pins : List (Addr × Obj)} {σ : L2.St} {Q : VK} {a : Addr} {gn : Nat}
theorem AllBare.setGen {s : Shared} {x : GenState} {g : Nat} (h : AllBare s.gens) (hx : x.bare = true) : AllBare (s.setGen g x).gens := by
  intro y hy
  have hy : y ∈ s.gens.setIfInBounds g x := hy
  rcases Array.mem_or_eq_of_mem_setIfInBounds hy with h1 | h1
  · exact h y h1
  · rw [h1]; exact hx
theorem all_loop (hh : X.A.handled = none) (hd : X.A.depth < recursionLimit) : ∀ (m : Nat) (s : Shared) (gs : GenState), Alive a gn s → s.os = X.s_0.os → s.gens[gn]? = some gs →
    gs.Goes (model X.prog X.w) X.A.in1.in1 (GEnd X pins σ Q false) (GPro X pins σ Q false a gn) m (.send .none) (s.setGen gn .running) →
    codeAny (model X.prog X.w) X.A (.builtin "all.loop" ⟨[.ref a], []⟩) (fun r s' => match r with
      | .ok (.ret u) => EP X pins σ Q u s'
      | _ => False) s := by
  intro m
  induction m with
  | zero =>
    intro s gs al os hgs hgo
    refine codeAny_builtin F.entry_all_loop ?_
    rw [Around.under_plainId F.plain_all_loop _]
    show wpAny _ X.A.in1 (pyNext (.ref a) >>= _) _ _ s
    refine wpAny_bind (GenW.wpAny_gsz (Nat.le_refl _) (wpAny_pyNext_genexpQ (A := X.A.in1) (P := fun _ _ s₁ => ∃ H', Inv X pins σ H' s₁ ∧ Q (.bl (!false)) H') hh al.2.1 hd al.1 hgs hgo (fun v s₁ gs' hb hv hsz => ?_) (fun s₁ hp h' hk hsz => ?_)))
    · obtain ⟨b, rfl, al1, os1, q⟩ := hv
      refine wpAny_bind (wpAny_holding (wpAny_truthy_bool ?_))
      refine wpAny_bind (wpAny_letGo ?_)
      cases b with
      | true =>
        rw [if_neg (by decide)] at q
        exact (q s₁ rfl rfl al1.2.2).elim
      | false =>
        rw [if_pos rfl] at q
        obtain ⟨H', I, q⟩ := q
        simp only [Bool.false_eq_true, if_false]
        exact wpAny_bind (wpAny_rule (wpAny_pure ⟨.bl false, H', inv_same I rfl rfl (AllBare.setGen I.bare hb), rfl, q⟩))
    · obtain ⟨H', I, q⟩ := hp
      exact wpAny_bind (wpAny_rule (wpAny_pure ⟨.bl true, H', inv_same (s' := { s₁.setGen gn .finished with heap := h' }) (I.kept (t' := s₁.toks) hk) rfl rfl (AllBare.setGen I.bare rfl), rfl, q⟩))
  | succ m ih =>
    intro s gs al os hgs hgo
    refine codeAny_builtin F.entry_all_loop ?_
    rw [Around.under_plainId F.plain_all_loop _]
    show wpAny _ X.A.in1 (pyNext (.ref a) >>= _) _ _ s
    refine wpAny_bind (GenW.wpAny_gsz (Nat.le_refl _) (wpAny_pyNext_genexpQ (A := X.A.in1) (P := fun _ _ s₁ => ∃ H', Inv X pins σ H' s₁ ∧ Q (.bl (!false)) H') hh al.2.1 hd al.1 hgs hgo (fun v s₁ gs' hb hv hsz => ?_) (fun s₁ hp h' hk hsz => ?_)))
    · obtain ⟨b, rfl, al1, os1, q⟩ := hv
      refine wpAny_bind (wpAny_holding (wpAny_truthy_bool ?_))
      refine wpAny_bind (wpAny_letGo ?_)
      cases b with
      | true =>
        rw [if_neg (by decide)] at q
        simp only [if_true]
        have lt : gn < s₁.gens.size := by
          rw [GenW.setGen_size] at hsz
          rcases Nat.lt_or_ge gn s.gens.size with z | z
          · exact Nat.lt_of_lt_of_le z hsz
          · rw [Array.getElem?_eq_none z] at hgs; cases hgs
        have g1 : (s₁.setGen gn gs').gens[gn]? = some gs' := by
          simp [Shared.setGen, lt]
        refine wpAny_pure ⟨plainId_quiet F.plain_all_loop _, ih (s₁.setGen gn gs') gs' ⟨al1.1, al1.2.1, AllBare.setGen al1.2.2 hb⟩ os1 g1 ?_⟩
        exact q ((s₁.setGen gn gs').setGen gn .running) rfl rfl (AllBare.setGen (AllBare.setGen al1.2.2 hb) rfl)
      | false =>
        rw [if_pos rfl] at q
        obtain ⟨H', I, q⟩ := q
        simp only [Bool.false_eq_true, if_false]
        exact wpAny_bind (wpAny_rule (wpAny_pure ⟨.bl false, H', inv_same I rfl rfl (AllBare.setGen I.bare hb), rfl, q⟩))
    · obtain ⟨H', I, q⟩ := hp
      exact wpAny_bind (wpAny_rule (wpAny_pure ⟨.bl true, H', inv_same (s' := { s₁.setGen gn .finished with heap := h' }) (I.kept (t' := s₁.toks) hk) rfl rfl (AllBare.setGen I.bare rfl), rfl, q⟩))
theorem call_allG {s : Shared} {m : Nat} {gs : GenState} (hh : X.A.handled = none) (hd : X.A.depth < recursionLimit) (al : Alive a gn s) (os : s.os = X.s_0.os) (hgs : s.gens[gn]? = some gs)
    (hgo : gs.Goes (model X.prog X.w) X.A.in1.in1 (GEnd X pins σ Q false) (GPro X pins σ Q false a gn) m (.send .none) (s.setGen gn .running)) :
    wpAny (model X.prog X.w) X.A (call (.builtin "all") [.ref a]) (EP X pins σ Q) X.xe s := by
  refine call_function_tree F.kind_all F.plain_all F.entry_all (F.args_all1 _) ?_
  unfold Builtin.«all»
  refine wpAny_bind (m := oneArg "all" _) (wpAny_pure ?_)
  refine wpAny_bind (wpAny_pyIter_gen al.1 ?_)
  refine wpAny_pure ⟨plainId_quiet F.plain_all_loop _, codeAny_mono (all_loop hh hd m s gs al os hgs hgo) fun r s' z => ?_⟩
  rcases r with e | (v | _ | _ | _) <;> first
    | exact z
    | exact z.elim
end
end K9

namespace K9
open PySem PySem.Spec PyProof.Rows L2 L2H HotX Evl
section
variable {X : Cx} {k : Nat} {c P : Addr} {elt tg iter : Expr} {scope : Scope} {own : List (Str × Nat)} {p pos gpos : Pos} {wi : TI} {g : TG} {te : TE}
theorem pe_allG (hc : X.calm = true) (hr : RoomH (k + 1) X.A) (hg : Gl X "all") (hm : X.mg "all" = none) (TB : TabK X.base X.mg c P) (hcode : X.env.code = .ref c) (hN : X.N.Nodup) (ok : BlkOk X.N X.env.scope scope own)
    (hcell : ∀ y ∈ scope.names, y.2 ≠ .cell) (hco : scope.isCoroutine = false) (h0 : scope.names.lookup (".0" : Str) = some NameKind.local) (hi : PI X tg iter wi)
    (pg : ∀ (A : Around) (s : Shared) (H : Hp) (C : Addr) (code : Value) (fp : List Addr) (pn : List (Addr × Obj)), PG (gX X A s H scope C code fp pn) tg g)
    (pe : ∀ (A : Around) (s : Shared) (H : Hp) (C : Addr) (code : Value) (fp : List Addr) (pn : List (Addr × Obj)), Room k A → PE (gX X A s H scope C code fp pn) elt te)
    (hb : bootBuiltins "all" = some (.builtin "all") := by decide +kernel)
    (hs : ∀ v, genFold iter X.env v = pure v := by intro _; rfl)
    (he : starEach [.GeneratorExp elt [⟨tg, iter, [], 0⟩] scope gpos] X.env = (false, eval (.GeneratorExp elt [⟨tg, iter, [], 0⟩] scope gpos) X.env) :: starEach [] X.env := by rfl) :
    PE X (.Call (.Name "all" p) [.GeneratorExp elt [⟨tg, iter, [], 0⟩] scope gpos] [] pos) (tAllG P false wi g te (own.map (·.2))) := by
  refine ⟨fun pins s σ H Q I h => ?_⟩
  have hh := I.ok.hd hc
  have dp : X.A.depth < recursionLimit := by have := hr.dp; omega
  have caps : ∀ y ∈ scope.names, y.2 = .free → ∃ c, X.env.cells.lookup y.1 = some c := fun y hy e => by
    rcases ok.free y hy e with k | k
    · exact I.ok.has _ (.inl k)
    · exact I.ok.has _ (.inr k)
  refine wpAny_Call_Name_kw (ld_blt I hg hm hb ?_)
  refine PyProof.Rows.callWith_builtin1 ?_ he (by rfl)
  rw [he]
  show wpAny _ _ (spliced ((false, eval (.GeneratorExp elt [⟨tg, iter, [], 0⟩] scope gpos) X.env) :: backTo pos (starEach [] X.env))) _ _ s
  refine Calls.spliced_cons ?_
  refine wpAny_GeneratorExp_make hco (closure_ok caps) hcell h0 ok.kind dp ?_ hs
  refine thn (hi.run pins s σ H _ I h) fun xv s1 hx => thn hx fun itv s2 h2 => ?_
  obtain ⟨it, fp, tn, J, H2, e, I2, T, st2, f2, hT, W, ⟨m0, w0⟩, turn⟩ := h2
  subst e
  refine ⟨I2.nolimit, ?_⟩
  obtain ⟨⟨ps, hP, ht⟩, _⟩ := (show ObjOk X.prog X.w H2 s2.heap P (.ext (TabF P)) from I2.hok P _ hT)
  have cd : PySem.W.CodeHd s2.heap c P := TB.code.keeps I2.bk
  have cont : ∀ (cv : Value) (s3 : Shared), Inv X pins σ H2 s3 → tn 0 s3.heap → (∀ b ∈ fp, b < s3.heap.objs.size) → wpAny (model X.prog X.w) X.A (builtinsFor X.env.globals X.env.builtins) (fun bi s₄ =>
        ∀ h' : Heap, h'.Ns s₄.heap.objs.size (fun y => if y = ".0" then some (.ref it) else none) → Heap.SameBut s₄.heap.objs.size (s₄.heap.push { cls := .type "frame", data := .dict #[] }) h' →
          wpAny (model X.prog X.w) X.A (call (.builtin "all") [.ref h'.objs.size]) (EP X pins σ Q) X.xe { s₄ with
            gens := s₄.gens.push (.fresh (.compStart (.GeneratorExp elt [⟨tg, iter, [], 0⟩] scope gpos) 0 (.ref it) .none (genEnv scope (cloFrom X.env.cells scope.names []) s₄.heap.objs.size cv bi X.env))),
            toks := s₄.toks + 1 + 1 + 1,
            heap := h'.push { cls := .type "generator", data := .fields #[.int s₄.gens.size 0, .str "<genexpr>" (s₄.toks + 1), .str (X.env.qual ++ "<genexpr>") (s₄.toks + 1 + 1)] } }) X.xe s3 := by
    intro cv s3 I3 st3 lt3
    obtain ⟨bm, ob, e1, e2, e3, e4, e5, e6⟩ := TB.bm
    refine wpAny_builtinsFor (m := X.mg) (by rw [I3.ok.glob]; exact I3.mod.glob.keeps I3.bk) e1 e2 (I3.bk _ _ e3) e4 e5 e6 ?_
    intro h' hn' hs'
    have hsz : h'.objs.size = s3.heap.objs.size + 1 := by rw [hs'.1, Heap.size_push]
    have keep' : ∀ b o, s3.heap.get? b = some o → h'.get? b = some o := fun b o e => hs'.extBut b o (Nat.ne_of_lt (Heap.lt_size e)) (Heap.get?_push_of_some _ e)
    generalize hgo : ({ cls := .type "generator", data := .fields #[.int s3.gens.size 0, .str "<genexpr>" (s3.toks + 1), .str (X.env.qual ++ "<genexpr>") (s3.toks + 1 + 1)] } : Obj) = go
    have hpushed : (h'.push go).get? h'.objs.size = some go := by
      rw [← hgo]
      exact Heap.get?_push_size _ rfl
    have hgen : ∀ hx : Heap, hx.get? h'.objs.size = some go → hx.IsGen h'.objs.size s3.gens.size := fun hx e => by
      rw [← hgo] at e
      exact ⟨_, _, _, e, rfl, rfl, rfl⟩
    have hnc : ∀ v, go.data ≠ .cell v := fun v q => by
      rw [← hgo] at q
      cases q
    have keep5 : ∀ b o, s3.heap.get? b = some o → (h'.push go).get? b = some o := fun b o e => Heap.get?_push_of_some _ (keep' b o e)
    generalize hA : (X.A.in1.in1).over (.compLoop (.GeneratorExp elt [⟨tg, iter, [], 0⟩] scope gpos) 0 (.ref it) .none (genEnv scope (cloFrom X.env.cells scope.names []) s3.heap.objs.size cv builtinsNs X.env)) [] = Ai
    have hAh : Ai.handled = none := by
      rw [← hA]
      exact hh
    have hAf : Ai.frames = some (genEnv scope (cloFrom X.env.cells scope.names []) s3.heap.objs.size cv builtinsNs X.env :: X.stack) := by
      rw [← hA]
      show pushEnvs [genEnv scope (cloFrom X.env.cells scope.names []) s3.heap.objs.size cv builtinsNs X.env] (pushEnvs [] X.A.frames) = _
      rw [I3.ok.frames]
      rfl
    have hAr : Room k Ai := by
      refine ⟨hAh, ?_, ?_⟩
      · rw [← hA]
        show X.A.depth + 0 + 1 + 3 * k + 5 < _
        have := hr.dp
        omega
      · rw [← hA]
        show X.A.units + 1 + 1 + 0 + 3 + 16 * k + 200 < _
        have := hr.un
        omega
    refine call_allG (m := m0) hh dp ⟨hgen _ hpushed, I3.nolimit.keeps keep5, ?_⟩ I3.os (Array.getElem?_push_size ..) ⟨rfl, ?_⟩
    · exact AllBare.push I3.bare rfl
    · have f3 : ∀ b ∈ fp, FpOk X pins H2 b ∧ b < s3.heap.objs.size := fun b hb => ⟨f2 b hb, lt3 b hb⟩
      have nfp : ∀ b ∈ fp, H2 b = none := fun b hb => (f2 b hb).1
      have stG : tn 0 (h'.push go) := T.keep _ _ _ st3 fun b _ o e => keep5 b o e
      have haz : s3.heap.objs.size ≤ h'.objs.size := by omega
      refine seg_startG T stG (seg_loopG I3 T f3 haz hgen hco hA (pg Ai s3 H2 s3.heap.objs.size cv fp [(h'.objs.size, go)]) (pe Ai s3 H2 s3.heap.objs.size cv fp [(h'.objs.size, go)] hAr) turn m0 0 _ H2 _ ?_ stG nfp w0)
      exact gen_start (own := own) I3 ok hcell hN f3 keep5 (Nat.le_refl _) (hn'.push _) hAf hAh rfl (AllBare.setGen (AllBare.push I3.bare rfl) rfl) hpushed haz (by rw [hsz]; exact Nat.succ_ne_self _) hnc
  have lt2 : ∀ b ∈ fp, b < s2.heap.objs.size := fun b hb => by
    obtain ⟨o, e, _⟩ := T.obj _ _ st2 b hb
    exact Heap.lt_size e
  cases hf : codeAmong gpos ps.toList with
  | none =>
    refine wpAny_genexprCodeX hcode (cd.code hP ht) (cd.tab hP) hf fun c' h' tk hx hge hlt hco' _ htab' _ => ?_
    have htr : TriplesOk (ps ++ #[rawInt gpos.line, rawInt gpos.col, .ref c']).toList := by
      obtain ⟨o1, vs, f1, tf, fl, tg, inF, tx, tt, op, _, _, _, _, _, _, _, _, _, htr, _⟩ := hco'
      exact htr
    have neP : ∀ b, H2 b = none → b ≠ P := fun b e z => by
      rw [z, hT] at e
      cases e
    refine thn (cont (.ref c') _ (inv_tabX (t' := tk) I2 hT (fun b o hb e => hx b o hb e) ⟨_, htab'.2, htr⟩) (T.keep _ _ _ st2 fun b hb o e => hx b o (neP b (f2 b hb).1) e) (fun b hb => Nat.lt_of_lt_of_le (lt2 b hb) (Nat.le_trans hge (Nat.le_of_lt hlt)))) fun bi s4 z => ?_
    exact fun h' a b => Calls.spliced_nil (z h' a b)
  | some cv =>
    refine wpAny_genexprCode_hit hcode (cd.code hP ht) hf ?_
    refine thn (cont cv s2 I2 st2 lt2) fun bi s4 z => ?_
    exact fun h' a b => Calls.spliced_nil (z h' a b)
end
end K9

namespace K9
open PySem PySem.Spec PyProof.Rows L2 L2H HotX Evl
/-! ### a law's promise over tables that are tracked whatever they hold -/
def tabsX (cs : List (Addr × Addr)) (H : Hp) : Hp := fun b => if b ∈ cs.map (·.2) then some (.ext (TabF b)) else H b
def tabsT (cs : List (Addr × Addr)) (h : Heap) (H : Hp) : Hp := fun b => if b ∈ cs.map (·.2) then (match h.get? b with
  | some ⟨_, _, .fields ps, _⟩ => some (.tbl ps)
  | _ => some (.tbl #[])) else H b
def spT (cs : List (Addr × Addr)) (sp : Sp) : Sp := fun vs H Q E => (∀ p ∈ cs, H p.2 = some (.tbl #[])) ∧ sp vs (tabsX cs H) (fun v H' => (∀ p ∈ cs, TabX H' p.2) ∧ ∀ H'', Q v H'') E
theorem fn_tabs {P : Program} {w : World} {K : PySem.W.Frag} {mg : Str → Option Value} {base : Heap} {k : Nat} {f : Addr} {fd : FuncData} {ps : List Str} {sp : Sp} (cs : List (Addr × Addr))
    (F : FnOk P w K mg base CX0 k f fd ps sp) : FnOk P w K mg base CX0 k f fd ps (spT cs sp) := by
  refine ⟨fun vs H Q E h => F.len _ _ _ _ h.2, fun A outer s H args us vs Q E hr e0 hb r h => ?_⟩
  obtain ⟨ht, h⟩ := h
  have at_ : ∀ b, b ∈ cs.map (·.2) → H b = some (.tbl #[]) := fun b hm => by
    obtain ⟨p, hp, e⟩ := List.mem_map.mp hm
    rw [← e]
    exact ht p hp
  have out : ∀ b, H b = none → tabsX cs H b = none := fun b e => by
    unfold tabsX
    rw [if_neg (fun hm => by rw [at_ b hm] at e; cases e)]
    exact e
  have same : ∀ b u, H b = some u → (∀ qs, u ≠ .tbl qs) → tabsX cs H b = some u := fun b u e hu => by
    unfold tabsX
    rw [if_neg (fun hm => by rw [at_ b hm] at e; exact hu _ (Option.some.inj e).symm)]
    exact e
  have e1 : Env0 P w K mg base A outer s (tabsX cs H) := by
    refine ⟨e0.frames, e0.mod, fun b o e => ⟨(e0.bs b o e).1, out b (e0.bs b o e).2⟩, e0.bsz, e0.funs, fun b hb => out b (e0.frf b hb), fun b u e => ?_, e0.bare⟩
    by_cases hm : b ∈ cs.map (·.2)
    · have e2 : tabsX cs H b = some (.ext (TabF b)) := if_pos hm
      rw [e2] at e
      cases e
      exact tabF_ok ⟨#[], e0.hok b _ (at_ b hm), by trivial⟩
    · have e2 : tabsX cs H b = H b := if_neg hm
      rw [e2] at e
      exact (e0.hok b u e).stay (fun c v _ q => q) (fun c q => same c _ q fun _ z => by cases z) fun c xs q => same c _ q fun _ z => by cases z
  refine codeAny_mono (F.run A outer s (tabsX cs H) args us vs _ E hr e1 hb r h) fun r s' z => ?_
  rcases r with e | (u | _ | _ | _)
  · exact z.elim
  · exact z.elim
  · exact z.elim
  · exact z.elim
  · obtain ⟨v, H', os, bare, un, hok, rv, hT, q⟩ := z
    have tb : ∀ b, b ∈ cs.map (·.2) → ∃ ps : Array Value, s'.heap.get? b = some { cls := .none, data := .fields ps } ∧ tabsT cs s'.heap H' b = some (.tbl ps) := fun b hm => by
      obtain ⟨p, hp, e⟩ := List.mem_map.mp hm
      have hx := hT p hp
      rw [e] at hx
      obtain ⟨⟨ps, h1, _⟩, _⟩ := (show ObjOk P w H' s'.heap b (.ext (TabF b)) from hok b _ hx)
      refine ⟨ps, h1, ?_⟩
      unfold tabsT
      rw [if_pos hm, h1]
    have ow : ∀ b, b ∉ cs.map (·.2) → tabsT cs s'.heap H' b = H' b := fun b hm => if_neg hm
    have nt : ∀ b u, H b = some u → (∀ qs, u ≠ .tbl qs) → b ∉ cs.map (·.2) := fun b u e hu hm => by
      rw [at_ b hm] at e
      exact hu _ (Option.some.inj e).symm
    have n0 : ∀ b, H b = none → b ∉ cs.map (·.2) := fun b e hm => by
      rw [at_ b hm] at e
      cases e
    refine ⟨v, tabsT cs s'.heap H', os, bare, ⟨fun b o e n => un.keep b o e (out b n), fun b o e n => un.slot b o e (out b n), fun b o e n nx => ?_, un.there, fun b xs e => ?_, fun b o u e => ?_, fun b qs e => ?_⟩, fun b u e => ?_, rv, q _⟩
    · rw [ow b (n0 b n)]
      exact un.free b o e (out b n) nx
    · rw [ow b (nt b _ e fun _ z => by cases z)]
      exact un.tups b xs (same b _ e fun _ z => by cases z)
    · rw [ow b (nt b _ e fun _ z => by cases z)]
      exact un.frzs b o u (same b _ e fun _ z => by cases z)
    · by_cases hm : b ∈ cs.map (·.2)
      · rw [at_ b hm] at e
        cases e
        obtain ⟨ps, _, h2⟩ := tb b hm
        exact ⟨ps, by rw [h2, Array.empty_append]⟩
      · rw [ow b hm]
        have e2 : tabsX cs H b = H b := if_neg hm
        exact un.tbls b qs (by rw [e2]; exact e)
    · by_cases hm : b ∈ cs.map (·.2)
      · obtain ⟨ps, h1, h2⟩ := tb b hm
        rw [h2] at e
        cases e
        exact h1
      · rw [ow b hm] at e
        have st : ∀ c u, H' c = some u → (∀ φ, u ≠ .ext φ) → tabsT cs s'.heap H' c = some u := fun c u ec hu => by
          rw [ow c (fun hc => ?_)]
          · exact ec
          · obtain ⟨p, hp, ep⟩ := List.mem_map.mp hc
            have hx := hT p hp
            rw [ep] at hx
            rw [hx] at ec
            exact hu _ (Option.some.inj ec).symm
        exact (hok b u e).stay (fun c v _ q => q) (fun c q => st c _ q fun _ z => by cases z) fun c xs q => st c _ q fun _ z => by cases z
end K9

/-! ### pairs of a text and an int, in order -/
namespace PySem
namespace K9S
open PySem PySem.Spec PyProof.Rows SrtO
theorem str_ext {a b : Str} (h : a.cps.toList = b.cps.toList) : a = b := by
  obtain ⟨x⟩ := a
  obtain ⟨y⟩ := b
  have h : x.toList = y.toList := h
  have : x = y := Array.toList_inj.mp h
  rw [this]
def ltZ (a b : Str) : Prop := a.cps.toList < b.cps.toList
theorem ltZ_tri {a b : Str} (h : ¬ ltZ a b) (n : a ≠ b) : ltZ b a := by
  by_cases h2 : ltZ b a
  · exact h2
  · exact absurd (str_ext (List.le_antisymm (List.not_lt.mp h2) (List.not_lt.mp h))) n
theorem ltZ_trans {a b c : Str} (h : ltZ a b) (h2 : ltZ b c) : ltZ a c := List.lt_trans h h2
theorem ltZ_irr (a : Str) : ¬ ltZ a a := List.lt_irrefl _
def lexS (p q : Str × Int) : Bool := if p.1 = q.1 then decide (p.2 < q.2) else decide (p.1.cps.toList < q.1.cps.toList)
theorem lexS_yes {p q : Str × Int} : lexS p q = true ↔ ltZ p.1 q.1 ∨ (p.1 = q.1 ∧ p.2 < q.2) := by
  unfold lexS
  by_cases e : p.1 = q.1
  · rw [if_pos e, decide_eq_true_eq]
    constructor
    · exact fun h => .inr ⟨e, h⟩
    · rintro (h | h)
      · rw [e] at h
        exact absurd h (ltZ_irr _)
      · exact h.2
  · rw [if_neg e, decide_eq_true_eq]
    constructor
    · exact fun h => .inl h
    · rintro (h | h)
      · exact h
      · exact absurd h.1 e
theorem lexS_no {p q : Str × Int} : lexS p q = false ↔ ltZ q.1 p.1 ∨ (q.1 = p.1 ∧ q.2 ≤ p.2) := by
  have : lexS p q = false ↔ ¬ (lexS p q = true) := by cases lexS p q <;> simp
  rw [this, lexS_yes]
  constructor
  · intro h
    by_cases e : p.1 = q.1
    · exact .inr ⟨e.symm, by
        by_cases h2 : p.2 < q.2
        · exact absurd (.inr ⟨e, h2⟩) h
        · omega⟩
    · exact .inl (ltZ_tri (fun z => h (.inl z)) e)
  · rintro (h | ⟨h1, h2⟩) (k | ⟨k1, k2⟩)
    · exact ltZ_irr _ (ltZ_trans h k)
    · rw [k1] at h
      exact ltZ_irr _ h
    · rw [h1] at k
      exact ltZ_irr _ k
    · omega
theorem swo_lexS {α : Type} (k : α → Str × Int) : Swo fun v u => lexS (k v) (k u) := by
  refine ⟨fun x y h => ?_, fun x y z h1 h2 => ?_⟩
  · rw [lexS_yes] at h
    rw [lexS_no]
    rcases h with h | ⟨h1, h2⟩
    · exact .inl h
    · exact .inr ⟨h1, by omega⟩
  · rw [lexS_no] at h1 h2 ⊢
    rcases h1 with h1 | ⟨a1, b1⟩ <;> rcases h2 with h2 | ⟨a2, b2⟩
    · exact .inl (ltZ_trans h1 h2)
    · exact .inl (by rw [← a2]; exact h1)
    · exact .inl (by rw [a1]; exact h2)
    · exact .inr ⟨a1.trans a2, by omega⟩
def IsPairZ (h : Heap) (v : Value) (p : Str × Int) : Prop := ∃ a o t u n, v = .ref a ∧ h.get? a = some o ∧ o.cls = .type "tuple" ∧ o.data = .seq #[.str p.1 t, .int p.2 u] n
theorem IsPairZ.keeps {h h' : Heap} {v : Value} {p : Str × Int} (x : IsPairZ h v p) (k : ∀ b o, h.get? b = some o → o.cls = .type "tuple" → h'.get? b = some o) : IsPairZ h' v p := by
  obtain ⟨a, o, t, u, n, e, ho, hc, hd⟩ := x
  exact ⟨a, o, t, u, n, e, k _ _ ho hc, hc, hd⟩
theorem heads_of {h : Heap} : ∀ {vs : List Value}, (∀ v ∈ vs, ∃ p, IsPairZ h v p) → ∃ fs : List Value, PySem.W.KatTups h vs fs ∧ fs.length = vs.length ∧ ∀ f ∈ fs, ∃ x t, f = Value.str x t
  | [], _ => ⟨[], PySem.W.KatTups.nil, rfl, fun _ hm => by simp at hm⟩
  | v :: vs, hp => by
    obtain ⟨fs, h1, h2, h3⟩ := heads_of (vs := vs) fun v' hm => hp v' (List.mem_cons_of_mem _ hm)
    obtain ⟨p, a, o, t, u, n, e, ho, hc, hd⟩ := hp v (List.mem_cons_self ..)
    subst e
    refine ⟨.str p.1 t :: fs, PySem.W.KatTups.cons ho hc hd rfl h1, by simp [h2], fun f hm => ?_⟩
    rcases List.mem_cons.mp hm with rfl | hm
    · exact ⟨_, t, rfl⟩
    · exact h3 f hm
section
variable {prog : Program} {w : World} {A : Around} {E : Value → Shared → Prop} {s : Shared}
theorem pairZ_cmp {vs : List Value} {k : Value → Str × Int} (hp : ∀ v ∈ vs, IsPairZ s.heap v (k v)) : Cmp prog w A s (tuples' true) (fun p => p.1 ∈ vs) (lt2 fun v u => lexS (k v) (k u)) := by
  intro p q hm hm'
  have h1 := hp _ hm
  have h2 := hp _ hm'
  show wpAny (model prog w) A (keyLt' (tuples' true) p.1 q.1) (fun r s' => s' = s ∧ r = lexS (k p.1) (k q.1)) (fun _ _ => False) s
  generalize k p.1 = x at h1 ⊢
  generalize k q.1 = y at h2 ⊢
  obtain ⟨x1, x2⟩ := x
  obtain ⟨y1, y2⟩ := y
  obtain ⟨a, o, t, u, n, e, ho, hc, hd⟩ := h1
  obtain ⟨a', o', t', u', n', e', ho', hc', hd'⟩ := h2
  rw [e, e']
  refine PySem.W.kat_lt ho hd ho' hd' ?_
  show PySem.W.KatLex prog w A true (decide (2 < 2)) _ [(.str x1 t, .str y1 t'), (.int x2 u, .int y2 u')] 0 s
  refine PySem.W.kat_cons (SeqAt.EqAt.str_str x1 t y1 t' prog w _ _ ?_)
  refine PySem.W.kat_go (fun e1 => ?_) (fun e1 => ?_)
  · have ex : x1 = y1 := by simpa using e1
    have e3 : lexS (x1, x2) (y1, y2) = decide (x2 < y2) := if_pos ex
    refine PySem.W.kat_yes (PySem.W.kat_cons (SeqAt.EqAt.int_int x2 u y2 u' prog w _ _ ?_))
    refine PySem.W.kat_go (fun e2 => ?_) (fun e2 => ?_)
    · have ey : x2 = y2 := by simpa using e2
      have e4 : lexS (x1, x2) (y1, y2) = false := by
        rw [e3, ey]
        exact decide_eq_false (Int.lt_irrefl _)
      exact PySem.W.kat_yes (PySem.W.kat_nil ⟨rfl, e4.symm⟩)
    · refine PySem.W.kat_no (PySem.W.kat_one _ _ (PyProof.Rows.lt_int ?_))
      exact (show s = s ∧ decide (x2 < y2) = lexS (x1, x2) (y1, y2) from ⟨rfl, e3.symm⟩)
  · have ex : ¬ x1 = y1 := by simpa using e1
    have e3 : lexS (x1, x2) (y1, y2) = decide (x1.cps.toList < y1.cps.toList) := if_neg ex
    exact PySem.W.kat_no (oneLt_str ⟨rfl, e3.symm⟩)
theorem pairZ_sortable {a : Addr} {vs : List Value} {k : Value → Str × Int} (h0 : 0 < vs.length) (hp : ∀ v ∈ vs, IsPairZ s.heap v (k v)) (ha : ∀ o, s.heap.get? a = some o → o.cls ≠ .type "tuple") : SortableO prog w A s a vs fun v u => lexS (k v) (k u) := by
  intro h' keep
  have hp' : ∀ v ∈ vs, IsPairZ h' v (k v) := fun v hm => (hp v hm).keeps fun b o e c => keep b o (fun z => by subst z; exact ha o e c) e
  obtain ⟨fs, h1, h2, h3⟩ := heads_of fun v hm => ⟨_, hp' v hm⟩
  refine ⟨tuples' true, fun Q E hq => ?_, pairZ_cmp hp'⟩
  refine PySem.W.kat_kind (T := .type "str") h1 (by omega) (fun f hm => ?_) (by rfl) ?_
  · obtain ⟨x, t, rfl⟩ := h3 f hm
    exact PySem.W.Looks.now
  · have e : (Value.type "str" != Value.type "tuple") = true := by first | decide +kernel | rfl | decide
    rw [e]
    exact hq
/-- the items of a list or of a tuple, collected -/
theorem gather {l : Addr} {vs : List Value} {T : String} {Q : List Value → Shared → Prop} (hT : T = "list" ∨ T = "tuple") (hl : ∃ o n, s.heap.get? l = some o ∧ o.cls = .type T ∧ o.data = .seq vs.toArray n)
    (h : Q vs { s with heap := (s.heap.push (seqObj "list" #[] 0)).update s.heap.objs.size (Obj.mapSeq (· ++ vs.toArray)) }) (hz : vs.length ≤ sizeLine) : wpAny (model prog w) A (collect (.ref l)) Q E s := by
  obtain ⟨o, n, ho, hc, hd⟩ := hl
  unfold collect
  refine wpAny_bind (wpAny_runValue (codeAny_builtin entry_proto_collect' ?_))
  show wpAny _ _ (do again (.builtin "list.__iadd__" ⟨[← newList [], .ref l], []⟩)) _ _ s
  refine wpAny_bind (wpAny_newList (wpAny_pure ⟨Code.quiet_builtin _ (by decide +kernel), codeAny_builtin entry_list_iadd' ?_⟩))
  show wpAny _ _ (Builtin.List.listExtendWith (.ref s.heap.objs.size) (.ref l) (.ref s.heap.objs.size)) _ _ { s with heap := s.heap.push (seqObj "list" #[] 0) }
  unfold Builtin.List.listExtendWith
  have ho' : (s.heap.push (seqObj "list" #[] 0)).get? l = some o := Heap.get?_push_of_some _ ho
  refine wpAny_bind (wpAny_typeOf (T := T) ⟨o, ho', hc⟩ ?_)
  have t1 : (Value.type "list" == Value.type "list") = true := by rfl
  have t2 : (Value.type "tuple" == Value.type "tuple") = true := by rfl
  rw [if_pos (by
    rcases hT with rfl | rfl
    · rw [t1, Bool.or_true, Bool.true_or]
    · rw [t2, Bool.or_true])]
  refine wpAny_bind (listItems_at ho' hd ?_)
  refine wpAny_bind (listItems_at (xs := #[]) (n := 0) (Heap.get?_push_size _ rfl) rfl ?_)
  rw [if_neg (by simp)]
  refine wpAny_bind (listUpdate_at (xs := #[]) (n := 0) (Heap.get?_push_size _ rfl) rfl ?_ (Nat.zero_le _) (by show (#[] ++ vs.toArray).size ≤ sizeLine + 1; simp only [Array.size_append, List.size_toArray, List.length_nil]; omega))
  refine wpAny_pure ?_
  show wpAny (model prog w) A (do
      let o ← load s.heap.objs.size
      match o.data with
      | .seq xs _ => pure xs.toList
      | _ => unsupported "internal:collect") Q E { s with heap := (s.heap.push (seqObj "list" #[] 0)).update s.heap.objs.size (Obj.mapSeq (· ++ vs.toArray)) }
  refine wpAny_bind (wpAny_load (get?_update_seq (Heap.get?_push_size _ rfl) _) ?_)
  show wpAny _ _ (pure ((#[] : Array Value) ++ vs.toArray).toList) Q E _
  rw [show ((#[] : Array Value) ++ vs.toArray).toList = vs by simp]
  exact wpAny_pure h
/-- sorted of a list or of a tuple of such pairs -/
theorem sortedZ {l : Addr} {vs : List Value} {T : String} {k : Value → Str × Int} {Q : Value → Shared → Prop} (hT : T = "list" ∨ T = "tuple") (hl : ∃ o n, s.heap.get? l = some o ∧ o.cls = .type T ∧ o.data = .seq vs.toArray n) (hz : vs.length ≤ sizeLine) (hp : ∀ v ∈ vs, IsPairZ s.heap v (k v))
    (h : ∀ (h' : Heap) (d : Addr) (out : List Value), Srtd (fun v u => lexS (k v) (k u)) out → Stb (fun v u => lexS (k v) (k u)) out vs → (∀ b o, s.heap.get? b = some o → h'.get? b = some o) → s.heap.objs.size ≤ d → (∃ n, h'.get? d = some (seqObj "list" out.toArray n)) → Q (.ref d) { s with heap := h' }) :
    wpAny (model prog w) A (call (.builtin "sorted") [.ref l]) Q E s := by
  have O : Swo fun v u => lexS (k v) (k u) := swo_lexS k
  refine Calls.call_function_entry kind_sorted plain_sorted entry_sorted (args_sorted1 _) ?_
  unfold Builtin.«sorted»
  refine wpAny_bind (m := checkCount "sorted" 1 1 _) (wpAny_pure ?_)
  refine wpAny_bind (gather hT hl ?_ hz)
  refine wpAny_bind (wpAny_newList ?_ hz)
  have sz : ((s.heap.push (seqObj "list" #[] 0)).update s.heap.objs.size (Obj.mapSeq (· ++ vs.toArray))).objs.size = s.heap.objs.size + 1 := by
    rw [Heap.size_update, size_push']
  have new : (((s.heap.push (seqObj "list" #[] 0)).update s.heap.objs.size (Obj.mapSeq (· ++ vs.toArray))).push (seqObj "list" vs.toArray 0)).get? (s.heap.objs.size + 1) = some (seqObj "list" vs.toArray 0) := by
    rw [← sz]
    exact Heap.get?_push_size _ rfl
  have keep : ∀ b o, s.heap.get? b = some o → (((s.heap.push (seqObj "list" #[] 0)).update s.heap.objs.size (Obj.mapSeq (· ++ vs.toArray))).push (seqObj "list" vs.toArray 0)).get? b = some o := fun b o q => by
    refine Heap.get?_push_of_some _ ?_
    rw [Heap.get?_update_ne _ _ _ _ (Nat.ne_of_lt (Heap.lt_size q))]
    exact Heap.get?_push_of_some _ q
  show wpAny _ _ _ _ _ { s with heap := ((s.heap.push (seqObj "list" #[] 0)).update s.heap.objs.size (Obj.mapSeq (· ++ vs.toArray))).push (seqObj "list" vs.toArray 0) }
  rw [sz]
  refine wpAny_bind (wpAny_holding (wpAny_call_entry slot_list_sort ⟨_, new, rfl⟩ entry_list_sort (list_sort_ord O new hz (fun h2 => ?_) fun out hs hb => ⟨_, rfl, ?_⟩) (args_list_sort _)))
  · refine pairZ_sortable (by omega) (fun v hm => (hp v hm).keeps fun b o e _ => keep b o e) fun o e c => ?_
    have e' : some o = some (seqObj "list" vs.toArray 0) := e.symm.trans new
    cases e'
    exact absurd (Value.type.inj c) (by decide)
  · exact wpAny_pure ⟨_, rfl, h _ _ out hs hb (fun b o e => sortedAll_old e) (Nat.le_succ _) (sortedAll_at s.heap vs out.toArray)⟩
end
end K9S
end PySem
namespace K9
open PySem PySem.Spec PyProof.Rows L2 L2H HotX Evl
abbrev ltN (k : V → Str × Int) (x y : V) : Bool := PySem.K9S.lexS (k x) (k y)
theorem ltN_swo (k : V → Str × Int) : SrtO.Swo (ltN k) := PySem.K9S.swo_lexS k
/-- sorted(xs), xs a list or a tuple of pairs of a text and an int -/
def rSortedN (K : PySem.W.Frag) : List V → Hp → VK → Prop := fun vs H Q => ∃ (a : Addr) (xs : List V) (k : V → Str × Int), vs = [V.ref a] ∧ (SqL K H a xs ∨ SqT K H a xs) ∧ (∀ x ∈ xs, ∃ t, x = V.ref t ∧ H t = some (.tup [.str (k x).1, .int (k x).2])) ∧
  ∀ ys p, SrtO.Srtd (ltN k) ys → SrtO.Stb (ltN k) ys xs → H p = none → Q (.ref p) (upd H p (.lst ys))
section
variable {X : Cx}
theorem cr_sortedN : CallR X (.builtin "sorted") (rSortedN X.K) := by
  intro pins s σ H vs us Q I r h
  obtain ⟨a, xs, k, rfl, hs, hx, q⟩ := h
  obtain ⟨u, rfl, ru⟩ := vals1 r
  obtain rfl : u = Value.ref a := ru
  have got : ∃ (its : List Value) (T : String), (T = "list" ∨ T = "tuple") ∧ Vals xs its ∧ (∃ o n, s.heap.get? a = some o ∧ o.cls = .type T ∧ o.data = .seq its.toArray n) ∧ xs.length ≤ sizeLine := by
    rcases hs with hs | hs
    · obtain ⟨its, rv, hl, hz⟩ := I.list hs
      obtain ⟨o, ho, hc, n, hd⟩ := hl.isList
      exact ⟨its, "list", .inl rfl, rv, ⟨o, n, ho, hc, hd⟩, hz⟩
    · obtain ⟨its, rv, ht, hz⟩ := I.tuple hs
      obtain ⟨o, ho, hc, n, hd⟩ := ht
      exact ⟨its, "tuple", .inr rfl, rv, ⟨o, n, ho, hc, hd⟩, hz⟩
  obtain ⟨its, T, hT, rv, hl, hz⟩ := got
  obtain ⟨e1, e2⟩ := refs_back rv fun x m => by
    obtain ⟨t, e, _⟩ := hx x m
    exact ⟨t, e⟩
  refine PySem.K9S.sortedZ (k := fun u => k (backV u)) hT hl (by rw [← rv.length]; exact hz) (fun v hv => ?_) fun h' d out h1 h2 kp hd hn => ?_
  · obtain ⟨t, rfl⟩ := e2 v hv
    have hm : V.ref t ∈ xs := by rw [e1]; exact List.mem_map.mpr ⟨_, hv, rfl⟩
    obtain ⟨t', e, ht⟩ := hx _ hm
    cases e
    obtain ⟨_, its2, r2, o, ho, hc, n, hd⟩ := I.hok _ _ ht
    obtain ⟨u1, u2, rfl, ri, rj⟩ := vals2 r2
    obtain ⟨t1, rfl⟩ := ri
    obtain ⟨t2, rfl⟩ := rj
    exact ⟨t, o, t1, t2, n, rfl, ho, hc, hd⟩
  · have h3 : ∀ u ∈ out, ∃ a, u = Value.ref a := fun u hu => e2 u (h2.perm.mem_iff.mp hu)
    obtain ⟨n, hn⟩ := hn
    have hb : SrtO.Stb (ltN k) (out.map backV) xs := by
      rw [e1]
      exact SrtO.Stb.map (ltN_swo k) backV h2
    refine ⟨.ref d, upd H d (.lst (out.map backV)), I.laid (t' := s.toks) kp hd ⟨?_, out, n, vals_back h3, hn⟩, rfl, q _ d (SrtO.srtd_map h1) hb (I.hok.fresh hd)⟩
    rw [hb.len]
    exact hz
end
end K9

namespace K9
open PySem PySem.Spec PyProof.Rows L2 L2H HotX Evl
/-! ### sets of texts and ints, made by a comprehension -/
section
variable {X : Cx}
theorem addK_ok {pins : List (Addr × Obj)} {σ : St} {H : Hp} {s : Shared} {E : Value → Shared → Prop} {D : Addr} {S : Key → Bool} {n : Nat} {k : Key} {u : Value} {Q : Value → Shared → Prop} (I : Inv X pins σ H s) (hD : H D = some (SetK X.prog X.w D S n)) (room : n + 1 < scanBound) (r : RelV (kV k) u)
    (h : ∀ s', Inv X pins σ (upd H D (SetK X.prog X.w D (fun j => S j || decide (j = k)) (if S k = true then n else n + 1))) s' → Q .none s') : wpAny (model X.prog X.w) X.A (call (.builtin "set.add") [.ref D, u]) Q E s := by
  refine call_set_add (kV_is r) (key_scan r) (setK_get I hD) room fun h' sb new => ?_
  have he : ∃ u, h'.get? D = some u := by
    have ⟨o, _, _, _, ho, _⟩ := new
    exact ⟨o, ho⟩
  exact h _ (I.write (e := D) (t' := s.toks + 1) (by rw [hD]; trivial) (.inl rfl) (fun b u hb hu => (sb.2 b hb).trans hu) he (setK_new new))
/-- len of such a set -/
def rLenK (P : Program) (w : World) : List V → Hp → VK → Prop := fun xs H Q => ∃ (a : Addr) (S : Key → Bool) (n : Nat), xs = [V.ref a] ∧ H a = some (SetK P w a S n) ∧ Q (.int (n : Int)) H
theorem call_lenK : CallR X (.builtin "len") (rLenK X.prog X.w) := by
  intro pins s σ H xs us Q I r h
  obtain ⟨a, S, n, rfl, ha, q⟩ := h
  obtain ⟨u, rfl, ru⟩ := vals1 r
  obtain rfl : u = Value.ref a := ru
  have R := setK_get I ha
  obtain ⟨o, es, ep, t, ho, hex, hd, hi, hS, hb, hf, hn⟩ := R
  have lt : es.size < 4096 := hb
  have sz : es.size = n := hn
  refine call_len_set ho hex hd hf (by omega) ⟨.int (n : Int), H, I.tok _, ?_, q⟩
  rw [sz]
  exact ⟨_, rfl⟩
end
/-- {e for x in xs if ..}: D the new set -/
def tScK (P : Program) (w : World) (wi : TI) (g : TG) (tt : TT) (te : TE) (vs : List Nat) : TE := fun σ H Q => wi σ H fun J H1 => ∀ D, H1 D = none → ∃ W : Nat → Nat → Hp → Prop, (∃ m, W 0 m (upd H1 D (SetK P w D (fun _ => false) 0))) ∧ ∀ i m H, W i m H →
  (J.stop i H ∧ Q (.ref D) H) ∨ (J.go i H ∧ ∃ Nx : Hp → Prop, (∀ H', Nx H' → ∃ m', m' < m ∧ W (i + 1) m' H') ∧ ∀ x H', J.yld i H x H' → g x (wipe σ vs) H' fun σ2 H2 => wipe σ2 vs = wipe σ vs ∧ tt σ2 H2 fun b H3 =>
    if b = true then te σ2 H3 fun y H4 => ∃ (k : Key) (S : Key → Bool) (n : Nat), y = kV k ∧ H4 D = some (SetK P w D S n) ∧ n + 1 < scanBound ∧ Nx (upd H4 D (SetK P w D (fun j => S j || decide (j = k)) (if S k = true then n else n + 1))) else Nx H3)
section
variable {X : Cx} {elt tg iter : Expr} {ifs : List Expr} {scope : Scope} {own : List (Str × Nat)} {pos : Pos} {wi : TI} {g : TG} {tt : TT} {te : TE}
theorem pe_scK (hc : X.calm = true) (hN : X.N.Nodup) (hi : PI X tg iter wi) (ok : BlkOk X.N X.env.scope scope own)
    (hg : ∀ (s : Shared) (H : Hp) (C : Addr) (cl : List (Str × Addr)) (fp : List Addr), PG (X.blk s H scope (compEnvC scope cl C X.env) fp) tg g)
    (ht : ∀ (s : Shared) (H : Hp) (C : Addr) (cl : List (Str × Addr)) (fp : List Addr), PTs (X.blk s H scope (compEnvC scope cl C X.env) fp) ifs tt)
    (he : ∀ (s : Shared) (H : Hp) (C : Addr) (cl : List (Str × Addr)) (fp : List Addr), PE (X.blk s H scope (compEnvC scope cl C X.env) fp) elt te)
    (hs : ∀ x, foldedSetIterable iter X.env x = pure x := by intro _; rfl) :
    PE X (.SetComp elt [⟨tg, iter, ifs, 0⟩] scope pos) (tScK X.prog X.w wi g tt te (own.map (·.2))) := by
  refine ⟨fun pins s σ H Q I h => ?_⟩
  rw [PpSet.eval_SetComp]
  have caps : ∀ y ∈ scope.names, y.2 = .free → ∃ c, X.env.cells.lookup y.1 = some c := fun y hy e => by
    rcases ok.free y hy e with k | k
    · exact I.ok.has _ (.inl k)
    · exact I.ok.has _ (.inr k)
  refine wpAny_comprehension_free (use := none) rfl hs (closure_ok caps) ok.kind (fun y hy e => by rw [ok.uniq y hy, e])
    (thn (hi.run pins s σ H _ I h) fun xv s1 hx => thn hx fun itv s2 h2 => ?_)
  obtain ⟨it, fp, tn, J, H2, e, I2, T, st2, f2, q⟩ := h2
  subst e
  refine PpSet.newSet_ok (newEnv_comp ?_)
  generalize hD : s2.heap.objs.size = D
  have freeD : H2 D = none := I2.hok.fresh (Nat.le_of_eq hD)
  obtain ⟨W, ⟨m0, w0⟩, turn⟩ := q D freeD
  generalize hs3 : ({ s2 with heap := s2.heap.push { cls := .type "set", dict := none, data := .set #[] 0 (.fresh 0 0 (!X.w.params.followText "set-order")) } } : Shared) = s3
  have h3 : s3.heap = s2.heap.push { cls := .type "set", dict := none, data := .set #[] 0 (.fresh 0 0 (!X.w.params.followText "set-order")) } := by rw [← hs3]
  have I3 : Inv X pins σ (upd H2 D (SetK X.prog X.w D (fun _ => false) 0)) s3 := by
    rw [← hs3]
    refine I2.laid (t' := s2.toks) (fun b o e => Heap.get?_push_of_some _ e) (Nat.le_of_eq hD) ?_
    rw [← hD]
    exact setK_new ⟨_, #[], 0, _, Heap.get?_push_size _ rfl, ⟨rfl, rfl, rfl⟩, rfl, (fun e he => by simp at he), (fun k => by simp), (by decide), (by rfl), rfl⟩
  have below : ∀ b ∈ fp, b < s2.heap.objs.size := fun b hb => by
    obtain ⟨o, e, _⟩ := T.obj _ _ st2 b hb
    exact Heap.lt_size e
  have f3 : ∀ b ∈ fp, FpOk X pins (upd H2 D (SetK X.prog X.w D (fun _ => false) 0)) b ∧ b < s3.heap.objs.size := fun b hb => by
    have lt := below b hb
    constructor
    · refine ⟨?_, (f2 b hb).2⟩
      rw [upd_ne (by rw [← hD]; exact Nat.ne_of_lt lt)]
      exact (f2 b hb).1
    · rw [h3, Heap.size_push]
      exact Nat.lt_succ_of_lt lt
  have st3 : tn 0 s3.heap := T.keep _ _ _ st2 fun b _ o e => by
    rw [h3]
    exact Heap.get?_push_of_some _ e
  have I4 := block_start I3 ok hN f3
  have pg := hg s3 (upd H2 D (SetK X.prog X.w D (fun _ => false) 0)) s3.heap.objs.size (cellsFrom (s3.heap.objs.size + 1) scope.names (cloFrom X.env.cells scope.names [])) fp
  have pt := ht s3 (upd H2 D (SetK X.prog X.w D (fun _ => false) 0)) s3.heap.objs.size (cellsFrom (s3.heap.objs.size + 1) scope.names (cloFrom X.env.cells scope.names [])) fp
  have pe := he s3 (upd H2 D (SetK X.prog X.w D (fun _ => false) 0)) s3.heap.objs.size (cellsFrom (s3.heap.objs.size + 1) scope.names (cloFrom X.env.cells scope.names [])) fp
  show codeAny _ _ (.compStart (.SetComp elt [⟨tg, iter, ifs, 0⟩] scope pos) 0 (.ref it) (.ref D) (compEnvC scope (cellsFrom (s3.heap.objs.size + 1) scope.names (cloFrom X.env.cells scope.names [])) s3.heap.objs.size X.env)) _ { s3 with heap := pushCells (s3.heap.push { cls := .type "dict", data := .dict #[] }) scope.names }
  have nfp : ∀ b ∈ fp, (upd H2 D (SetK X.prog X.w D (fun _ => false) 0)) b = none := fun b hb => (f3 b hb).1.1
  generalize hce : compEnvC scope (cellsFrom (s3.heap.objs.size + 1) scope.names (cloFrom X.env.cells scope.names [])) s3.heap.objs.size X.env = ce at I4 pg pt pe ⊢
  have cL : ce.locals = s3.heap.objs.size := by
    subst hce
    rfl
  generalize hH3 : upd H2 D (SetK X.prog X.w D (fun _ => false) 0) = H3 at I3 I4 pg pt pe w0 nfp f3
  generalize hs4 : ({ s3 with heap := pushCells (s3.heap.push { cls := .type "dict", data := .dict #[] }) scope.names } : Shared) = s4 at I4 ⊢
  have st4 : tn 0 s4.heap := T.keep _ _ _ st3 fun b _ o e => by
    rw [← hs4]
    exact pushCells_keeps _ _ _ _ (Heap.get?_push_of_some _ e)
  have stat : ∀ {σ' : St} {H' : Hp} {s' : Shared}, Inv (X.blk s3 H3 scope ce fp) [] σ' H' s' → (∀ b ∈ fp, H' b = none) → ∀ b ∈ fp, FpOk (X.blk s3 H3 scope ce fp) [] H' b := fun {σ' H' s'} I' hn b hb =>
    ⟨hn b hb, (I'.ok.exf b hb).1, I'.ok.exfs b hb, .inl hb, fun x c e => (I'.ok.exf b hb).2 x c e, fun p hp => absurd (show p ∈ ([] : List (Addr × Obj)) ++ [] from hp) (by simp)⟩
  have loop : codeAny (model X.prog X.w) X.A (.compLoop (.SetComp elt [⟨tg, iter, ifs, 0⟩] scope pos) 0 (.ref it) (.ref D) ce) (compPost (model X.prog X.w) X.A X.xe none (EP X pins σ Q) (.ref D) s3.heap.objs.size) s4 := by
    refine PpSet.compLoopS_any (fun n s' => ∃ i H', Inv (X.blk s3 H3 scope ce fp) [] (wipe σ (own.map (·.2))) H' s' ∧ tn i s'.heap ∧ (∀ b ∈ fp, H' b = none) ∧ W i n H') ?_ m0 ⟨0, H3, I4, st4, nfp, w0⟩
    rintro n s5 ⟨i, H5, I5, st5, n5, w5⟩
    rcases turn i n H5 w5 with ⟨stop, qq⟩ | ⟨go, Nx, hNx, step⟩
    · refine thnF (T.done (X.blk s3 H3 scope ce fp) rfl rfl rfl hc i [] s5 _ H5 (fun _ _ => False) I5 (stat I5 n5) st5 stop) fun r s6 ⟨hr, I6⟩ => ?_
      subst hr
      have I7 : Inv X pins σ H5 s6 := I3.call' (ch := fp) I6.os I6.base I6.hok I6.bare fun b hb =>
        ⟨(f3 b hb).1.2.2.2.1, (f3 b hb).1.2.1, (f3 b hb).1.2.2.2.2.1, (f3 b hb).1.2.2.2.2.2⟩
      have nC : H5 s3.heap.objs.size = none := by
        have z : H5 ce.locals = none := I6.free
        rw [cL] at z
        exact z
      obtain ⟨m, hn, _⟩ := I6.loc
      have hn : s6.heap.Ns ce.locals m := hn
      rw [cL] at hn
      refine ⟨m, hn, fun h'' sb => ?_⟩
      obtain ⟨y0, y1, y2, y3, y4, y5⟩ := I3.fpOk (Nat.le_refl _) nC
      exact ⟨.ref D, H5, I7.turned (t' := s6.toks) (fun b o hb e => (sb.2 b hb).trans e) y0 y1 y3 y4 y5, rfl, qq⟩
    · refine thnF (T.item (X.blk s3 H3 scope ce fp) rfl rfl rfl hc i [] s5 _ H5 (fun _ _ => False) I5 (stat I5 n5) st5 go) fun r s6 ⟨u, hr, h6⟩ => ?_
      subst hr
      refine thnF h6 fun _ s7 ⟨x, H7, I7, r7, y7, st7, n7⟩ => ?_
      have I7' := I7.pinned (stat I7 n7) (T.obj _ _ st7)
      refine thnF (pg.run _ s7 _ H7 x u _ I7' r7 (step x H7 y7)) fun _ s8 ⟨σ8, H8, I8, hw8, q8⟩ => ?_
      refine thnF (pt.run _ s8 σ8 H8 _ I8 q8) fun b s9 ⟨H9, I9, q9⟩ => ?_
      have next : ∀ {s' : Shared} {H' : Hp}, Inv (X.blk s3 H3 scope ce fp) ([] ++ pinsAt fp s7.heap) σ8 H' s' → Nx H' →
          ∃ m, m < n ∧ ∃ i H', Inv (X.blk s3 H3 scope ce fp) [] (wipe σ (own.map (·.2))) H' s' ∧ tn i s'.heap ∧ (∀ b ∈ fp, H' b = none) ∧ W i m H' := fun {s' H'} I' nx => by
        obtain ⟨m', hm, w'⟩ := hNx H' nx
        have still : ∀ b ∈ fp, ∀ o, s7.heap.get? b = some o → s'.heap.get? b = some o ∧ H' b = none := fun b hb o e =>
          let z := I'.pin (b, o) (List.mem_append_right _ (List.mem_append_right _ (mem_pinsAt hb e)))
          ⟨z.1, z.2.1⟩
        have hl : (wipe σ (own.map (·.2))).length = σ8.length := by rw [← hw8, wipe_length]
        refine ⟨m', hm, i + 1, H', (I'.unpinned (pins := [])).weak hl (fun j v e => ?_), T.keep _ _ _ st7 fun b hb o e => (still b hb o e).1, fun b hb => ?_, w'⟩
        · rw [← hw8] at e
          exact (wipe_some e).1
        · obtain ⟨o, e, _⟩ := T.obj _ _ st7 b hb
          exact (still b hb o e).2
      cases b with
      | false =>
        simp only [Bool.false_eq_true, if_false] at q9 ⊢
        exact next I9 q9
      | true =>
        simp only [if_true] at q9 ⊢
        refine thnF (pe.run _ s9 σ8 H9 _ I9 q9) fun z s10 ⟨yv, H10, I10, r10, kk, S0, n0, ey, hD10, hz10, nx⟩ => ?_
        subst ey
        exact addK_ok (X := X.blk s3 H3 scope ce fp) I10 hD10 hz10 r10 fun s11 I11 => next I11 nx
  exact PpSet.codeAny_compStart_set loop (T.self X.A 0 _ _ _ st4 loop)
end
end K9

namespace K9
open PySem PySem.Spec PyProof.Rows L2 L2H HotX Evl
/-! ### a def whose code object is known -/
theorem okT_of {P : Program} {w : World} {K : PySem.W.Frag} {mg : Str → Option Value} {base : Heap} {k : Nat} {x : Str} {params : Arguments} {body : List Stmt} {scope : Scope} {f c : Addr} {fd : FuncData} {N ps : List Str} {sp : Sp}
    (F : FunD K x x params body scope [] [] f fd) (hm : mg x = some (.ref f)) (hc : fd.code = .ref c) (S : FnScope N ps scope)
    (hb : ∀ (kV doc pm : Value) (an : Option Addr) (cdv ct : Value) (us : List Value), us.length = ps.length → bindArgs (PySem.W.fnOf x x params body scope .none kV doc pm an cdv ct) ⟨us, []⟩ = pure (ps.zip us))
    (len : ∀ vs H Q E, sp vs H Q E → vs.length = ps.length)
    (hbody : ∀ (cdv : Value), cdv = .ref c → ∀ (A : Around) (outer : List Env) (s : Shared) (H : Hp) (vs : List V) (Q : VK) (E : XK), Room k (A.deeper (envOfC x scope s.heap.objs.size f cdv)) → sp vs H Q E →
      ∃ t, PSs (cxOf CX0 P w K mg base N x scope f cdv A outer s H E) body t ∧ t { nx := fun _ H' => Q .non H', rt := Q } (start N vs) H) :
    OkC P w K mg base (k + 1) x ps sp := by
  have bn := F.bindsN (ps := ps) hb
  obtain ⟨oc, od, dV, kV, doc, pm, an, cdv, ct, osl, rfl, lk, hcd, _, _⟩ := F.ex
  exact ⟨f, _, fn_of lk hcd S len fun A outer s H vs Q E hr hsp => hbody cdv hc A outer s H vs Q E hr hsp, hm, F.kp, bn⟩
/-! ### all over items that are told ahead -/
theorem allG_by {P : Addr} {wi : TI} {i : Nat} {te : TE} {σ : L2.St} {H : Hp} {Q : VK} {J : It} {n : Nat} {item : Nat → V} (pb : Nat → Bool) (hi : i < σ.length) (hw : ∀ R : It → Hp → Prop, R J H → wi σ H R) (hT : TabX H P) (wk : Walks J n item H)
    (step : ∀ j H1 (R : VK), j < n → Ex H H1 → (∀ H2, Ex H1 H2 → R (.bl (pb j)) H2) → te ((wipe σ [i]).set i (some (item j))) H1 R) (fin : ∀ H1, Ex H H1 → Q (.bl ((List.range n).all pb)) H1) : tAllG P false wi (gName i) te [i] σ H Q := by
  refine hw _ ⟨hT, fun j m H1 => m = n - j ∧ j ≤ n ∧ Ex H H1 ∧ ∀ t, t < j → pb t = true, ⟨n - 0, rfl, Nat.zero_le _, Ex.refl H, fun t ht => absurd ht (Nat.not_lt_zero t)⟩, ?_⟩
  rintro j m H1 ⟨rfl, hj, e, hp⟩
  by_cases hjn : j = n
  · subst hjn
    refine .inl ⟨wk.stop H1 e, ?_⟩
    have z : (List.range j).all pb = true := List.all_eq_true.mpr fun t ht => hp t (List.mem_range.mp ht)
    have y := fin H1 e
    rw [z] at y
    exact y
  · have hj2 : j < n := by omega
    refine .inr ⟨wk.go j H1 e hj2, n - (j + 1), fun H' => Ex H H' ∧ ∀ t, t < j + 1 → pb t = true, by omega, fun H' h => ⟨rfl, by omega, h.1, h.2⟩, fun x H' hy => ?_⟩
    obtain ⟨rfl, rfl⟩ := wk.yld j H1 x H' e hj2 hy
    refine ⟨?_, step j H' _ hj2 e fun H2 e2 => ⟨pb j, rfl, ?_⟩⟩
    · simp [wipe]
    · cases hb : pb j with
      | true =>
        rw [if_neg (by decide)]
        refine ⟨e.trans e2, fun t ht => ?_⟩
        by_cases htj : t = j
        · rw [htj]; exact hb
        · exact hp t (by omega)
      | false =>
        rw [if_pos rfl]
        have z : (List.range n).all pb = false := by
          rw [Bool.eq_false_iff]
          intro hz
          have y := List.all_eq_true.mp hz j (List.mem_range.mpr hj2)
          rw [hb] at y
          cases y
        have y := fin H2 (e.trans e2)
        rw [z] at y
        exact y
theorem walks_str {x : Str} {H : Hp} : Walks (Its x) x.cps.size (fun i => .str ⟨#[x.cps.getD i 0]⟩) H := by
  refine ⟨fun i H1 _ h => h, fun i H1 y H' _ hi hy => ?_, fun _ _ => Nat.le_refl _⟩
  obtain ⟨h1, c, h2, rfl⟩ := hy
  refine ⟨h1, ?_⟩
  have h2 : x.cps[i]? = some c := h2
  show V.str _ = V.str _
  congr 2
  simp [Array.getD_eq_getD_getElem?, h2]
/-- the same over the signs -/
theorem all_signs (a : Str) (pb : Nat → Bool) : (List.range a.cps.size).all (fun j => pb (a.cps.getD j 0)) = a.cps.toList.all pb := by
  rw [Bool.eq_iff_iff, List.all_eq_true, List.all_eq_true]
  constructor
  · intro h b hb
    obtain ⟨j, hj, e⟩ := List.getElem_of_mem hb
    have hj2 : j < a.cps.size := by simpa using hj
    have q := h j (List.mem_range.mpr hj2)
    have e2 : a.cps.getD j 0 = b := by
      rw [← e]
      simp [Array.getD_eq_getD_getElem?, hj2]
    rw [e2] at q
    exact q
  · intro h j hj
    have hj2 := List.mem_range.mp hj
    have e2 : a.cps.getD j 0 = a.cps[j] := by simp [Array.getD_eq_getD_getElem?, hj2]
    rw [e2]
    exact h _ (by simp)
/-- what is a text and what is none, by isinstance -/
def NoStr (K : PySem.W.Frag) (H : Hp) (v : V) : Prop := ∀ (H' : Hp) (Q : VK), Ex H H' → Q (.bl false) H' → rIsA K [] [v, .ty "str"] H' Q
theorem NoStr.ext {K : PySem.W.Frag} {H H' : Hp} {v : V} (e : Ex H H') (h : NoStr K H v) : NoStr K H' v := fun H2 Q e2 q => h H2 Q (e.trans e2) q
theorem is_str {K : PySem.W.Frag} {H : Hp} {z : Str} {Q : VK} (q : Q (.bl true) H) : rIsA K [] [.str z, .ty "str"] H Q := .inr ⟨_, _, _, _, _, rfl, .ty _, .base (.str _), rfl, q⟩
/-- a value that may be a text -/
inductive MayStr (K : PySem.W.Frag) (H : Hp) : V → Option Str → Prop
  | str (z : Str) (h : z.length ≤ 1000) : MayStr K H (.str z) (some z)
  | no {v : V} (h : NoStr K H v) : MayStr K H v none
theorem MayStr.ext {K : PySem.W.Frag} {H H' : Hp} {v : V} {o : Option Str} (e : Ex H H') (h : MayStr K H v o) : MayStr K H' v o := by
  cases h with
  | str z h => exact .str z h
  | no h => exact .no (h.ext e)
end K9

namespace K9
open PySem PySem.Spec PyProof.Rows L2 L2H HotX Evl
/-! ### values by their built-in type -/
inductive Bas (H : Hp) : V → String → Prop
  | non : Bas H .non "NoneType"
  | bl (b : Bool) : Bas H (.bl b) "bool"
  | int (i : Int) : Bas H (.int i) "int"
  | str (z : Str) : Bas H (.str z) "str"
  | lst {a : Addr} {xs : List V} (h : H a = some (.lst xs)) : Bas H (.ref a) "list"
  | tup {a : Addr} {xs : List V} (h : H a = some (.tup xs)) : Bas H (.ref a) "tuple"
  | dK {a : Addr} {ks : List (Key × V)} (h : H a = some (.dK ks)) : Bas H (.ref a) "dict"
theorem Bas.ext {H H' : Hp} {v : V} {s : String} (e : Ex H H') (h : Bas H v s) : Bas H' v s := by
  cases h with
  | non => exact .non
  | bl b => exact .bl b
  | int i => exact .int i
  | str z => exact .str z
  | lst h => exact .lst (e _ _ h)
  | tup h => exact .tup (e _ _ h)
  | dK h => exact .dK (e _ _ h)
theorem Bas.ty {K : PySem.W.Frag} {H : Hp} {v : V} {s : String} (h : Bas H v s) : TyX K H v (.type s) := by
  cases h with
  | non => exact .base .non
  | bl b => exact .base (.bl b)
  | int i => exact .base (.int i)
  | str z => exact .base (.str z)
  | lst h => exact .base (.lst h)
  | tup h => exact .base (.tup h)
  | dK h => exact .base (.dK h)
theorem Bas.is {K : PySem.W.Frag} {H : Hp} {v : V} {s T : String} {r : Bool} {Q : VK} (h : Bas H v s) (k : PySem.W.kitOne K (.type s) (.type T) = some r) (q : Q (.bl r) H) : rIsA K [] [v, .ty T] H Q :=
  .inr ⟨_, _, _, _, _, rfl, .ty _, h.ty, k, q⟩
theorem Bas.isi {K : PySem.W.Frag} {H : Hp} {v : V} {s T : String} {r : Bool} {Q : VK} (h : Bas H v s) (k : PySem.W.kitOne K (.type s) (.type T) = some r) (q : Q (.bl r) H) : rIsi K [v, .ty T] H Q :=
  ⟨_, _, _, _, _, rfl, .ty _, h.ty, k, q⟩
theorem Bas.isT {K : PySem.W.Frag} {H : Hp} {v : V} {s T1 T2 : String} {r : Bool} {t : Addr} {Q : VK} (h : Bas H v s) (ht : H t = some (.tup [.ty T1, .ty T2])) (k : PySem.W.kitAny K (.type s) [.type T1, .type T2] = some r) (q : Q (.bl r) H) : rIsiT K [v, .ref t] H Q :=
  ⟨_, t, _, _, _, _, rfl, ht, .cons (.ty _) (.cons (.ty _) .nil), h.ty, k, q⟩
theorem Bas.noStr {K : PySem.W.Frag} {H : Hp} {v : V} {s : String} (h : Bas H v s) (n : s ≠ "str") : NoStr K H v := fun H' Q e q => by
  have h' := h.ext e
  cases h' with
  | str z => exact absurd rfl n
  | non => exact Bas.is .non rfl q
  | bl b => exact Bas.is (.bl b) rfl q
  | int i => exact Bas.is (.int i) rfl q
  | lst h2 => exact Bas.is (.lst h2) rfl q
  | tup h2 => exact Bas.is (.tup h2) rfl q
  | dK h2 => exact Bas.is (.dK h2) rfl q
theorem May_of {K : PySem.W.Frag} {H : Hp} {v : V} {s : String} (h : Bas H v s) (hz : ∀ z, v = .str z → z.length ≤ 1000) : ∃ o, MayStr K H v o := by
  cases h with
  | str z => exact ⟨_, .str z (hz z rfl)⟩
  | non => exact ⟨_, .no (Bas.noStr .non (by decide))⟩
  | bl b => exact ⟨_, .no (Bas.noStr (.bl b) (by decide))⟩
  | int i => exact ⟨_, .no (Bas.noStr (.int i) (by decide))⟩
  | lst h => exact ⟨_, .no (Bas.noStr (.lst h) (by decide))⟩
  | tup h => exact ⟨_, .no (Bas.noStr (.tup h) (by decide))⟩
  | dK h => exact ⟨_, .no (Bas.noStr (.dK h) (by decide))⟩
/-! ### whole numbers, rows of a name and a count -/
/-- a count's place: a number, or something flat -/
inductive MayInt : V → Option Int → Prop
  | int (i : Int) : MayInt (.int i) (some i)
  | bl (b : Bool) : MayInt (.bl b) none
  | non : MayInt .non none
  | str (z : Str) : MayInt (.str z) none
def onInt : Option Int → Bool
  | some i => decide (0 ≤ i) && decide (i ≤ 3)
  | none => false
section
variable (nameB : Str → Bool)
def rowB : Option Str → Option Int → Bool
  | some z, o => nameB z && onInt o
  | none, _ => false
/-- an item of a list of names: what it tells, if it is a row as it may be -/
inductive RowQ (K : PySem.W.Frag) (H : Hp) : V → Option (Str × Int) → Prop
  | other {v : V} {s : String} (h : Bas H v s) (n : s ≠ "tuple") : RowQ K H v none
  | len {t : Addr} {xs : List V} (h : H t = some (.tup xs)) (n : xs.length ≠ 2) (m : xs.length ≤ 1000) : RowQ K H (.ref t) none
  | bad {t : Addr} {a b : V} {o : Option Str} {p : Option Int} (h : H t = some (.tup [a, b])) (ha : MayStr K H a o) (hb : MayInt b p) (n : rowB nameB o p = false) : RowQ K H (.ref t) none
  | good {t : Addr} {z : Str} {i : Int} (h : H t = some (.tup [.str z, .int i])) (hz : z.length ≤ 1000) (n : rowB nameB (some z) (some i) = true) : RowQ K H (.ref t) (some (z, i))
variable {nameB}
theorem RowQ.ext {K : PySem.W.Frag} {H H' : Hp} {v : V} {r : Option (Str × Int)} (e : Ex H H') (h : RowQ nameB K H v r) : RowQ nameB K H' v r := by
  cases h with
  | other h n => exact .other (h.ext e) n
  | len h n m => exact .len (e _ _ h) n m
  | bad h ha hb n => exact .bad (e _ _ h) (ha.ext e) hb n
  | good h hz n => exact .good (e _ _ h) hz n
/-- the rows of a pair, whichever they are -/
theorem row_of {K : PySem.W.Frag} {H : Hp} {t : Addr} {a b : V} {o : Option Str} {p : Option Int} (h : H t = some (.tup [a, b])) (ha : MayStr K H a o) (hb : MayInt b p) : ∃ r, RowQ nameB K H (.ref t) r := by
  cases hr : rowB nameB o p with
  | false => exact ⟨_, .bad h ha hb hr⟩
  | true =>
    cases ha with
    | no hn => cases hr
    | str z hz =>
      cases hb with
      | int i => exact ⟨_, .good h hz hr⟩
      | bl b => simp [rowB, onInt] at hr
      | non => simp [rowB, onInt] at hr
      | str y => simp [rowB, onInt] at hr
end
theorem Paired.ext {α β : Type} {R S : α → β → Prop} {xs : List α} {ys : List β} (f : ∀ x y, R x y → S x y) (h : Paired R xs ys) : Paired S xs ys := by
  induction h with
  | nil => exact .nil
  | cons a _ ih => exact .cons (f _ _ a) ih
theorem paired_at {α β : Type} {R : α → β → Prop} {xs : List α} {ys : List β} (h : Paired R xs ys) {j : Nat} (hj : j < xs.length) : ∃ (x : α) (y : β), xs[j]? = some x ∧ ys[j]? = some y ∧ R x y := by
  induction h generalizing j with
  | nil => exact absurd hj (Nat.not_lt_zero j)
  | cons a _ ih =>
    cases j with
    | zero => exact ⟨_, _, rfl, rfl, a⟩
    | succ j => exact ih (Nat.lt_of_succ_lt_succ hj)
/-! ### a list or a tuple, walked -/
def iSeq (K : PySem.W.Frag) (tl : TE) : TI := fun σ H R => tl σ H fun x H1 => ∃ a, x = .ref a ∧ (((∃ xs, SqL K H1 a xs) ∧ R (Itl K a) H1) ∨ ((∃ xs, SqT K H1 a xs) ∧ R (Itt K a) H1))
theorem pi_seq {X : Cx} {tg l : Expr} {tl : TE} (hl : PE X l tl) : PI X tg l (iSeq X.K tl) := by
  refine ⟨fun pins s σ H R I h => ?_⟩
  refine thn (hl.run pins s σ H _ I h) fun v s1 ⟨x, H1, I1, r1, a, e, z⟩ => ?_
  subst e
  cases r1
  rcases z with ⟨⟨xs, hq⟩, q⟩ | ⟨⟨xs, hq⟩, q⟩
  · obtain ⟨its, rv, p, hz⟩ := I1.list hq
    exact wpAny_pyIter_list p.isList (pi_one (tk := s1.toks) I1 _ (turn_list a _) ⟨_, Heap.get?_push_size _ rfl, rfl, rfl⟩ q)
  · obtain ⟨its, rv, p, hz⟩ := I1.tuple hq
    exact wpAny_pyIter_tuple (show s1.heap.IsTuple a its.toArray from p) (pi_one (tk := s1.toks) I1 _ (turn_tuple a _) ⟨_, Heap.get?_push_size _ rfl, rfl, rfl⟩ q)
theorem walks_tup {K : PySem.W.Frag} {a : Addr} {xs : List V} {H : Hp} (h : H a = some (.tup xs)) : Walks (Itt K a) xs.length (fun i => xs.getD i .non) H := by
  refine ⟨fun i H1 e hi => ⟨xs, xs[i], SqT.of (e _ _ h), List.getElem?_eq_getElem hi⟩, fun i H1 x H' e hi hy => ?_, fun H1 e => ⟨xs, SqT.of (e _ _ h), Nat.le_refl _⟩⟩
  refine ⟨hy.1, ?_⟩
  have z := hy.2 xs (SqT.of (e _ _ h))
  show x = xs.getD i .non
  rw [List.getD_eq_getElem?_getD, z]
  rfl
/-- a list or a tuple at a, of these items -/
def SeqAt (H : Hp) (a : Addr) (xs : List V) : Prop := H a = some (.lst xs) ∨ H a = some (.tup xs)
theorem SeqAt.ext {H H' : Hp} {a : Addr} {xs : List V} (e : Ex H H') (h : SeqAt H a xs) : SeqAt H' a xs := h.elim (fun h => .inl (e _ _ h)) fun h => .inr (e _ _ h)
theorem SeqAt.len {K : PySem.W.Frag} {H : Hp} {a : Addr} {xs : List V} (h : SeqAt H a xs) : SqL K H a xs ∨ SqT K H a xs := h.elim (fun h => .inl (SqL.of h)) fun h => .inr (SqT.of h)
theorem SeqAt.bas {H : Hp} {a : Addr} {xs : List V} (h : SeqAt H a xs) : ∃ s, (s = "list" ∨ s = "tuple") ∧ Bas H (.ref a) s := h.elim (fun h => ⟨_, .inl rfl, .lst h⟩) fun h => ⟨_, .inr rfl, .tup h⟩
/-- how it is walked -/
theorem SeqAt.walk {K : PySem.W.Frag} {H : Hp} {a : Addr} {xs : List V} (h : SeqAt H a xs) : ∃ J : It, Walks J xs.length (fun i => xs.getD i .non) H ∧ ∀ R : It → Hp → Prop, R J H → ((∃ xs, SqL K H a xs) ∧ R (Itl K a) H) ∨ ((∃ xs, SqT K H a xs) ∧ R (Itt K a) H) := by
  rcases h with h | h
  · exact ⟨Itl K a, walks_list (SqL.of h), fun R q => .inl ⟨⟨_, SqL.of h⟩, q⟩⟩
  · exact ⟨Itt K a, walks_tup h, fun R q => .inr ⟨⟨_, SqT.of h⟩, q⟩⟩
/-! ### a set comprehension, by an invariant of the keys -/
theorem scK_by {P : Program} {w : World} {wi : TI} {i : Nat} {te : TE} {σ : L2.St} {H : Hp} {Q : VK} {J : It} {n : Nat} {item : Nat → V} (key : Nat → Key) (hn : n + 1 < scanBound) (hi : i < σ.length) (hw : ∀ R : It → Hp → Prop, R J H → wi σ H R) (wk : Walks J n item H)
    (step : ∀ j H1 (R : VK), j < n → Ex H H1 → R (kV (key j)) H1 → te ((wipe σ [i]).set i (some (item j))) H1 R)
    (fin : ∀ D H1 S m, H D = none → Ex H H1 → H1 D = some (SetK P w D S m) → (m = n ↔ ((List.range n).map key).Nodup) → m ≤ n → Q (.ref D) H1) : tScK P w wi (gName i) tYes te [i] σ H Q := by
  refine hw _ fun D hD => ?_
  refine ⟨fun j m H1 => m = n - j ∧ j ≤ n ∧ Ex H H1 ∧ ∃ S c, H1 D = some (SetK P w D S c) ∧ (c = j ↔ ((List.range j).map key).Nodup) ∧ c ≤ j ∧ ∀ k, S k = true ↔ k ∈ (List.range j).map key, ⟨n - 0, rfl, Nat.zero_le _, Ex.new hD, _, 0, upd_same, by simp, Nat.le_refl _, fun k => by simp⟩, ?_⟩
  rintro j m H1 ⟨rfl, hj, e, S, c, hS, hc, hl, hm⟩
  by_cases hjn : j = n
  · subst hjn
    exact .inl ⟨wk.stop H1 e, fin D H1 S c hD e hS hc hl⟩
  · have hj2 : j < n := by omega
    refine .inr ⟨wk.go j H1 e hj2, fun H' => n - (j + 1) < n - j ∧ j + 1 ≤ n ∧ Ex H H' ∧ ∃ S c, H' D = some (SetK P w D S c) ∧ (c = j + 1 ↔ ((List.range (j + 1)).map key).Nodup) ∧ c ≤ j + 1 ∧ ∀ k, S k = true ↔ k ∈ (List.range (j + 1)).map key, ?_, ?_⟩
    · rintro H' ⟨h1, h2, h3⟩
      exact ⟨n - (j + 1), h1, rfl, h2, h3⟩
    · intro x H' hy
      obtain ⟨rfl, rfl⟩ := wk.yld j H1 x H' e hj2 hy
      refine ⟨by simp [wipe], ?_⟩
      unfold tYes
      dsimp only
      rw [if_pos rfl]
      refine step j H' _ hj2 e ⟨key j, S, c, rfl, hS, by omega, ?_⟩
      refine ⟨by omega, by omega, ExB.new (fun a o na h => (by rw [upd_ne na]; exact e a o h)) hD, _, _, upd_same, ?_, ?_, fun k => ?_⟩
      · rw [List.range_succ, List.map_append, List.map_cons, List.map_nil]
        have nd : (List.map key (List.range j) ++ [key j]).Nodup ↔ (List.map key (List.range j)).Nodup ∧ key j ∉ List.map key (List.range j) := by
          rw [List.nodup_append]
          constructor
          · rintro ⟨h1, _, h3⟩
            exact ⟨h1, fun hk => h3 _ hk _ (List.mem_singleton.mpr rfl) rfl⟩
          · rintro ⟨h1, h2⟩
            refine ⟨h1, by simp, fun a ha b hb hab => ?_⟩
            rw [List.mem_singleton.mp hb] at hab
            rw [hab] at ha
            exact h2 ha
        rw [nd]
        by_cases hk : S (key j) = true
        · rw [if_pos hk]
          constructor
          · intro z
            omega
          · rintro ⟨_, h2⟩
            exact absurd ((hm _).mp hk) h2
        · rw [if_neg hk]
          constructor
          · intro z
            exact ⟨hc.mp (by omega), fun h => hk ((hm _).mpr h)⟩
          · rintro ⟨h1, _⟩
            have := hc.mpr h1
            omega
      · split <;> omega
      · rw [List.range_succ, List.map_append, List.map_cons, List.map_nil]
        simp only [Bool.or_eq_true, decide_eq_true_eq, List.mem_append, List.mem_singleton]
        rw [hm]
end K9

namespace K9
open PySem PySem.Spec PyProof.Rows L2 L2H HotX Evl
/-! ### rows in front of others -/
theorem seq_l {t u : TS} {D : Ends} {σ : L2.St} {H : Hp} (h : t { nx := u D, rt := D.rt, bk := D.bk, ct := D.ct } σ H) : tSeq t u D σ H := h
theorem ifNotB_l {te : TE} {t u : TS} {D : Ends} {σ : L2.St} {H : Hp} (h : te σ H fun v H1 => ∃ c, v = .bl c ∧ if (!c) = true then t D σ H1 else u D σ H1) : tIfS (tNot (tB te)) t u D σ H := h
theorem ifB_l {te : TE} {t u : TS} {D : Ends} {σ : L2.St} {H : Hp} (h : te σ H fun v H1 => ∃ c, v = .bl c ∧ if c = true then t D σ H1 else u D σ H1) : tIfS (tB te) t u D σ H := h
theorem call1_l {r : List V → Hp → VK → Prop} {te : TE} {σ : L2.St} {H : Hp} {Q : VK} (h : te σ H fun v H1 => r [v] H1 Q) : tCB r (tCons te tNil) σ H Q := h
theorem callB0_l {sp : Sp} {σ : L2.St} {H : Hp} {Q : VK} (h : sp [] H Q E0) : tCallB sp tNil σ H Q := h
theorem callB1_l {sp : Sp} {te : TE} {σ : L2.St} {H : Hp} {Q : VK} (h : te σ H fun v H1 => sp [v] H1 Q E0) : tCallB sp (tCons te tNil) σ H Q := h
theorem nil_l {σ : L2.St} {H : Hp} {Q : List V → Hp → Prop} (h : Q [] H) : tNil σ H Q := h
theorem tup_l {ta : TA} {σ : L2.St} {H : Hp} {Q : VK} (h : ta σ H fun xs H1 => xs.length ≤ sizeLine ∧ ∀ p, H1 p = none → Q (.ref p) (upd H1 p (.tup xs))) : tTup ta σ H Q := h
theorem lst_l {ta : TA} {σ : L2.St} {H : Hp} {Q : VK} (h : ta σ H fun xs H1 => xs.length ≤ sizeLine ∧ ∀ p, H1 p = none → Q (.ref p) (upd H1 p (.lst xs))) : tLst ta σ H Q := h
theorem c_l {v : V} {σ : L2.St} {H : Hp} {Q : VK} (h : Q v H) : tC v σ H Q := h
theorem v_l {v : V} {i : Nat} {σ : L2.St} {H : Hp} {Q : VK} (e : σ[i]? = some (some v)) (h : Q v H) : tVar i σ H Q := ⟨v, e, h⟩
theorem fld_l {K : PySem.W.Frag} {ta tv : TE} {f : Str} {D : Ends} {σ : L2.St} {H : Hp} (h : tv σ H fun y H1 => ta σ H1 fun x H2 => ∃ a C dx fs, x = .ref a ∧ H2 a = some (.ins C dx fs) ∧ Cls K C ∧ NoAttr K C f ∧ fs.length < 1000 ∧ D.nx σ (upd H2 a (.ins C dx (putF f y fs)))) : sFld K ta tv f D σ H := h
theorem ne_ins {H : Hp} {a x C dx : Addr} {o : HO} {fs : List (Str × V)} (hx : H x = some (.ins C dx fs)) (h : H a = some o) (n : ∀ C dx fs, o ≠ .ins C dx fs) : a ≠ x := fun z => by
  rw [z, hx] at h
  cases h
  exact n _ _ _ rfl
/-! ### the items of a list by their places -/
theorem range_map {α β : Type} (l : List α) (d : α) (f : α → β) : (List.range l.length).map (fun j => f (l.getD j d)) = l.map f := by
  refine List.ext_getElem (by simp) fun i h1 h2 => ?_
  have hi : i < l.length := by simpa using h1
  simp [List.getD_eq_getElem?_getD, hi]
theorem range_all {α : Type} (l : List α) (d : α) (p : α → Bool) : (List.range l.length).all (fun j => p (l.getD j d)) = l.all p := by
  have h : ∀ xs : List Nat, (xs.all fun j => p (l.getD j d)) = ((xs.map fun j => p (l.getD j d)).all id) := by
    intro xs
    induction xs with
    | nil => rfl
    | cons a r ih => simp
  have h2 : ∀ xs : List α, xs.all p = (xs.map p).all id := by
    intro xs
    induction xs with
    | nil => rfl
    | cons a r ih => simp
  rw [h, range_map l d p, ← h2]
theorem nodup_map {α β : Type} {f : α → β} {l : List α} (inj : ∀ a b, f a = f b → a = b) : (l.map f).Nodup ↔ l.Nodup := by
  induction l with
  | nil => simp
  | cons a r ih =>
    rw [List.map_cons, List.nodup_cons, List.nodup_cons, ih]
    refine ⟨fun ⟨h1, h2⟩ => ⟨fun h => h1 (List.mem_map_of_mem h), h2⟩, fun ⟨h1, h2⟩ => ⟨fun h => ?_, h2⟩⟩
    obtain ⟨b, hb, e⟩ := List.mem_map.mp h
    rw [inj _ _ e] at hb
    exact h1 hb
end K9

namespace K9
open PySem PySem.Spec PyProof.Rows L2 L2H HotX Evl
/-! ### a def called by position and by keywords alone -/
def OkK (P : Program) (w : World) (K : PySem.W.Frag) (mg : Str → Option Value) (base : Heap) (k : Nat) (x : Str) (ps ks : List Str) (sp : Sp) : Prop :=
  ∃ f fd, FnOk P w K mg base CX0 k f fd ps sp ∧ mg x = some (.ref f) ∧ PySem.W.keepIn K (.ref f) = true ∧ Binds K fd ps [] ∧ KBn K fd ps 0 ks (gP (List.range ks.length)) (gPV (List.range ks.length))
theorem OkK.c {P : Program} {w : World} {K : PySem.W.Frag} {mg : Str → Option Value} {base : Heap} {k : Nat} {x : Str} {ps ks : List Str} {sp : Sp} (o : OkK P w K mg base k x ps ks sp) : OkC P w K mg base k x ps sp := by
  obtain ⟨f, fd, F, h1, h2, h3, _⟩ := o
  exact ⟨f, fd, F, h1, h2, h3⟩
theorem OkK.mono {P : Program} {w : World} {K : PySem.W.Frag} {mg : Str → Option Value} {base : Heap} {j k : Nat} {x : Str} {ps ks : List Str} {sp : Sp} (o : OkK P w K mg base j x ps ks sp) (h : j ≤ k) : OkK P w K mg base k x ps ks sp := by
  obtain ⟨f, fd, F, r⟩ := o
  exact ⟨f, fd, F.mono h, r⟩
theorem okK_of {P : Program} {w : World} {K : PySem.W.Frag} {mg : Str → Option Value} {base : Heap} {k : Nat} {x : Str} {params : Arguments} {body : List Stmt} {scope : Scope} {f : Addr} {fd : FuncData} {N ps ks : List Str} {sp : Sp}
    (F : FunD K x x params body scope [] [] f fd) (hm : mg x = some (.ref f)) (S : FnScope N ps scope)
    (hb : ∀ (kV doc pm : Value) (an : Option Addr) (cdv ct : Value) (us : List Value), us.length = ps.length → bindArgs (PySem.W.fnOf x x params body scope .none kV doc pm an cdv ct) ⟨us, []⟩ = pure (ps.zip us))
    (hk : ∀ (kV doc pm : Value) (an : Option Addr) (cdv ct : Value) (us ws : List Value), us.length = 0 → ws.length = ks.length → bindArgs (PySem.W.fnOf x x params body scope .none kV doc pm an cdv ct) ⟨us, ks.zip ws⟩ = pure (ps.zip (gP (List.range ks.length) us ws)))
    (len : ∀ vs H Q E, sp vs H Q E → vs.length = ps.length)
    (hbody : ∀ (cdv : Value) (A : Around) (outer : List Env) (s : Shared) (H : Hp) (vs : List V) (Q : VK) (E : XK), Room k (A.deeper (envOfC x scope s.heap.objs.size f cdv)) → sp vs H Q E →
      ∃ t, PSs (cxOf CX0 P w K mg base N x scope f cdv A outer s H E) body t ∧ t { nx := fun _ H' => Q .non H', rt := Q } (start N vs) H) :
    OkK P w K mg base (k + 1) x ps ks sp := by
  refine ⟨f, fd, F.ok S len fun cdv A outer s H vs Q E hr h => ?_, hm, F.kp, F.bindsN (ps := ps) hb, kbn_of F hk⟩
  exact hbody cdv A outer s H vs Q E hr h
/-- f(k = v, ..) -/
def tCallKB (sp : Sp) (m : Nat) (tk : TA) : TE := fun σ H Q => tk σ H fun zs H1 => zs.length = m ∧ sp (gPV (List.range m) [] zs) H1 Q E0
section
variable {X : Cx} {k : Nat} {x : Str} {ps ks : List Str} {sp : Sp} {p pos : Pos} {kws : List Keyword} {tk : TA}
theorem pe_callKw (o : OkK X.prog X.w X.K X.mg X.base k x ps ks sp) (hr : Room k X.A) (hg : Gl X x) (hkw : PK X kws tk)
    (hall : (backToKw pos (keywordEach kws X.env)).all (·.1.isSome) = true := by rfl) (hks : (backToKw pos (keywordEach kws X.env)).filterMap (·.1) = ks := by rfl) (hdb : (x == ("__debug__" : Str)) = false := by decide)
    (hpl : ((backTo pos (starEach [] X.env)).any (·.1) || (backToKw pos (keywordEach kws X.env)).any (·.1.isNone)) = false := by rfl) :
    PE X (.Call (.Name x p) [] kws pos) (tCallKB sp ks.length tk) := by
  obtain ⟨f, fd, F, hm, hk, _, hb⟩ := o
  refine ⟨fun pins s σ H Q I h => ?_⟩
  refine wpAny_Call_Name_kw (ld_glob I hg hm ?_ hdb)
  refine PySem.W.callWith_KW0 (h₀ := X.base) I.ok.mod.kin hk hall ?_ hpl
  refine thn (hkw.run pos pins s σ H _ I h) fun ws s2 ⟨zs, H2, I2, rz, l1, q2⟩ => ⟨I2.kIn, ?_⟩
  rw [hks]
  exact run_fnN (us := []) (vs := []) F hr hb pass0 I2 .nil rz rfl l1 q2
end
/-! ### a method, called by position and by keywords alone -/
structure MOk (P : Program) (w : World) (K : PySem.W.Frag) (mg : Str → Option Value) (base : Heap) (k : Nat) (C : Addr) (m : Str) (ps ks : List Str) (sp : Sp) : Prop where
  cls : Cls K C
  ok : ∃ f fd, Meth K C m f ∧ FnOk P w K mg base CX0 k f fd ps sp ∧ Binds K fd ps [] ∧ KBn K fd ps 1 ks (gP (List.range ks.length)) (gPV (List.range ks.length))
/-- o.m(e) or o.m(k = e): one argument -/
def tMeth1 (C : Addr) (m : Str) (sp : Sp) (ta : TE) (t : TA) : TE := fun σ H Q => ta σ H fun x H1 => ∃ a dx fs, x = .ref a ∧ H1 a = some (.ins C dx fs) ∧ fs.lookup m = none ∧ t σ H1 fun vs H2 => ∃ v, vs = [v] ∧ sp [x, v] H2 Q E0
section
variable {X : Cx} {k : Nat} {C : Addr} {m : Str} {ps ks : List Str} {sp : Sp} {p pos apos : Pos} {o e : Expr} {kws : List Keyword} {ta : TE} {t : TA}
theorem pe_methM {pl : Sem Bool} (M : MOk X.prog X.w X.K X.mg X.base k C m ps ks sp) (hr : Room k X.A) (he : PE X o ta) (ha : PA X [e] t)
    (hst : starEach [e] X.env = (false, eval e X.env) :: starEach [] X.env := by rfl) (hpl : (backTo pos (starEach [] X.env)).any (·.1) = false := by rfl)
    (ht : eval (.Call (.Attribute o m apos) [e] [] pos) X.env = (do
      let ov ← eval o X.env
      standAt apos.atName
      let (f, first) ← holding [ov] (getMethod ov m pl)
      callWith pos f first (backTo pos (starEach [e] X.env)) (backToKw pos (keywordEach [] X.env))) := by rfl) :
    PE X (.Call (.Attribute o m apos) [e] [] pos) (tMeth1 C m sp ta t) := by
  obtain ⟨f, fd, hm, F, hb, _⟩ := M.ok
  refine ⟨fun pins s σ H Q I h => ?_⟩
  refine PySem.W.methodCall_KW (pl := pl) (thn (he.run pins s σ H _ I h) fun u s1 ⟨x, H1, I1, rx, a, dx, fs, ex, ea, l, q⟩ => ?_) ht
  subst ex
  obtain rfl : u = Value.ref a := rx
  refine getmeth_ok I1 ea M.cls hm l ?_
  refine PySem.W.callWith_K (first := [.ref a]) (h₀ := X.base) I.ok.mod.kin hm.kp (thn (ha.run pos pins s1 σ H1 _ I1 q) fun us s2 ⟨vs, H2, I2, r, v, ev, q2⟩ => ⟨I2.kIn, ?_⟩) hst hpl
  subst ev
  exact run_fn (us := .ref a :: us) (vs := .ref a :: [v]) F hr hb .nil pass0 I2 (.cons rfl r) (by rw [List.append_nil]; exact q2)
theorem pe_methK {pl : Sem Bool} (M : MOk X.prog X.w X.K X.mg X.base k C m ps ks sp) (hr : Room k X.A) (h1 : ks.length = 1) (he : PE X o ta) (hkw : PK X kws t)
    (hall : (backToKw pos (keywordEach kws X.env)).all (·.1.isSome) = true := by rfl) (hks : (backToKw pos (keywordEach kws X.env)).filterMap (·.1) = ks := by rfl)
    (hpl : ((backTo pos (starEach [] X.env)).any (·.1) || (backToKw pos (keywordEach kws X.env)).any (·.1.isNone)) = false := by rfl)
    (ht : eval (.Call (.Attribute o m apos) [] kws pos) X.env = (do
      let ov ← eval o X.env
      standAt apos.atName
      let (f, first) ← holding [ov] (getMethod ov m pl)
      callWith pos f first (backTo pos (starEach [] X.env)) (backToKw pos (keywordEach kws X.env))) := by rfl) :
    PE X (.Call (.Attribute o m apos) [] kws pos) (tMeth1 C m sp ta t) := by
  obtain ⟨f, fd, hm, F, _, hb⟩ := M.ok
  refine ⟨fun pins s σ H Q I h => ?_⟩
  refine PySem.W.methodCall_KW (pl := pl) (thn (he.run pins s σ H _ I h) fun u s1 ⟨x, H1, I1, rx, a, dx, fs, ex, ea, l, q⟩ => ?_) ht
  subst ex
  obtain rfl : u = Value.ref a := rx
  refine getmeth_ok I1 ea M.cls hm l ?_
  refine PySem.W.callWith_KW0 (first := [.ref a]) (h₀ := X.base) I.ok.mod.kin hm.kp hall ?_ hpl
  refine thn (hkw.run pos pins s1 σ H1 _ I1 q) fun ws s2 ⟨zs, H2, I2, rz, v, ev, q2⟩ => ⟨I2.kIn, ?_⟩
  subst ev
  rw [hks]
  refine run_fnN (us := [.ref a]) (vs := [.ref a]) F hr hb pass0 I2 (.cons rfl .nil) rz rfl h1.symm ?_
  rw [h1]
  exact q2
end
/-! ### an instance whose __init__ may raise: made by position or by keywords, in a try body -/
structure NOk (P : Program) (w : World) (K : PySem.W.Frag) (mg : Str → Option Value) (base : Heap) (k : Nat) (x : Str) (C : Addr) (ps ks : List Str) (sp : Sp) : Prop where
  gl : mg x = some (.ref C)
  ok : ∃ f fd, Mk K C f ∧ FnOk P w K mg base (L2N.CX P w) k f fd ps sp ∧ KBn K fd ps 2 [] (gP []) (gPV []) ∧ KBn K fd ps 1 ks (gP (List.range ks.length)) (gPV (List.range ks.length))
/-- C(v) or C(k = v) -/
def tMake1 (C : Addr) (sp : Sp) (W : WX) (t : TA) : TE := fun σ H Q => t σ H fun vs H1 => ∃ v, vs = [v] ∧ ∀ x dx, H1 x = none → H1 dx = none → dx ≠ x → sp [.ref x, v] (upd (upd H1 dx (.own x)) x (.ins C dx [])) (fun r H3 => r = .non ∧ Q (.ref x) H3) (WE W σ)
section
variable {X : Cx} {W : WX} {k n : Nat} {C : Addr} {ps ks : List Str} {sp : Sp} {x : Str} {p pos : Pos} {e : Expr} {kws : List Keyword} {t : TA} {f : Addr} {fd : FuncData} {g : List Value → List Value → List Value} {gV : List V → List V → List V}
theorem run_makeS {pins : List (Addr × Obj)} {σ : L2.St} {H : Hp} {s : Shared} {Q : VK} {us ws : List Value} {vs zs : List V} (tk : L2N.Takes X W) (M : Mk X.K C f) (F : FnOk X.prog X.w X.K X.mg X.base (L2N.CX X.prog X.w) k f fd ps sp) (hr : Room (k + 1) X.A) (hb : KBn X.K fd ps (n + 1) ks g gV)
    (I : Inv X pins σ H s) (r : Vals vs us) (rz : Vals zs ws) (l1 : vs.length = n) (l2 : zs.length = ks.length)
    (h : ∀ x dx, H x = none → H dx = none → dx ≠ x → sp (gV (.ref x :: vs) zs) (upd (upd H dx (.own x)) x (.ins C dx [])) (fun v H2 => v = .non ∧ Q (.ref x) H2) (WE W σ)) :
    wpAny (model X.prog X.w) X.A (call (.ref C) us (ks.zip ws)) (EP X pins σ Q) X.xe s := by
  have hq := h (s.heap.objs.size + 1) s.heap.objs.size (I.hok.fresh (Nat.le_succ _)) (I.hok.fresh (Nat.le_refl _)) (Nat.ne_of_lt (Nat.lt_succ_self _))
  have I2 := Inv.made (C := C) I
  have r1 : Vals (V.ref (s.heap.objs.size + 1) :: vs) (Value.ref (s.heap.objs.size + 1) :: us) := .cons rfl r
  have n1 : (Value.ref (s.heap.objs.size + 1) :: us).length = n + 1 := by rw [List.length_cons, ← r.length, l1]
  have run := F.run _ X.stack _ _ ⟨Value.ref (s.heap.objs.size + 1) :: us, ks.zip ws⟩ _ _ _ (WE W σ) (hr.make C us (ks.zip ws)) (I2.env0.make C us (ks.zip ws)) (hb.to _ _ ws I2.kIn n1 (rz.length.symm.trans l2)) (hb.rel r1 rz) hq
  refine wpAny_call (make_map (f := f) I.kIn M.makes M.init (beq_iff_eq.mp M.fn) (codeAny_mono run fun r s' hq' => ?_))
  cases r with
  | error e => exact tk e s' (L2N.XE.of_call I2 (fun _ _ _ z => z) hq')
  | ok fl =>
    cases fl with
    | ret u =>
      obtain ⟨v, H', I3, rv, ev, q3⟩ := I2.after hq'
      subst ev
      exact ⟨rv, ⟨V.ref (s.heap.objs.size + 1), H', I3, rfl, q3⟩⟩
    | next => exact False.elim hq'
    | brk => exact False.elim hq'
    | cont => exact False.elim hq'
theorem pe_makeP (tk : L2N.Takes X W) (N : NOk X.prog X.w X.K X.mg X.base k x C ps ks sp) (hr : Room (k + 1) X.A) (hg : Gl X x) (ha : PA X [e] t) (hdb : (x == ("__debug__" : Str)) = false := by decide)
    (he : starEach [e] X.env = (false, eval e X.env) :: starEach [] X.env := by rfl) (hpl : (backTo pos (starEach [] X.env)).any (·.1) = false := by rfl) :
    PE X (.Call (.Name x p) [e] [] pos) (tMake1 C sp W t) := by
  obtain ⟨f, fd, M, F, hb, _⟩ := N.ok
  refine ⟨fun pins s σ H Q I h => ?_⟩
  refine wpAny_Call_Name_kw (ld_glob I hg N.gl ?_ hdb)
  refine PySem.W.callWith_K (h₀ := X.base) I.ok.mod.kin M.kp (thn (ha.run pos pins s σ H _ I h) fun us s1 ⟨vs, H1, I1, r, v, ev, q⟩ => ⟨I1.kIn, ?_⟩) he hpl
  subst ev
  exact run_makeS (ks := []) (zs := []) (ws := []) tk M F hr hb I1 r .nil rfl rfl q
theorem pe_makeKw (tk : L2N.Takes X W) (N : NOk X.prog X.w X.K X.mg X.base k x C ps ks sp) (h1 : ks.length = 1) (hr : Room (k + 1) X.A) (hg : Gl X x) (hkw : PK X kws t)
    (hall : (backToKw pos (keywordEach kws X.env)).all (·.1.isSome) = true := by rfl) (hks : (backToKw pos (keywordEach kws X.env)).filterMap (·.1) = ks := by rfl) (hdb : (x == ("__debug__" : Str)) = false := by decide)
    (hpl : ((backTo pos (starEach [] X.env)).any (·.1) || (backToKw pos (keywordEach kws X.env)).any (·.1.isNone)) = false := by rfl) :
    PE X (.Call (.Name x p) [] kws pos) (tMake1 C sp W t) := by
  obtain ⟨f, fd, M, F, _, hb⟩ := N.ok
  refine ⟨fun pins s σ H Q I h => ?_⟩
  refine wpAny_Call_Name_kw (ld_glob I hg N.gl ?_ hdb)
  refine PySem.W.callWith_KW0 (h₀ := X.base) I.ok.mod.kin M.kp hall ?_ hpl
  refine thn (hkw.run pos pins s σ H _ I h) fun ws s2 ⟨zs, H2, I2, rz, v, ev, q2⟩ => ⟨I2.kIn, ?_⟩
  subst ev
  rw [hks]
  refine run_makeS (us := []) (vs := []) (n := 0) tk M F hr hb I2 .nil rz rfl h1.symm ?_
  rw [h1]
  exact q2
end
/-! ### a dict comprehension, by an invariant -/
def putAll (key : Nat → Key) (val : Nat → V) : Nat → List (Key × V)
  | 0 => []
  | n + 1 => putK (putAll key val n) (key n) (val n)
theorem putAll_len (key : Nat → Key) (val : Nat → V) (n : Nat) : (putAll key val n).length ≤ n := by
  induction n with
  | zero => exact Nat.le_refl _
  | succ n ih =>
    have := length_putK (putAll key val n) (key n) (val n)
    show (putK (putAll key val n) (key n) (val n)).length ≤ n + 1
    omega
theorem putAll_eq {key : Nat → Key} {val : Nat → V} {n : Nat} (nd : ((List.range n).map key).Nodup) : putAll key val n = (List.range n).map fun j => (key j, val j) := by
  induction n with
  | zero => rfl
  | succ n ih =>
    rw [List.range_succ, List.map_append, List.map_cons, List.map_nil, List.nodup_append] at nd
    rw [List.range_succ, List.map_append, List.map_cons, List.map_nil, ← ih nd.1]
    show putK _ _ _ = _
    unfold putK
    rw [if_neg]
    intro h
    obtain ⟨kv, h1, h2⟩ := List.any_eq_true.mp h
    rw [ih nd.1] at h1
    obtain ⟨j, h3, rfl⟩ := List.mem_map.mp h1
    exact nd.2.2 (key j) (List.mem_map_of_mem h3) (key n) (List.mem_singleton.mpr rfl) (of_decide_eq_true h2)
theorem dc_by {wi : TI} {g : TG} {own : List Nat} {tk tv : TE} {σ : L2.St} {H : Hp} {Q : VK} {J : It} {n : Nat} {item : Nat → V} (key : Nat → Key) (val : Nat → V) (hn : n ≤ sizeLine) (hw : ∀ R : It → Hp → Prop, R J H → wi σ H R) (wk : Walks J n item H)
    (step : ∀ j H1 (R : L2.St → Hp → Prop), j < n → Ex H H1 → (∀ σ2, wipe σ2 own = wipe σ own → (∀ H2 (R2 : VK), R2 (kV (key j)) H2 → tk σ2 H2 R2) → (∀ H2 (R2 : VK), R2 (val j) H2 → tv σ2 H2 R2) → R σ2 H1) → g (item j) (wipe σ own) H1 R)
    (fin : ∀ D H1, H D = none → Ex H H1 → H1 D = some (.dK (putAll key val n)) → Q (.ref D) H1) : tDc wi g tYes tk tv own σ H Q := by
  refine hw _ fun D hD => ?_
  refine ⟨fun j m H1 => m = n - j ∧ j ≤ n ∧ Ex H H1 ∧ H1 D = some (.dK (putAll key val j)), ⟨n - 0, rfl, Nat.zero_le _, Ex.new hD, upd_same⟩, ?_⟩
  rintro j m H1 ⟨rfl, hj, e, hS⟩
  by_cases hjn : j = n
  · subst hjn
    exact .inl ⟨wk.stop H1 e, fin D H1 hD e hS⟩
  · have hj2 : j < n := by omega
    refine .inr ⟨wk.go j H1 e hj2, fun H' => n - (j + 1) < n - j ∧ j + 1 ≤ n ∧ Ex H H' ∧ H' D = some (.dK (putAll key val (j + 1))), ?_, ?_⟩
    · rintro H' ⟨h1, h2, h3⟩
      exact ⟨n - (j + 1), h1, rfl, h2, h3⟩
    · intro x H' hy
      obtain ⟨rfl, rfl⟩ := wk.yld j H1 x H' e hj2 hy
      refine step j H' _ hj2 e fun σ2 hs hk hv => ⟨hs, ?_⟩
      unfold tYes
      dsimp only
      rw [if_pos rfl]
      refine hk _ _ (hv _ _ ⟨_, _, rfl, hS, ?_, by omega, by omega, ?_, upd_same⟩)
      · have := putAll_len key val j
        omega
      · exact ExB.new (fun a o na h => (by rw [upd_ne na]; exact e a o h)) hD
end K9

namespace K9
open PySem PySem.Spec PyProof.Rows L2 L2H HotX Evl
/-- f() -/
theorem pe_callK00 {X : Cx} {k : Nat} {x : Str} {ps : List Str} {sp : Sp} {q pos : Pos} (o : OkC X.prog X.w X.K X.mg X.base k x ps sp) (hr : Room k X.A) (hg : Gl X x) (hdb : (x == ("__debug__" : Str)) = false := by decide) :
    PE X (.Call (.Name x q) [] [] pos) (tCallB sp tNil) := by
  obtain ⟨f, fd, F, hm, hk, hb⟩ := o
  exact pe_call0 F hr hg hm hk hb .nil pass0 hdb
/-! ### an element that is told, with a slot that changes (a box): all but b stands -/
/-- a walk that the writing of b leaves alone -/
structure WalksB (b : Addr) (J : It) (n : Nat) (item : Nat → V) (H : Hp) : Prop where
  go : ∀ (i : Nat) (H1 : Hp), ExB b H H1 → i < n → J.go i H1
  yld : ∀ (i : Nat) (H1 : Hp) (x : V) (H' : Hp), ExB b H H1 → i < n → J.yld i H1 x H' → H' = H1 ∧ x = item i
  stop : ∀ (H1 : Hp), ExB b H H1 → J.stop n H1
theorem walksB_rng0 {b : Addr} {n : Nat} {H : Hp} : WalksB b (Itr 0 n) n (fun i => .int (i : Int)) H :=
  ⟨fun _ _ _ h => h, fun i _ _ _ _ _ h => ⟨h.1, by rw [h.2, Int.zero_add]⟩, fun _ _ => Nat.le_refl _⟩
theorem walksB_list {K : PySem.W.Frag} {a b : Addr} {xs : List V} {H : Hp} (h : H a = some (.lst xs)) (n : a ≠ b) : WalksB b (Itl K a) xs.length (fun i => xs.getD i .non) H := by
  refine ⟨fun i H1 e hi => ⟨xs, xs[i], SqL.of (e _ _ n h), List.getElem?_eq_getElem hi⟩, fun i H1 x H' e hi hy => ?_, fun H1 e => ⟨xs, SqL.of (e _ _ n h), Nat.le_refl _⟩⟩
  refine ⟨hy.1, ?_⟩
  have z := hy.2 xs (SqL.of (e _ _ n h))
  show x = xs.getD i .non
  rw [List.getD_eq_getElem?_getD, z]
  rfl
/-- [e for x in ..], b is written on the way; no test -/
theorem lcB_by {b : Addr} {wi : TI} {i : Nat} {te : TE} {σ : L2.St} {H : Hp} {Q : VK} {J : It} {n : Nat} {item : Nat → V} {ob : HO} (P : Nat → List V → Hp → Prop)
    (hn : n ≤ sizeLine) (hi : i < σ.length) (hb : H b = some ob) (hw : ∀ R : It → Hp → Prop, R J H → wi σ H R) (wk : WalksB b J n item H)
    (mono : ∀ (D : Addr) j acc H1 o, H D = none → P j acc H1 → P j acc (upd H1 D o)) (h0 : P 0 [] H)
    (step : ∀ j acc H1 (C : V → Hp → Prop), j < n → ExB b H H1 → P j acc H1 → (∀ y H4, ExB b H1 H4 → P (j + 1) (acc ++ [y]) H4 → C y H4) → te ((wipe σ [i]).set i (some (item j))) H1 C)
    (fin : ∀ D acc H1, H D = none → ExB b H H1 → H1 D = some (.lst acc) → P n acc H1 → acc.length = n → Q (.ref D) H1) : tLc wi (gName i) tYes te [i] σ H Q := by
  refine hw _ fun D hD => ?_
  have nb : D ≠ b := fun z => by rw [z, hb] at hD; cases hD
  have nu : ∀ {H1 : Hp} {o : HO}, ExB b H H1 → ExB b H (upd H1 D o) := fun e a o na h => by
    rw [upd_ne (ne_of_none h hD)]
    exact e a o na h
  refine ⟨fun j m H1 => m = n - j ∧ j ≤ n ∧ ExB b H H1 ∧ ∃ acc, H1 D = some (.lst acc) ∧ acc.length = j ∧ P j acc H1, ⟨n - 0, rfl, Nat.zero_le _, nu ExB.refl, [], upd_same, rfl, mono _ _ _ _ _ hD h0⟩, ?_⟩
  rintro j m H1 ⟨rfl, hj, e, acc, ha, hl, hp⟩
  by_cases hjn : j = n
  · subst hjn
    exact .inl ⟨wk.stop H1 e, fin D acc H1 hD e ha hp hl⟩
  · have hj2 : j < n := by omega
    refine .inr ⟨wk.go j H1 e hj2, fun H' => n - (j + 1) < n - j ∧ j + 1 ≤ n ∧ ExB b H H' ∧ ∃ acc, H' D = some (.lst acc) ∧ acc.length = j + 1 ∧ P (j + 1) acc H', ?_, ?_⟩
    · rintro H' ⟨h1, h2, h3⟩
      exact ⟨n - (j + 1), h1, rfl, h2, h3⟩
    · intro x H' hy
      obtain ⟨rfl, rfl⟩ := wk.yld j H1 x H' e hj2 hy
      refine ⟨by simp [wipe], ?_⟩
      unfold tYes
      dsimp only
      rw [if_pos rfl]
      refine step j acc H' _ hj2 e hp fun y H4 e4 p4 => ?_
      have hd := e4 _ _ nb ha
      exact ⟨acc, hd, by omega, by omega, by omega, nu (e.trans e4), acc ++ [y], upd_same, by simp [hl], mono _ _ _ _ _ hD p4⟩
end K9

namespace Hd
open PySem PySem.Spec PyProof.Rows L2
def top (i : Nat) : Stmt := PySem.Challenge.pw_mostspecial_k01_words_and_names.main.body.getD i (.Pass ⟨0, 0, 0, 0⟩)
def d_has_only : He.DefD := ⟨("has_only", none), "has_only", "has_only", defArgs (top 11), defBody (top 11), defScope (top 11), [], []⟩
def d_is_word : He.DefD := ⟨("is_word", none), "is_word", "is_word", defArgs (top 12), defBody (top 12), defScope (top 12), [], []⟩
def d_is_type_name : He.DefD := ⟨("is_type_name", none), "is_type_name", "is_type_name", defArgs (top 13), defBody (top 13), defScope (top 13), [], []⟩
def d_is_variable : He.DefD := ⟨("is_variable", none), "is_variable", "is_variable", defArgs (top 14), defBody (top 14), defScope (top 14), [], []⟩
def d_is_whole : He.DefD := ⟨("is_whole", none), "is_whole", "is_whole", defArgs (top 15), defBody (top 15), defScope (top 15), [], []⟩
def d_is_name_row : He.DefD := ⟨("is_name_row", none), "is_name_row", "is_name_row", defArgs (top 16), defBody (top 16), defScope (top 16), [], []⟩
def d_are_name_rows : He.DefD := ⟨("are_name_rows", none), "are_name_rows", "are_name_rows", defArgs (top 17), defBody (top 17), defScope (top 17), [], []⟩
def d__law_cell : He.DefD := ⟨("_law_cell", none), "_law_cell", "_law_cell", defArgs (top 20), defBody (top 20), defScope (top 20), [], []⟩
def d__law_box : He.DefD := ⟨("_law_box", none), "_law_box", "_law_box", defArgs (top 21), defBody (top 21), defScope (top 21), [], []⟩
def d__law_take : He.DefD := ⟨("_law_take", none), "_law_take", "_law_take", defArgs (top 22), defBody (top 22), defScope (top 22), [], []⟩
def d__law_like : He.DefD := ⟨("_law_like", none), "_law_like", "_law_like", defArgs (top 23), defBody (top 23), defScope (top 23), [], []⟩
def d__law_small : He.DefD := ⟨("_law_small", none), "_law_small", "_law_small", defArgs (top 24), defBody (top 24), defScope (top 24), [], []⟩
def d__law_great : He.DefD := ⟨("_law_great", none), "_law_great", "_law_great", defArgs (top 25), defBody (top 25), defScope (top 25), [], []⟩
def d__law_signs : He.DefD := ⟨("_law_signs", none), "_law_signs", "_law_signs", defArgs (top 26), defBody (top 26), defScope (top 26), [], []⟩
def d__law_spoilt : He.DefD := ⟨("_law_spoilt", none), "_law_spoilt", "_law_spoilt", defArgs (top 27), defBody (top 27), defScope (top 27), [], []⟩
def d__law_taken : He.DefD := ⟨("_law_taken", none), "_law_taken", "_law_taken", defArgs (top 28), defBody (top 28), defScope (top 28), [], []⟩
def d__law_like_word : He.DefD := ⟨("_law_like_word", none), "_law_like_word", "_law_like_word", defArgs (top 29), defBody (top 29), defScope (top 29), [], []⟩
def d__law_like_name : He.DefD := ⟨("_law_like_name", none), "_law_like_name", "_law_like_name", defArgs (top 30), defBody (top 30), defScope (top 30), [], []⟩
def d__law_like_variable : He.DefD := ⟨("_law_like_variable", none), "_law_like_variable", "_law_like_variable", defArgs (top 31), defBody (top 31), defScope (top 31), [], []⟩
def d__law_all_in : He.DefD := ⟨("_law_all_in", none), "_law_all_in", "_law_all_in", defArgs (top 32), defBody (top 32), defScope (top 32), [], []⟩
def d__law_word_due : He.DefD := ⟨("_law_word_due", none), "_law_word_due", "_law_word_due", defArgs (top 33), defBody (top 33), defScope (top 33), [], []⟩
def d__law_name_due : He.DefD := ⟨("_law_name_due", none), "_law_name_due", "_law_name_due", defArgs (top 34), defBody (top 34), defScope (top 34), [], []⟩
def d__law_variable_due : He.DefD := ⟨("_law_variable_due", none), "_law_variable_due", "_law_variable_due", defArgs (top 35), defBody (top 35), defScope (top 35), [], []⟩
def d__law_asked_right : He.DefD := ⟨("_law_asked_right", none), "_law_asked_right", "_law_asked_right", defArgs (top 36), defBody (top 36), defScope (top 36), [], []⟩
def d__law_values : He.DefD := ⟨("_law_values", none), "_law_values", "_law_values", defArgs (top 37), defBody (top 37), defScope (top 37), [], []⟩
def d__law_unlike : He.DefD := ⟨("_law_unlike", none), "_law_unlike", "_law_unlike", defArgs (top 38), defBody (top 38), defScope (top 38), [], []⟩
def d__law_item : He.DefD := ⟨("_law_item", none), "_law_item", "_law_item", defArgs (top 39), defBody (top 39), defScope (top 39), [], []⟩
def d__law_lists : He.DefD := ⟨("_law_lists", none), "_law_lists", "_law_lists", defArgs (top 40), defBody (top 40), defScope (top 40), [], []⟩
def d__law_names_due : He.DefD := ⟨("_law_names_due", none), "_law_names_due", "_law_names_due", defArgs (top 41), defBody (top 41), defScope (top 41), [], []⟩
def d__law_made : He.DefD := ⟨("_law_made", none), "_law_made", "_law_made", defArgs (top 42), defBody (top 42), defScope (top 42), [], []⟩
def d__law_told_right : He.DefD := ⟨("_law_told_right", none), "_law_told_right", "_law_told_right", defArgs (top 43), defBody (top 43), defScope (top 43), [], []⟩
def d__law_names_right : He.DefD := ⟨("_law_names_right", none), "_law_names_right", "_law_names_right", defArgs (top 44), defBody (top 44), defScope (top 44), [], []⟩
def d_law : He.DefD := ⟨("law", none), "law", "law", defArgs (top 45), defBody (top 45), defScope (top 45), [], []⟩
def d_InvalidNames___init__ : He.DefD := ⟨("InvalidNames", some "__init__"), "__init__", "InvalidNames.__init__", defArgs (inClass (top 2) 0), defBody (inClass (top 2) 0), defScope (inClass (top 2) 0), [], []⟩
def d_Names___init__ : He.DefD := ⟨("Names", some "__init__"), "__init__", "Names.__init__", defArgs (inClass (top 18) 0), defBody (inClass (top 18) 0), defScope (inClass (top 18) 0), [], []⟩
def d_Names_count_of : He.DefD := ⟨("Names", some "count_of"), "count_of", "Names.count_of", defArgs (inClass (top 18) 1), defBody (inClass (top 18) 1), defScope (inClass (top 18) 1), [], []⟩
def fn0 : List He.DefD := [d_has_only, d_is_word, d_is_type_name, d_is_variable, d_is_whole, d_is_name_row, d_are_name_rows, d__law_cell, d__law_box, d__law_take, d__law_like, d__law_small, d__law_great, d__law_signs, d__law_spoilt, d__law_taken, d__law_like_word, d__law_like_name, d__law_like_variable, d__law_all_in, d__law_word_due, d__law_name_due, d__law_variable_due, d__law_asked_right, d__law_values, d__law_unlike, d__law_item, d__law_lists, d__law_names_due, d__law_made]
def fn1 : List He.DefD := [d__law_told_right, d__law_names_right, d_law, d_InvalidNames___init__, d_Names___init__, d_Names_count_of]
def fn : List He.DefD := fn0 ++ fn1
def fa0 : List He.Fa := [.str "SMALL_LETTERS" "abcdefghijklmnopqrstuvwxyz", .str "GREAT_LETTERS" "ABCDEFGHIJKLMNOPQRSTUVWXYZ", .str "LETTERS" "ABCDEFGHIJKLMNOPQRSTUVWXYZabcdefghijklmnopqrstuvwxyz", .str "VARIABLE_SIGNS" "abcdefghijklmnopqrstuvwxyz0123456789", .glo "NO_WORDS", .int "MOST_NAMES" 24, .int "MOST_ARGS" 3, .cls "Names", .mkr "Names", .meth "Names" "count_of", .noat "Names" "told", .noat "Names" "_counts", .keep "Names", .glo "has_only", .glo "is_word", .glo "is_type_name", .glo "is_variable", .glo "is_whole", .glo "is_name_row", .glo "are_name_rows", .glo "_law_cell", .glo "_law_box", .glo "_law_take", .glo "_law_like", .glo "_law_small", .glo "_law_great", .glo "_law_signs", .glo "_law_spoilt", .glo "_law_taken", .glo "_law_like_word"]
def fa1 : List He.Fa := [.glo "_law_like_name", .glo "_law_like_variable", .glo "_law_all_in", .glo "_law_word_due", .glo "_law_name_due", .glo "_law_variable_due", .glo "_law_asked_right", .glo "_law_values", .glo "_law_unlike", .glo "_law_item", .glo "_law_lists", .glo "_law_names_due", .glo "_law_made", .glo "_law_told_right", .glo "_law_names_right", .glo "law", .glo "ChoiceError", .glo "InvalidNames", .glo "Names", .free "ValueError", .free "abs", .free "all", .free "bool", .free "dict", .free "int", .free "isinstance", .free "len", .free "list", .free "max", .free "min"]
def fa2 : List He.Fa := [.free "range", .free "sorted", .free "str", .free "sum", .free "tuple"]
def fa : List He.Fa := fa0 ++ fa1 ++ fa2
def lo0 : List PySem.Str := ["__name__", "ChoiceError", "InvalidNames", "SMALL_LETTERS", "GREAT_LETTERS", "LETTERS", "VARIABLE_SIGNS", "NO_WORDS", "MOST_NAMES", "MOST_ARGS", "has_only", "is_word", "is_type_name", "is_variable", "is_whole", "is_name_row", "are_name_rows", "Names", "_law_cell", "_law_box", "_law_take", "_law_like", "_law_small", "_law_great", "_law_signs", "_law_spoilt", "_law_taken", "_law_like_word", "_law_like_name", "_law_like_variable"]
def lo1 : List PySem.Str := ["_law_all_in", "_law_word_due", "_law_name_due", "_law_variable_due", "_law_asked_right", "_law_values", "_law_unlike", "_law_item", "_law_lists", "_law_names_due", "_law_made", "_law_told_right", "_law_names_right"]
def lo : List PySem.Str := lo0 ++ lo1
def errs : List Str := ["ChoiceError", "InvalidNames"]
def ini : List Str := ["InvalidNames"]
def flds : List Str := ["given"]
def taken : List Str := ["see", "name", "gen", "inner", "for", "const", "fun", "print", "if", "then", "else"]
def ex (K : PySem.W.Frag) : Bool := K9.errsB errs "ChoiceError" ini flds K && He.tupB K "NO_WORDS" (taken.map He.Dv.str) && (PySem.W.kitOne K (.ref (He.ga K "InvalidNames")) (.type "str") == some false) && (PySem.W.exmOne K (.ref (He.ga K "InvalidNames")) (.ref (He.ga K "InvalidNames")) == some true)

def tf : List He.Defn := [("has_only", none), ("are_name_rows", none)]
abbrev R : PySem.W.OpenRow := PySem.W.OpenLaw.row PySem.Challenge.rw_mostspecial_k01_words_and_names
abbrev hk : PySem.W.Hook := He.hookX 4 fa fn [] tf ex
def ob (s : PySem.W.SharedT) : He.AlX := He.obsX 4 fa fn [] tf ex (HandSHeadRun.getT s)
theorem ob_eq (s : PySem.W.SharedT) : ob s = hk.obs s.abs := He.obsX_eq (HandSHeadRun.getT_eq s)
theorem run (w : World) : HandSHeadRun.RunEq R (PySem.W.view R.prog [45]) hk ob 20000 lo w := by
  intro os
  kernel_rfl
end Hd

namespace D0
open PySem PySem.Spec PyProof.Rows L2 L2H HotX Evl K9
abbrev top := Hd.top
abbrev errs := Hd.errs
/-- what the module's names are: the free ones, the classes -/
structure Txt (K : PySem.W.Frag) (mg : Str → Option Value) : Prop where
  f_abs : mg "abs" = none
  f_int : mg "int" = none
  f_bool : mg "bool" = none
  f_str : mg "str" = none
  f_list : mg "list" = none
  f_tuple : mg "tuple" = none
  f_dict : mg "dict" = none
  f_len : mg "len" = none
  f_sum : mg "sum" = none
  f_max : mg "max" = none
  f_min : mg "min" = none
  f_range : mg "range" = none
  f_isinstance : mg "isinstance" = none
  f_ValueError : mg "ValueError" = none
  g_cls : ∀ x ∈ errs, mg x = some (.ref (He.ga K x))
section
variable {P : Program} {w : World} {K : PySem.W.Frag} {mg : Str → Option Value} {base : Heap} {f : Addr} {fd : FuncData} {k : Nat}
/-! ### the drawing of numbers -/
def spCellD (K : PySem.W.Frag) : Sp := fun vs H Q _ => ∃ (a : Addr) (ns : List Int) (k : Nat), vs = [.ref a, .int (k : Int)] ∧ SqL K H a (ns.map V.int) ∧ ∀ (i : Int) (H' : Hp), Ex H H' → Q (.int i) H'
abbrev s_cell : Stmt := top 20
abbrev N_cell : List Str := ["script", "k"]
theorem sc_cell : FnScope N_cell ["script", "k"] (defScope s_cell) := ⟨rfl, rfl, rfl, by decide +kernel, rfl, by decide +kernel, by decide +kernel⟩
theorem ok_cell (T : Txt K mg) (F : FunD K "_law_cell" "_law_cell" (defArgs s_cell) (defBody s_cell) (defScope s_cell) [] [] f fd) (hm : mg "_law_cell" = some (.ref f)) : OkC P w K mg base (k + 1) "_law_cell" ["script", "k"] (spCellD K) := by
  refine okC_of F hm sc_cell (fun _ _ _ _ _ _ us hl => match us, hl with | [_, _], _ => rfl) (fun vs H Q E h => ?_) (fun cdv A outer s H vs Q E hr h => ?_)
  · obtain ⟨a, ns, k, rfl, _⟩ := h
    rfl
  · obtain ⟨a, ns, k, rfl, hS, q⟩ := h
    refine ⟨_, (pss_one (ps_ret (pe_ifExp (pt_cmpR op_lt (pv 1) (pe_callB call_len_seq (by rfl) T.f_len (by decide +kernel) (pa_cons (pv 0) pa_nil)) (nomark _)) (pe_ix ix_list (pv 0) (pv 1) fun _ _ => rfl) (pe_op op_add (pe_op op_mul pe_int (pv 1)) (pe_op op_mod (pe_callB (cr_sum rfl) (by rfl) T.f_sum (by decide +kernel) (pa_cons (pe_slice sl_list (pv 0) po_none (po_some pe_int)) pa_nil)) pe_int))))), ?_⟩
    refine ⟨_, rfl, _, rfl, a, _, rfl, .inl hS, _, _, rfl, rfl, _, rfl, ?_⟩
    refine ite2 (fun h => ?_) (fun h => ?_)
    · have hk2 : k < ns.length := by
        have z := of_decide_eq_true h
        rw [List.length_map] at z
        omega
      refine ⟨_, rfl, _, rfl, a, _, _, _, rfl, rfl, hS, atI_nat (v := V.int (ns[k]'hk2)) (by rw [List.getElem?_map, List.getElem?_eq_getElem hk2]; rfl), ?_⟩
      exact q _ _ (Ex.refl H)
    · refine ⟨_, rfl, _, _, rfl, rfl, ⟨.inl ⟨by decide, by decide⟩, ?_⟩⟩
      refine ⟨_, rfl, _, rfl, a, _, rfl, hS, fun p hp => ?_⟩
      refine ⟨p, ns.take 1, rfl, .inl (.inl ?_), _, _, rfl, rfl, (by show (0 : Int) < 1000033; decide), ?_⟩
      · rw [upd_same]
        have e : cutV (ns.map V.int) none (some 1) = (ns.take 1).map V.int := by
          unfold cutV
          rw [HT.sIx_none, show (some (1 : Int)) = some ((1 : Nat) : Int) from rfl, HT.sIx_nat, List.drop_zero, List.map_take, List.length_map]
          cases ns with
          | nil => rfl
          | cons x r => simp
        rw [e]
      · exact ⟨_, _, rfl, rfl, q _ _ (Ex.new hp)⟩
/-! the box: the great number that is left, whether it is great, its rest, how often the mixer ran -/
def BoxAt (H : Hp) (b : Addr) (n : Nat) : Prop := ∃ (g m c : Int) (w : Bool), H b = some (.lst [.int g, .bl w, .int m, .int c]) ∧ 0 ≤ g ∧ 0 ≤ m ∧ m < 2147483629 ∧ 0 ≤ c ∧ c ≤ n
def spBox : Sp := fun vs H Q _ => ∃ (i : Int), vs = [.int i] ∧ ∀ (b : Addr) (H' : Hp), H b = none → Ex H H' → BoxAt H' b 0 → Q (.ref b) H'
abbrev s_box : Stmt := top 21
abbrev N_box : List Str := ["great"]
theorem sc_box : FnScope N_box ["great"] (defScope s_box) := ⟨rfl, rfl, rfl, by decide +kernel, rfl, by decide +kernel, by decide +kernel⟩
theorem ok_box (T : Txt K mg) (F : FunD K "_law_box" "_law_box" (defArgs s_box) (defBody s_box) (defScope s_box) [] [] f fd) (hm : mg "_law_box" = some (.ref f)) : OkC P w K mg base (k + 1) "_law_box" ["great"] spBox := by
  refine okC_of F hm sc_box (fun _ _ _ _ _ _ us hl => match us, hl with | [_], _ => rfl) (fun vs H Q E h => ?_) (fun cdv A outer s H vs Q E hr h => ?_)
  · obtain ⟨i, rfl, _⟩ := h
    rfl
  · obtain ⟨i, rfl, q⟩ := h
    refine ⟨_, (pss_one (ps_ret (pe_lst (pa_cons (pe_callB call_abs (by rfl) T.f_abs (by decide +kernel) (pa_cons (pv 0) pa_nil)) (pa_cons (pe_cmpR op_ge (pe_callB call_abs (by rfl) T.f_abs (by decide +kernel) (pa_cons (pv 0) pa_nil)) (pe_op op_pow pe_int pe_int) (nomark _)) (pa_cons (pe_op op_mod (pe_callTy call_int1 (by rfl) T.f_int (by decide +kernel) (pa_cons (pe_callB call_abs (by rfl) T.f_abs (by decide +kernel) (pa_cons (pv 0) pa_nil)) pa_nil)) pe_int) (pa_cons pe_int pa_nil))))))), ?_⟩
    refine ⟨_, rfl, i, rfl, ?_⟩
    refine ⟨_, rfl, i, rfl, _, _, rfl, rfl, ⟨by decide, by decide, by decide⟩, _, _, rfl, rfl, ?_⟩
    refine ⟨_, rfl, i, rfl, .inl ⟨_, rfl, _, _, rfl, rfl, (by show (0 : Int) < 2147483629; decide), ?_⟩⟩
    refine ⟨by show 4 ≤ sizeLine; decide, fun b hb => ?_⟩
    refine q b _ hb (Ex.new hb) ⟨_, _, _, _, upd_same, ?_, Int.emod_nonneg _ (by decide), Int.emod_lt_of_pos _ (by decide), by decide, by decide⟩
    split <;> omega
def spTake : Sp := fun vs H Q _ => ∃ (b : Addr) (n m : Nat), vs = [.ref b, .int (n : Int)] ∧ 1 ≤ n ∧ n ≤ 1000000 ∧ m ≤ 1000 ∧ BoxAt H b m ∧
  ∀ (d : Nat) (H' : Hp), d < n → ExB b H H' → BoxAt H' b (m + 1) → Q (.int (d : Int)) H'
abbrev s_take : Stmt := top 22
abbrev N_take : List Str := ["box", "many", "digit", "mixed"]
theorem sc_take : FnScope N_take ["box", "many"] (defScope s_take) := ⟨rfl, rfl, rfl, by decide +kernel, rfl, by decide +kernel, by decide +kernel⟩
theorem ok_take (T : Txt K mg) (F : FunD K "_law_take" "_law_take" (defArgs s_take) (defBody s_take) (defScope s_take) [] [] f fd) (hm : mg "_law_take" = some (.ref f)) : OkC P w K mg base (k + 1) "_law_take" ["box", "many"] spTake := by
  refine okC_of F hm sc_take (fun _ _ _ _ _ _ us hl => match us, hl with | [_, _], _ => rfl) (fun vs H Q E h => ?_) (fun cdv A outer s H vs Q E hr h => ?_)
  · obtain ⟨b, n, m, rfl, _⟩ := h
    rfl
  · obtain ⟨b, n, m, rfl, h1, hn, hm, ⟨g, r, c, w, hb, g0, r0, r1, c0, c1⟩, q⟩ := h
    refine ⟨_, (Evl.pss_cut (ps_if (pw_and (pt_val (pe_ix ix_list (pv 0) pe_int fun _ _ => rfl)) (pw_and1 (pt_cmpR op_gt (pe_ix ix_list (pv 0) pe_int fun _ _ => rfl) pe_int (nomark _)))).pt (pss_cons (ps_set (i := 2) sc_take.nd rfl (Or.inl rfl) (pe_op op_mod (pe_callTy call_int1 (by rfl) T.f_int (by decide +kernel) (pa_cons (pe_ix ix_list (pv 0) pe_int fun _ _ => rfl) pa_nil)) (pv 1))) (pss_cons (ps_asg (pe_op op_fdivW (pe_ix ix_list (pv 0) pe_int fun _ _ => rfl) (pv 1)) (pg_sub (pv 0) pe_int set_list)) (pss_one (ps_ret (pv 2))))) pss_nil) (pss_cons (ps_asg (pe_op op_add (pe_ix ix_list (pv 0) pe_int fun _ _ => rfl) pe_int) (pg_sub (pv 0) pe_int set_list)) (pss_cons (ps_set (i := 3) sc_take.nd rfl (Or.inl rfl) (pe_op op_mod (pe_callTy call_int1 (by rfl) T.f_int (by decide +kernel) (pa_cons (pe_op op_pow (pe_op op_add (pe_op op_add (pe_ix ix_list (pv 0) pe_int fun _ _ => rfl) (pe_op op_mul pe_int (pe_ix ix_list (pv 0) pe_int fun _ _ => rfl))) pe_int) pe_int) pa_nil)) pe_int)) (pss_one (ps_ret (pe_op op_mod (pe_op op_fdivW (pe_op op_mod (pe_callTy call_int1 (by rfl) T.f_int (by decide +kernel) (pa_cons (pe_op op_pow (pe_op op_add (pe_op op_mul (pv 3) pe_int) (pe_op op_mul pe_int (pe_ix ix_list (pv 0) pe_int fun _ _ => rfl))) pe_int) pa_nil)) pe_int) pe_int) (pv 1))))))), ?_⟩
    have np : (0 : Int) < (n : Int) := by omega
    have dw : CDivW g (n : Int) := wide_div (b := 20) np (by omega) (by decide) (by decide)
    refine ⟨fun σ' H' => σ' = start N_take [.ref b, .int (n : Int)] ∧ H' = H, ?_, ?_⟩
    · refine ⟨_, rfl, b, _, _, _, rfl, rfl, SqL.of hb, (rfl : _ = some (V.bl w)), w, rfl, ?_⟩
      refine ite2 (fun _ => ?_) (fun _ => ⟨rfl, rfl⟩)
      refine ⟨_, rfl, b, _, _, _, rfl, rfl, SqL.of hb, (rfl : _ = some (V.int g)), _, _, rfl, rfl, _, rfl, ?_⟩
      refine ite2 (fun _ => ?_) (fun _ => ⟨rfl, rfl⟩)
      refine ⟨_, rfl, b, _, _, _, rfl, rfl, SqL.of hb, (rfl : _ = some (V.int g)), .inl ⟨_, rfl, _, rfl, _, _, rfl, rfl, np, ?_⟩⟩
      refine ⟨_, rfl, b, _, _, _, rfl, rfl, SqL.of hb, (rfl : _ = some (V.int g)), _, rfl, _, _, rfl, rfl, dw, ?_⟩
      refine ⟨_, rfl, b, _, _, 0, rfl, rfl, hb, rfl, _, rfl, ?_⟩
      have e0 := Int.emod_nonneg g (b := (n : Int)) (by omega)
      have e1 := Int.emod_lt_of_pos g (b := (n : Int)) np
      have e2 : ((g % (n : Int)).toNat : Int) = g % (n : Int) := Int.toNat_of_nonneg e0
      have q2 := q (g % (n : Int)).toNat (upd H b (.lst ([V.int g, V.bl w, V.int r, V.int c].set 0 (.int (g / (n : Int)))))) (by omega) (fun a o na ha => by
        rw [upd_ne na]
        exact ha) ⟨g / (n : Int), r, c, w, upd_same, Int.ediv_nonneg g0 (by omega), r0, r1, c0, by omega⟩
      rw [e2] at q2
      exact q2
    · rintro σ' H' ⟨rfl, rfl⟩
      refine ⟨_, rfl, b, _, _, _, rfl, rfl, SqL.of hb, (rfl : _ = some (V.int c)), _, _, rfl, rfl, ?_⟩
      refine ⟨_, rfl, b, _, _, 3, rfl, rfl, hb, rfl, ?_⟩
      have hb2 : upd H' b (.lst ([V.int g, V.bl w, V.int r, V.int c].set 3 (.int (c + 1)))) b = some (.lst [V.int g, V.bl w, V.int r, V.int (c + 1)]) := upd_same
      have out : ExB b H' (upd H' b (.lst ([V.int g, V.bl w, V.int r, V.int c].set 3 (.int (c + 1))))) := fun a o na ha => by
        rw [upd_ne na]
        exact ha
      generalize upd H' b (.lst ([V.int g, V.bl w, V.int r, V.int c].set 3 (.int (c + 1)))) = H2 at hb2 out ⊢
      refine ⟨_, rfl, b, _, _, _, rfl, rfl, SqL.of hb2, (rfl : _ = some (V.int r)), _, rfl, b, _, _, _, rfl, rfl, SqL.of hb2, (rfl : _ = some (V.int (c + 1))), _, _, rfl, rfl, .inl ⟨by decide, by decide⟩, _, _, rfl, rfl, _, _, rfl, rfl, _, _, rfl, rfl, ⟨by decide, by decide, by omega⟩, ?_⟩
      refine .inl ⟨_, rfl, _, _, rfl, rfl, (by show (0 : Int) < 2147483647; decide), ?_⟩
      generalize hx : (r + 15486281 * (c + 1) + 179424929) ^ (5 : Int).toNat % 2147483647 = mixed
      have x0 : 0 ≤ mixed := by
        rw [← hx]
        exact Int.emod_nonneg _ (by decide)
      have x1 : mixed < 2147483647 := by
        rw [← hx]
        exact Int.emod_lt_of_pos _ (by decide)
      refine ⟨_, rfl, _, _, rfl, rfl, .inr ⟨by decide, by decide⟩, _, rfl, b, _, _, _, rfl, rfl, SqL.of hb2, (rfl : _ = some (V.int (c + 1))), _, _, rfl, rfl, .inl ⟨by decide, by decide⟩, _, _, rfl, rfl, _, _, rfl, rfl, ⟨by decide, by decide, by omega⟩, ?_⟩
      refine .inl ⟨_, rfl, _, _, rfl, rfl, (by show (0 : Int) < 2147483587; decide), _, _, rfl, rfl, ⟨by decide, by decide⟩, _, rfl, _, _, rfl, rfl, np, ?_⟩
      generalize hy : ((r + 15486281 * (c + 1) + 179424929) ^ (5 : Int).toNat % 2147483647 * 48271 + 104933 * (c + 1)) ^ (3 : Int).toNat % 2147483587 / 64 = y
      have e0 := Int.emod_nonneg y (b := (n : Int)) (by omega)
      have e1 := Int.emod_lt_of_pos y (b := (n : Int)) np
      have e2 : ((y % (n : Int)).toNat : Int) = y % (n : Int) := Int.toNat_of_nonneg e0
      have q2 := q (y % (n : Int)).toNat H2 (by omega) out ⟨g, r, c + 1, w, hb2, g0, r0, r1, by omega, by omega⟩
      rw [e2] at q2
      subst hy
      exact q2
theorem huC {k : Nat} {A : Around} (hr : RoomH k A) : A.units + 64 < cLine := by
  have := hr.un
  omega
theorem huD {k : Nat} {A : Around} (hr : RoomH k A) : A.units + 1 < cLine := by
  have := hr.un
  omega
def spLike : Pin → Sp := fun p vs H Q _ => ∃ (v u : V) (n : Nat), vs = [v, u] ∧ n ≤ 1000 ∧ Lk H v u n ∧ ∀ (H' : Hp), Ex H H' → Q (.bl true) H'
/-- the loop's invariant: the stack of pairs and its weight -/
def WLike (H : Hp) (L : Addr) (v u : V) (m : Nat) (σ : L2.St) (H' : Hp) : Prop := ∃ (st : List It4) (x3 x4 x5 x6 : Option V), σ = [some v, some u, some (.ref L), x3, x4, x5, x6] ∧ Ex H H' ∧ H' L = some (.lst (refs st)) ∧ StOk H H' L st ∧ wt st = m ∧ m ≤ 1000
abbrev s_like : Stmt := top 23
abbrev N_like : List Str := ["told", "due", "left", "one", "other", "k", "key"]
theorem sc_like : FnScope N_like ["told", "due"] (defScope s_like) := ⟨rfl, rfl, rfl, by decide +kernel, rfl, by decide +kernel, by decide +kernel⟩
theorem ok_like (T : Txt K mg) (F : FunD K "_law_like" "_law_like" (defArgs s_like) (defBody s_like) (defScope s_like) [] [] f fd) (hm : mg "_law_like" = some (.ref f)) : Ok P w K mg base (k + 1) "_law_like" ["told", "due"] spLike := by
  refine ok_of F hm sc_like (fun _ _ _ _ _ _ us hl => match us, hl with | [_, _], _ => rfl) (fun p vs H Q E h => ?_) (fun cdv A outer s H vs Q E' p c hM hC hr h => ?_)
  · obtain ⟨v, u, n, rfl, _⟩ := h
    rfl
  · obtain ⟨v, u, n, rfl, hn, hl, q⟩ := h
    have hM : Mood (cxB P w K mg base N_like "_law_like" (defScope s_like) f cdv A outer s H E' c p.toList).nox := hM
    refine ⟨_, PSs.nox (pss_cons (ps_set (i := 2) sc_like.nd rfl (Or.inl rfl) (pe_lst (pa_cons (pe_tup (pa_cons (pv 0) (pa_cons (pv 1) pa_nil))) pa_nil))) (pss_cons (ps_while PassesOwn.never (pt_cmpR (op_ne0 (huC hr)) (pv 2) (pe_lst pa_nil) (nomark _)) (pss_cons (ps_asg (pe_bm0 PySem.F.plainAttrs_list PySem.F.slot_list_pop PySem.F.type_list_pop mt_pop (pv 2)) (pg_tupC hM (pgs_cons (pg_name (i := 3) sc_like.nd rfl (Or.inr rfl)) (pgs_cons (pg_name (i := 4) sc_like.nd rfl (Or.inr rfl)) pgs_nil)))) (pss_one (ps_if (pt_val (pe_callB call_isiT (by rfl) T.f_isinstance (by decide +kernel) (pa_cons (pv 4) (pa_cons (pe_tup (pa_cons (pe_bltn (v := .ty "list") (by rfl) T.f_list (by decide +kernel) rfl) (pa_cons (pe_bltn (v := .ty "tuple") (by rfl) T.f_tuple (by decide +kernel) rfl) pa_nil))) pa_nil)))) (pss_cons (ps_if (pw_or (pt_cmpR op_ne (pe_callB call_isi (by rfl) T.f_isinstance (by decide +kernel) (pa_cons (pv 3) (pa_cons (pe_bltn (v := .ty "list") (by rfl) T.f_list (by decide +kernel) rfl) pa_nil))) (pe_callB call_isi (by rfl) T.f_isinstance (by decide +kernel) (pa_cons (pv 4) (pa_cons (pe_bltn (v := .ty "list") (by rfl) T.f_list (by decide +kernel) rfl) pa_nil))) (nomark _)) (pw_or1 (pt_cmpR op_ne (pe_callB call_isi (by rfl) T.f_isinstance (by decide +kernel) (pa_cons (pv 3) (pa_cons (pe_bltn (v := .ty "tuple") (by rfl) T.f_tuple (by decide +kernel) rfl) pa_nil))) (pe_callB call_isi (by rfl) T.f_isinstance (by decide +kernel) (pa_cons (pv 4) (pa_cons (pe_bltn (v := .ty "tuple") (by rfl) T.f_tuple (by decide +kernel) rfl) pa_nil))) (nomark _)))).pt (pss_one (ps_ret pe_bl)) pss_nil) (pss_cons (ps_if (pt_cmpR op_ne (pe_callB call_lenA (by rfl) T.f_len (by decide +kernel) (pa_cons (pv 3) pa_nil)) (pe_callB call_lenA (by rfl) T.f_len (by decide +kernel) (pa_cons (pv 4) pa_nil)) (nomark _)) (pss_one (ps_ret pe_bl)) pss_nil) (pss_one (ps_expr (pe_bm PySem.F.plainAttrs_list PySem.F.slot_list_extend PySem.F.type_list_extend mt_extend (pv 2) (pa_cons (pe_lcC (own := [("k", 5)]) (g := gName 5) hM sc_like.nd (fun _ => (pi_range1 (by rfl) T.f_range (pa_cons (pe_callB call_lenA (by rfl) T.f_len (by decide +kernel) (pa_cons (pv 4) pa_nil)) pa_nil))) (fun _ => (pi_range1H (by rfl) T.f_range (pa_cons (pe_callB call_lenA (by rfl) T.f_len (by decide +kernel) (pa_cons (pv 4) pa_nil)) pa_nil))) (blkOk_by (N := N_like) (sc := defScope s_like) (by decide +kernel)) (fun _ _ _ _ _ => pg_name (i := 5) sc_like.nd rfl (Or.inl rfl)) (fun _ _ _ _ _ => pts_nil) (fun _ _ _ _ _ => (pe_tup (pa_cons (pe_ix (show IxR _ (rIx K) from ix_seq) (pv 3) (pv 5) fun _ _ => rfl) (pa_cons (pe_ix (show IxR _ (rIx K) from ix_seq) (pv 4) (pv 5) fun _ _ => rfl) pa_nil))))) pa_nil)))))) (pss_one (ps_if (pt_val (pe_callB call_isi (by rfl) T.f_isinstance (by decide +kernel) (pa_cons (pv 4) (pa_cons (pe_bltn (v := .ty "dict") (by rfl) T.f_dict (by decide +kernel) rfl) pa_nil)))) (pss_cons (ps_if (pw_or (pt_not (pt_val (pe_callB call_isi (by rfl) T.f_isinstance (by decide +kernel) (pa_cons (pv 3) (pa_cons (pe_bltn (v := .ty "dict") (by rfl) T.f_dict (by decide +kernel) rfl) pa_nil))))) (pw_or (pt_cmpR op_ne (pe_callB call_lenA (by rfl) T.f_len (by decide +kernel) (pa_cons (pv 3) pa_nil)) (pe_callB call_lenA (by rfl) T.f_len (by decide +kernel) (pa_cons (pv 4) pa_nil)) (nomark _)) (pw_or1 (pt_cmpR (op_ne0 (huC hr)) (pe_lock (pe_lcC (own := [("key", 6)]) (g := gName 6) hM sc_like.nd (fun _ => (pi_keyK (pv 4))) (fun _ => (piH_keyK (pv 4))) (blkOk_by (N := N_like) (sc := defScope s_like) (by decide +kernel)) (fun _ _ _ _ _ => pg_name (i := 6) sc_like.nd rfl (Or.inl rfl)) (fun _ _ _ _ _ => (pts_one (pt_cmp (pc_dnotin (huD hr) (pv 6) (pv 3))))) (fun _ _ _ _ _ => (pv 6)))) (pe_lst pa_nil) (nomark _))))).pt (pss_one (ps_ret pe_bl)) pss_nil) (pss_one (ps_expr (pe_bm PySem.F.plainAttrs_list PySem.F.slot_list_extend PySem.F.type_list_extend mt_extend (pv 2) (pa_cons (pe_lock (pe_lcC (own := [("key", 6)]) (g := gName 6) hM sc_like.nd (fun _ => (pi_keyK (pv 4))) (fun _ => (piH_keyK (pv 4))) (blkOk_by (N := N_like) (sc := defScope s_like) (by decide +kernel)) (fun _ _ _ _ _ => pg_name (i := 6) sc_like.nd rfl (Or.inl rfl)) (fun _ _ _ _ _ => pts_nil) (fun _ _ _ _ _ => (pe_tup (pa_cons (pe_dget (huD hr) (pv 3) (pv 6) fun _ _ => rfl) (pa_cons (pe_dget (huD hr) (pv 4) (pv 6) fun _ _ => rfl) pa_nil)))))) pa_nil))))) (pss_one (ps_if (pw_and (pt_val (pe_callB call_isi (by rfl) T.f_isinstance (by decide +kernel) (pa_cons (pv 4) (pa_cons (pe_bltn (v := .ty "int") (by rfl) T.f_int (by decide +kernel) rfl) pa_nil)))) (pw_and1 (pt_not (pt_val (pe_callB call_isi (by rfl) T.f_isinstance (by decide +kernel) (pa_cons (pv 4) (pa_cons (pe_bltn (v := .ty "bool") (by rfl) T.f_bool (by decide +kernel) rfl) pa_nil))))))).pt (pss_one (ps_if (pw_or (pt_not (pt_val (pe_callB call_isi (by rfl) T.f_isinstance (by decide +kernel) (pa_cons (pv 3) (pa_cons (pe_bltn (v := .ty "int") (by rfl) T.f_int (by decide +kernel) rfl) pa_nil))))) (pw_or (pt_val (pe_callB call_isi (by rfl) T.f_isinstance (by decide +kernel) (pa_cons (pv 3) (pa_cons (pe_bltn (v := .ty "bool") (by rfl) T.f_bool (by decide +kernel) rfl) pa_nil)))) (pw_or1 (pt_cmpR op_ne (pv 3) (pv 4) (nomark _))))).pt (pss_one (ps_ret pe_bl)) pss_nil)) (pss_one (ps_if (pt_val (pe_callB call_isi (by rfl) T.f_isinstance (by decide +kernel) (pa_cons (pv 4) (pa_cons (pe_bltn (v := .ty "str") (by rfl) T.f_str (by decide +kernel) rfl) pa_nil)))) (pss_one (ps_if (pw_or (pt_not (pt_val (pe_callB call_isi (by rfl) T.f_isinstance (by decide +kernel) (pa_cons (pv 3) (pa_cons (pe_bltn (v := .ty "str") (by rfl) T.f_str (by decide +kernel) rfl) pa_nil))))) (pw_or1 (pt_cmpR op_ne (pv 3) (pv 4) (nomark _)))).pt (pss_one (ps_ret pe_bl)) pss_nil)) (pss_one (ps_if (pw_or (pt_cmpR op_ne (pe_cmpR op_isN (pv 4) pe_non (nomark _)) (pe_cmpR op_isN (pv 3) pe_non (nomark _)) (nomark _)) (pw_or (pt_cmpR op_ne (pe_cmpR (op_isB (b := true)) (pv 4) pe_bl (nomark _)) (pe_cmpR (op_isB (b := true)) (pv 3) pe_bl (nomark _)) (nomark _)) (pw_or1 (pt_cmpR op_ne (pe_cmpR (op_isB (b := false)) (pv 4) pe_bl (nomark _)) (pe_cmpR (op_isB (b := false)) (pv 3) pe_bl (nomark _)) (nomark _))))).pt (pss_one (ps_ret pe_bl)) pss_nil)))))))))))) (pss_one (ps_ret pe_bl)))), ?_⟩
    refine seq_asg ?_
    refine ⟨_, rfl, _, rfl, by show 2 ≤ sizeLine; decide, fun r hr => ⟨by show 1 ≤ sizeLine; decide, fun L hL => ?_⟩⟩
    have nLr : r ≠ L := fun z => by
      rw [← z, upd_same] at hL
      cases hL
    have hL0 : H L = none := by
      rw [upd_ne (Ne.symm nLr)] at hL
      exact hL
    refine ⟨WLike H L v u, ⟨n, [⟨r, v, u, n⟩], none, none, none, none, rfl, (Ex.new hr).trans (Ex.new hL), upd_same, fun q hq => ?_, by simp [wt], hn⟩, ?_⟩
    · obtain rfl := List.mem_singleton.mp hq
      exact ⟨nLr, by rw [upd_ne nLr, upd_same], hl⟩
    · rintro m σ' H' ⟨st, x3, x4, x5, x6, rfl, e, hL, ok, hw, hm⟩
      refine ⟨_, rfl, by show 0 ≤ sizeLine; decide, fun p1 hp1 => ⟨L, p1, refs st, rfl, rfl, SqL.of ((Ex.new hp1) _ _ hL), SqL.of upd_same, _, rfl, ?_⟩⟩
      have e1 := e.trans (Ex.new (o := .lst []) hp1)
      have hL1 := (Ex.new (o := .lst []) hp1) _ _ hL
      have ok1 := StOk.ext (Ex.but (Ex.new (o := .lst []) hp1)) ok
      generalize upd H' p1 (.lst []) = H1 at e1 hL1 ok1 ⊢
      rcases List.eq_nil_or_concat st with rfl | ⟨st0, q4, rfl⟩
      · refine ite2 (fun z => absurd z (by decide)) (fun _ => ?_)
        exact q _ e1
      · refine ite2 (fun _ => ?_) (fun z => absurd z (by simp [refs]))
        refine ⟨fun σ2 H2 => ∃ m', m' < m ∧ WLike H L v u m' σ2 H2, fun _ _ h => h, ?_⟩
        have hq4 := ok1 q4 (by simp)
        have hd : (refs (st0.concat q4)).dropLast = refs st0 := by simp [refs]
        refine ⟨_, rfl, .inl ⟨rfl, _, SqL.of hL1⟩, L, refs (st0.concat q4), .ref q4.r, rfl, rfl, hL1, by simp [refs], q4.r, [q4.v, q4.u], rfl, SqT.of (by rw [upd_ne hq4.1]; exact hq4.2.1), rfl, ?_⟩
        rw [hd]
        have e2 : Ex H (upd H1 L (.lst (refs st0))) := ExB.new (ExB.trans (Ex.but e1) ExB.set) hL0
        have hL2 : upd H1 L (.lst (refs st0)) L = some (.lst (refs st0)) := upd_same
        have ok2 : StOk H (upd H1 L (.lst (refs st0))) L st0 := StOk.ext ExB.set fun z hz => ok1 z (by simp [hz])
        have lk := hq4.2.2
        have hw2 : wt st0 + q4.n = m := by
          rw [← hw, List.concat_eq_append, wt_app]
          simp [wt]
        obtain ⟨r4, v4, u4, n4⟩ := q4
        simp only at lk hw2
        generalize upd H1 L (.lst (refs st0)) = G at e2 hL2 ok2 ⊢
        clear hq4 hd hL1 ok1 e1 hw ok hL
        have fin : ∀ (x5 x6 : Option V) (G2 : Hp), Ex G G2 → 1 ≤ n4 → ∃ m', m' < m ∧ WLike H L v u m' [some v, some u, some (.ref L), some v4, some u4, x5, x6] G2 := fun x5 x6 G2 e3 h1 =>
          ⟨wt st0, by omega, st0, _, _, _, _, rfl, e2.trans e3, e3 _ _ hL2, StOk.ext (Ex.but e3) ok2, rfl, by omega⟩
        refine ⟨_, _, rfl, _, _, rfl, rfl, _, rfl, by show 2 ≤ sizeLine; decide, fun t ht => ?_⟩
        cases lk with
        | non =>
          refine ⟨_, t, _, _, _, _, rfl, upd_same, .cons (.ty _) (.cons (.ty _) .nil), .base .non, rfl, _, rfl, ?_⟩
          have e3 : Ex G (upd G t (.tup [.ty "list", .ty "tuple"])) := Ex.new ht
          generalize upd G t (.tup [.ty "list", .ty "tuple"]) = G1 at e3 ⊢
          refine ite2 (fun z => absurd z (by decide)) (fun _ => ?_)
          refine ⟨_, rfl, _, _, _, _, _, rfl, .ty _, .base .non, rfl, _, rfl, ?_⟩
          refine ite2 (fun z => absurd z (by decide)) (fun _ => ?_)
          refine ⟨_, rfl, _, _, _, _, _, rfl, .ty _, .base .non, rfl, _, rfl, ?_⟩
          refine ite2 (fun z => absurd z (by decide)) (fun _ => ?_)
          refine ite2 (fun z => absurd z (by decide)) (fun _ => ?_)
          refine ⟨_, rfl, _, _, _, _, _, rfl, .ty _, .base .non, rfl, _, rfl, ?_⟩
          refine ite2 (fun z => absurd z (by decide)) (fun _ => ?_)
          refine ⟨_, rfl, rfl, _, rfl, rfl, rfl, _, rfl, ?_⟩
          refine ite2 (fun z => absurd z (by simp)) (fun _ => ?_)
          refine ⟨_, rfl, rfl, .inl rfl, _, rfl, rfl, .inl rfl, rfl, _, rfl, ?_⟩
          refine ite2 (fun z => absurd z (by simp)) (fun _ => ?_)
          refine ⟨_, rfl, rfl, .inl rfl, _, rfl, rfl, .inl rfl, rfl, _, rfl, ?_⟩
          refine ite2 (fun z => absurd z (by simp)) (fun _ => ?_)
          exact fin _ _ _ e3 (by omega)
        | bl b =>
          cases b
          · refine ⟨_, t, _, _, _, _, rfl, upd_same, .cons (.ty _) (.cons (.ty _) .nil), .base (.bl _), rfl, _, rfl, ?_⟩
            have e3 : Ex G (upd G t (.tup [.ty "list", .ty "tuple"])) := Ex.new ht
            generalize upd G t (.tup [.ty "list", .ty "tuple"]) = G1 at e3 ⊢
            refine ite2 (fun z => absurd z (by decide)) (fun _ => ?_)
            refine ⟨_, rfl, _, _, _, _, _, rfl, .ty _, .base (.bl _), rfl, _, rfl, ?_⟩
            refine ite2 (fun z => absurd z (by decide)) (fun _ => ?_)
            refine ⟨_, rfl, _, _, _, _, _, rfl, .ty _, .base (.bl _), rfl, _, rfl, ?_⟩
            refine ite2 (fun _ => ?_) (fun z => absurd rfl z)
            refine ⟨_, rfl, _, _, _, _, _, rfl, .ty _, .base (.bl _), rfl, _, rfl, ?_⟩
            refine ite2 (fun z => absurd z (by decide)) (fun _ => ?_)
            refine ⟨_, rfl, _, _, _, _, _, rfl, .ty _, .base (.bl _), rfl, _, rfl, ?_⟩
            refine ite2 (fun z => absurd z (by decide)) (fun _ => ?_)
            refine ⟨_, rfl, rfl, _, rfl, rfl, rfl, _, rfl, ?_⟩
            refine ite2 (fun z => absurd z (by simp)) (fun _ => ?_)
            refine ⟨_, rfl, rfl, .inr ⟨_, rfl⟩, _, rfl, rfl, .inr ⟨_, rfl⟩, rfl, _, rfl, ?_⟩
            refine ite2 (fun z => absurd z (by simp)) (fun _ => ?_)
            refine ⟨_, rfl, rfl, .inr ⟨_, rfl⟩, _, rfl, rfl, .inr ⟨_, rfl⟩, rfl, _, rfl, ?_⟩
            refine ite2 (fun z => absurd z (by simp)) (fun _ => ?_)
            exact fin _ _ _ e3 (by omega)
          · refine ⟨_, t, _, _, _, _, rfl, upd_same, .cons (.ty _) (.cons (.ty _) .nil), .base (.bl _), rfl, _, rfl, ?_⟩
            have e3 : Ex G (upd G t (.tup [.ty "list", .ty "tuple"])) := Ex.new ht
            generalize upd G t (.tup [.ty "list", .ty "tuple"]) = G1 at e3 ⊢
            refine ite2 (fun z => absurd z (by decide)) (fun _ => ?_)
            refine ⟨_, rfl, _, _, _, _, _, rfl, .ty _, .base (.bl _), rfl, _, rfl, ?_⟩
            refine ite2 (fun z => absurd z (by decide)) (fun _ => ?_)
            refine ⟨_, rfl, _, _, _, _, _, rfl, .ty _, .base (.bl _), rfl, _, rfl, ?_⟩
            refine ite2 (fun _ => ?_) (fun z => absurd rfl z)
            refine ⟨_, rfl, _, _, _, _, _, rfl, .ty _, .base (.bl _), rfl, _, rfl, ?_⟩
            refine ite2 (fun z => absurd z (by decide)) (fun _ => ?_)
            refine ⟨_, rfl, _, _, _, _, _, rfl, .ty _, .base (.bl _), rfl, _, rfl, ?_⟩
            refine ite2 (fun z => absurd z (by decide)) (fun _ => ?_)
            refine ⟨_, rfl, rfl, _, rfl, rfl, rfl, _, rfl, ?_⟩
            refine ite2 (fun z => absurd z (by simp)) (fun _ => ?_)
            refine ⟨_, rfl, rfl, .inr ⟨_, rfl⟩, _, rfl, rfl, .inr ⟨_, rfl⟩, rfl, _, rfl, ?_⟩
            refine ite2 (fun z => absurd z (by simp)) (fun _ => ?_)
            refine ⟨_, rfl, rfl, .inr ⟨_, rfl⟩, _, rfl, rfl, .inr ⟨_, rfl⟩, rfl, _, rfl, ?_⟩
            refine ite2 (fun z => absurd z (by simp)) (fun _ => ?_)
            exact fin _ _ _ e3 (by omega)
        | int i =>
          refine ⟨_, t, _, _, _, _, rfl, upd_same, .cons (.ty _) (.cons (.ty _) .nil), .base (.int _), rfl, _, rfl, ?_⟩
          have e3 : Ex G (upd G t (.tup [.ty "list", .ty "tuple"])) := Ex.new ht
          generalize upd G t (.tup [.ty "list", .ty "tuple"]) = G1 at e3 ⊢
          refine ite2 (fun z => absurd z (by decide)) (fun _ => ?_)
          refine ⟨_, rfl, _, _, _, _, _, rfl, .ty _, .base (.int _), rfl, _, rfl, ?_⟩
          refine ite2 (fun z => absurd z (by decide)) (fun _ => ?_)
          refine ⟨_, rfl, _, _, _, _, _, rfl, .ty _, .base (.int _), rfl, _, rfl, ?_⟩
          refine ite2 (fun _ => ?_) (fun z => absurd rfl z)
          refine ⟨_, rfl, _, _, _, _, _, rfl, .ty _, .base (.int _), rfl, _, rfl, ?_⟩
          refine ite2 (fun _ => ?_) (fun z => absurd rfl z)
          refine ⟨_, rfl, _, _, _, _, _, rfl, .ty _, .base (.int _), rfl, _, rfl, ?_⟩
          refine ite2 (fun z => absurd z (by decide)) (fun _ => ?_)
          refine ⟨_, rfl, _, _, _, _, _, rfl, .ty _, .base (.int _), rfl, _, rfl, ?_⟩
          refine ite2 (fun z => absurd z (by decide)) (fun _ => ?_)
          refine ⟨_, rfl, _, rfl, rfl, _, rfl, ?_⟩
          refine ite2 (fun z => absurd z (by simp)) (fun _ => ?_)
          exact fin _ _ _ e3 (by omega)
        | str z =>
          refine ⟨_, t, _, _, _, _, rfl, upd_same, .cons (.ty _) (.cons (.ty _) .nil), .base (.str _), rfl, _, rfl, ?_⟩
          have e3 : Ex G (upd G t (.tup [.ty "list", .ty "tuple"])) := Ex.new ht
          generalize upd G t (.tup [.ty "list", .ty "tuple"]) = G1 at e3 ⊢
          refine ite2 (fun z => absurd z (by decide)) (fun _ => ?_)
          refine ⟨_, rfl, _, _, _, _, _, rfl, .ty _, .base (.str _), rfl, _, rfl, ?_⟩
          refine ite2 (fun z => absurd z (by decide)) (fun _ => ?_)
          refine ⟨_, rfl, _, _, _, _, _, rfl, .ty _, .base (.str _), rfl, _, rfl, ?_⟩
          refine ite2 (fun z => absurd z (by decide)) (fun _ => ?_)
          refine ite2 (fun z => absurd z (by decide)) (fun _ => ?_)
          refine ⟨_, rfl, _, _, _, _, _, rfl, .ty _, .base (.str _), rfl, _, rfl, ?_⟩
          refine ite2 (fun _ => ?_) (fun z => absurd rfl z)
          refine ⟨_, rfl, _, _, _, _, _, rfl, .ty _, .base (.str _), rfl, _, rfl, ?_⟩
          refine ite2 (fun z => absurd z (by decide)) (fun _ => ?_)
          refine ⟨_, rfl, _, rfl, rfl, _, rfl, ?_⟩
          refine ite2 (fun z => absurd z (by simp)) (fun _ => ?_)
          exact fin _ _ _ e3 (by omega)
        | @lst a4 b4 vs us n0 ha hb hs =>
          have ha0 := e2 _ _ ha
          have hb0 := e2 _ _ hb
          refine ⟨_, t, _, _, _, _, rfl, upd_same, .cons (.ty _) (.cons (.ty _) .nil), .base (.lst ((Ex.new ht) _ _ hb0)), rfl, _, rfl, ?_⟩
          have e3 : Ex G (upd G t (.tup [.ty "list", .ty "tuple"])) := Ex.new ht
          generalize upd G t (.tup [.ty "list", .ty "tuple"]) = G1 at e3 ⊢
          refine ite2 (fun _ => ?_) (fun z => absurd rfl z)
          have ha1 := e3 _ _ ha0
          have hb1 := e3 _ _ hb0
          refine ⟨_, rfl, _, _, _, _, _, rfl, .ty _, .base (.lst ha1), rfl, _, rfl, _, _, _, _, _, rfl, .ty _, .base (.lst hb1), rfl, rfl, _, rfl, ?_⟩
          refine ite2 (fun z => absurd z (by decide)) (fun _ => ?_)
          refine ⟨_, rfl, _, _, _, _, _, rfl, .ty _, .base (.lst ha1), rfl, _, rfl, _, _, _, _, _, rfl, .ty _, .base (.lst hb1), rfl, rfl, _, rfl, ?_⟩
          refine ite2 (fun z => absurd z (by decide)) (fun _ => ?_)
          refine nx_l ?_
          obtain ⟨ns, l1, l2, l3, l4, hget⟩ := hs.get
          refine ⟨_, rfl, .inl ⟨_, vs, rfl, .inl (SqL.of ha1), _, rfl, .inl ⟨_, us, rfl, .inl (SqL.of hb1), rfl, _, rfl, ?_⟩⟩⟩
          refine ite0 (by rw [l1]; simp) (nx_l ?_)
          have hL3 := e3 _ _ hL2
          refine ⟨_, rfl, .inl ⟨rfl, _, SqL.of hL3⟩, cons_l ?_⟩
          have big : (1000 : Nat) ≤ sizeLine := by decide
          have z2 := wt_len ok2
          refine lc_by (J := Itr 0 us.length) (n := us.length) (item := fun i => .int (i : Int)) (Made H L vs us ns) (by omega) (by show (5 : Nat) < 7; decide) (fun R h => ?_) walks_rng0 (fun D j acc H1 H2 => Made.mono) (fun D hD => Made.nil) (fun D j acc H1 C Cf hj hD e4 ha4 hp kf kt => ?_) (fun D acc H1 hD e4 ha4 hp => ?_)
          · refine ⟨_, rfl, .inl ⟨_, us, rfl, .inl (SqL.of hb1), (us.length : Int), rfl, by omega, by omega, ?_⟩⟩
            rw [Int.toNat_natCast]
            exact h
          · have hj1 : j < vs.length := by omega
            refine ⟨_, rfl, _, rfl, .inl ⟨_, vs, _, _, rfl, rfl, SqL.of (e4 _ _ ha1), atI_nat (getD_at hj1), _, rfl, _, rfl, .inl ⟨_, us, _, _, rfl, rfl, SqL.of (e4 _ _ hb1), atI_nat (getD_at hj), by show 2 ≤ sizeLine; decide, fun t4 ht4 => ?_⟩⟩⟩
            exact kt _ _ (Ex.new ht4) (hp.next ht4 ha4 (e4 _ _ hL3) (hget j hj))
          · rw [← l2] at hp
            obtain ⟨its, rfl, w1, ok3⟩ := hp.wt
            have hL4 := e4 _ _ hL3
            have nD : D ≠ L := (ne_of_none hL3 hD).symm
            have z1 := wt_len ok3
            refine ⟨L, D, refs st0, refs its, rfl, rfl, hL4, ha4, by simp [refs]; omega, ?_⟩
            refine ⟨wt (st0 ++ its), by rw [wt_app]; omega, st0 ++ its, _, _, _, _, rfl, ExB.new (ExB.trans (Ex.but (e2.trans (e3.trans e4))) ExB.set) hL0, by rw [upd_same]; simp [refs], ?_, rfl, by rw [wt_app]; omega⟩
            exact StOk.ext ExB.set (StOk.app (StOk.ext (Ex.but (e3.trans e4)) ok2) ok3)
        | @tup a4 b4 vs us n0 ha hb hs =>
          have ha0 := e2 _ _ ha
          have hb0 := e2 _ _ hb
          refine ⟨_, t, _, _, _, _, rfl, upd_same, .cons (.ty _) (.cons (.ty _) .nil), .base (.tup ((Ex.new ht) _ _ hb0)), rfl, _, rfl, ?_⟩
          have e3 : Ex G (upd G t (.tup [.ty "list", .ty "tuple"])) := Ex.new ht
          generalize upd G t (.tup [.ty "list", .ty "tuple"]) = G1 at e3 ⊢
          refine ite2 (fun _ => ?_) (fun z => absurd rfl z)
          have ha1 := e3 _ _ ha0
          have hb1 := e3 _ _ hb0
          refine ⟨_, rfl, _, _, _, _, _, rfl, .ty _, .base (.tup ha1), rfl, _, rfl, _, _, _, _, _, rfl, .ty _, .base (.tup hb1), rfl, rfl, _, rfl, ?_⟩
          refine ite2 (fun z => absurd z (by decide)) (fun _ => ?_)
          refine ⟨_, rfl, _, _, _, _, _, rfl, .ty _, .base (.tup ha1), rfl, _, rfl, _, _, _, _, _, rfl, .ty _, .base (.tup hb1), rfl, rfl, _, rfl, ?_⟩
          refine ite2 (fun z => absurd z (by decide)) (fun _ => ?_)
          refine nx_l ?_
          obtain ⟨ns, l1, l2, l3, l4, hget⟩ := hs.get
          refine ⟨_, rfl, .inl ⟨_, vs, rfl, .inr (SqT.of ha1), _, rfl, .inl ⟨_, us, rfl, .inr (SqT.of hb1), rfl, _, rfl, ?_⟩⟩⟩
          refine ite0 (by rw [l1]; simp) (nx_l ?_)
          have hL3 := e3 _ _ hL2
          refine ⟨_, rfl, .inl ⟨rfl, _, SqL.of hL3⟩, cons_l ?_⟩
          have big : (1000 : Nat) ≤ sizeLine := by decide
          have z2 := wt_len ok2
          refine lc_by (J := Itr 0 us.length) (n := us.length) (item := fun i => .int (i : Int)) (Made H L vs us ns) (by omega) (by show (5 : Nat) < 7; decide) (fun R h => ?_) walks_rng0 (fun D j acc H1 H2 => Made.mono) (fun D hD => Made.nil) (fun D j acc H1 C Cf hj hD e4 ha4 hp kf kt => ?_) (fun D acc H1 hD e4 ha4 hp => ?_)
          · refine ⟨_, rfl, .inl ⟨_, us, rfl, .inr (SqT.of hb1), (us.length : Int), rfl, by omega, by omega, ?_⟩⟩
            rw [Int.toNat_natCast]
            exact h
          · have hj1 : j < vs.length := by omega
            refine ⟨_, rfl, _, rfl, .inr (.inl ⟨_, vs, _, _, rfl, rfl, SqT.of (e4 _ _ ha1), atI_nat (getD_at hj1), _, rfl, _, rfl, .inr (.inl ⟨_, us, _, _, rfl, rfl, SqT.of (e4 _ _ hb1), atI_nat (getD_at hj), by show 2 ≤ sizeLine; decide, fun t4 ht4 => ?_⟩)⟩)⟩
            exact kt _ _ (Ex.new ht4) (hp.next ht4 ha4 (e4 _ _ hL3) (hget j hj))
          · rw [← l2] at hp
            obtain ⟨its, rfl, w1, ok3⟩ := hp.wt
            have hL4 := e4 _ _ hL3
            have nD : D ≠ L := (ne_of_none hL3 hD).symm
            have z1 := wt_len ok3
            refine ⟨L, D, refs st0, refs its, rfl, rfl, hL4, ha4, by simp [refs]; omega, ?_⟩
            refine ⟨wt (st0 ++ its), by rw [wt_app]; omega, st0 ++ its, _, _, _, _, rfl, ExB.new (ExB.trans (Ex.but (e2.trans (e3.trans e4))) ExB.set) hL0, by rw [upd_same]; simp [refs], ?_, rfl, by rw [wt_app]; omega⟩
            exact StOk.ext ExB.set (StOk.app (StOk.ext (Ex.but (e3.trans e4)) ok2) ok3)
        | @dic a4 b4 ks ls n0 ha hb hk hd hs =>
          have ha0 := e2 _ _ ha
          have hb0 := e2 _ _ hb
          refine ⟨_, t, _, _, _, _, rfl, upd_same, .cons (.ty _) (.cons (.ty _) .nil), .base (.dK ((Ex.new ht) _ _ hb0)), rfl, _, rfl, ?_⟩
          have e3 : Ex G (upd G t (.tup [.ty "list", .ty "tuple"])) := Ex.new ht
          generalize upd G t (.tup [.ty "list", .ty "tuple"]) = G1 at e3 ⊢
          refine ite2 (fun z => absurd z (by decide)) (fun _ => ?_)
          have ha1 := e3 _ _ ha0
          have hb1 := e3 _ _ hb0
          refine ⟨_, rfl, _, _, _, _, _, rfl, .ty _, .base (.dK hb1), rfl, _, rfl, ?_⟩
          refine ite2 (fun _ => ?_) (fun z => absurd rfl z)
          refine ⟨_, rfl, _, _, _, _, _, rfl, .ty _, .base (.dK ha1), rfl, _, rfl, ?_⟩
          refine ite2 (fun z => absurd z (by decide)) (fun _ => ?_)
          have hkl : ks.length = ls.length := by simpa using congrArg List.length hk
          obtain ⟨ns, l1, l2, l3, l4, hget⟩ := hs.get
          have l5 : ns.length = ls.length := by simpa using l2
          have l6 : ls.length ≤ n0 := by simpa using l4
          have big : (1000 : Nat) ≤ sizeLine := by decide
          have z2 := wt_len ok2
          have nbL : b4 ≠ L := ne_of_none hb hL0
          refine ⟨_, rfl, .inr ⟨_, ks, rfl, ha1, _, rfl, .inr ⟨_, ls, rfl, hb1, rfl, _, rfl, ?_⟩⟩⟩
          refine ite0 (by rw [hkl]; simp) ?_
          refine ⟨b4, .dK ls, hb1, trivial, fun od => ?_⟩
          have hF : upd G1 b4 (.frz od (.dK ls)) b4 = some (.frz od (.dK ls)) := upd_same
          refine lc_none (J := Itk b4 od ls) (n := ls.length) (item := itemK ls) (by omega) (by show (6 : Nat) < 7; decide) (fun R h => ⟨_, rfl, b4, od, rfl, ls, hF, h⟩) (walks_key hF) (fun j H1 R hj e4 kf => ?_) (fun D H1 hD e4 hD1 => ?_)
          · obtain ⟨ky, hk1, hk2, hk3⟩ := dic_at hk hd hj
            refine ⟨_, rfl, _, rfl, a4, some _, rfl, .inl ⟨ks, ky, rd_lock ha1 hb1 e4, hk1, hk2.symm⟩, _, rfl, ?_⟩
            exact kf _ (Ex.refl _)
          refine ⟨e4 _ _ hF, by show 0 ≤ sizeLine; decide, fun p2 hp2 => ?_⟩
          have nDb : D ≠ b4 := (ne_of_none hF hD).symm
          have hD2 : upd (upd H1 b4 (.dK ls)) p2 (.lst []) D = some (.lst []) := (Ex.new hp2) _ _ (by rw [upd_ne nDb]; exact hD1)
          have e5 : Ex G1 (upd (upd H1 b4 (.dK ls)) p2 (.lst [])) := (ex_lock hb1 e4).trans (Ex.new hp2)
          refine ⟨D, p2, [], rfl, rfl, SqL.of hD2, SqL.of upd_same, _, rfl, ?_⟩
          refine ite0 (by simp) (nx_l ?_)
          generalize upd (upd H1 b4 (.dK ls)) p2 (.lst []) = G2 at e5 ⊢
          have ha2 := e5 _ _ ha1
          have hb2 := e5 _ _ hb1
          have hL3 := e5 _ _ (e3 _ _ hL2)
          refine ⟨_, rfl, .inl ⟨rfl, _, SqL.of hL3⟩, cons_l ⟨b4, .dK ls, hb2, trivial, fun od2 => ?_⟩⟩
          have hF2 : upd G2 b4 (.frz od2 (.dK ls)) b4 = some (.frz od2 (.dK ls)) := upd_same
          have hLF : upd G2 b4 (.frz od2 (.dK ls)) L = some (.lst (refs st0)) := by
            rw [upd_ne nbL.symm]
            exact hL3
          refine lc_by (J := Itk b4 od2 ls) (n := ls.length) (item := itemK ls) (Made H L (ks.map (·.2)) (ls.map (·.2)) ns) (by omega) (by show (6 : Nat) < 7; decide) (fun R h => ⟨_, rfl, b4, od2, rfl, ls, hF2, h⟩) (walks_key hF2) (fun D j acc H1 H2 => Made.mono) (fun D hD => Made.nil) (fun D j acc H1 C Cf hj hD e6 ha6 hp kf kt => ?_) (fun D acc H1 hD e6 ha6 hp => ?_)
          · obtain ⟨ky, hk1, hk2, hk3⟩ := dic_at hk hd hj
            refine ⟨_, rfl, _, rfl, a4, _, rfl, .inl ⟨ks, ky, rd_lock ha2 hb2 e6, hk1, hk2.symm⟩, _, rfl, _, rfl, b4, _, rfl, .inl ⟨ls, ky, rd_lock hb2 hb2 e6, hk1, hk3.symm⟩, by show 2 ≤ sizeLine; decide, fun t4 ht4 => ?_⟩
            exact kt _ _ (Ex.new ht4) (hp.next ht4 ha6 (e6 _ _ hLF) (hget j (by simpa using hj)))
          · refine ⟨e6 _ _ hF2, ?_⟩
            rw [← l5] at hp
            obtain ⟨its, rfl, w1, ok3⟩ := hp.wt
            have e7 := ex_lock hb2 e6
            have hL4 := e7 _ _ hL3
            have nDb2 : D ≠ b4 := (ne_of_none hF2 hD).symm
            have ok4 : StOk H (upd H1 b4 (.dK ls)) L its := fun q hq => by
              obtain ⟨x1, x2, x3⟩ := ok3 q hq
              have z : q.r ≠ b4 := fun z => by
                rw [z, e6 _ _ hF2] at x2
                cases x2
              exact ⟨x1, by rw [upd_ne z]; exact x2, x3⟩
            have z1 := wt_len ok4
            refine ⟨L, D, refs st0, refs its, rfl, rfl, hL4, by rw [upd_ne nDb2]; exact ha6, by simp [refs]; omega, ?_⟩
            refine ⟨wt (st0 ++ its), by rw [wt_app]; omega, st0 ++ its, _, _, _, _, rfl, ExB.new (ExB.trans (Ex.but (e2.trans (e3.trans (e5.trans e7)))) ExB.set) hL0, by rw [upd_same]; simp [refs], ?_, rfl, by rw [wt_app]; omega⟩
            exact StOk.ext ExB.set (StOk.app (StOk.ext (Ex.but (e3.trans (e5.trans e7))) ok2) ok4)
end
end D0

namespace D0
open PySem PySem.Spec PyProof.Rows L2 L2H HotX Evl K9
abbrev zSmall : Str := "abcdefghijklmnopqrstuvwxyz"
abbrev zGreat : Str := "ABCDEFGHIJKLMNOPQRSTUVWXYZ"
abbrev zLet : Str := "ABCDEFGHIJKLMNOPQRSTUVWXYZabcdefghijklmnopqrstuvwxyz"
abbrev zVar : Str := "abcdefghijklmnopqrstuvwxyz0123456789"
/-- what the program's names are -/
structure Txt2 (K : PySem.W.Frag) (mg : Str → Option Value) : Prop where
  f_all : mg "all" = none
  f_sorted : mg "sorted" = none
  small : ∃ t, mg "SMALL_LETTERS" = some (.str zSmall t)
  great : ∃ t, mg "GREAT_LETTERS" = some (.str zGreat t)
  lets : ∃ t, mg "LETTERS" = some (.str zLet t)
  vars : ∃ t, mg "VARIABLE_SIGNS" = some (.str zVar t)
  names : ∃ t, mg "MOST_NAMES" = some (.int 24 t)
  args : ∃ t, mg "MOST_ARGS" = some (.int 3 t)
  nowords : mg "NO_WORDS" = some (.ref (He.ga K "NO_WORDS"))
  taken : ∀ H, SqT K H (He.ga K "NO_WORDS") (Hd.taken.map V.str)
section
variable {P : Program} {w : World} {K : PySem.W.Frag} {mg : Str → Option Value} {base : Heap} {f : Addr} {fd : FuncData} {k : Nat}
/-- all signs of a are among those of z -/
def allS (a z : Str) : Bool := a.cps.toList.all fun c => decide (c ∈ z.cps.toList)
def spHas (Pt : Addr) : Sp := fun vs H Q _ => ∃ a z : Str, vs = [.str a, .str z] ∧ TabX H Pt ∧ ∀ H', Ex H H' → Q (.bl (allS a z)) H'
abbrev s_has_only : Stmt := top 11
abbrev N_has_only : List Str := ["text", "signs", "sign"]
theorem sc_has_only : FnScope N_has_only ["text", "signs"] (defScope s_has_only) := ⟨rfl, rfl, rfl, by decide +kernel, rfl, by decide +kernel, by decide +kernel⟩
theorem ok_has_only {c Pt : Addr} (T2 : Txt2 K mg) (TB : TabK base mg c Pt) (hcode : fd.code = .ref c) (F : FunD K "has_only" "has_only" (defArgs s_has_only) (defBody s_has_only) (defScope s_has_only) [] [] f fd) (hm : mg "has_only" = some (.ref f)) : OkC P w K mg base (k + 2) "has_only" ["text", "signs"] (spHas Pt) := by
  refine okT_of F hm hcode sc_has_only (fun _ _ _ _ _ _ us hl => match us, hl with | [_, _], _ => rfl) (fun vs H Q E h => ?_) (fun cdv hcode A outer s H vs Q E hr h => ?_)
  · obtain ⟨a, z, rfl, _⟩ := h
    rfl
  · obtain ⟨a, z, rfl, hT, q⟩ := h
    refine ⟨_, (pss_one (ps_ret (pe_allG (own := [("sign", 2)]) (g := gName 2) rfl (roomH_of hr) (by rfl) T2.f_all TB hcode sc_has_only.nd (blkOk_by (N := N_has_only) (sc := defScope s_has_only) (by decide +kernel)) (by decide +kernel) rfl rfl (pi_str (pv 0)) (fun _ _ _ _ _ _ _ => pg_name (i := 2) sc_has_only.nd rfl (Or.inl rfl)) (fun _ _ _ _ _ _ _ hr => (pe_cmpR op_in_sign (pv 2) (pv 1) (by rfl)))))), ?_⟩
    refine ret_l (allG_by (J := Its a) (n := a.cps.size) (item := fun i => .str ⟨#[a.cps.getD i 0]⟩) (fun j => decide (a.cps.getD j 0 ∈ z.cps.toList)) (by show 2 < 3; decide) (fun R h => ⟨_, rfl, a, rfl, h⟩) hT walks_str (fun j H1 R hj e kR => ?_) (fun H1 e => ?_))
    · exact ⟨_, rfl, _, rfl, a.cps.getD j 0, z, rfl, rfl, kR H1 (Ex.refl _)⟩
    · have y := all_signs a fun c => decide (c ∈ z.cps.toList)
      show Q (.bl ((List.range a.cps.size).all fun j => decide (a.cps.getD j 0 ∈ z.cps.toList))) H1
      rw [y]
      exact q H1 e
def inLen (z : Str) (n : Nat) : Bool := decide (1 ≤ z.length) && decide (z.length ≤ n)
def wordB (z : Str) : Bool := inLen z 8 && (allS z zSmall && !decide (z ∈ Hd.taken))
def nameB (z : Str) : Bool := inLen z 8 && (decide ((z.cps.getD 0 0) ∈ zGreat.cps.toList) && allS z zLet)
def varB (z : Str) : Bool := inLen z 4 && (decide ((z.cps.getD 0 0) ∈ zSmall.cps.toList) && allS z zVar)
def onStr (f : Str → Bool) : Option Str → Bool
  | some z => f z
  | none => false
def spJudge (Pt : Addr) (K : PySem.W.Frag) (g : Str → Bool) : Sp := fun vs H Q _ => ∃ (v : V) (o : Option Str), vs = [v] ∧ MayStr K H v o ∧ TabX H Pt ∧ ∀ H', Ex H H' → Q (.bl (onStr g o)) H'
theorem sz1000 : (1000 : Nat) ≤ sizeLine := by decide
theorem inV_strs (z : Str) (ys : List Str) : inV (.str z) (ys.map V.str) = decide (z ∈ ys) := by
  induction ys with
  | nil => rfl
  | cons y r ih =>
    rw [List.map_cons]
    unfold inV at ih ⊢
    simp only [List.any_cons, ih]
    have ey : eqV (V.str y) (V.str z) = (y == z) := rfl
    rw [ey]
    by_cases e : z = y
    · simp [e]
    · have e2 : ¬ y = z := fun h => e h.symm
      simp [e, e2]
theorem first_of {z : Str} (h : 1 ≤ z.length) : atI z.cps.toList (0 : Int) = some (z.cps.getD 0 0) := by
  have h : 1 ≤ z.cps.size := h
  refine atI_nat (j := 0) ?_
  rw [Array.getElem?_toList]
  simp [Array.getD_eq_getD_getElem?, Array.getElem?_eq_getElem h]
abbrev s_is_word : Stmt := top 12
abbrev N_is_word : List Str := ["value"]
theorem sc_is_word : FnScope N_is_word ["value"] (defScope s_is_word) := ⟨rfl, rfl, rfl, by decide +kernel, rfl, by decide +kernel, by decide +kernel⟩
theorem ok_is_word {Pt : Addr} (T : Txt K mg) (T2 : Txt2 K mg) (k_has_only : OkC P w K mg base k "has_only" ["text", "signs"] (spHas Pt)) (F : FunD K "is_word" "is_word" (defArgs s_is_word) (defBody s_is_word) (defScope s_is_word) [] [] f fd) (hm : mg "is_word" = some (.ref f)) : OkK P w K mg base (k + 1) "is_word" ["value"] ["value"] (spJudge Pt K wordB) := by
  refine okK_of F hm sc_is_word (fun _ _ _ _ _ _ us hl => match us, hl with | [_], _ => rfl) (fun _ _ _ _ _ _ us ws hu hw => match us, ws, hu, hw with | [], [_], _, _ => rfl) (fun vs H Q E h => ?_) (fun cdv A outer s H vs Q E hr h => ?_)
  · obtain ⟨v, o, rfl, _⟩ := h
    rfl
  · obtain ⟨v, o, rfl, hv, hT, q⟩ := h
    obtain ⟨t1, c_SMALL_LETTERS⟩ := T2.small
    have c_NO_WORDS := T2.nowords
    refine ⟨_, (pss_cons (ps_if (pw_or (pt_not (pt_val (pe_callB call_isA (by rfl) T.f_isinstance (by decide +kernel) (pa_cons (pv 0) (pa_cons (pe_bltn (v := .ty "str") (by rfl) T.f_str (by decide +kernel) rfl) pa_nil))))) (pw_or1 (pt_not (pt_chain op_le op_le pe_int (pe_callB call_len_str (by rfl) T.f_len (by decide +kernel) (pa_cons (pv 0) pa_nil)) pe_int)))).pt (pss_one (ps_ret pe_bl)) pss_nil) (pss_one (ps_ret (pe_and (pe_callK0 k_has_only hr (by rfl) (pa_cons (pv 0) (pa_cons (pe_glob (v := .str "abcdefghijklmnopqrstuvwxyz") (by rfl) c_SMALL_LETTERS ⟨_, rfl⟩) pa_nil))) (pe_one (pe_cmpR op_notIn_seq (pv 0) (pe_glob (v := .ref (He.ga K "NO_WORDS")) (by rfl) c_NO_WORDS rfl) (by rfl))))))), ?_⟩
    cases hv with
    | no hn =>
      refine ⟨_, rfl, hn _ _ (Ex.refl _) ⟨_, rfl, ite1 (by decide) (ite1 rfl ?_)⟩⟩
      exact q _ (Ex.refl _)
    | str z hz =>
      refine ⟨_, rfl, is_str ⟨_, rfl, ite0 (by decide) ?_⟩⟩
      refine ⟨_, rfl, z, rfl, Nat.le_trans hz sz1000, _, _, rfl, rfl, _, rfl, ?_⟩
      by_cases h1 : 1 ≤ z.length
      · refine ite1 (decide_eq_true (by omega)) ⟨_, _, rfl, rfl, _, rfl, ?_⟩
        by_cases h2 : z.length ≤ 8
        · have hl : inLen z 8 = true := by simp [inLen, h1, h2]
          refine ite0 (by simp; omega) (nx_l ?_)
          refine ret_l ⟨_, rfl, z, zSmall, rfl, hT, fun H1 e1 => ⟨_, rfl, ?_⟩⟩
          cases hs : allS z zSmall with
          | true =>
            refine ite1 rfl ⟨_, rfl, He.ga K "NO_WORDS", Hd.taken.map V.str, rfl, .inr (T2.taken H1), rfl, flat_strs _, ?_⟩
            have y := q _ e1
            rw [show onStr wordB (some z) = !decide (z ∈ Hd.taken) from by simp [onStr, wordB, hl, hs], ← inV_strs] at y
            exact y
          | false =>
            refine ite0 (by decide) ?_
            have y := q _ e1
            rw [show onStr wordB (some z) = false from by simp [onStr, wordB, hs]] at y
            exact y
        · have hl : inLen z 8 = false := by simp [inLen, h2]
          refine ite1 (by simp; omega) ?_
          have y := q _ (Ex.refl _)
          rw [show onStr wordB (some z) = false from by simp [onStr, wordB, hl]] at y
          exact y
      · have hl : inLen z 8 = false := by simp [inLen, h1]
        refine ite0 (by simp; omega) ⟨_, rfl, ite1 (by decide) ?_⟩
        have y := q _ (Ex.refl _)
        rw [show onStr wordB (some z) = false from by simp [onStr, wordB, hl]] at y
        exact y
abbrev s_is_type_name : Stmt := top 13
abbrev N_is_type_name : List Str := ["value"]
theorem sc_is_type_name : FnScope N_is_type_name ["value"] (defScope s_is_type_name) := ⟨rfl, rfl, rfl, by decide +kernel, rfl, by decide +kernel, by decide +kernel⟩
theorem ok_is_type_name {Pt : Addr} (T : Txt K mg) (T2 : Txt2 K mg) (k_has_only : OkC P w K mg base k "has_only" ["text", "signs"] (spHas Pt)) (F : FunD K "is_type_name" "is_type_name" (defArgs s_is_type_name) (defBody s_is_type_name) (defScope s_is_type_name) [] [] f fd) (hm : mg "is_type_name" = some (.ref f)) : OkK P w K mg base (k + 1) "is_type_name" ["value"] ["value"] (spJudge Pt K nameB) := by
  refine okK_of F hm sc_is_type_name (fun _ _ _ _ _ _ us hl => match us, hl with | [_], _ => rfl) (fun _ _ _ _ _ _ us ws hu hw => match us, ws, hu, hw with | [], [_], _, _ => rfl) (fun vs H Q E h => ?_) (fun cdv A outer s H vs Q E hr h => ?_)
  · obtain ⟨v, o, rfl, _⟩ := h
    rfl
  · obtain ⟨v, o, rfl, hv, hT, q⟩ := h
    obtain ⟨t1, c_GREAT_LETTERS⟩ := T2.great
    obtain ⟨t2, c_LETTERS⟩ := T2.lets
    refine ⟨_, (pss_cons (ps_if (pw_or (pt_not (pt_val (pe_callB call_isA (by rfl) T.f_isinstance (by decide +kernel) (pa_cons (pv 0) (pa_cons (pe_bltn (v := .ty "str") (by rfl) T.f_str (by decide +kernel) rfl) pa_nil))))) (pw_or1 (pt_not (pt_chain op_le op_le pe_int (pe_callB call_len_str (by rfl) T.f_len (by decide +kernel) (pa_cons (pv 0) pa_nil)) pe_int)))).pt (pss_one (ps_ret pe_bl)) pss_nil) (pss_one (ps_ret (pe_and (pe_cmpR op_in_sign (pe_ix ix_str (pv 0) pe_int fun _ _ => rfl) (pe_glob (v := .str "ABCDEFGHIJKLMNOPQRSTUVWXYZ") (by rfl) c_GREAT_LETTERS ⟨_, rfl⟩) (by rfl)) (pe_one (pe_callK0 k_has_only hr (by rfl) (pa_cons (pv 0) (pa_cons (pe_glob (v := .str "ABCDEFGHIJKLMNOPQRSTUVWXYZabcdefghijklmnopqrstuvwxyz") (by rfl) c_LETTERS ⟨_, rfl⟩) pa_nil)))))))), ?_⟩
    cases hv with
    | no hn =>
      refine ⟨_, rfl, hn _ _ (Ex.refl _) ⟨_, rfl, ite1 (by decide) (ite1 rfl ?_)⟩⟩
      exact q _ (Ex.refl _)
    | str z hz =>
      refine ⟨_, rfl, is_str ⟨_, rfl, ite0 (by decide) ?_⟩⟩
      refine ⟨_, rfl, z, rfl, Nat.le_trans hz sz1000, _, _, rfl, rfl, _, rfl, ?_⟩
      by_cases h1 : 1 ≤ z.length
      · refine ite1 (decide_eq_true (by omega)) ⟨_, _, rfl, rfl, _, rfl, ?_⟩
        by_cases h2 : z.length ≤ 8
        · have hl : inLen z 8 = true := by simp [inLen, h1, h2]
          refine ite0 (by simp; omega) (nx_l ?_)
          refine ret_l ⟨_, rfl, z, 0, z.cps.getD 0 0, rfl, rfl, Nat.le_trans hz sz1000, first_of h1, z.cps.getD 0 0, zGreat, rfl, rfl, _, rfl, ?_⟩
          cases hs : decide (z.cps.getD 0 0 ∈ zGreat.cps.toList) with
          | true =>
            refine ite1 rfl ⟨_, rfl, z, zLet, rfl, hT, fun H1 e1 => ?_⟩
            have y := q _ e1
            rw [show onStr nameB (some z) = allS z zLet from by simp [onStr, nameB, hl] at hs ⊢; exact fun _ => hs] at y
            exact y
          | false =>
            refine ite0 (by decide) ?_
            have y := q _ (Ex.refl _)
            rw [show onStr nameB (some z) = false from by simp [onStr, nameB] at hs ⊢; exact fun _ z => absurd z hs] at y
            exact y
        · have hl : inLen z 8 = false := by simp [inLen, h2]
          refine ite1 (by simp; omega) ?_
          have y := q _ (Ex.refl _)
          rw [show onStr nameB (some z) = false from by simp [onStr, nameB, hl]] at y
          exact y
      · have hl : inLen z 8 = false := by simp [inLen, h1]
        refine ite0 (by simp; omega) ⟨_, rfl, ite1 (by decide) ?_⟩
        have y := q _ (Ex.refl _)
        rw [show onStr nameB (some z) = false from by simp [onStr, nameB, hl]] at y
        exact y
abbrev s_is_variable : Stmt := top 14
abbrev N_is_variable : List Str := ["value"]
theorem sc_is_variable : FnScope N_is_variable ["value"] (defScope s_is_variable) := ⟨rfl, rfl, rfl, by decide +kernel, rfl, by decide +kernel, by decide +kernel⟩
theorem ok_is_variable {Pt : Addr} (T : Txt K mg) (T2 : Txt2 K mg) (k_has_only : OkC P w K mg base k "has_only" ["text", "signs"] (spHas Pt)) (F : FunD K "is_variable" "is_variable" (defArgs s_is_variable) (defBody s_is_variable) (defScope s_is_variable) [] [] f fd) (hm : mg "is_variable" = some (.ref f)) : OkK P w K mg base (k + 1) "is_variable" ["value"] ["value"] (spJudge Pt K varB) := by
  refine okK_of F hm sc_is_variable (fun _ _ _ _ _ _ us hl => match us, hl with | [_], _ => rfl) (fun _ _ _ _ _ _ us ws hu hw => match us, ws, hu, hw with | [], [_], _, _ => rfl) (fun vs H Q E h => ?_) (fun cdv A outer s H vs Q E hr h => ?_)
  · obtain ⟨v, o, rfl, _⟩ := h
    rfl
  · obtain ⟨v, o, rfl, hv, hT, q⟩ := h
    obtain ⟨t1, c_SMALL_LETTERS⟩ := T2.small
    obtain ⟨t2, c_VARIABLE_SIGNS⟩ := T2.vars
    refine ⟨_, (pss_cons (ps_if (pw_or (pt_not (pt_val (pe_callB call_isA (by rfl) T.f_isinstance (by decide +kernel) (pa_cons (pv 0) (pa_cons (pe_bltn (v := .ty "str") (by rfl) T.f_str (by decide +kernel) rfl) pa_nil))))) (pw_or1 (pt_not (pt_chain op_le op_le pe_int (pe_callB call_len_str (by rfl) T.f_len (by decide +kernel) (pa_cons (pv 0) pa_nil)) pe_int)))).pt (pss_one (ps_ret pe_bl)) pss_nil) (pss_one (ps_ret (pe_and (pe_cmpR op_in_sign (pe_ix ix_str (pv 0) pe_int fun _ _ => rfl) (pe_glob (v := .str "abcdefghijklmnopqrstuvwxyz") (by rfl) c_SMALL_LETTERS ⟨_, rfl⟩) (by rfl)) (pe_one (pe_callK0 k_has_only hr (by rfl) (pa_cons (pv 0) (pa_cons (pe_glob (v := .str "abcdefghijklmnopqrstuvwxyz0123456789") (by rfl) c_VARIABLE_SIGNS ⟨_, rfl⟩) pa_nil)))))))), ?_⟩
    cases hv with
    | no hn =>
      refine ⟨_, rfl, hn _ _ (Ex.refl _) ⟨_, rfl, ite1 (by decide) (ite1 rfl ?_)⟩⟩
      exact q _ (Ex.refl _)
    | str z hz =>
      refine ⟨_, rfl, is_str ⟨_, rfl, ite0 (by decide) ?_⟩⟩
      refine ⟨_, rfl, z, rfl, Nat.le_trans hz sz1000, _, _, rfl, rfl, _, rfl, ?_⟩
      by_cases h1 : 1 ≤ z.length
      · refine ite1 (decide_eq_true (by omega)) ⟨_, _, rfl, rfl, _, rfl, ?_⟩
        by_cases h2 : z.length ≤ 4
        · have hl : inLen z 4 = true := by simp [inLen, h1, h2]
          refine ite0 (by simp; omega) (nx_l ?_)
          refine ret_l ⟨_, rfl, z, 0, z.cps.getD 0 0, rfl, rfl, Nat.le_trans hz sz1000, first_of h1, z.cps.getD 0 0, zSmall, rfl, rfl, _, rfl, ?_⟩
          cases hs : decide (z.cps.getD 0 0 ∈ zSmall.cps.toList) with
          | true =>
            refine ite1 rfl ⟨_, rfl, z, zVar, rfl, hT, fun H1 e1 => ?_⟩
            have y := q _ e1
            rw [show onStr varB (some z) = allS z zVar from by simp [onStr, varB, hl] at hs ⊢; exact fun _ => hs] at y
            exact y
          | false =>
            refine ite0 (by decide) ?_
            have y := q _ (Ex.refl _)
            rw [show onStr varB (some z) = false from by simp [onStr, varB] at hs ⊢; exact fun _ z => absurd z hs] at y
            exact y
        · have hl : inLen z 4 = false := by simp [inLen, h2]
          refine ite1 (by simp; omega) ?_
          have y := q _ (Ex.refl _)
          rw [show onStr varB (some z) = false from by simp [onStr, varB, hl]] at y
          exact y
      · have hl : inLen z 4 = false := by simp [inLen, h1]
        refine ite0 (by simp; omega) ⟨_, rfl, ite1 (by decide) ?_⟩
        have y := q _ (Ex.refl _)
        rw [show onStr varB (some z) = false from by simp [onStr, varB, hl]] at y
        exact y
end
end D0

namespace D0
open PySem PySem.Spec PyProof.Rows L2 L2H HotX Evl K9
section
variable {P : Program} {w : World} {K : PySem.W.Frag} {mg : Str → Option Value} {base : Heap} {f : Addr} {fd : FuncData} {k : Nat}
def spWhole : Sp := fun vs H Q _ => ∃ (v : V) (o : Option Int), vs = [v] ∧ MayInt v o ∧ ∀ H', Ex H H' → Q (.bl o.isSome) H'
abbrev s_is_whole : Stmt := top 15
abbrev N_is_whole : List Str := ["value"]
theorem sc_is_whole : FnScope N_is_whole ["value"] (defScope s_is_whole) := ⟨rfl, rfl, rfl, by decide +kernel, rfl, by decide +kernel, by decide +kernel⟩
theorem ok_is_whole (T : Txt K mg) (F : FunD K "is_whole" "is_whole" (defArgs s_is_whole) (defBody s_is_whole) (defScope s_is_whole) [] [] f fd) (hm : mg "is_whole" = some (.ref f)) : OkC P w K mg base (k + 1) "is_whole" ["value"] spWhole := by
  refine okC_of F hm sc_is_whole (fun _ _ _ _ _ _ us hl => match us, hl with | [_], _ => rfl) (fun vs H Q E h => ?_) (fun cdv A outer s H vs Q E hr h => ?_)
  · obtain ⟨v, o, rfl, _⟩ := h
    rfl
  · obtain ⟨v, o, rfl, hv, q⟩ := h
    refine ⟨_, (pss_one (ps_ret (pe_and (pe_callB call_isi (by rfl) T.f_isinstance (by decide +kernel) (pa_cons (pv 0) (pa_cons (pe_bltn (v := .ty "int") (by rfl) T.f_int (by decide +kernel) rfl) pa_nil))) (pe_one (pe_not (pe_callB call_isi (by rfl) T.f_isinstance (by decide +kernel) (pa_cons (pv 0) (pa_cons (pe_bltn (v := .ty "bool") (by rfl) T.f_bool (by decide +kernel) rfl) pa_nil)))))))), ?_⟩
    have q := q H (Ex.refl H)
    cases hv with
    | int i =>
      refine ⟨_, rfl, ?_⟩
      dsimp only [tCons, tC, tNil]
      refine Bas.isi (T := "int") (r := true) (.int i) rfl ?_
      refine ⟨_, rfl, ?_⟩
      refine ite1 rfl ?_
      refine ⟨_, rfl, ?_⟩
      dsimp only [tCons, tC, tNil]
      refine Bas.isi (T := "bool") (r := false) (.int i) rfl ?_
      refine ⟨_, rfl, ?_⟩
      exact q
    | bl b =>
      refine ⟨_, rfl, ?_⟩
      dsimp only [tCons, tC, tNil]
      refine Bas.isi (T := "int") (r := true) (.bl b) rfl ?_
      refine ⟨_, rfl, ?_⟩
      refine ite1 rfl ?_
      refine ⟨_, rfl, ?_⟩
      dsimp only [tCons, tC, tNil]
      refine Bas.isi (T := "bool") (r := true) (.bl b) rfl ?_
      refine ⟨_, rfl, ?_⟩
      exact q
    | non =>
      refine ⟨_, rfl, ?_⟩
      dsimp only [tCons, tC, tNil]
      refine Bas.isi (T := "int") (r := false) .non rfl ?_
      refine ⟨_, rfl, ?_⟩
      exact ite0 (by decide) q
    | str z =>
      refine ⟨_, rfl, ?_⟩
      dsimp only [tCons, tC, tNil]
      refine Bas.isi (T := "int") (r := false) (.str z) rfl ?_
      refine ⟨_, rfl, ?_⟩
      exact ite0 (by decide) q
def spRow (K : PySem.W.Frag) (Pt : Addr) : Sp := fun vs H Q _ => ∃ (v : V) (r : Option (Str × Int)), vs = [v] ∧ RowQ nameB K H v r ∧ TabX H Pt ∧ ∀ H', Ex H H' → Q (.bl r.isSome) H'
abbrev s_is_name_row : Stmt := top 16
abbrev N_is_name_row : List Str := ["value"]
theorem sc_is_name_row : FnScope N_is_name_row ["value"] (defScope s_is_name_row) := ⟨rfl, rfl, rfl, by decide +kernel, rfl, by decide +kernel, by decide +kernel⟩
theorem ok_is_name_row {Pt : Addr} (T : Txt K mg) (T2 : Txt2 K mg) (k_is_type_name : OkC P w K mg base k "is_type_name" ["value"] (spJudge Pt K nameB)) (k_is_whole : OkC P w K mg base k "is_whole" ["value"] spWhole) (F : FunD K "is_name_row" "is_name_row" (defArgs s_is_name_row) (defBody s_is_name_row) (defScope s_is_name_row) [] [] f fd) (hm : mg "is_name_row" = some (.ref f)) :
    OkC P w K mg base (k + 1) "is_name_row" ["value"] (spRow K Pt) := by
  refine okC_of F hm sc_is_name_row (fun _ _ _ _ _ _ us hl => match us, hl with | [_], _ => rfl) (fun vs H Q E h => ?_) (fun cdv A outer s H vs Q E hr h => ?_)
  · obtain ⟨v, o, rfl, _⟩ := h
    rfl
  · obtain ⟨v, r, rfl, hv, hT, q⟩ := h
    obtain ⟨t3, c_MOST_ARGS⟩ := T2.args
    have two : ∀ {t : Addr} {a b : V} (o : Option Str) (p : Option Int), v = .ref t → H t = some (.tup [a, b]) → MayStr K H a o → MayInt b p → (∀ H', Ex H H' → Q (.bl (rowB nameB o p)) H') →
        ∃ t', PSs (cxOf CX0 P w K mg base N_is_name_row "is_name_row" (defScope s_is_name_row) f cdv A outer s H E) (defBody s_is_name_row) t' ∧ t' { nx := fun _ H' => Q .non H', rt := Q } (start N_is_name_row [v]) H := by
      intro t a b o p e ht ha hb q
      subst e
      refine ⟨_, (pss_cons (ps_if (pw_or (pt_not (pt_val (pe_callB call_isi (by rfl) T.f_isinstance (by decide +kernel) (pa_cons (pv 0) (pa_cons (pe_bltn (v := .ty "tuple") (by rfl) T.f_tuple (by decide +kernel) rfl) pa_nil))))) (pw_or1 (pt_cmpR op_ne (pe_callB call_len_seq (by rfl) T.f_len (by decide +kernel) (pa_cons (pv 0) pa_nil)) pe_int (nomark _)))).pt (pss_one (ps_ret pe_bl)) pss_nil) (pss_one (ps_ret (pe_and (pe_callK0 k_is_type_name hr (by rfl) (pa_cons (pe_ix ix_tup (pv 0) pe_int fun _ _ => rfl) pa_nil)) (pe_and (pe_callK0 k_is_whole hr (by rfl) (pa_cons (pe_ix ix_tup (pv 0) pe_int fun _ _ => rfl) pa_nil)) (pe_one (pe_chain op_le op_le pe_int (pe_ix ix_tup (pv 0) pe_int fun _ _ => rfl) (pe_glob (v := .int 3) (by rfl) c_MOST_ARGS ⟨_, rfl⟩)))))))), ?_⟩
      refine ⟨_, rfl, ?_⟩
      dsimp only [tCons, tC, tNil]
      refine Bas.isi (T := "tuple") (r := true) (.tup ht) rfl ?_
      refine ⟨_, rfl, ?_⟩
      refine ite0 (by decide) ?_
      refine ⟨_, rfl, t, _, rfl, .inr (SqT.of ht), rfl, _, rfl, ite0 (by simp) (nx_l ?_)⟩
      refine ret_l ?_
      refine ⟨_, rfl, t, [a, b], 0, a, rfl, rfl, SqT.of ht, atI_nat (j := 0) rfl, a, o, rfl, ha, hT, fun H1 e1 => ⟨_, rfl, ?_⟩⟩
      have ht1 := e1 _ _ ht
      cases hs : onStr nameB o with
      | false =>
        refine ite0 (by decide) ?_
        have y := q _ e1
        rw [show rowB nameB o p = false from by
          cases o with
          | none => rfl
          | some z => simp [rowB]; exact fun h => absurd h (by rw [show nameB z = false from hs]; decide)] at y
        exact y
      | true =>
        refine ite1 rfl ?_
        refine ⟨_, rfl, t, [a, b], 1, b, rfl, rfl, SqT.of ht1, atI_nat (j := 1) rfl, b, p, rfl, hb, fun H2 e2 => ⟨_, rfl, ?_⟩⟩
        have e12 := e1.trans e2
        have ht2 := e12 _ _ ht
        have y := q _ e12
        have ho : ∃ z, o = some z ∧ nameB z = true := by
          cases o with
          | none => cases hs
          | some z => exact ⟨z, rfl, hs⟩
        obtain ⟨z, rfl, hz⟩ := ho
        cases hb with
        | int i =>
          refine ite1 rfl ?_
          refine ⟨_, rfl, t, [a, .int i], 1, .int i, rfl, rfl, SqT.of ht2, atI_nat (j := 1) rfl, _, _, rfl, rfl, _, rfl, ?_⟩
          by_cases h0 : 0 ≤ i
          · refine ite1 (decide_eq_true h0) ⟨_, _, rfl, rfl, ?_⟩
            rw [show rowB nameB (some z) (some i) = decide (i ≤ 3) from by simp [rowB, onInt, hz, h0]] at y
            exact y
          · refine ite0 (by simp; omega) ?_
            rw [show rowB nameB (some z) (some i) = false from by simp [rowB, onInt, hz, h0]] at y
            exact y
        | bl c =>
          refine ite0 (by decide) ?_
          rw [show rowB nameB (some z) none = false from by simp [rowB, onInt]] at y
          exact y
        | non =>
          refine ite0 (by decide) ?_
          rw [show rowB nameB (some z) none = false from by simp [rowB, onInt]] at y
          exact y
        | str c =>
          refine ite0 (by decide) ?_
          rw [show rowB nameB (some z) none = false from by simp [rowB, onInt]] at y
          exact y
    cases hv with
    | other h n =>
      refine ⟨_, (pss_cons (ps_if (pw_or (pt_not (pt_val (pe_callB call_isi (by rfl) T.f_isinstance (by decide +kernel) (pa_cons (pv 0) (pa_cons (pe_bltn (v := .ty "tuple") (by rfl) T.f_tuple (by decide +kernel) rfl) pa_nil))))) (pw_or1 (pt_cmpR op_ne (pe_callB call_len_seq (by rfl) T.f_len (by decide +kernel) (pa_cons (pv 0) pa_nil)) pe_int (nomark _)))).pt (pss_one (ps_ret pe_bl)) pss_nil) (pss_one (ps_ret (pe_and (pe_callK0 k_is_type_name hr (by rfl) (pa_cons (pe_ix ix_tup (pv 0) pe_int fun _ _ => rfl) pa_nil)) (pe_and (pe_callK0 k_is_whole hr (by rfl) (pa_cons (pe_ix ix_tup (pv 0) pe_int fun _ _ => rfl) pa_nil)) (pe_one (pe_chain op_le op_le pe_int (pe_ix ix_tup (pv 0) pe_int fun _ _ => rfl) (pe_glob (v := .int 3) (by rfl) c_MOST_ARGS ⟨_, rfl⟩)))))))), ?_⟩
      refine ⟨_, rfl, ?_⟩
      dsimp only [tCons, tC, tNil]
      refine Bas.isi (T := "tuple") (r := false) h ?_ ?_
      · cases h <;> first
          | rfl
          | exact absurd rfl n
      refine ⟨_, rfl, ite1 (by decide) (ite1 rfl ?_)⟩
      exact q _ (Ex.refl _)
    | @len t xs h n m =>
      refine ⟨_, (pss_cons (ps_if (pw_or (pt_not (pt_val (pe_callB call_isi (by rfl) T.f_isinstance (by decide +kernel) (pa_cons (pv 0) (pa_cons (pe_bltn (v := .ty "tuple") (by rfl) T.f_tuple (by decide +kernel) rfl) pa_nil))))) (pw_or1 (pt_cmpR op_ne (pe_callB call_len_seq (by rfl) T.f_len (by decide +kernel) (pa_cons (pv 0) pa_nil)) pe_int (nomark _)))).pt (pss_one (ps_ret pe_bl)) pss_nil) (pss_one (ps_ret (pe_and (pe_callK0 k_is_type_name hr (by rfl) (pa_cons (pe_ix ix_tup (pv 0) pe_int fun _ _ => rfl) pa_nil)) (pe_and (pe_callK0 k_is_whole hr (by rfl) (pa_cons (pe_ix ix_tup (pv 0) pe_int fun _ _ => rfl) pa_nil)) (pe_one (pe_chain op_le op_le pe_int (pe_ix ix_tup (pv 0) pe_int fun _ _ => rfl) (pe_glob (v := .int 3) (by rfl) c_MOST_ARGS ⟨_, rfl⟩)))))))), ?_⟩
      refine ⟨_, rfl, ?_⟩
      dsimp only [tCons, tC, tNil]
      refine Bas.isi (T := "tuple") (r := true) (.tup h) rfl ?_
      refine ⟨_, rfl, ?_⟩
      refine ite0 (by decide) ?_
      refine ⟨_, rfl, t, _, rfl, .inr (SqT.of h), rfl, _, rfl, ite1 ?_ ?_⟩
      · simp
        omega
      · exact q _ (Ex.refl _)
    | @bad t a b o p h ha hb n => exact two o p rfl h ha hb (by rw [n]; exact q)
    | @good t z i h hz n => exact two (some z) (some i) rfl h (.str z hz) (.int i) (by rw [n]; exact q)
abbrev s_are_name_rows : Stmt := top 17
abbrev N_are_name_rows : List Str := ["value", "row"]
theorem sc_are_name_rows : FnScope N_are_name_rows ["value"] (defScope s_are_name_rows) := ⟨rfl, rfl, rfl, by decide +kernel, rfl, by decide +kernel, by decide +kernel⟩
def goodL (rs : List (Option (Str × Int))) : Bool := decide (rs.length ≤ 24) && (rs.all (·.isSome) && decide ((rs.map fun r => (r.getD ("", 0)).1)).Nodup)
/-- a value that may be a list of names: its items' rows -/
inductive ListQ (K : PySem.W.Frag) (H : Hp) : V → Option (List (Option (Str × Int))) → Prop
  | other {v : V} {s : String} (h : Bas H v s) (n : s ≠ "list") (m : s ≠ "tuple") : ListQ K H v none
  | seq {a : Addr} {xs : List V} {rs : List (Option (Str × Int))} (h : SeqAt H a xs) (m : xs.length ≤ 1000) (r : Paired (RowQ nameB K H) xs rs) : ListQ K H (.ref a) (some rs)
def onList : Option (List (Option (Str × Int))) → Bool
  | some rs => goodL rs
  | none => false
theorem ListQ.ext {H H' : Hp} {v : V} {o : Option (List (Option (Str × Int)))} (e : Ex H H') (h : ListQ K H v o) : ListQ K H' v o := by
  cases h with
  | other h n m => exact .other (h.ext e) n m
  | seq h m r => exact .seq (h.ext e) m (Paired.ext (fun _ _ z => z.ext e) r)
def spRows (K : PySem.W.Frag) (Ph Pa : Addr) : Sp := fun vs H Q _ => ∃ (v : V) (o : Option (List (Option (Str × Int)))), vs = [v] ∧ ListQ K H v o ∧ TabX H Ph ∧ TabX H Pa ∧ ∀ H', Ex H H' → Q (.bl (onList o)) H'
theorem ok_are_name_rows {Ph Pt c : Addr} (T : Txt K mg) (T2 : Txt2 K mg) (TB : TabK base mg c Pt) (hcode : fd.code = .ref c) (k_is_name_row : OkC P w K mg base k "is_name_row" ["value"] (spRow K Ph)) (F : FunD K "are_name_rows" "are_name_rows" (defArgs s_are_name_rows) (defBody s_are_name_rows) (defScope s_are_name_rows) [] [] f fd) (hm : mg "are_name_rows" = some (.ref f)) :
    OkC P w K mg base (k + 2) "are_name_rows" ["value"] (spRows K Ph Pt) := by
  refine okT_of F hm hcode sc_are_name_rows (fun _ _ _ _ _ _ us hl => match us, hl with | [_], _ => rfl) (fun vs H Q E h => ?_) (fun cdv hcode A outer s H vs Q E hr h => ?_)
  · obtain ⟨v, o, rfl, _⟩ := h
    rfl
  · obtain ⟨v, o, rfl, hv, hTh, hTa, q⟩ := h
    obtain ⟨t3, c_MOST_NAMES⟩ := T2.names
    refine ⟨_, (pss_cons (ps_if (pw_or (pt_not (pt_val (pe_callB call_isiT (by rfl) T.f_isinstance (by decide +kernel) (pa_cons (pv 0) (pa_cons (pe_tup (pa_cons (pe_bltn (v := .ty "list") (by rfl) T.f_list (by decide +kernel) rfl) (pa_cons (pe_bltn (v := .ty "tuple") (by rfl) T.f_tuple (by decide +kernel) rfl) pa_nil))) pa_nil))))) (pw_or1 (pt_cmpR op_gt (pe_callB call_len_seq (by rfl) T.f_len (by decide +kernel) (pa_cons (pv 0) pa_nil)) (pe_glob (v := .int 24) (by rfl) c_MOST_NAMES ⟨_, rfl⟩) (nomark _)))).pt (pss_one (ps_ret pe_bl)) pss_nil) (pss_cons (ps_if (pt_not (pt_val (pe_allG (own := [("row", 1)]) (g := gName 1) rfl (roomH_of hr) (by rfl) T2.f_all TB hcode sc_are_name_rows.nd (blkOk_by (N := N_are_name_rows) (sc := defScope s_are_name_rows) (by decide +kernel)) (by decide +kernel) rfl rfl (pi_seq (pv 0)) (fun _ _ _ _ _ _ _ => pg_name (i := 1) sc_are_name_rows.nd rfl (Or.inl rfl)) (fun _ _ _ _ _ _ _ hr => (pe_callK0 k_is_name_row hr (by rfl) (pa_cons (pv 1) pa_nil)))))) (pss_one (ps_ret pe_bl)) pss_nil) (pss_one (ps_ret (pe_cmpR op_eq (pe_callB call_lenK (by rfl) T.f_len (by decide +kernel) (pa_cons (pe_scK (own := [("row", 1)]) (g := gName 1) rfl sc_are_name_rows.nd (pi_seq (pv 0)) (blkOk_by (N := N_are_name_rows) (sc := defScope s_are_name_rows) (by decide +kernel)) (fun _ _ _ _ _ => pg_name (i := 1) sc_are_name_rows.nd rfl (Or.inl rfl)) (fun _ _ _ _ _ => pts_nil) (fun _ _ _ _ _ => (pe_ix (show IxR _ (rIxT K) from ix_tup) (pv 1) pe_int fun _ _ => rfl))) pa_nil)) (pe_callB call_len_seq (by rfl) T.f_len (by decide +kernel) (pa_cons (pv 0) pa_nil)) (nomark _)))))), ?_⟩
    cases hv with
    | other h n m =>
      refine ⟨_, rfl, ?_⟩
      dsimp only [tCons, tC, tNil, tTup]
      refine ⟨by decide, fun t ht => ?_⟩
      have e1 := Ex.new (o := .tup [.ty "list", .ty "tuple"]) ht
      refine Bas.isT (T1 := "list") (T2 := "tuple") (r := false) (h.ext e1) upd_same ?_ ?_
      · cases h <;> first
          | rfl
          | exact absurd rfl n
          | exact absurd rfl m
      refine ⟨_, rfl, ite1 (by decide) (ite1 rfl ?_)⟩
      exact q _ e1
    | @seq a xs rs h m r =>
      refine ⟨_, rfl, ?_⟩
      dsimp only [tCons, tC, tNil, tTup]
      refine ⟨by decide, fun t ht => ?_⟩
      have e1 := Ex.new (o := .tup [.ty "list", .ty "tuple"]) ht
      obtain ⟨s, hs, hb⟩ := h.bas
      refine Bas.isT (T1 := "list") (T2 := "tuple") (r := true) (hb.ext e1) upd_same ?_ ?_
      · rcases hs with rfl | rfl <;> rfl
      refine ⟨_, rfl, ite0 (by decide) ?_⟩
      have h1 := h.ext e1
      have lr := r.length
      refine ⟨_, rfl, a, xs, rfl, h1.len, _, _, rfl, rfl, _, rfl, ?_⟩
      by_cases hl : 24 < xs.length
      · refine ite1 (decide_eq_true (by omega)) ?_
        have y := q _ e1
        rw [show onList (some rs) = false from by simp [onList, goodL]; omega] at y
        exact y
      · refine ite0 (by simp; omega) (nx_l ?_)
        obtain ⟨J, wk, tw⟩ := h1.walk (K := K)
        refine seq_l (ifNotB_l (allG_by (J := J) (n := xs.length) (item := fun i => xs.getD i .non) (fun j => (rs.getD j none).isSome) (by show 1 < 2; decide) (fun R hR => ⟨_, rfl, a, rfl, tw R hR⟩) (hTa.ext e1) wk (fun j H1 R hj e kR => ?_) (fun H1 e => ?_)))
        · obtain ⟨x, y, hx, hy, hq⟩ := paired_at r hj
          refine ⟨_, rfl, x, y, ?_, hq.ext (e1.trans e), hTh.ext (e1.trans e), fun H2 e2 => ?_⟩
          · show [xs.getD j V.non] = [x]
            rw [List.getD_eq_getElem?_getD, hx]
            rfl
          · have z := kR H2 e2
            rw [List.getD_eq_getElem?_getD, hy] at z
            exact z
        · have ea := e1.trans e
          refine ⟨_, rfl, ?_⟩
          have ra := range_all rs none (·.isSome)
          rw [lr, ra]
          cases hg : rs.all (·.isSome) with
          | false =>
            refine ite1 (by decide) ?_
            have y := q _ ea
            rw [show onList (some rs) = false from by simp only [onList, goodL, hg]; simp] at y
            exact y
          | true =>
            refine ite0 (by decide) (nx_l ?_)
            refine ret_l (op_l (call1_l ?_))
            have h2 := h.ext ea
            obtain ⟨J2, wk2, tw2⟩ := h2.walk (K := K)
            have good : ∀ j, j < xs.length → ∃ t z i, xs.getD j .non = .ref t ∧ H1 t = some (.tup [.str z, .int i]) ∧ rs.getD j none = some (z, i) := by
              intro j hj
              obtain ⟨x, y, hx, hy, hq⟩ := paired_at r hj
              have hs : y.isSome = true := List.all_eq_true.mp hg y (List.mem_of_getElem? hy)
              cases hq with
              | other _ _ => cases hs
              | len _ _ _ => cases hs
              | bad _ _ _ _ => cases hs
              | good hh _ _ => exact ⟨_, _, _, by rw [List.getD_eq_getElem?_getD, hx]; rfl, ea _ _ hh, by rw [List.getD_eq_getElem?_getD, hy]; rfl⟩
            refine scK_by (J := J2) (n := xs.length) (item := fun i => xs.getD i .non) (fun j => .inr ((rs.getD j none).getD ("", 0)).1) (by unfold scanBound; omega) (by show 1 < 2; decide) (fun R hR => ⟨_, rfl, a, rfl, tw2 R hR⟩) wk2 (fun j H2 R hj e2 kR => ?_) (fun D H2 S c hD e2 hS hc hcl => ?_)
            · obtain ⟨t2, z, i, hx, ht2, hy⟩ := good j hj
              rw [hy] at kR
              refine ⟨_, rfl, t2, [.str z, .int i], 0, .str z, ?_, rfl, SqT.of (e2 _ _ ht2), atI_nat (j := 0) rfl, kR⟩
              exact hx
            · refine ⟨D, S, c, rfl, hS, call1_l ⟨_, rfl, a, xs, rfl, (h2.ext e2).len, rfl, ?_⟩⟩
              have y := q _ (ea.trans e2)
              rw [show onList (some rs) = decide (V.int (c : Int) = V.int (xs.length : Int)) from by
                have hl2 : rs.length ≤ 24 := by omega
                simp only [onList, goodL, hg, hl2, decide_true, Bool.true_and]
                rw [lr] at hc
                have rm := range_map rs none fun r => (Sum.inr (r.getD ("", 0)).1 : Key)
                rw [rm] at hc
                have hm : rs.map (fun r => (Sum.inr (r.getD ("", 0)).1 : Key)) = (rs.map fun r => (r.getD ("", 0)).1).map Sum.inr := by simp
                rw [hm, nodup_map (fun a b h => by cases h; rfl)] at hc
                refine decide_eq_decide.mpr ⟨fun h => ?_, fun h => hc.mp ?_⟩
                · rw [hc.mpr h, lr]
                · have h : (c : Int) = (xs.length : Int) := by injection h
                  omega] at y
              exact y
end
end D0

namespace D0
open PySem PySem.Spec PyProof.Rows L2 L2H HotX Evl K9
section
variable {P : Program} {w : World} {K : PySem.W.Frag} {mg : Str → Option Value} {base : Heap}
abbrev w_InvalidNames : List (Nat × List Str × List Nat) := [(2, [], [])]
theorem sc_InvalidNames : FnScope ["self", "given"] ["self", "given"] (defScope (inClass (top 2) 0)) := ⟨rfl, rfl, rfl, by decide +kernel, rfl, by decide +kernel, by decide +kernel⟩
theorem ini_InvalidNames (E : Errs K Hd.errs "ChoiceError" Hd.ini Hd.flds) (gl : mg "InvalidNames" = some (.ref (He.ga K "InvalidNames"))) {fd : FuncData} (F : FunD K "__init__" "InvalidNames.__init__" (defArgs (inClass (top 2) 0)) (defBody (inClass (top 2) 0)) (defScope (inClass (top 2) 0)) [] [] (He.fAd K ("InvalidNames", some "__init__")) fd) :
    Ini P w K mg base "InvalidNames" ["given"] w_InvalidNames := by
  have hx : ("InvalidNames" : Str) ∈ Hd.errs := by decide
  have hi : ("InvalidNames" : Str) ∈ Hd.ini := by decide
  refine ⟨E.err _ hx, E.init _ hi, E.fn _ hi, gl, fd, ?_, ?_⟩
  · exact F.ok sc_InvalidNames spErr_len fun cdv A outer s H vs Q E' hr hq => ⟨_, PSs.nox (pss_one (ps_ost (pv 0) (pv 1))), ini1 (E.err _ hx).ox (E.fld _ hx _ (by decide : ("given" : Str) ∈ Hd.flds)) hq⟩
  · refine List.forall_mem_cons.mpr ⟨kbn_of F fun _ _ _ _ _ _ us ws hu hw => match us, ws, hu, hw with | [_, _], [], _, _ => rfl, ?_⟩
    exact fun q hq => absurd hq (by simp)
end
end D0

namespace D0
open PySem PySem.Spec PyProof.Rows L2 L2H HotX Evl K9
/-- a row's tuple -/
def RowAt (H : Hp) (v : V) (r : Str × Int) : Prop := ∃ t, v = .ref t ∧ H t = some (.tup [.str r.1, .int r.2])
theorem RowAt.ext {H H' : Hp} {v : V} {r : Str × Int} (e : Ex H H') (h : RowAt H v r) : RowAt H' v r := by
  obtain ⟨t, rfl, h⟩ := h
  exact ⟨t, rfl, e _ _ h⟩
/-- an instance of Names that was made of these rows -/
def NamesAt (H : Hp) (C x : Addr) (rs : List (Str × Int)) : Prop := ∃ (dx t c : Addr) (us : List V) (ss : List (Str × Int)), H x = some (.ins C dx [("told", .ref t), ("_counts", .ref c)]) ∧ H t = some (.tup us) ∧ Paired (RowAt H) us ss ∧
  SrtO.Srtd PySem.K9S.lexS ss ∧ ss.Perm rs ∧ H c = some (.dK (rs.map fun r => (.inr r.1, .int r.2)))
theorem NamesAt.ext {H H' : Hp} {C x : Addr} {rs : List (Str × Int)} (e : Ex H H') (h : NamesAt H C x rs) : NamesAt H' C x rs := by
  obtain ⟨dx, t, c, us, ss, h1, h2, h3, h4, h5, h6⟩ := h
  exact ⟨dx, t, c, us, ss, e _ _ h1, e _ _ h2, Paired.ext (fun _ _ z => z.ext e) h3, h4, h5, e _ _ h6⟩
structure Inis (P : Program) (w : World) (K : PySem.W.Frag) (mg : Str → Option Value) (base : Heap) : Prop where
  i_InvalidNames : Ini P w K mg base "InvalidNames" ["given"] w_InvalidNames
structure NClass (K : PySem.W.Frag) (C : Addr) : Prop where
  cls : Cls K C
  told : NoAttr K C "told"
  counts : NoAttr K C "_counts"
section
variable {P : Program} {w : World} {K : PySem.W.Frag} {mg : Str → Option Value} {base : Heap} {f : Addr} {fd : FuncData} {k : Nat}
def spNames (K : PySem.W.Frag) (C Ph Pa : Addr) : Sp := fun vs H Q E => ∃ (x dx : Addr) (v : V) (o : Option (List (Option (Str × Int)))), vs = [.ref x, v] ∧ H x = some (.ins C dx []) ∧ ListQ K H v o ∧ TabX H Ph ∧ TabX H Pa ∧
  (∀ (rs : List (Str × Int)) (H' : Hp), o = some (rs.map some) → onList o = true → (rs.map (·.1)).Nodup → ExB x H H' → NamesAt H' C x rs → Q .non H') ∧
  (onList o = false → ∀ (d : Addr) (H' : Hp), Ex H H' → H' d = some (.xd [("given", v)]) → E (.ref (He.ga K "InvalidNames")) (some d) H')
/-- a good list of names, row by row -/
theorem good_rows {rs : List (Option (Str × Int))} (h : goodL rs = true) : ∃ qs : List (Str × Int), rs = qs.map some ∧ (qs.map (·.1)).Nodup ∧ qs.length ≤ 24 := by
  simp only [goodL, Bool.and_eq_true, decide_eq_true_eq] at h
  obtain ⟨h1, h2, h3⟩ := h
  have e : rs = (rs.map fun r => r.getD ("", 0)).map some := by
    rw [List.map_map]
    refine List.ext_getElem (by simp) fun i h4 h5 => ?_
    have := List.all_eq_true.mp h2 _ (List.getElem_mem h4)
    rw [List.getElem_map]
    cases q : rs[i] with
    | none => rw [q] at this; cases this
    | some r => rfl
  refine ⟨_, e, ?_, by simpa using h1⟩
  rw [List.map_map]
  exact h3
theorem SeqAt.exb {H H' : Hp} {a x C dx : Addr} {xs : List V} {fs : List (Str × V)} (e : ExB x H H') (hx : H x = some (.ins C dx fs)) (h : SeqAt H a xs) : SeqAt H' a xs :=
  h.elim (fun h => .inl (e _ _ (ne_ins hx h fun _ _ _ z => by cases z) h)) fun h => .inr (e _ _ (ne_ins hx h fun _ _ _ z => by cases z) h)
theorem RowAt.exb {H H' : Hp} {x C dx : Addr} {v : V} {r : Str × Int} {fs : List (Str × V)} (e : ExB x H H') (hx : H x = some (.ins C dx fs)) (h : RowAt H v r) : RowAt H' v r := by
  obtain ⟨t, rfl, h⟩ := h
  exact ⟨t, rfl, e _ _ (ne_ins hx h fun _ _ _ z => by cases z) h⟩
/-- what a row's tuple tells -/
def rowKey (H : Hp) : V → Str × Int
  | .ref t => match H t with
    | some (.tup [.str z, .int i]) => (z, i)
    | _ => ("", 0)
  | _ => ("", 0)
theorem RowAt.key {H : Hp} {v : V} {r : Str × Int} (h : RowAt H v r) : rowKey H v = r := by
  obtain ⟨t, rfl, h⟩ := h
  simp [rowKey, h]
theorem rows_of {H : Hp} {K : PySem.W.Frag} {xs : List V} {qs : List (Str × Int)} (r : Paired (RowQ nameB K H) xs (qs.map some)) : Paired (RowAt H) xs qs := by
  induction qs generalizing xs with
  | nil =>
    cases r
    exact .nil
  | cons q qs ih =>
    cases r with
    | cons a b =>
      refine .cons ?_ (ih b)
      cases a with
      | good h _ _ => exact ⟨_, rfl, h⟩
theorem rows_keys {H : Hp} {xs : List V} {qs : List (Str × Int)} (r : Paired (RowAt H) xs qs) : xs.map (rowKey H) = qs := by
  induction r with
  | nil => rfl
  | cons a _ ih => rw [List.map_cons, a.key, ih]
theorem rows_mem {H : Hp} {xs : List V} {qs : List (Str × Int)} (r : Paired (RowAt H) xs qs) : ∀ x ∈ xs, RowAt H x (rowKey H x) := by
  induction r with
  | nil => exact fun x hx => absurd hx (by simp)
  | cons a _ ih =>
    intro x hx
    rcases List.mem_cons.mp hx with rfl | hx
    · rw [a.key]
      exact a
    · exact ih x hx
theorem rows_back {H : Hp} {ys : List V} (h : ∀ x ∈ ys, RowAt H x (rowKey H x)) : Paired (RowAt H) ys (ys.map (rowKey H)) := by
  induction ys with
  | nil => exact .nil
  | cons y ys ih => exact .cons (h y (List.mem_cons_self ..)) (ih fun x hx => h x (List.mem_cons_of_mem _ hx))
abbrev s_Names___init__ : Stmt := (inClass (top 18) 0)
abbrev N_Names___init__ : List Str := ["self", "names", "name", "count"]
theorem sc_Names___init__ : FnScope N_Names___init__ ["self", "names"] (defScope s_Names___init__) := ⟨rfl, rfl, rfl, by decide +kernel, rfl, by decide +kernel, by decide +kernel⟩
theorem fn_Names {C Ph Pa : Addr} (T : Txt K mg) (T2 : Txt2 K mg) (E0 : Errs K Hd.errs "ChoiceError" Hd.ini Hd.flds) (I : Inis P w K mg base) (hk2 : 2 ≤ k) (c : NClass K C)
    (k_are_name_rows : OkC P w K mg base k "are_name_rows" ["value"] (spRows K Ph Pa)) (F : FunD K "__init__" "Names.__init__" (defArgs s_Names___init__) (defBody s_Names___init__) (defScope s_Names___init__) [] [] f fd) :
    FnOk P w K mg base (L2N.CX P w) (k + 1) f fd ["self", "names"] (spNames K C Ph Pa) := by
  refine F.ok sc_Names___init__ (fun vs H Q E h => ?_) fun cdv A outer s H vs Q E hr h => ?_
  · obtain ⟨x, dx, v, o, rfl, _⟩ := h
    rfl
  · obtain ⟨x, dx, v, o, rfl, hx, hv, hTh, hTa, q1, q0⟩ := h
    have tk : L2N.Takes (cxOf (L2N.CX P w) P w K mg base N_Names___init__ "Names.__init__" (defScope s_Names___init__) f cdv A outer s H E) (fun cls d _ H => E cls d H) := L2N.takes_of rfl rfl rfl rfl
    refine ⟨_, (pss_cons (ps_if (pt_not (pt_val (pe_callK0 k_are_name_rows hr (by rfl) (pa_cons (pv 1) pa_nil)))) (pss_one (ps_raise_iniK (n := 1) (ks := []) (ix := []) (K0 := K) tk rfl I.i_InvalidNames (by decide) ((roomH_of hr).mono hk2) rfl (by rfl) (pa_cons (pv 1) pa_nil) pk_nil)) pss_nil) (pss_cons (ps_fld (pv 0) (pe_callTy call_tuple_of (by rfl) T.f_tuple (by decide +kernel) (pa_cons (pe_callB cr_sortedN (by rfl) T2.f_sorted (by decide +kernel) (pa_cons (pv 1) pa_nil)) pa_nil)) rfl) (pss_one (ps_fld (pv 0) (pe_dc (own := [("name", 2), ("count", 3)]) (g := gTup K 2 (gCons (gName 2) (gCons (gName 3) gNil))) rfl sc_Names___init__.nd (pi_seq (pv 1)) (blkOk_by (N := N_Names___init__) (sc := defScope s_Names___init__) (by decide +kernel)) (fun _ _ _ _ _ => pg_tupC (.inl ⟨rfl, rfl⟩) (pgs_cons (pg_name (i := 2) sc_Names___init__.nd rfl (Or.inl rfl)) (pgs_cons (pg_name (i := 3) sc_Names___init__.nd rfl (Or.inl rfl)) pgs_nil))) (fun _ _ _ _ _ => pts_nil) (fun _ _ _ _ _ => (pv 2)) (fun _ _ _ _ _ => (pv 3))) rfl)))), ?_⟩
    refine seq_l (ifNotB_l (callB1_l ⟨v, rfl, v, o, rfl, hv, hTh, hTa, fun H1 e1 => ⟨_, rfl, ?_⟩⟩))
    cases ho : onList o with
    | false =>
      refine ite1 (by decide) ?_
      exact ⟨v, rfl, rfl, rfl, [v], fun _ => rfl, rfl, fun d H3 hd e h => q0 ho d H3 (e1.trans e) h⟩
    | true =>
      refine ite0 (by decide) (nx_l ?_)
      cases hv with
      | other _ _ _ => cases ho
      | @seq a xs rs h m r =>
        obtain ⟨qs, rfl, nd, l24⟩ := good_rows (show goodL rs = true from ho)
        have h1 := h.ext e1
        have r1 : Paired (RowAt H1) xs qs := Paired.ext (fun _ _ z => z.ext e1) (rows_of r)
        have lq := r1.length
        refine seq_l (fld_l (call1_l (call1_l ⟨.ref a, rfl, a, xs, rowKey H1, rfl, h1.len, fun y hy => rows_mem r1 y hy, fun ys p hs hst hp => ⟨p, ys, rfl, .inl ⟨SqL.of upd_same, fun l hl => ⟨.ref x, rfl, x, C, dx, [], rfl, ?_, c.cls, c.told, by decide, ?_⟩⟩⟩⟩)))
        · exact ((e1.trans (Ex.new hp)).trans (Ex.new hl)) _ _ hx
        · have e3 : Ex H (upd (upd H1 p (.lst ys)) l (.tup ys)) := (e1.trans (Ex.new hp)).trans (Ex.new hl)
          have e13 : Ex H1 (upd (upd H1 p (.lst ys)) l (.tup ys)) := (Ex.new hp).trans (Ex.new hl)
          have x3 := e3 _ _ hx
          have h3 := h.ext e3
          have l3 : (upd (upd H1 p (.lst ys)) l (.tup ys)) l = some (.tup ys) := upd_same
          have r3 : Paired (RowAt (upd (upd H1 p (.lst ys)) l (.tup ys))) xs qs := Paired.ext (fun _ _ z => z.ext e13) r1
          have y3 : Paired (RowAt (upd (upd H1 p (.lst ys)) l (.tup ys))) ys (ys.map (rowKey H1)) := Paired.ext (fun _ _ z => z.ext e13) (rows_back fun y hy => rows_mem r1 y (hst.perm.mem_iff.mp hy))
          have sp : (ys.map (rowKey H1)).Perm qs := by
            have z := hst.perm.map (rowKey H1)
            rw [rows_keys r1] at z
            exact z
          have ss : SrtO.Srtd PySem.K9S.lexS (ys.map (rowKey H1)) := SrtO.srtd_map hs
          generalize upd (upd H1 p (.lst ys)) l (.tup ys) = H3 at e3 x3 h3 l3 r3 y3 ⊢
          have b4 : ExB x H3 (upd H3 x (.ins C dx [("told", .ref l)])) := ExB.set
          have x4 : upd H3 x (.ins C dx [("told", .ref l)]) x = some (.ins C dx [("told", .ref l)]) := upd_same
          have h4 := D0.SeqAt.exb b4 x3 h3
          have r4 : Paired (RowAt (upd H3 x (.ins C dx [("told", .ref l)]))) xs qs := Paired.ext (fun _ _ z => z.exb b4 x3) r3
          have y4 : Paired (RowAt (upd H3 x (.ins C dx [("told", .ref l)]))) ys (ys.map (rowKey H1)) := Paired.ext (fun _ _ z => z.exb b4 x3) y3
          have l4 := b4 _ _ (ne_ins x3 l3 fun _ _ _ z => by cases z) l3
          have b04 : ExB x H (upd H3 x (.ins C dx [("told", .ref l)])) := (Ex.but e3).trans b4
          show ((_ : Ends).nx _ (upd H3 x (.ins C dx [("told", .ref l)])))
          generalize upd H3 x (.ins C dx [("told", .ref l)]) = H4 at x4 h4 r4 y4 l4 b04 ⊢
          obtain ⟨J, wk, tw⟩ := h4.walk (K := K)
          refine nx_p (fld_l (dc_by (J := J) (n := xs.length) (item := fun i => xs.getD i .non) (fun j => .inr (qs.getD j ("", 0)).1) (fun j => .int (qs.getD j ("", 0)).2) (by have := sizeLine_eq; omega) (fun R hR => ⟨_, rfl, a, rfl, tw R hR⟩) wk (fun j H5 R hj e5 kk => ?_) (fun D H5 hD e5 h5 => ?_)))
          · obtain ⟨v, r, hv, hr, t, rfl, ht⟩ := paired_at r4 hj
            refine ⟨t, _, by rw [List.getD_eq_getElem?_getD, hv]; rfl, SqT.of (e5 _ _ ht), rfl, ?_⟩
            have hq : qs.getD j ("", 0) = r := by rw [List.getD_eq_getElem?_getD, hr]; rfl
            refine ⟨_, _, rfl, _, _, rfl, rfl, ?_⟩
            refine kk ((((L2.start N_Names___init__ [V.ref x, V.ref a]).set 2 none).set 2 (some (.str r.1))).set 3 (some (.int r.2))) rfl (fun H6 R6 z => ⟨_, rfl, ?_⟩) (fun H6 R6 z => ⟨_, rfl, ?_⟩)
            · rw [hq] at z
              exact z
            · rw [hq] at z
              exact z
          · refine ⟨.ref x, rfl, x, C, dx, [("told", .ref l)], rfl, e5 _ _ x4, c.cls, c.counts, (by show 1 < 1000; decide), ?_⟩
            have b5 : ExB x H5 (upd H5 x (.ins C dx [("told", .ref l), ("_counts", .ref D)])) := ExB.set
            have x5 := e5 _ _ x4
            have rm := range_map qs ("", 0) fun r => (Sum.inr r.1 : Key)
            have rm2 := range_map qs ("", 0) fun r => ((Sum.inr r.1 : Key), V.int r.2)
            have nd2 : ((List.range xs.length).map fun j => (Sum.inr (qs.getD j ("", 0)).1 : Key)).Nodup := by
              rw [lq, rm, show qs.map (fun r => (Sum.inr r.1 : Key)) = (qs.map (·.1)).map Sum.inr from by simp, nodup_map fun a b h => by cases h; rfl]
              exact nd
            rw [putAll_eq nd2, lq, rm2] at h5
            refine q1 qs _ rfl ho nd ((b04.trans (Ex.but e5)).trans b5) ⟨dx, l, D, ys, _, upd_same, b5 _ _ (ne_ins x5 (e5 _ _ l4) fun _ _ _ z => by cases z) (e5 _ _ l4), Paired.ext (fun _ _ z => (z.ext e5).exb b5 x5) y4, ss, sp, b5 _ _ (ne_ins x5 h5 fun _ _ _ z => by cases z) h5⟩
def countOf (rs : List (Str × Int)) (z : Str) : Int := ((rs.find? fun r => decide (r.1 = z)).map (·.2)).getD 0
theorem val_count (rs : List (Str × Int)) (z : Str) : (valV (rs.map fun r => ((Sum.inr r.1 : Key), V.int r.2)) (Sum.inr z)).getD (.int 0) = .int (countOf rs z) := by
  induction rs with
  | nil => rfl
  | cons r rs ih =>
    unfold valV countOf at ih ⊢
    rw [List.map_cons, List.find?_cons, List.find?_cons]
    by_cases e : r.1 = z
    · simp [e]
    · have e1 : ¬ (Sum.inr r.1 : Key) = Sum.inr z := fun h => e (by cases h; rfl)
      simp only [e, e1, decide_false]
      exact ih
def spCount (K : PySem.W.Frag) (C : Addr) : Sp := fun vs H Q _ => ∃ (x : Addr) (z : Str) (rs : List (Str × Int)), vs = [.ref x, .str z] ∧ NamesAt H C x rs ∧ Q (.int (countOf rs z)) H
abbrev s_Names_count_of : Stmt := (inClass (top 18) 1)
abbrev N_Names_count_of : List Str := ["self", "name"]
theorem sc_Names_count_of : FnScope N_Names_count_of ["self", "name"] (defScope s_Names_count_of) := ⟨rfl, rfl, rfl, by decide +kernel, rfl, by decide +kernel, by decide +kernel⟩
theorem m_count_of {C : Addr} (c : NClass K C) (M : Meth K C "count_of" f) (F : FunD K "count_of" "Names.count_of" (defArgs s_Names_count_of) (defBody s_Names_count_of) (defScope s_Names_count_of) [] [] f fd) :
    MOk P w K mg base (k + 1) C "count_of" ["self", "name"] ["name"] (spCount K C) := by
  refine ⟨c.cls, f, fd, M, F.ok sc_Names_count_of (fun vs H Q E h => ?_) fun cdv A outer s H vs Q E hr h => ?_, F.bindsN (ps := ["self", "name"]) (fun _ _ _ _ _ _ us hl => match us, hl with | [_, _], _ => rfl), kbn_of F fun _ _ _ _ _ _ us ws hu hw => match us, ws, hu, hw with | [_], [_], _, _ => rfl⟩
  · obtain ⟨x, z, rs, rfl, _⟩ := h
    rfl
  · obtain ⟨x, z, rs, rfl, hN, q⟩ := h
    refine ⟨_, (pss_one (ps_ret (pe_dget2 (huD (roomH_of hr)) (pe_fld (pv 0) rfl) (pv 1) pe_int ⟨rfl, rfl, rfl, rfl⟩))), ?_⟩
    obtain ⟨dx, t, c2, us, ss, h1, h2, h3, h4, h5, h6⟩ := hN
    refine ret_l ?_
    refine ⟨_, rfl, x, C, dx, _, _, rfl, h1, c.cls, c.counts, rfl, c2, rfl, .inl ⟨_, .inl h6⟩, _, rfl, _, DGet.k (k := .inr z) h6, ?_⟩
    rw [val_count]
    exact q
end
end D0

namespace D0
open PySem PySem.Spec PyProof.Rows L2 L2H HotX Evl K9
section
variable {P : Program} {w : World} {K : PySem.W.Frag} {mg : Str → Option Value} {base : Heap} {f : Addr} {fd : FuncData} {k : Nat}
def spConst (z : Str) : Sp := fun vs H Q _ => vs = [] ∧ Q (.str z) H
abbrev s_small : Stmt := top 24
abbrev N_small : List Str := []
theorem sc_small : FnScope N_small [] (defScope s_small) := ⟨rfl, rfl, rfl, by decide +kernel, rfl, by decide +kernel, by decide +kernel⟩
theorem ok_small (F : FunD K "_law_small" "_law_small" (defArgs s_small) (defBody s_small) (defScope s_small) [] [] f fd) (hm : mg "_law_small" = some (.ref f)) : OkC P w K mg base (k + 1) "_law_small" [] (spConst zSmall) := by
  refine okC_of F hm sc_small (fun _ _ _ _ _ _ us hl => match us, hl with | [], _ => rfl) (fun vs H Q E h => ?_) (fun cdv A outer s H vs Q E hr h => ?_)
  · obtain ⟨rfl, _⟩ := h
    rfl
  · obtain ⟨rfl, q⟩ := h
    exact ⟨_, (pss_one (ps_ret pe_str)), q⟩
abbrev s_great : Stmt := top 25
abbrev N_great : List Str := []
theorem sc_great : FnScope N_great [] (defScope s_great) := ⟨rfl, rfl, rfl, by decide +kernel, rfl, by decide +kernel, by decide +kernel⟩
theorem ok_great (F : FunD K "_law_great" "_law_great" (defArgs s_great) (defBody s_great) (defScope s_great) [] [] f fd) (hm : mg "_law_great" = some (.ref f)) : OkC P w K mg base (k + 1) "_law_great" [] (spConst zGreat) := by
  refine okC_of F hm sc_great (fun _ _ _ _ _ _ us hl => match us, hl with | [], _ => rfl) (fun vs H Q E h => ?_) (fun cdv A outer s H vs Q E hr h => ?_)
  · obtain ⟨rfl, _⟩ := h
    rfl
  · obtain ⟨rfl, q⟩ := h
    exact ⟨_, (pss_one (ps_ret pe_str)), q⟩
def spTaken : Sp := fun vs H Q _ => vs = [] ∧ ∀ (p : Addr) (H' : Hp), H p = none → Ex H H' → H' p = some (.lst (Hd.taken.map V.str)) → Q (.ref p) H'
abbrev s_taken : Stmt := top 28
abbrev N_taken : List Str := []
theorem sc_taken : FnScope N_taken [] (defScope s_taken) := ⟨rfl, rfl, rfl, by decide +kernel, rfl, by decide +kernel, by decide +kernel⟩
theorem ok_taken (F : FunD K "_law_taken" "_law_taken" (defArgs s_taken) (defBody s_taken) (defScope s_taken) [] [] f fd) (hm : mg "_law_taken" = some (.ref f)) : OkC P w K mg base (k + 1) "_law_taken" [] spTaken := by
  refine okC_of F hm sc_taken (fun _ _ _ _ _ _ us hl => match us, hl with | [], _ => rfl) (fun vs H Q E h => ?_) (fun cdv A outer s H vs Q E hr h => ?_)
  · obtain ⟨rfl, _⟩ := h
    rfl
  · obtain ⟨rfl, q⟩ := h
    refine ⟨_, (pss_one (ps_ret (pe_lst (pa_cons pe_str (pa_cons pe_str (pa_cons pe_str (pa_cons pe_str (pa_cons pe_str (pa_cons pe_str (pa_cons pe_str (pa_cons pe_str (pa_cons pe_str (pa_cons pe_str (pa_cons pe_str pa_nil)))))))))))))), ?_⟩
    exact ret_l ⟨by show 11 ≤ sizeLine; decide, fun p hp => q p _ hp (Ex.new hp) upd_same⟩
def spAllIn : Sp := fun vs H Q _ => ∃ a z : Str, vs = [.str a, .str z] ∧ a.length ≤ 1000 ∧ ∀ H', Ex H H' → Q (.bl (allS a z)) H'
theorem all_filter (a z : Str) : (((List.range a.cps.size).filter fun j => !decide (a.cps.getD j 0 ∈ z.cps.toList)).map fun j => V.str ⟨#[a.cps.getD j 0]⟩).isEmpty = allS a z := by
  have y := all_signs a fun c => decide (c ∈ z.cps.toList)
  unfold allS
  rw [← y]
  generalize List.range a.cps.size = l
  induction l with
  | nil => rfl
  | cons j l ih =>
    rw [List.filter_cons, List.all_cons, ← ih]
    cases decide (a.cps.getD j 0 ∈ z.cps.toList) <;> simp
abbrev s_all_in : Stmt := top 32
abbrev N_all_in : List Str := ["signs", "alphabet", "sign"]
theorem sc_all_in : FnScope N_all_in ["signs", "alphabet"] (defScope s_all_in) := ⟨rfl, rfl, rfl, by decide +kernel, rfl, by decide +kernel, by decide +kernel⟩
theorem ok_all_in (F : FunD K "_law_all_in" "_law_all_in" (defArgs s_all_in) (defBody s_all_in) (defScope s_all_in) [] [] f fd) (hm : mg "_law_all_in" = some (.ref f)) : OkC P w K mg base (k + 1) "_law_all_in" ["signs", "alphabet"] spAllIn := by
  refine okC_of F hm sc_all_in (fun _ _ _ _ _ _ us hl => match us, hl with | [_, _], _ => rfl) (fun vs H Q E h => ?_) (fun cdv A outer s H vs Q E hr h => ?_)
  · obtain ⟨a, z, rfl, _⟩ := h
    rfl
  · obtain ⟨a, z, rfl, ha, q⟩ := h
    refine ⟨_, (pss_one (ps_ret (pe_cmpR (op_eq0 (huC (roomH_of hr))) (pe_lc (own := [("sign", 2)]) (g := gName 2) rfl sc_all_in.nd (pi_str (pv 0)) (blkOk_by (N := N_all_in) (sc := defScope s_all_in) (by decide +kernel)) (fun _ _ _ _ _ => pg_name (i := 2) sc_all_in.nd rfl (Or.inl rfl)) (fun _ _ _ _ _ => (pts_one (pt_cmpR op_notIn_sign (pv 2) (pv 1) (by rfl)))) (fun _ _ _ _ _ => (pv 2))) (pe_lst pa_nil) (nomark _)))), ?_⟩
    refine ret_l (op_l (lc_keep (J := Its a) (n := a.cps.size) (item := fun i => .str ⟨#[a.cps.getD i 0]⟩) (fun j => !decide (a.cps.getD j 0 ∈ z.cps.toList)) (fun j => .str ⟨#[a.cps.getD j 0]⟩) (Nat.le_trans ha sz1000) (by show 2 < 3; decide) (fun R h => ⟨_, rfl, a, rfl, h⟩) walks_str (fun j H1 R hj e kR => ?_) (fun j H1 R hj e kR => ?_) (fun D H1 hD e h1 => ?_)))
    · exact ⟨_, rfl, _, rfl, a.cps.getD j 0, z, rfl, rfl, _, rfl, kR⟩
    · exact ⟨_, rfl, kR⟩
    · refine ⟨Nat.zero_le _, fun p hp => ⟨D, p, _, rfl, rfl, SqL.of ((Ex.new hp) _ _ h1), SqL.of upd_same, ?_⟩⟩
      have y := q _ (e.trans (Ex.new (o := .lst []) hp))
      rw [← all_filter a z] at y
      exact y
theorem allS_lets (a : Str) : allS a (zSmall ++ zGreat) = allS a zLet := by
  unfold allS
  have e : ∀ c, decide (c ∈ (zSmall ++ zGreat).cps.toList) = decide (c ∈ zLet.cps.toList) := by
    intro c
    have e1 : (zSmall ++ zGreat).cps.toList = zSmall.cps.toList ++ zGreat.cps.toList := by decide +kernel
    have e2 : zLet.cps.toList = zGreat.cps.toList ++ zSmall.cps.toList := by decide +kernel
    rw [e1, e2]
    refine decide_eq_decide.mpr ?_
    rw [List.mem_append, List.mem_append, Or.comm]
  simp only [e]
theorem allS_vars (a : Str) : allS a (zSmall ++ "0123456789") = allS a zVar := by
  have e1 : (zSmall ++ ("0123456789" : Str)) = zVar := by decide +kernel
  rw [e1]
def spDue (K : PySem.W.Frag) (g : Str → Bool) : Sp := fun vs H Q _ => ∃ (v : V) (o : Option Str), vs = [v] ∧ MayStr K H v o ∧ ∀ H', Ex H H' → Q (.bl (onStr g o)) H'
abbrev s_word_due : Stmt := top 33
abbrev N_word_due : List Str := ["value"]
theorem sc_word_due : FnScope N_word_due ["value"] (defScope s_word_due) := ⟨rfl, rfl, rfl, by decide +kernel, rfl, by decide +kernel, by decide +kernel⟩
theorem ok_word_due (T : Txt K mg) (k_all_in : OkC P w K mg base k "_law_all_in" ["signs", "alphabet"] spAllIn) (k_small : OkC P w K mg base k "_law_small" [] (spConst zSmall)) (k_taken : OkC P w K mg base k "_law_taken" [] spTaken)
    (F : FunD K "_law_word_due" "_law_word_due" (defArgs s_word_due) (defBody s_word_due) (defScope s_word_due) [] [] f fd) (hm : mg "_law_word_due" = some (.ref f)) : OkC P w K mg base (k + 1) "_law_word_due" ["value"] (spDue K wordB) := by
  refine okC_of F hm sc_word_due (fun _ _ _ _ _ _ us hl => match us, hl with | [_], _ => rfl) (fun vs H Q E h => ?_) (fun cdv A outer s H vs Q E hr h => ?_)
  · obtain ⟨v, o, rfl, _⟩ := h
    rfl
  · obtain ⟨v, o, rfl, hv, q⟩ := h
    refine ⟨_, (pss_cons (ps_if (pw_or (pt_not (pt_val (pe_callB call_isA (by rfl) T.f_isinstance (by decide +kernel) (pa_cons (pv 0) (pa_cons (pe_bltn (v := .ty "str") (by rfl) T.f_str (by decide +kernel) rfl) pa_nil))))) (pw_or1 (pt_not (pt_chain op_le op_le pe_int (pe_callB call_len_str (by rfl) T.f_len (by decide +kernel) (pa_cons (pv 0) pa_nil)) pe_int)))).pt (pss_one (ps_ret pe_bl)) pss_nil) (pss_one (ps_ret (pe_and (pe_callK0 k_all_in hr (by rfl) (pa_cons (pv 0) (pa_cons (pe_callK00 k_small hr (by rfl)) pa_nil))) (pe_one (pe_cmpR op_notIn_seq (pv 0) (pe_callK00 k_taken hr (by rfl)) (by rfl))))))), ?_⟩
    cases hv with
    | no hn =>
      refine ⟨_, rfl, hn _ _ (Ex.refl _) ⟨_, rfl, ite1 (by decide) (ite1 rfl ?_)⟩⟩
      exact q _ (Ex.refl _)
    | str z hz =>
      refine ⟨_, rfl, is_str ⟨_, rfl, ite0 (by decide) ?_⟩⟩
      refine ⟨_, rfl, z, rfl, Nat.le_trans hz sz1000, _, _, rfl, rfl, _, rfl, ?_⟩
      by_cases h1 : 1 ≤ z.length
      · refine ite1 (decide_eq_true (by omega)) ⟨_, _, rfl, rfl, _, rfl, ?_⟩
        by_cases h2 : z.length ≤ 8
        · have hl : inLen z 8 = true := by simp [inLen, h1, h2]
          refine ite0 (by simp; omega) (nx_l ?_)
          refine ret_l ⟨_, rfl, rfl, z, zSmall, rfl, hz, fun H1 e1 => ⟨_, rfl, ?_⟩⟩
          cases hs : allS z zSmall with
          | true =>
            refine ite1 rfl ⟨_, rfl, rfl, fun p H2 hp e2 h2 => ⟨p, Hd.taken.map V.str, rfl, .inl (SqL.of h2), rfl, flat_strs _, ?_⟩⟩
            have y := q _ (e1.trans e2)
            rw [show onStr wordB (some z) = !decide (z ∈ Hd.taken) from by simp [onStr, wordB, hl, hs], ← inV_strs] at y
            exact y
          | false =>
            refine ite0 (by decide) ?_
            have y := q _ e1
            rw [show onStr wordB (some z) = false from by simp [onStr, wordB, hs]] at y
            exact y
        · have hl : inLen z 8 = false := by simp [inLen, h2]
          refine ite1 (by simp; omega) ?_
          have y := q _ (Ex.refl _)
          rw [show onStr wordB (some z) = false from by simp [onStr, wordB, hl]] at y
          exact y
      · have hl : inLen z 8 = false := by simp [inLen, h1]
        refine ite0 (by simp; omega) ⟨_, rfl, ite1 (by decide) ?_⟩
        have y := q _ (Ex.refl _)
        rw [show onStr wordB (some z) = false from by simp [onStr, wordB, hl]] at y
        exact y
abbrev s_name_due : Stmt := top 34
abbrev N_name_due : List Str := ["value"]
theorem sc_name_due : FnScope N_name_due ["value"] (defScope s_name_due) := ⟨rfl, rfl, rfl, by decide +kernel, rfl, by decide +kernel, by decide +kernel⟩
theorem ok_name_due (T : Txt K mg) (k_all_in : OkC P w K mg base k "_law_all_in" ["signs", "alphabet"] spAllIn) (k_small : OkC P w K mg base k "_law_small" [] (spConst zSmall)) (k_great : OkC P w K mg base k "_law_great" [] (spConst zGreat))
    (F : FunD K "_law_name_due" "_law_name_due" (defArgs s_name_due) (defBody s_name_due) (defScope s_name_due) [] [] f fd) (hm : mg "_law_name_due" = some (.ref f)) : OkC P w K mg base (k + 1) "_law_name_due" ["value"] (spDue K nameB) := by
  refine okC_of F hm sc_name_due (fun _ _ _ _ _ _ us hl => match us, hl with | [_], _ => rfl) (fun vs H Q E h => ?_) (fun cdv A outer s H vs Q E hr h => ?_)
  · obtain ⟨v, o, rfl, _⟩ := h
    rfl
  · obtain ⟨v, o, rfl, hv, q⟩ := h
    refine ⟨_, (pss_cons (ps_if (pw_or (pt_not (pt_val (pe_callB call_isA (by rfl) T.f_isinstance (by decide +kernel) (pa_cons (pv 0) (pa_cons (pe_bltn (v := .ty "str") (by rfl) T.f_str (by decide +kernel) rfl) pa_nil))))) (pw_or1 (pt_not (pt_chain op_le op_le pe_int (pe_callB call_len_str (by rfl) T.f_len (by decide +kernel) (pa_cons (pv 0) pa_nil)) pe_int)))).pt (pss_one (ps_ret pe_bl)) pss_nil) (pss_one (ps_ret (pe_and (pe_cmpR op_in_sign (pe_ix ix_str (pv 0) pe_int fun _ _ => rfl) (pe_callK00 k_great hr (by rfl)) (by rfl)) (pe_one (pe_callK0 k_all_in hr (by rfl) (pa_cons (pv 0) (pa_cons (pe_op op_add_str (pe_callK00 k_small hr (by rfl)) (pe_callK00 k_great hr (by rfl))) pa_nil)))))))), ?_⟩
    cases hv with
    | no hn =>
      refine ⟨_, rfl, hn _ _ (Ex.refl _) ⟨_, rfl, ite1 (by decide) (ite1 rfl ?_)⟩⟩
      exact q _ (Ex.refl _)
    | str z hz =>
      refine ⟨_, rfl, is_str ⟨_, rfl, ite0 (by decide) ?_⟩⟩
      refine ⟨_, rfl, z, rfl, Nat.le_trans hz sz1000, _, _, rfl, rfl, _, rfl, ?_⟩
      by_cases h1 : 1 ≤ z.length
      · refine ite1 (decide_eq_true (by omega)) ⟨_, _, rfl, rfl, _, rfl, ?_⟩
        by_cases h2 : z.length ≤ 8
        · have hl : inLen z 8 = true := by simp [inLen, h1, h2]
          refine ite0 (by simp; omega) (nx_l ?_)
          refine ret_l ⟨_, rfl, z, 0, z.cps.getD 0 0, rfl, rfl, Nat.le_trans hz sz1000, first_of h1, rfl, z.cps.getD 0 0, zGreat, rfl, rfl, _, rfl, ?_⟩
          cases hs : decide (z.cps.getD 0 0 ∈ zGreat.cps.toList) with
          | true =>
            refine ite1 rfl ⟨_, rfl, rfl, rfl, zSmall, zGreat, rfl, rfl, (by decide), z, _, rfl, hz, fun H1 e1 => ?_⟩
            have y := q _ e1
            rw [show onStr nameB (some z) = allS z zLet from by simp [onStr, nameB, hl] at hs ⊢; exact fun _ => hs, ← allS_lets] at y
            exact y
          | false =>
            refine ite0 (by decide) ?_
            have y := q _ (Ex.refl _)
            rw [show onStr nameB (some z) = false from by simp [onStr, nameB] at hs ⊢; exact fun _ z => absurd z hs] at y
            exact y
        · have hl : inLen z 8 = false := by simp [inLen, h2]
          refine ite1 (by simp; omega) ?_
          have y := q _ (Ex.refl _)
          rw [show onStr nameB (some z) = false from by simp [onStr, nameB, hl]] at y
          exact y
      · have hl : inLen z 8 = false := by simp [inLen, h1]
        refine ite0 (by simp; omega) ⟨_, rfl, ite1 (by decide) ?_⟩
        have y := q _ (Ex.refl _)
        rw [show onStr nameB (some z) = false from by simp [onStr, nameB, hl]] at y
        exact y
abbrev s_variable_due : Stmt := top 35
abbrev N_variable_due : List Str := ["value"]
theorem sc_variable_due : FnScope N_variable_due ["value"] (defScope s_variable_due) := ⟨rfl, rfl, rfl, by decide +kernel, rfl, by decide +kernel, by decide +kernel⟩
theorem ok_variable_due (T : Txt K mg) (k_all_in : OkC P w K mg base k "_law_all_in" ["signs", "alphabet"] spAllIn) (k_small : OkC P w K mg base k "_law_small" [] (spConst zSmall))
    (F : FunD K "_law_variable_due" "_law_variable_due" (defArgs s_variable_due) (defBody s_variable_due) (defScope s_variable_due) [] [] f fd) (hm : mg "_law_variable_due" = some (.ref f)) : OkC P w K mg base (k + 1) "_law_variable_due" ["value"] (spDue K varB) := by
  refine okC_of F hm sc_variable_due (fun _ _ _ _ _ _ us hl => match us, hl with | [_], _ => rfl) (fun vs H Q E h => ?_) (fun cdv A outer s H vs Q E hr h => ?_)
  · obtain ⟨v, o, rfl, _⟩ := h
    rfl
  · obtain ⟨v, o, rfl, hv, q⟩ := h
    refine ⟨_, (pss_cons (ps_if (pw_or (pt_not (pt_val (pe_callB call_isA (by rfl) T.f_isinstance (by decide +kernel) (pa_cons (pv 0) (pa_cons (pe_bltn (v := .ty "str") (by rfl) T.f_str (by decide +kernel) rfl) pa_nil))))) (pw_or1 (pt_not (pt_chain op_le op_le pe_int (pe_callB call_len_str (by rfl) T.f_len (by decide +kernel) (pa_cons (pv 0) pa_nil)) pe_int)))).pt (pss_one (ps_ret pe_bl)) pss_nil) (pss_one (ps_ret (pe_and (pe_cmpR op_in_sign (pe_ix ix_str (pv 0) pe_int fun _ _ => rfl) (pe_callK00 k_small hr (by rfl)) (by rfl)) (pe_one (pe_callK0 k_all_in hr (by rfl) (pa_cons (pv 0) (pa_cons (pe_op op_add_str (pe_callK00 k_small hr (by rfl)) pe_str) pa_nil)))))))), ?_⟩
    cases hv with
    | no hn =>
      refine ⟨_, rfl, hn _ _ (Ex.refl _) ⟨_, rfl, ite1 (by decide) (ite1 rfl ?_)⟩⟩
      exact q _ (Ex.refl _)
    | str z hz =>
      refine ⟨_, rfl, is_str ⟨_, rfl, ite0 (by decide) ?_⟩⟩
      refine ⟨_, rfl, z, rfl, Nat.le_trans hz sz1000, _, _, rfl, rfl, _, rfl, ?_⟩
      by_cases h1 : 1 ≤ z.length
      · refine ite1 (decide_eq_true (by omega)) ⟨_, _, rfl, rfl, _, rfl, ?_⟩
        by_cases h2 : z.length ≤ 4
        · have hl : inLen z 4 = true := by simp [inLen, h1, h2]
          refine ite0 (by simp; omega) (nx_l ?_)
          refine ret_l ⟨_, rfl, z, 0, z.cps.getD 0 0, rfl, rfl, Nat.le_trans hz sz1000, first_of h1, rfl, z.cps.getD 0 0, zSmall, rfl, rfl, _, rfl, ?_⟩
          cases hs : decide (z.cps.getD 0 0 ∈ zSmall.cps.toList) with
          | true =>
            refine ite1 rfl ⟨_, rfl, rfl, zSmall, _, rfl, rfl, (by decide), z, _, rfl, hz, fun H1 e1 => ?_⟩
            have y := q _ e1
            rw [show onStr varB (some z) = allS z zVar from by simp [onStr, varB, hl] at hs ⊢; exact fun _ => hs, ← allS_vars] at y
            exact y
          | false =>
            refine ite0 (by decide) ?_
            have y := q _ (Ex.refl _)
            rw [show onStr varB (some z) = false from by simp [onStr, varB] at hs ⊢; exact fun _ z => absurd z hs] at y
            exact y
        · have hl : inLen z 4 = false := by simp [inLen, h2]
          refine ite1 (by simp; omega) ?_
          have y := q _ (Ex.refl _)
          rw [show onStr varB (some z) = false from by simp [onStr, varB, hl]] at y
          exact y
      · have hl : inLen z 4 = false := by simp [inLen, h1]
        refine ite0 (by simp; omega) ⟨_, rfl, ite1 (by decide) ?_⟩
        have y := q _ (Ex.refl _)
        rw [show onStr varB (some z) = false from by simp [onStr, varB, hl]] at y
        exact y
end
end D0

namespace D0
open PySem PySem.Spec PyProof.Rows L2 L2H HotX Evl K9
theorem asg_l {te : TE} {j : Nat} {D : Ends} {σ : L2.St} {H : Hp} (h : te σ H fun v H1 => D.nx (σ.set j (some v)) H1) : tAsg te (gName j) D σ H := h
theorem kw1_l {sp : Sp} {te : TE} {σ : L2.St} {H : Hp} {Q : VK} (h : te σ H fun v H1 => sp [v] H1 Q E0) : tCallKB sp 1 (tCons te tNil) σ H Q := by
  unfold tCallKB
  show te σ H fun v H1 => ([v].length = 1 ∧ sp (gPV (List.range 1) [] [v]) H1 Q E0)
  have e : (fun v H1 => ([v].length = 1 ∧ sp (gPV (List.range 1) [] [v]) H1 Q E0)) = fun v H1 => sp [v] H1 Q E0 := by
    funext v H1
    have e2 : gPV (List.range 1) [] [v] = [v] := rfl
    rw [e2]
    exact propext ⟨fun h => h.2, fun h => ⟨rfl, h⟩⟩
  rw [e]
  exact h
theorem Lk3 {H : Hp} {a b : Addr} {x y z : Bool} (h1 : H a = some (.lst [.bl x, .bl y, .bl z])) (h2 : H b = some (.lst [.bl x, .bl y, .bl z])) : Lk H (.ref a) (.ref b) 4 :=
  .lst h1 h2 (.cons (.bl x) (.cons (.bl y) (.cons (.bl z) .nil)))
section
variable {P : Program} {w : World} {K : PySem.W.Frag} {mg : Str → Option Value} {base : Heap} {f : Addr} {fd : FuncData} {k : Nat}
def spAsked (Ph : Addr) (K : PySem.W.Frag) : Sp := fun vs H Q _ => ∃ (v : V) (o : Option Str) (b : Bool), vs = [v, .bl b] ∧ MayStr K H v o ∧ TabX H Ph ∧ ∀ H', Ex H H' → Q (.bl true) H'
abbrev s_asked_right : Stmt := top 36
abbrev N_asked_right : List Str := ["value", "by_name", "told", "due"]
theorem sc_asked_right : FnScope N_asked_right ["value", "by_name"] (defScope s_asked_right) := ⟨rfl, rfl, rfl, by decide +kernel, rfl, by decide +kernel, by decide +kernel⟩
theorem ok_asked_right {Ph : Addr} (w_is_word : OkK P w K mg base k "is_word" ["value"] ["value"] (spJudge Ph K wordB)) (w_is_type_name : OkK P w K mg base k "is_type_name" ["value"] ["value"] (spJudge Ph K nameB)) (w_is_variable : OkK P w K mg base k "is_variable" ["value"] ["value"] (spJudge Ph K varB))
    (k_word_due : OkC P w K mg base k "_law_word_due" ["value"] (spDue K wordB)) (k_name_due : OkC P w K mg base k "_law_name_due" ["value"] (spDue K nameB)) (k_variable_due : OkC P w K mg base k "_law_variable_due" ["value"] (spDue K varB)) (k_like : Ok P w K mg base k "_law_like" ["told", "due"] spLike)
    (F : FunD K "_law_asked_right" "_law_asked_right" (defArgs s_asked_right) (defBody s_asked_right) (defScope s_asked_right) [] [] f fd) (hm : mg "_law_asked_right" = some (.ref f)) : OkC P w K mg base (k + 1) "_law_asked_right" ["value", "by_name"] (spAsked Ph K) := by
  have k_is_word := w_is_word.c
  have k_is_type_name := w_is_type_name.c
  have k_is_variable := w_is_variable.c
  refine okC_of F hm sc_asked_right (fun _ _ _ _ _ _ us hl => match us, hl with | [_, _], _ => rfl) (fun vs H Q E h => ?_) (fun cdv A outer s H vs Q E hr h => ?_)
  · obtain ⟨v, o, b, rfl, _⟩ := h
    rfl
  · obtain ⟨v, o, b, rfl, hv, hT, q⟩ := h
    refine ⟨_, (pss_cons (ps_if (pt_val (pv 1)) (pss_one (ps_set (i := 2) sc_asked_right.nd rfl (Or.inl rfl) (pe_lst (pa_cons (pe_callKw w_is_word hr (by rfl) (pk_cons (pv 0) pk_nil)) (pa_cons (pe_callKw w_is_type_name hr (by rfl) (pk_cons (pv 0) pk_nil)) (pa_cons (pe_callKw w_is_variable hr (by rfl) (pk_cons (pv 0) pk_nil)) pa_nil)))))) (pss_one (ps_set (i := 2) sc_asked_right.nd rfl (Or.inl rfl) (pe_lst (pa_cons (pe_callK0 k_is_word hr (by rfl) (pa_cons (pv 0) pa_nil)) (pa_cons (pe_callK0 k_is_type_name hr (by rfl) (pa_cons (pv 0) pa_nil)) (pa_cons (pe_callK0 k_is_variable hr (by rfl) (pa_cons (pv 0) pa_nil)) pa_nil))))))) (pss_cons (ps_set (i := 3) sc_asked_right.nd rfl (Or.inl rfl) (pe_lst (pa_cons (pe_callK0 k_word_due hr (by rfl) (pa_cons (pv 0) pa_nil)) (pa_cons (pe_callK0 k_name_due hr (by rfl) (pa_cons (pv 0) pa_nil)) (pa_cons (pe_callK0 k_variable_due hr (by rfl) (pa_cons (pv 0) pa_nil)) pa_nil))))) (pss_one (ps_ret (pe_callO k_like (roomH_of hr) (.inl ⟨rfl, rfl⟩) (by rfl) (pa_cons (pv 2) (pa_cons (pv 3) pa_nil))))))), ?_⟩
    cases b with
    | true =>
      refine seq_l (ifB_l ⟨_, rfl, _, rfl, ite1 rfl (asg_l (lst_l (cons_l (kw1_l ⟨v, rfl, v, o, rfl, hv, hT, fun H1 e1 => ?_⟩))))⟩)
      refine cons_l (kw1_l ⟨v, rfl, v, o, rfl, hv.ext e1, hT.ext e1, fun H2 d2 => ?_⟩)
      have e2 := e1.trans d2
      refine cons_l (kw1_l ⟨v, rfl, v, o, rfl, hv.ext e2, hT.ext e2, fun H3 d3 => ?_⟩)
      have e3 := e2.trans d3
      refine nil_l ⟨by show 3 ≤ sizeLine; decide, fun p hp => ?_⟩
      have e4 := e3.trans (Ex.new (o := .lst [.bl (onStr wordB o), .bl (onStr nameB o), .bl (onStr varB o)]) hp)
      have h4 : upd H3 p (.lst [.bl (onStr wordB o), .bl (onStr nameB o), .bl (onStr varB o)]) p = _ := upd_same
      generalize upd H3 p (.lst [.bl (onStr wordB o), .bl (onStr nameB o), .bl (onStr varB o)]) = H4 at e4 h4 ⊢
      refine nx_p (seq_l (asg_l (lst_l (cons_l (callB1_l ⟨v, rfl, v, o, rfl, hv.ext e4, fun H5 d5 => ?_⟩)))))
      have e5 := e4.trans d5
      refine cons_l (callB1_l ⟨v, rfl, v, o, rfl, hv.ext e5, fun H6 d6 => ?_⟩)
      have e6 := e5.trans d6
      refine cons_l (callB1_l ⟨v, rfl, v, o, rfl, hv.ext e6, fun H7 d7 => ?_⟩)
      have e7 := e6.trans d7
      have d47 := d5.trans (d6.trans d7)
      refine nil_l ⟨by show 3 ≤ sizeLine; decide, fun p2 hp2 => ?_⟩
      have d8 : Ex H7 (upd H7 p2 (.lst [.bl (onStr wordB o), .bl (onStr nameB o), .bl (onStr varB o)])) := Ex.new hp2
      refine nx_p (ret_l ⟨_, rfl, _, rfl, .ref p, .ref p2, 4, rfl, by decide, Lk3 ((d47.trans d8) _ _ h4) upd_same, fun H9 e9 => ?_⟩)
      exact q _ (e7.trans (d8.trans e9))
    | false =>
      refine seq_l (ifB_l ⟨_, rfl, _, rfl, ite0 (by decide) (asg_l (lst_l (cons_l (callB1_l ⟨v, rfl, v, o, rfl, hv, hT, fun H1 e1 => ?_⟩))))⟩)
      refine cons_l (callB1_l ⟨v, rfl, v, o, rfl, hv.ext e1, hT.ext e1, fun H2 d2 => ?_⟩)
      have e2 := e1.trans d2
      refine cons_l (callB1_l ⟨v, rfl, v, o, rfl, hv.ext e2, hT.ext e2, fun H3 d3 => ?_⟩)
      have e3 := e2.trans d3
      refine nil_l ⟨by show 3 ≤ sizeLine; decide, fun p hp => ?_⟩
      have e4 := e3.trans (Ex.new (o := .lst [.bl (onStr wordB o), .bl (onStr nameB o), .bl (onStr varB o)]) hp)
      have h4 : upd H3 p (.lst [.bl (onStr wordB o), .bl (onStr nameB o), .bl (onStr varB o)]) p = _ := upd_same
      generalize upd H3 p (.lst [.bl (onStr wordB o), .bl (onStr nameB o), .bl (onStr varB o)]) = H4 at e4 h4 ⊢
      refine nx_p (seq_l (asg_l (lst_l (cons_l (callB1_l ⟨v, rfl, v, o, rfl, hv.ext e4, fun H5 d5 => ?_⟩)))))
      have e5 := e4.trans d5
      refine cons_l (callB1_l ⟨v, rfl, v, o, rfl, hv.ext e5, fun H6 d6 => ?_⟩)
      have e6 := e5.trans d6
      refine cons_l (callB1_l ⟨v, rfl, v, o, rfl, hv.ext e6, fun H7 d7 => ?_⟩)
      have e7 := e6.trans d7
      have d47 := d5.trans (d6.trans d7)
      refine nil_l ⟨by show 3 ≤ sizeLine; decide, fun p2 hp2 => ?_⟩
      have d8 : Ex H7 (upd H7 p2 (.lst [.bl (onStr wordB o), .bl (onStr nameB o), .bl (onStr varB o)])) := Ex.new hp2
      refine nx_p (ret_l ⟨_, rfl, _, rfl, .ref p, .ref p2, 4, rfl, by decide, Lk3 ((d47.trans d8) _ _ h4) upd_same, fun H9 e9 => ?_⟩)
      exact q _ (e7.trans (d8.trans e9))
end
end D0

namespace D0
open PySem PySem.Spec PyProof.Rows L2 L2H HotX Evl K9
theorem BoxAt.up {H : Hp} {b : Addr} {n m : Nat} (h : BoxAt H b n) (l : n ≤ m) : BoxAt H b m := by
  obtain ⟨g, x, c, y, h1, h2, h3, h4, h5, h6⟩ := h
  exact ⟨g, x, c, y, h1, h2, h3, h4, h5, by omega⟩
theorem BoxAt.ex {H H' : Hp} {b : Addr} {n : Nat} (e : Ex H H') (h : BoxAt H b n) : BoxAt H' b n := by
  obtain ⟨g, x, c, y, h1, r⟩ := h
  exact ⟨g, x, c, y, e _ _ h1, r⟩
theorem BoxAt.at_ {H : Hp} {b : Addr} {n : Nat} (h : BoxAt H b n) : ∃ xs, H b = some (.lst xs) := by
  obtain ⟨g, x, c, y, h1, r⟩ := h
  exact ⟨_, h1⟩
theorem BoxAt.new {H : Hp} {b D : Addr} {n : Nat} {o : HO} (hD : H D = none) (h : BoxAt H b n) : BoxAt (upd H D o) b n := h.ex (Ex.new hD)
theorem BoxAt.ne {H : Hp} {b D : Addr} {n : Nat} {o : HO} (hD : b ≠ D) (h : BoxAt H b n) : BoxAt (upd H D o) b n := by
  obtain ⟨g, x, c, y, h1, r⟩ := h
  exact ⟨g, x, c, y, by rw [upd_ne hD]; exact h1, r⟩
theorem strs_len {ys : List Str} {n : Nat} (h : ∀ y ∈ ys, y.length ≤ n) : (ys.map (·.length)).sum ≤ ys.length * n := by
  induction ys with
  | nil => simp
  | cons y ys ih =>
    have h1 := h y (List.mem_cons_self ..)
    have h2 := ih fun z hz => h z (List.mem_cons_of_mem _ hz)
    simp only [List.map_cons, List.sum_cons, List.length_cons]
    rw [Nat.succ_mul]
    omega
section
variable {P : Program} {w : World} {K : PySem.W.Frag} {mg : Str → Option Value} {base : Heap} {f : Addr} {fd : FuncData} {k : Nat}
abbrev Take (P : Program) (w : World) (K : PySem.W.Frag) (mg : Str → Option Value) (base : Heap) (k : Nat) : Prop := OkC P w K mg base k "_law_take" ["box", "many"] spTake
/-- take(box, n) -/
theorem take_l {te tn : TE} {σ : L2.St} {H : Hp} {Q : VK} {b : Addr} {n m : Nat} (hb : ∀ R : VK, R (.ref b) H → te σ H R) (hn : ∀ R : VK, R (.int (n : Int)) H → tn σ H R) (h1 : 1 ≤ n) (h2 : n ≤ 1000000) (hm : m ≤ 1000) (hB : BoxAt H b m)
    (h : ∀ (d : Nat) (H' : Hp), d < n → ExB b H H' → BoxAt H' b (m + 1) → Q (.int (d : Int)) H') : tCallB spTake (tCons te (tCons tn tNil)) σ H Q :=
  hb _ (hn _ ⟨b, n, m, rfl, h1, h2, hm, hB, h⟩)
def spSigns : Sp := fun vs H Q _ => ∃ (b : Addr) (z : Str) (n m : Nat), vs = [.ref b, .str z, .int (n : Int)] ∧ 1 ≤ z.length ∧ z.length ≤ 1000 ∧ n ≤ 100 ∧ m + n ≤ 1000 ∧ BoxAt H b m ∧ ∀ (y : Str) (H' : Hp), y.length ≤ n → ExB b H H' → BoxAt H' b (m + n) → Q (.str y) H'
abbrev s_signs : Stmt := top 26
abbrev N_signs : List Str := ["box", "alphabet", "many", "k"]
theorem sc_signs : FnScope N_signs ["box", "alphabet", "many"] (defScope s_signs) := ⟨rfl, rfl, rfl, by decide +kernel, rfl, by decide +kernel, by decide +kernel⟩
theorem ok_signs (T : Txt K mg) (k_take : Take P w K mg base k) (F : FunD K "_law_signs" "_law_signs" (defArgs s_signs) (defBody s_signs) (defScope s_signs) [] [] f fd) (hm : mg "_law_signs" = some (.ref f)) : OkC P w K mg base (k + 1) "_law_signs" ["box", "alphabet", "many"] spSigns := by
  refine okC_of F hm sc_signs (fun _ _ _ _ _ _ us hl => match us, hl with | [_, _, _], _ => rfl) (fun vs H Q E h => ?_) (fun cdv A outer s H vs Q E hr h => ?_)
  · obtain ⟨b, z, n, m, rfl, _⟩ := h
    rfl
  · obtain ⟨b, z, n, m, rfl, hz, hz2, hn, hm, hB, q⟩ := h
    refine ⟨_, (pss_one (ps_ret (pe_join pe_str (pe_lc (own := [("k", 3)]) (g := gName 3) rfl sc_signs.nd (pi_range1 (by rfl) T.f_range (pa_cons (pv 2) pa_nil)) (blkOk_by (N := N_signs) (sc := defScope s_signs) (by decide +kernel)) (fun _ _ _ _ _ => pg_name (i := 3) sc_signs.nd rfl (Or.inl rfl)) (fun _ _ _ _ _ => pts_nil) (fun _ _ _ _ _ => (pe_ix ix_str (pv 1) (pe_callK0 k_take hr (by rfl) (pa_cons (pv 0) (pa_cons (pe_callB call_len_str (by rfl) T.f_len (by decide +kernel) (pa_cons (pv 1) pa_nil)) pa_nil))) fun _ _ => rfl)))))), ?_⟩
    obtain ⟨xs0, hb0⟩ := hB.at_
    refine ret_l ⟨⟨_, rfl⟩, ?_⟩
    refine lcB_by (b := b) (J := Itr 0 n) (n := n) (item := fun i => .int (i : Int)) (fun j acc H1 => BoxAt H1 b (m + j) ∧ ∃ ys : List Str, acc = ys.map V.str ∧ ∀ y ∈ ys, y.length ≤ 1) (by have := sizeLine_eq; omega) (by show 3 < 4; decide) hb0 ?_ walksB_rng0 (fun D j acc H1 o hD hp => ⟨hp.1.ne (ne_of_none hb0 hD), hp.2⟩) ⟨hB, [], rfl, by simp⟩ (fun j acc H1 C hj e hp kk => ?_) (fun D acc H1 hD e h1 hp hl => ?_)
    · exact fun R h => ⟨_, rfl, n, rfl, by omega, by omega, h⟩
    · obtain ⟨hB1, ys, rfl, hy⟩ := hp
      refine op_l ⟨_, rfl, take_l (b := b) (n := z.length) (m := m + j) (fun R r => ⟨_, rfl, r⟩) (fun R r => ⟨_, rfl, z, rfl, Nat.le_trans hz2 sz1000, r⟩) hz (by omega) (by omega) hB1 fun d H2 hd e2 hB2 => ?_⟩
      have hd2 : d < z.cps.size := hd
      refine ⟨z, (d : Int), z.cps.getD d 0, rfl, rfl, Nat.le_trans hz2 sz1000, atI_nat (j := d) (by rw [Array.getElem?_toList]; simp [Array.getD_eq_getD_getElem?, Array.getElem?_eq_getElem hd2]), ?_⟩
      refine kk _ _ e2 ⟨hB2, ys ++ [⟨#[z.cps.getD d 0]⟩], by simp, fun y h => ?_⟩
      rcases List.mem_append.mp h with h | h
      · exact hy y h
      · rw [List.mem_singleton.mp h]
        exact Nat.le_refl _
    · obtain ⟨hB1, ys, rfl, hy⟩ := hp
      have hl2 : ys.length = n := by simpa using hl
      have l1 := strs_len hy
      refine ⟨_, D, ys, rfl, rfl, .inl (SqL.of h1), ?_, q _ _ ?_ e hB1⟩
      · show (ys.map (·.length)).sum + ys.length * (0 : Nat) ≤ 16777216
        omega
      · have l2 := StrLaws.join_length_le "" ys
        rw [← TL.join_eq] at l2
        have l3 : ("" : Str).length = 0 := rfl
        rw [l3] at l2
        omega
end
end D0

namespace D0
open PySem PySem.Spec PyProof.Rows L2 L2H HotX Evl K9
section
variable {P : Program} {w : World} {K : PySem.W.Frag} {mg : Str → Option Value} {base : Heap} {f : Addr} {fd : FuncData} {k : Nat}
theorem cutS_len_le (z : Str) (lo hi : Option Int) : (cutS z lo hi).length ≤ z.length := by
  show (((z.cps.toList.drop _).take _).toArray).size ≤ z.cps.size
  simp
  omega
def menuS : List Str := ["A", "Z", "a", "z", "0", "9", " ", "_", "-", "?", "#", "<", "\n", "\t", "@", "[", "`", "{", "/", ":"]
theorem menuS_len : ∀ y ∈ menuS, y.length ≤ 1 := by decide
def spSpoilt : Sp := fun vs H Q _ => ∃ (b : Addr) (z : Str) (m : Nat), vs = [.ref b, .str z] ∧ z.length ≤ 900 ∧ m + 3 ≤ 1000 ∧ BoxAt H b m ∧ ∀ (y : Str) (H' : Hp), y.length ≤ 2 * z.length + 1 → ExB b H H' → BoxAt H' b (m + 3) → Q (.str y) H'
abbrev s_spoilt : Stmt := top 27
abbrev N_spoilt : List Str := ["box", "signs", "menu", "way", "place", "sign"]
theorem sc_spoilt : FnScope N_spoilt ["box", "signs"] (defScope s_spoilt) := ⟨rfl, rfl, rfl, by decide +kernel, rfl, by decide +kernel, by decide +kernel⟩
theorem ok_spoilt (T : Txt K mg) (k_take : Take P w K mg base k) (F : FunD K "_law_spoilt" "_law_spoilt" (defArgs s_spoilt) (defBody s_spoilt) (defScope s_spoilt) [] [] f fd) (hm : mg "_law_spoilt" = some (.ref f)) : OkC P w K mg base (k + 1) "_law_spoilt" ["box", "signs"] spSpoilt := by
  refine okC_of F hm sc_spoilt (fun _ _ _ _ _ _ us hl => match us, hl with | [_, _], _ => rfl) (fun vs H Q E h => ?_) (fun cdv A outer s H vs Q E hr h => ?_)
  · obtain ⟨b, z, m, rfl, _⟩ := h
    rfl
  · obtain ⟨b, z, m, rfl, hz, hm, hB, q⟩ := h
    refine ⟨_, (pss_cons (ps_set (i := 2) sc_spoilt.nd rfl (Or.inl rfl) (pe_lst (pa_cons pe_str (pa_cons pe_str (pa_cons pe_str (pa_cons pe_str (pa_cons pe_str (pa_cons pe_str (pa_cons pe_str (pa_cons pe_str (pa_cons pe_str (pa_cons pe_str (pa_cons pe_str (pa_cons pe_str (pa_cons pe_str (pa_cons pe_str (pa_cons pe_str (pa_cons pe_str (pa_cons pe_str (pa_cons pe_str (pa_cons pe_str (pa_cons pe_str pa_nil)))))))))))))))))))))) (pss_cons (ps_par rfl sc_spoilt.nd (i := 3) (j := 4) rfl rfl (by decide) rfl rfl (pa_cons (pe_callK0 k_take hr (by rfl) (pa_cons (pv 0) (pa_cons pe_int pa_nil))) (pa_cons (pe_callK0 k_take hr (by rfl) (pa_cons (pv 0) (pa_cons (pe_op op_add (pe_callB call_len_str (by rfl) T.f_len (by decide +kernel) (pa_cons (pv 1) pa_nil)) pe_int) pa_nil))) pa_nil)) rfl) (pss_cons (ps_set (i := 5) sc_spoilt.nd rfl (Or.inl rfl) (pe_ix ix_list (pv 2) (pe_callK0 k_take hr (by rfl) (pa_cons (pv 0) (pa_cons pe_int pa_nil))) fun _ _ => rfl)) (pss_cons (ps_if (pt_cmpR op_eq (pv 3) pe_int (nomark _)) (pss_one (ps_ret (pe_op op_add_str (pe_op op_add_str (pe_slice sl_str (pv 1) po_none (po_some (pv 4))) (pv 5)) (pe_slice sl_str (pv 1) (po_some (pe_op op_add (pv 4) pe_int)) po_none)))) pss_nil) (pss_cons (ps_if (pt_cmpR op_eq (pv 3) pe_int (nomark _)) (pss_one (ps_ret (pe_op op_add_str (pe_op op_add_str (pe_slice sl_str (pv 1) po_none (po_some (pv 4))) (pv 5)) (pe_slice sl_str (pv 1) (po_some (pv 4)) po_none)))) pss_nil) (pss_one (ps_ret (pe_op op_add_str (pe_slice sl_str (pv 1) po_none (po_some (pv 4))) (pe_slice sl_str (pv 1) (po_some (pe_op op_add (pv 4) pe_int)) po_none))))))))), ?_⟩
    refine seq_l (asg_l ⟨by show 20 ≤ sizeLine; decide, fun p hp => nx_p ?_⟩)
    have hM : upd H p (.lst (menuS.map V.str)) p = some (.lst (menuS.map V.str)) := upd_same
    have e1 : Ex H (upd H p (.lst (menuS.map V.str))) := Ex.new hp
    obtain ⟨xs0, hb0⟩ := hB.at_
    have npb : p ≠ b := (ne_of_none hb0 hp).symm
    have hB1 := hB.ex e1
    show tSeq _ _ _ _ (upd H p (.lst (menuS.map V.str)))
    generalize upd H p (.lst (menuS.map V.str)) = H1 at hM e1 hB1 ⊢
    refine seq_l ?_
    refine cons_l (take_l (b := b) (n := 3) (m := m) (fun R r => ⟨_, rfl, r⟩) (fun R r => r) (by decide) (by decide) (by omega) hB1 fun d1 H2 hd1 x2 hB2 => ?_)
    refine cons_l (take_l (b := b) (n := z.length + 1) (m := m + 1) (fun R r => ⟨_, rfl, r⟩) (fun R r => ⟨_, rfl, z, rfl, by have := sz1000; omega, _, _, rfl, rfl, r⟩) (by omega) (by omega) (by omega) hB2 fun d2 H3 hd2 x3 hB3 => ?_)
    refine nil_l ⟨_, _, rfl, nx_p (seq_l (asg_l (op_l ⟨_, rfl, ?_⟩)))⟩
    refine take_l (b := b) (n := 20) (m := m + 2) (fun R r => ⟨_, rfl, r⟩) (fun R r => r) (by decide) (by decide) (by omega) hB3 fun d3 H4 hd3 x4 hB4 => ?_
    have x14 : ExB b H1 H4 := x2.trans (x3.trans x4)
    have l3 : d3 < menuS.length := hd3
    refine ⟨p, _, (d3 : Int), .str (menuS[d3]), rfl, rfl, SqL.of (x14 _ _ npb hM), atI_nat (j := d3) (by rw [List.getElem?_map, List.getElem?_eq_getElem l3]; rfl), nx_p ?_⟩
    have hs : (menuS[d3]).length ≤ 1 := menuS_len _ (List.getElem_mem l3)
    generalize menuS[d3] = sg at hs ⊢
    have x04 : ExB b H H4 := (Ex.but e1).trans x14
    have c1 := cutS_len_le z none (some (d2 : Int))
    have c2 := cutS_len_le z (some ((d2 : Int) + 1)) none
    have c3 := cutS_len_le z (some (d2 : Int)) none
    have sz := sizeLine_eq
    have zz : z.length ≤ sizeLine := by omega
    have a2 : ∀ x y : Str, (x ++ y).length = x.length + y.length := fun x y => by
      show (x.cps ++ y.cps).size = _
      rw [Array.size_append]
      rfl
    refine seq_l (ifs_op ⟨_, rfl, rfl, _, rfl, ?_⟩)
    by_cases w0 : (d1 : Int) = 0
    · refine ite1 (by simp [w0]) ?_
      refine ret_l ⟨_, rfl, _, rfl, _, rfl, z, rfl, zz, _, rfl, _, _, rfl, rfl, by omega, _, rfl, _, rfl, _, _, rfl, rfl, _, rfl, z, rfl, zz, _, _, rfl, rfl, (by simp only [a2]; omega), ?_⟩
      exact q _ _ (by simp only [a2]; omega) x04 hB4
    · refine ite0 (by simp; omega) (nx_l ?_)
      refine seq_l (ifs_op ⟨_, rfl, rfl, _, rfl, ?_⟩)
      by_cases w1 : (d1 : Int) = 1
      · refine ite1 (by simp [w1]) ?_
        refine ret_l ⟨_, rfl, _, rfl, _, rfl, z, rfl, zz, _, rfl, _, _, rfl, rfl, by omega, _, rfl, _, rfl, _, rfl, z, rfl, zz, _, _, rfl, rfl, (by simp only [a2]; omega), ?_⟩
        exact q _ _ (by simp only [a2]; omega) x04 hB4
      · refine ite0 (by simp; omega) (nx_l ?_)
        refine ret_l ⟨_, rfl, _, rfl, _, rfl, z, rfl, zz, _, rfl, _, rfl, _, _, rfl, rfl, _, rfl, z, rfl, zz, _, _, rfl, rfl, (by omega), ?_⟩
        exact q _ _ (by simp only [a2]; omega) x04 hB4
end
end D0

namespace D0
open PySem PySem.Spec PyProof.Rows L2 L2H HotX Evl K9
theorem len_app (x y : Str) : (x ++ y).length = x.length + y.length := by
  show (x.cps ++ y.cps).size = _
  rw [Array.size_append]
  rfl
theorem taken_len : ∀ y ∈ Hd.taken, y.length ≤ 8 := by decide
theorem pick {α : Type} (l : List α) (f : α → V) {d n : Nat} (h : d < n) (e : l.length = n) (p : α → Prop) (a : ∀ x ∈ l, p x) : ∃ x, p x ∧ atI (l.map f) (d : Int) = some (f x) := by
  have h2 : d < l.length := by omega
  exact ⟨l[d], a _ (List.getElem_mem h2), atI_nat (j := d) (by rw [List.getElem?_map, List.getElem?_eq_getElem h2]; rfl)⟩
section
variable {P : Program} {w : World} {K : PySem.W.Frag} {mg : Str → Option Value} {base : Heap} {f : Addr} {fd : FuncData} {k : Nat}
def spLikeS : Sp := fun vs H Q _ => ∃ (b : Addr) (m : Nat), vs = [.ref b] ∧ m + 30 ≤ 1000 ∧ BoxAt H b m ∧ ∀ (y : Str) (H' : Hp), y.length ≤ 40 → ExB b H H' → BoxAt H' b (m + 30) → Q (.str y) H'
abbrev Signs (P : Program) (w : World) (K : PySem.W.Frag) (mg : Str → Option Value) (base : Heap) (k : Nat) : Prop := OkC P w K mg base k "_law_signs" ["box", "alphabet", "many"] spSigns
abbrev Spoilt (P : Program) (w : World) (K : PySem.W.Frag) (mg : Str → Option Value) (base : Heap) (k : Nat) : Prop := OkC P w K mg base k "_law_spoilt" ["box", "signs"] spSpoilt
abbrev Small (P : Program) (w : World) (K : PySem.W.Frag) (mg : Str → Option Value) (base : Heap) (k : Nat) : Prop := OkC P w K mg base k "_law_small" [] (spConst zSmall)
abbrev Great (P : Program) (w : World) (K : PySem.W.Frag) (mg : Str → Option Value) (base : Heap) (k : Nat) : Prop := OkC P w K mg base k "_law_great" [] (spConst zGreat)
abbrev Taken (P : Program) (w : World) (K : PySem.W.Frag) (mg : Str → Option Value) (base : Heap) (k : Nat) : Prop := OkC P w K mg base k "_law_taken" [] spTaken
abbrev s_like_word : Stmt := top 29
abbrev N_like_word : List Str := ["box", "way", "spoil", "many", "word", "place", "letter", "head", "tail", "signs"]
theorem sc_like_word : FnScope N_like_word ["box"] (defScope s_like_word) := ⟨rfl, rfl, rfl, by decide +kernel, rfl, by decide +kernel, by decide +kernel⟩
theorem ok_like_word (T : Txt K mg) (k_take : Take P w K mg base k) (k_signs : Signs P w K mg base k) (k_spoilt : Spoilt P w K mg base k) (k_small : Small P w K mg base k) (k_taken : Taken P w K mg base k) (F : FunD K "_law_like_word" "_law_like_word" (defArgs s_like_word) (defBody s_like_word) (defScope s_like_word) [] [] f fd) (hm : mg "_law_like_word" = some (.ref f)) :
    OkC P w K mg base (k + 1) "_law_like_word" ["box"] spLikeS := by
  refine okC_of F hm sc_like_word (fun _ _ _ _ _ _ us hl => match us, hl with | [_], _ => rfl) (fun vs H Q E h => ?_) (fun cdv A outer s H vs Q E hr h => ?_)
  · obtain ⟨b, m, rfl, _⟩ := h
    rfl
  · obtain ⟨b, m, rfl, hm, hB, q⟩ := h
    refine ⟨_, (pss_cons (ps_par3 rfl sc_like_word.nd (i := 1) (j := 2) (l := 3) rfl rfl rfl (by decide) (by decide) (by decide) rfl rfl rfl (pa_cons (pe_callK0 k_take hr (by rfl) (pa_cons (pv 0) (pa_cons pe_int pa_nil))) (pa_cons (pe_callK0 k_take hr (by rfl) (pa_cons (pv 0) (pa_cons pe_int pa_nil))) (pa_cons (pe_ix ix_list (pe_lst (pa_cons pe_int (pa_cons pe_int (pa_cons pe_int (pa_cons pe_int (pa_cons pe_int (pa_cons pe_int (pa_cons pe_int (pa_cons pe_int pa_nil))))))))) (pe_callK0 k_take hr (by rfl) (pa_cons (pv 0) (pa_cons pe_int pa_nil))) fun _ _ => rfl) pa_nil))) rfl) (pss_cons (ps_if (pt_cmpR op_eq (pv 1) pe_int (nomark _)) (pss_one (ps_ret (pe_ix ix_list (pe_callK00 k_taken hr (by rfl)) (pe_callK0 k_take hr (by rfl) (pa_cons (pv 0) (pa_cons pe_int pa_nil))) fun _ _ => rfl))) pss_nil) (pss_cons (ps_if (pt_cmpR op_eq (pv 1) pe_int (nomark _)) (pss_cons (ps_par rfl sc_like_word.nd (i := 4) (j := 5) rfl rfl (by decide) rfl rfl (pa_cons (pe_ix ix_list (pe_callK00 k_taken hr (by rfl)) (pe_callK0 k_take hr (by rfl) (pa_cons (pv 0) (pa_cons pe_int pa_nil))) fun _ _ => rfl) (pa_cons (pe_callK0 k_take hr (by rfl) (pa_cons (pv 0) (pa_cons pe_int pa_nil))) pa_nil)) rfl) (pss_cons (ps_par3 rfl sc_like_word.nd (i := 6) (j := 7) (l := 8) rfl rfl rfl (by decide) (by decide) (by decide) rfl rfl rfl (pa_cons (pe_callK0 k_signs hr (by rfl) (pa_cons (pv 0) (pa_cons (pe_callK00 k_small hr (by rfl)) (pa_cons pe_int pa_nil)))) (pa_cons (pe_slice sl_str (pv 4) po_none (po_some (pv 5))) (pa_cons (pe_slice sl_str (pv 4) (po_some (pv 5)) po_none) pa_nil))) rfl) (pss_one (ps_ret (pe_ix ix_list (pe_lst (pa_cons (pe_op op_add_str (pv 4) (pv 6)) (pa_cons (pe_op op_add_str (pv 6) (pv 4)) (pa_cons (pe_op op_add_str (pv 7) (pe_slice sl_str (pv 8) (po_some pe_int) po_none)) (pa_cons (pe_op op_add_str (pe_op op_add_str (pv 7) (pv 6)) (pv 8)) pa_nil))))) (pe_callK0 k_take hr (by rfl) (pa_cons (pv 0) (pa_cons pe_int pa_nil))) fun _ _ => rfl))))) pss_nil) (pss_cons (ps_set (i := 9) sc_like_word.nd rfl (Or.inl rfl) (pe_callK0 k_signs hr (by rfl) (pa_cons (pv 0) (pa_cons (pe_callK00 k_small hr (by rfl)) (pa_cons (pv 3) pa_nil))))) (pss_one (ps_ret (pe_ifExp (pt_cmpR op_eq (pv 2) pe_int (nomark _)) (pe_callK0 k_spoilt hr (by rfl) (pa_cons (pv 0) (pa_cons (pv 9) pa_nil))) (pv 9)))))))), ?_⟩
    obtain ⟨xs0, hb0⟩ := hB.at_
    refine seq_l ?_
    refine cons_l (take_l (b := b) (n := 4) (m := m) (fun R r => ⟨_, rfl, r⟩) (fun R r => r) (by decide) (by decide) (by omega) hB fun d1 H1 hd1 x1 hB1 => ?_)
    refine cons_l (take_l (b := b) (n := 3) (m := m + 1) (fun R r => ⟨_, rfl, r⟩) (fun R r => r) (by decide) (by decide) (by omega) hB1 fun d2 H2 hd2 x2 hB2 => ?_)
    have x02 := x1.trans x2
    refine cons_l (op_l ⟨by show 8 ≤ sizeLine; decide, fun p hp => ?_⟩)
    obtain ⟨xs2, hb2⟩ := hB2.at_
    have npb : p ≠ b := (ne_of_none hb2 hp).symm
    refine take_l (b := b) (n := 8) (m := m + 2) (fun R r => ⟨_, rfl, r⟩) (fun R r => r) (by decide) (by decide) (by omega) (hB2.new hp) fun d3 H3 hd3 x3 hB3 => ?_
    have x03 : ExB b H H3 := x02.trans ((Ex.but (Ex.new hp)).trans x3)
    obtain ⟨n3, hn3, ht3⟩ := pick [8, 1, 9, 3, 2, 7, 5, 0] (fun n : Nat => V.int (n : Int)) hd3 rfl (· ≤ 9) (by decide)
    refine ⟨p, _, (d3 : Int), _, rfl, rfl, SqL.of (x3 _ _ npb upd_same), ht3, _, _, _, rfl, nx_p ?_⟩
    have sz := sizeLine_eq
    refine seq_l (ifs_op ⟨_, rfl, rfl, _, rfl, ?_⟩)
    by_cases w0 : (d1 : Int) = 0
    · refine ite1 (by simp [w0]) ?_
      refine ret_l (op_l (callB0_l ⟨rfl, fun p4 H4 hp4 e4 h4 => ?_⟩))
      obtain ⟨xs3, hb3⟩ := hB3.at_
      have np4 : p4 ≠ b := (ne_of_none hb3 hp4).symm
      refine take_l (b := b) (n := 11) (m := m + 3) (fun R r => ⟨_, rfl, r⟩) (fun R r => r) (by decide) (by decide) (by omega) (hB3.ex e4) fun d5 H5 hd5 x5 hB5 => ?_
      obtain ⟨y5, hy5, ht5⟩ := pick Hd.taken V.str hd5 rfl (fun y => y.length ≤ 8) taken_len
      exact ⟨p4, _, (d5 : Int), _, rfl, rfl, SqL.of (x5 _ _ np4 h4), ht5, q _ _ (by omega) (x03.trans ((Ex.but e4).trans x5)) (hB5.up (by omega))⟩
    · refine ite0 (by simp; omega) (nx_l ?_)
      refine seq_l (ifs_op ⟨_, rfl, rfl, _, rfl, ?_⟩)
      by_cases w1 : (d1 : Int) = 1
      · refine ite1 (by simp [w1]) ?_
        refine seq_l (cons_l (op_l (callB0_l ⟨rfl, fun p4 H4 hp4 e4 h4 => ?_⟩)))
        obtain ⟨xs3, hb3⟩ := hB3.at_
        have np4 : p4 ≠ b := (ne_of_none hb3 hp4).symm
        refine take_l (b := b) (n := 11) (m := m + 3) (fun R r => ⟨_, rfl, r⟩) (fun R r => r) (by decide) (by decide) (by omega) (hB3.ex e4) fun d5 H5 hd5 x5 hB5 => ?_
        obtain ⟨y5, hy5, ht5⟩ := pick Hd.taken V.str hd5 rfl (fun y => y.length ≤ 8) taken_len
        have x05 := x03.trans ((Ex.but e4).trans x5)
        refine ⟨p4, _, (d5 : Int), _, rfl, rfl, SqL.of (x5 _ _ np4 h4), ht5, ?_⟩
        refine cons_l (take_l (b := b) (n := 4) (m := m + 4) (fun R r => ⟨_, rfl, r⟩) (fun R r => r) (by decide) (by decide) (by omega) hB5 fun d6 H6 hd6 x6 hB6 => ?_)
        refine nil_l ⟨_, _, rfl, nx_p ?_⟩
        refine seq_l (cons_l ⟨_, rfl, rfl, b, zSmall, 1, m + 5, rfl, by decide, by decide, by decide, by omega, hB6, fun y7 H7 l7 x7 hB7 => ?_⟩)
        have c1 := cutS_len_le y5 none (some (d6 : Int))
        have c2 := cutS_len_le y5 (some (d6 : Int)) none
        have z5 : y5.length ≤ sizeLine := by omega
        refine ⟨_, rfl, _, rfl, _, rfl, y5, rfl, z5, _, rfl, _, rfl, _, rfl, y5, rfl, z5, _, _, _, rfl, nx_p ?_⟩
        generalize cutS y5 none (some (d6 : Int)) = s1 at c1 ⊢
        generalize cutS y5 (some (d6 : Int)) none = s2 at c2 ⊢
        have c3 := cutS_len_le s2 (some 1) none
        have a1 := len_app y5 y7
        have a2 := len_app y7 y5
        have a3 := len_app s1 (cutS s2 (some 1) none)
        have a4 := len_app s1 y7
        have a5 := len_app (s1 ++ y7) s2
        refine ret_l (op_l (lst_l ⟨_, rfl, _, rfl, _, _, rfl, rfl, by omega, _, rfl, _, rfl, _, _, rfl, rfl, by omega, _, rfl, _, rfl, _, rfl, s2, rfl, by omega, _, _, rfl, rfl, by omega, _, rfl, _, rfl, _, _, rfl, rfl, by omega, _, rfl, _, _, rfl, rfl, by omega, by show 4 ≤ sizeLine; decide, fun p8 hp8 => ?_⟩))
        obtain ⟨xs7, hb7⟩ := hB7.at_
        have np8 : p8 ≠ b := (ne_of_none hb7 hp8).symm
        refine take_l (b := b) (n := 4) (m := m + 6) (fun R r => ⟨_, rfl, r⟩) (fun R r => r) (by decide) (by decide) (by omega) (hB7.new hp8) fun d9 H9 hd9 x9 hB9 => ?_
        obtain ⟨y9, hy9, ht9⟩ := pick [y5 ++ y7, y7 ++ y5, s1 ++ cutS s2 (some 1) none, s1 ++ y7 ++ s2] V.str hd9 rfl (fun y => y.length ≤ 40) (by
          intro x hx
          simp only [List.mem_cons, List.not_mem_nil, or_false] at hx
          rcases hx with rfl | rfl | rfl | rfl <;> omega)
        exact ⟨p8, _, (d9 : Int), _, rfl, rfl, SqL.of (x9 _ _ np8 upd_same), ht9, q _ _ hy9 (x05.trans (x6.trans (x7.trans ((Ex.but (Ex.new hp8)).trans x9)))) (hB9.up (by omega))⟩
      · refine ite0 (by simp; omega) (nx_l ?_)
        refine seq_l (asg_l ⟨_, rfl, rfl, _, rfl, b, zSmall, n3, m + 3, rfl, by decide, by decide, by omega, by omega, hB3, fun y4 H4 l4 x4 hB4 => nx_p ?_⟩)
        refine ret_l ⟨_, rfl, rfl, _, rfl, ?_⟩
        by_cases w2 : (d2 : Int) = 0
        · refine ite1 (by simp [w2]) ⟨_, rfl, _, rfl, b, y4, m + 3 + n3, rfl, by omega, by omega, hB4, fun y5 H5 l5 x5 hB5 => ?_⟩
          exact q _ _ (by omega) (x03.trans (x4.trans x5)) (hB5.up (by omega))
        · refine ite0 (by simp; omega) ⟨_, rfl, ?_⟩
          exact q _ _ (by omega) (x03.trans x4) (hB4.up (by omega))
end
end D0

namespace D0
open PySem PySem.Spec PyProof.Rows L2 L2H HotX Evl K9
section
variable {P : Program} {w : World} {K : PySem.W.Frag} {mg : Str → Option Value} {base : Heap} {f : Addr} {fd : FuncData} {k : Nat}
abbrev s_like_name : Stmt := top 30
abbrev N_like_name : List Str := ["box", "spoil", "many", "signs"]
theorem sc_like_name : FnScope N_like_name ["box"] (defScope s_like_name) := ⟨rfl, rfl, rfl, by decide +kernel, rfl, by decide +kernel, by decide +kernel⟩
theorem ok_like_name (T : Txt K mg) (k_take : Take P w K mg base k) (k_signs : Signs P w K mg base k) (k_spoilt : Spoilt P w K mg base k) (k_small : Small P w K mg base k) (k_great : Great P w K mg base k) (F : FunD K "_law_like_name" "_law_like_name" (defArgs s_like_name) (defBody s_like_name) (defScope s_like_name) [] [] f fd) (hm : mg "_law_like_name" = some (.ref f)) :
    OkC P w K mg base (k + 1) "_law_like_name" ["box"] spLikeS := by
  refine okC_of F hm sc_like_name (fun _ _ _ _ _ _ us hl => match us, hl with | [_], _ => rfl) (fun vs H Q E h => ?_) (fun cdv A outer s H vs Q E hr h => ?_)
  · obtain ⟨b, m, rfl, _⟩ := h
    rfl
  · obtain ⟨b, m, rfl, hm, hB, q⟩ := h
    refine ⟨_, (pss_cons (ps_par rfl sc_like_name.nd (i := 1) (j := 2) rfl rfl (by decide) rfl rfl (pa_cons (pe_callK0 k_take hr (by rfl) (pa_cons (pv 0) (pa_cons pe_int pa_nil))) (pa_cons (pe_ix ix_list (pe_lst (pa_cons pe_int (pa_cons pe_int (pa_cons pe_int (pa_cons pe_int (pa_cons pe_int (pa_cons pe_int (pa_cons pe_int (pa_cons pe_int pa_nil))))))))) (pe_callK0 k_take hr (by rfl) (pa_cons (pv 0) (pa_cons pe_int pa_nil))) fun _ _ => rfl) pa_nil)) rfl) (pss_cons (ps_set (i := 3) sc_like_name.nd rfl (Or.inl rfl) (pe_op op_add_str (pe_callK0 k_signs hr (by rfl) (pa_cons (pv 0) (pa_cons (pe_callK00 k_great hr (by rfl)) (pa_cons pe_int pa_nil)))) (pe_callK0 k_signs hr (by rfl) (pa_cons (pv 0) (pa_cons (pe_op op_add_str (pe_callK00 k_small hr (by rfl)) (pe_callK00 k_great hr (by rfl))) (pa_cons (pv 2) pa_nil)))))) (pss_one (ps_ret (pe_ifExp (pt_cmpR op_eq (pv 1) pe_int (nomark _)) (pe_callK0 k_spoilt hr (by rfl) (pa_cons (pv 0) (pa_cons (pv 3) pa_nil))) (pv 3)))))), ?_⟩
    obtain ⟨xs0, hb0⟩ := hB.at_
    refine seq_l ?_
    refine cons_l (take_l (b := b) (n := 3) (m := m) (fun R r => ⟨_, rfl, r⟩) (fun R r => r) (by decide) (by decide) (by omega) hB fun d1 H2 hd1 x02 hB2 => ?_)
    refine cons_l (op_l ⟨by show 8 ≤ sizeLine; decide, fun p hp => ?_⟩)
    obtain ⟨xs2, hb2⟩ := hB2.at_
    have npb : p ≠ b := (ne_of_none hb2 hp).symm
    refine take_l (b := b) (n := 8) (m := m + 1) (fun R r => ⟨_, rfl, r⟩) (fun R r => r) (by decide) (by decide) (by omega) (hB2.new hp) fun d3 H3 hd3 x3 hB3 => ?_
    have x03 : ExB b H H3 := x02.trans ((Ex.but (Ex.new hp)).trans x3)
    obtain ⟨n3, hn3, ht3⟩ := pick [7, 0, 8, 1, 6, 3, 2, 9] (fun n : Nat => V.int (n : Int)) hd3 rfl (· ≤ 9) (by decide)
    refine ⟨p, _, (d3 : Int), _, rfl, rfl, SqL.of (x3 _ _ npb upd_same), ht3, _, _, rfl, nx_p ?_⟩
    have sz := sizeLine_eq
    refine seq_l (asg_l (op_l ⟨_, rfl, rfl, b, zGreat, 1, m + 2, rfl, by decide, by decide, by decide, by omega, hB3, fun y4 H4 l4 x4 hB4 => ?_⟩))
    refine ⟨_, rfl, rfl, rfl, _, _, rfl, rfl, (by decide), _, rfl, b, _, n3, m + 3, rfl, by decide, by decide, by omega, by omega, hB4, fun y5 H5 l5 x5 hB5 => ?_⟩
    have a1 := len_app y4 y5
    refine ⟨_, _, rfl, rfl, by omega, nx_p ?_⟩
    have x05 := x03.trans (x4.trans x5)
    refine ret_l ⟨_, rfl, rfl, _, rfl, ?_⟩
    by_cases w2 : (d1 : Int) = 0
    · refine ite1 (by simp [w2]) ⟨_, rfl, _, rfl, b, y4 ++ y5, m + 3 + n3, rfl, by omega, by omega, hB5, fun y6 H6 l6 x6 hB6 => ?_⟩
      exact q _ _ (by omega) (x05.trans x6) (hB6.up (by omega))
    · refine ite0 (by simp; omega) ⟨_, rfl, ?_⟩
      exact q _ _ (by omega) x05 (hB5.up (by omega))
abbrev s_like_variable : Stmt := top 31
abbrev N_like_variable : List Str := ["box", "spoil", "many", "signs"]
theorem sc_like_variable : FnScope N_like_variable ["box"] (defScope s_like_variable) := ⟨rfl, rfl, rfl, by decide +kernel, rfl, by decide +kernel, by decide +kernel⟩
theorem ok_like_variable (T : Txt K mg) (k_take : Take P w K mg base k) (k_signs : Signs P w K mg base k) (k_spoilt : Spoilt P w K mg base k) (k_small : Small P w K mg base k) (F : FunD K "_law_like_variable" "_law_like_variable" (defArgs s_like_variable) (defBody s_like_variable) (defScope s_like_variable) [] [] f fd) (hm : mg "_law_like_variable" = some (.ref f)) :
    OkC P w K mg base (k + 1) "_law_like_variable" ["box"] spLikeS := by
  refine okC_of F hm sc_like_variable (fun _ _ _ _ _ _ us hl => match us, hl with | [_], _ => rfl) (fun vs H Q E h => ?_) (fun cdv A outer s H vs Q E hr h => ?_)
  · obtain ⟨b, m, rfl, _⟩ := h
    rfl
  · obtain ⟨b, m, rfl, hm, hB, q⟩ := h
    refine ⟨_, (pss_cons (ps_par rfl sc_like_variable.nd (i := 1) (j := 2) rfl rfl (by decide) rfl rfl (pa_cons (pe_callK0 k_take hr (by rfl) (pa_cons (pv 0) (pa_cons pe_int pa_nil))) (pa_cons (pe_ix ix_list (pe_lst (pa_cons pe_int (pa_cons pe_int (pa_cons pe_int (pa_cons pe_int (pa_cons pe_int (pa_cons pe_int (pa_cons pe_int (pa_cons pe_int pa_nil))))))))) (pe_callK0 k_take hr (by rfl) (pa_cons (pv 0) (pa_cons pe_int pa_nil))) fun _ _ => rfl) pa_nil)) rfl) (pss_cons (ps_set (i := 3) sc_like_variable.nd rfl (Or.inl rfl) (pe_op op_add_str (pe_callK0 k_signs hr (by rfl) (pa_cons (pv 0) (pa_cons (pe_callK00 k_small hr (by rfl)) (pa_cons pe_int pa_nil)))) (pe_callK0 k_signs hr (by rfl) (pa_cons (pv 0) (pa_cons (pe_op op_add_str (pe_callK00 k_small hr (by rfl)) pe_str) (pa_cons (pv 2) pa_nil)))))) (pss_one (ps_ret (pe_ifExp (pt_cmpR op_eq (pv 1) pe_int (nomark _)) (pe_callK0 k_spoilt hr (by rfl) (pa_cons (pv 0) (pa_cons (pv 3) pa_nil))) (pv 3)))))), ?_⟩
    obtain ⟨xs0, hb0⟩ := hB.at_
    refine seq_l ?_
    refine cons_l (take_l (b := b) (n := 3) (m := m) (fun R r => ⟨_, rfl, r⟩) (fun R r => r) (by decide) (by decide) (by omega) hB fun d1 H2 hd1 x02 hB2 => ?_)
    refine cons_l (op_l ⟨by show 8 ≤ sizeLine; decide, fun p hp => ?_⟩)
    obtain ⟨xs2, hb2⟩ := hB2.at_
    have npb : p ≠ b := (ne_of_none hb2 hp).symm
    refine take_l (b := b) (n := 8) (m := m + 1) (fun R r => ⟨_, rfl, r⟩) (fun R r => r) (by decide) (by decide) (by omega) (hB2.new hp) fun d3 H3 hd3 x3 hB3 => ?_
    have x03 : ExB b H H3 := x02.trans ((Ex.but (Ex.new hp)).trans x3)
    obtain ⟨n3, hn3, ht3⟩ := pick [3, 0, 4, 1, 2, 5, 3, 2] (fun n : Nat => V.int (n : Int)) hd3 rfl (· ≤ 9) (by decide)
    refine ⟨p, _, (d3 : Int), _, rfl, rfl, SqL.of (x3 _ _ npb upd_same), ht3, _, _, rfl, nx_p ?_⟩
    have sz := sizeLine_eq
    refine seq_l (asg_l (op_l ⟨_, rfl, rfl, b, zSmall, 1, m + 2, rfl, by decide, by decide, by decide, by omega, hB3, fun y4 H4 l4 x4 hB4 => ?_⟩))
    refine ⟨_, rfl, rfl, _, _, rfl, rfl, (by decide), _, rfl, b, _, n3, m + 3, rfl, by decide, by decide, by omega, by omega, hB4, fun y5 H5 l5 x5 hB5 => ?_⟩
    have a1 := len_app y4 y5
    refine ⟨_, _, rfl, rfl, by omega, nx_p ?_⟩
    have x05 := x03.trans (x4.trans x5)
    refine ret_l ⟨_, rfl, rfl, _, rfl, ?_⟩
    by_cases w2 : (d1 : Int) = 0
    · refine ite1 (by simp [w2]) ⟨_, rfl, _, rfl, b, y4 ++ y5, m + 3 + n3, rfl, by omega, by omega, hB5, fun y6 H6 l6 x6 hB6 => ?_⟩
      exact q _ _ (by omega) (x05.trans x6) (hB6.up (by omega))
    · refine ite0 (by simp; omega) ⟨_, rfl, ?_⟩
      exact q _ _ (by omega) x05 (hB5.up (by omega))
end
end D0

namespace D0
open PySem PySem.Spec PyProof.Rows L2 L2H HotX Evl K9
section
variable {P : Program} {w : World} {K : PySem.W.Frag} {mg : Str → Option Value} {base : Heap} {f : Addr} {fd : FuncData} {k : Nat}
/-- some value that may be a text -/
inductive Val (K : PySem.W.Frag) (H : Hp) : V → Prop
  | str {z : Str} (h : z.length ≤ 1000) : Val K H (.str z)
  | bas {v : V} {s : String} (h : Bas H v s) (n : s ≠ "str") : Val K H v
  | err {a : Addr} {z : Str} (h : Err [] H a (He.ga K "InvalidNames") (some [("given", .str z)])) : Val K H (.ref a)
theorem Val.ext {H H' : Hp} {v : V} (e : Ex H H') (h : Val K H v) : Val K H' v := by
  cases h with
  | str h => exact .str h
  | bas h n => exact .bas (h.ext e) n
  | err h => exact .err (h.ext e)
theorem Val.may {H : Hp} {v : V} (E0 : Errs K Hd.errs "ChoiceError" Hd.ini Hd.flds) (kS : PySem.W.kitOne K (.ref (He.ga K "InvalidNames")) (.type "str") = some false) (h : Val K H v) : ∃ o, MayStr K H v o := by
  cases h with
  | str h => exact ⟨_, .str _ h⟩
  | bas h n => exact ⟨none, .no (h.noStr n)⟩
  | @err a z h => exact ⟨none, .no fun H' R e' r => .inl ⟨a, _, some [("given", .str z)], _, _, _, rfl, h.ext e', E0.err _ (by decide), .ty _, kS, r⟩⟩
def Vals_ (K : PySem.W.Frag) (H : Hp) (xs : List V) : Prop := ∀ x ∈ xs, Val K H x
theorem Vals_.ext {H H' : Hp} {xs : List V} (e : Ex H H') (h : Vals_ K H xs) : Vals_ K H' xs := fun x hx => (h x hx).ext e
theorem Vals_.app {H : Hp} {xs ys : List V} (h : Vals_ K H xs) (h' : Vals_ K H ys) : Vals_ K H (xs ++ ys) := fun x hx => (List.mem_append.mp hx).elim (h x) (h' x)
theorem Vals_.nil {H : Hp} : Vals_ K H [] := fun x hx => absurd hx (by simp)
theorem Vals_.cons {H : Hp} {x : V} {xs : List V} (h : Val K H x) (h' : Vals_ K H xs) : Vals_ K H (x :: xs) := fun y hy => by
  rcases List.mem_cons.mp hy with rfl | hy
  · exact h
  · exact h' y hy
theorem Vals_.strs {H : Hp} {ys : List Str} (h : ∀ y ∈ ys, y.length ≤ 1000) : Vals_ K H (ys.map V.str) := fun x hx => by
  obtain ⟨y, hy, rfl⟩ := List.mem_map.mp hx
  exact .str (h y hy)
abbrev four (a b c d : Str) : List V := [.str a, .str b, .str c, .str d]
section
variable {σ : L2.St} {t : TA} {n : Nat}
/-- arguments that are such values, whatever lies there -/
def ValL (K : PySem.W.Frag) (σ : L2.St) (t : TA) (n : Nat) : Prop := ∀ (H : Hp) (Q : List V → Hp → Prop), (∀ cs H', Ex H H' → (Vals_ K H' cs ∧ cs.length = n) → Q cs H') → t σ H Q
def ValE (K : PySem.W.Frag) (σ : L2.St) (te : TE) : Prop := ∀ (H : Hp) (Q : VK), (∀ v H', Ex H H' → Val K H' v → Q v H') → te σ H Q
theorem vl_nil : ValL K σ tNil 0 := fun H Q q => q [] H (Ex.refl H) ⟨.nil, rfl⟩
theorem vl_cons {te : TE} (h : ValE K σ te) (ht : ValL K σ t n) : ValL K σ (tCons te t) (n + 1) := fun H Q q =>
  h H _ fun v H1 e1 hv => ht H1 _ fun cs H2 e2 hc => q (v :: cs) H2 (e1.trans e2) ⟨.cons (hv.ext e2) hc.1, by simp [hc.2]⟩
theorem ve_str {z : Str} (h : z.length ≤ 1000) : ValE K σ (tC (.str z)) := fun H Q q => q _ H (Ex.refl H) (.str h)
theorem ve_non : ValE K σ (tC .non) := fun H Q q => q _ H (Ex.refl H) (.bas .non (by decide))
theorem ve_bl {b : Bool} : ValE K σ (tC (.bl b)) := fun H Q q => q _ H (Ex.refl H) (.bas (.bl b) (by decide))
theorem ve_int {i : Int} : ValE K σ (tC (.int i)) := fun H Q q => q _ H (Ex.refl H) (.bas (.int i) (by decide))
theorem ve_neg {i : Int} : ValE K σ (tUn (rU fun i => .int (-i)) (tC (.int i))) := fun H Q q => ⟨i, rfl, q _ H (Ex.refl H) (.bas (.int _) (by decide))⟩
theorem ve_pow {i j : Int} (h : CPow i j) : ValE K σ (tOp (rI CPow fun i j => .int (i ^ j.toNat)) (tC (.int i)) (tC (.int j))) := fun H Q q => ⟨i, j, rfl, rfl, h, q _ H (Ex.refl H) (.bas (.int _) (by decide))⟩
theorem ve_tup (h : ValL K σ t n) (hn : n ≤ 1000) : ValE K σ (tTup t) := fun H Q q => h H _ fun cs H1 e1 hc => ⟨by have := sizeLine_eq; omega, fun p hp => q _ _ (e1.trans (Ex.new hp)) (.bas (.tup upd_same) (by decide))⟩
theorem ve_lst (h : ValL K σ t n) (hn : n ≤ 1000) : ValE K σ (tLst t) := fun H Q q => h H _ fun cs H1 e1 hc => ⟨by have := sizeLine_eq; omega, fun p hp => q _ _ (e1.trans (Ex.new hp)) (.bas (.lst upd_same) (by decide))⟩
theorem ve_dnew : ValE K σ tDNewK := fun H Q q p hp => q _ _ (Ex.new hp) (.bas (.dK upd_same) (by decide))
theorem ve_disp1 {z : Str} {i : Int} : ValE K σ (tDisp [(tC (.str z), tC (.int i))]) := fun H Q q p hp => by
  refine ⟨upd_same, [(.inr z, .int i)], rfl, by show 1 ≤ 15; decide, q _ _ ?_ (.bas (.dK upd_same) (by decide))⟩
  exact ExB.new (ExB.set.trans ExB.set) hp
theorem ve_err {z : Str} : ValE K σ (tNewE (He.ga K "InvalidNames") 1 0 ["given"] (gPV []) (tCons (tC (.str z)) tNil) tNil) := fun H Q q =>
  ⟨rfl, rfl, [.str z], fun _ => rfl, rfl, fun a d H3 ha hd e h1 h2 => q _ H3 e (.err ⟨d, .inl h1, .inl h2⟩)⟩
end
def spValues (K : PySem.W.Frag) : Sp := fun vs H Q _ => ∃ (b : Addr) (m : Nat), vs = [.ref b] ∧ m + 120 ≤ 1000 ∧ BoxAt H b m ∧ ∀ (p : Addr) (xs : List V) (H' : Hp), ExB b H H' → BoxAt H' b (m + 120) → H' p = some (.lst xs) → p ≠ b → xs.length ≤ 100 → Vals_ K H' xs → Q (.ref p) H'
abbrev s_values : Stmt := top 37
abbrev N_values : List Str := ["box", "found"]
theorem sc_values : FnScope N_values ["box"] (defScope s_values) := ⟨rfl, rfl, rfl, by decide +kernel, rfl, by decide +kernel, by decide +kernel⟩
theorem ok_values (T : Txt K mg) (I : Inis P w K mg base) (hk2 : 2 ≤ k) (k_taken : Taken P w K mg base k) (k_like_word : OkC P w K mg base k "_law_like_word" ["box"] spLikeS) (k_like_name : OkC P w K mg base k "_law_like_name" ["box"] spLikeS) (k_like_variable : OkC P w K mg base k "_law_like_variable" ["box"] spLikeS)
    (F : FunD K "_law_values" "_law_values" (defArgs s_values) (defBody s_values) (defScope s_values) [] [] f fd) (hm : mg "_law_values" = some (.ref f)) : OkC P w K mg base (k + 1) "_law_values" ["box"] (spValues K) := by
  refine okC_of F hm sc_values (fun _ _ _ _ _ _ us hl => match us, hl with | [_], _ => rfl) (fun vs H Q E h => ?_) (fun cdv A outer s H vs Q E hr h => ?_)
  · obtain ⟨b, m, rfl, _⟩ := h
    rfl
  · obtain ⟨b, m, rfl, hm, hB, q⟩ := h
    refine ⟨_, (pss_cons (ps_set (i := 1) sc_values.nd rfl (Or.inl rfl) (pe_lst (pa_cons (pe_callK0 k_like_word hr (by rfl) (pa_cons (pv 0) pa_nil)) (pa_cons (pe_callK0 k_like_word hr (by rfl) (pa_cons (pv 0) pa_nil)) (pa_cons (pe_callK0 k_like_name hr (by rfl) (pa_cons (pv 0) pa_nil)) (pa_cons (pe_callK0 k_like_variable hr (by rfl) (pa_cons (pv 0) pa_nil)) pa_nil)))))) (pss_cons (ps_set (i := 1) sc_values.nd rfl (Or.inl rfl) (pe_op op_cat (pe_op op_cat (pv 1) (pe_callK00 k_taken hr (by rfl))) (pe_lst (pa_cons pe_str (pa_cons pe_str (pa_cons pe_str (pa_cons pe_str (pa_cons pe_str (pa_cons pe_str (pa_cons pe_str (pa_cons pe_str (pa_cons pe_str (pa_cons pe_str pa_nil))))))))))))) (pss_cons (ps_set (i := 1) sc_values.nd rfl (Or.inl rfl) (pe_op op_cat (pv 1) (pe_lst (pa_cons pe_str (pa_cons pe_str (pa_cons pe_str (pa_cons pe_str (pa_cons pe_str (pa_cons pe_str (pa_cons pe_str (pa_cons pe_str (pa_cons pe_str (pa_cons pe_str (pa_cons pe_str (pa_cons pe_str pa_nil))))))))))))))) (pss_cons (ps_set (i := 1) sc_values.nd rfl (Or.inl rfl) (pe_op op_cat (pv 1) (pe_lst (pa_cons pe_str (pa_cons pe_str (pa_cons pe_str (pa_cons pe_non (pa_cons pe_bl (pa_cons pe_bl (pa_cons pe_int (pa_cons pe_int (pa_cons (pe_un un_neg pe_int) (pa_cons (pe_op op_pow pe_int pe_int) (pa_cons (pe_tup pa_nil) (pa_cons (pe_tup (pa_cons pe_str pa_nil)) (pa_cons (pe_tup (pa_cons pe_str (pa_cons pe_int pa_nil))) (pa_cons (pe_lst pa_nil) (pa_cons (pe_lst (pa_cons pe_str pa_nil)) (pa_cons pe_dnewK pa_nil))))))))))))))))))) (pss_cons (ps_set (i := 1) sc_values.nd rfl (Or.inl rfl) (pe_op op_cat (pv 1) (pe_lst (pa_cons (pe_disp (pps_cons pe_str pe_int pps_nil) rfl rfl (by simp) (by decide)) (pa_cons pe_str (pa_cons pe_str (pa_cons (pe_iniK (n := 1) (ks := []) (ix := []) I.i_InvalidNames (by decide) ((roomH_of hr).mono hk2) rfl (by rfl) (pa_cons pe_str pa_nil) pk_nil) pa_nil))))))) (pss_one (ps_ret (pe_op op_cat (pv 1) (pe_lst (pa_cons (pe_op op_add_str (pe_ix ix_list (pv 1) pe_int fun _ _ => rfl) (pe_ix ix_list (pv 1) pe_int fun _ _ => rfl)) (pa_cons (pe_op op_add_str (pe_ix ix_list (pv 1) pe_int fun _ _ => rfl) (pe_ix ix_list (pv 1) pe_int fun _ _ => rfl)) (pa_cons (pe_op op_add_str (pe_ix ix_list (pv 1) pe_int fun _ _ => rfl) (pe_ix ix_list (pv 1) pe_int fun _ _ => rfl)) pa_nil)))))))))))), ?_⟩
    have sz := sizeLine_eq
    obtain ⟨xs0, hb0⟩ := hB.at_
    refine seq_l (asg_l (lst_l (cons_l (callB1_l ⟨_, rfl, b, m, rfl, by omega, hB, fun y1 H1 l1 x1 hB1 => ?_⟩))))
    refine cons_l (callB1_l ⟨_, rfl, b, _, rfl, by omega, hB1, fun y2 H2 l2 x2 hB2 => ?_⟩)
    refine cons_l (callB1_l ⟨_, rfl, b, _, rfl, by omega, hB2, fun y3 H3 l3 x3 hB3 => ?_⟩)
    refine cons_l (callB1_l ⟨_, rfl, b, _, rfl, by omega, hB3, fun y4 H4 l4 x4 hB4 => ?_⟩)
    have x04 := x1.trans (x2.trans (x3.trans x4))
    refine nil_l ⟨by show 4 ≤ sizeLine; decide, fun p1 hp1 => nx_p ?_⟩
    obtain ⟨xs4, hb4⟩ := hB4.at_
    have e5 : Ex H4 (upd H4 p1 (.lst (four y1 y2 y3 y4))) := Ex.new hp1
    have h5 : upd H4 p1 (.lst (four y1 y2 y3 y4)) p1 = some (.lst (four y1 y2 y3 y4)) := upd_same
    generalize upd H4 p1 (.lst (four y1 y2 y3 y4)) = H5 at e5 h5 ⊢
    refine seq_l (asg_l (op_l (op_l ⟨_, rfl, callB0_l ⟨rfl, fun p2 H6 hp2 e6 h6 => ⟨p1, p2, _, _, rfl, rfl, e6 _ _ h5, h6, by show 15 ≤ sizeLine; decide, fun p3 hp3 => ?_⟩⟩⟩)))
    have e7 := e6.trans (Ex.new (o := .lst (four y1 y2 y3 y4 ++ Hd.taken.map V.str)) hp3)
    have h7 : upd H6 p3 (.lst (four y1 y2 y3 y4 ++ Hd.taken.map V.str)) p3 = some (.lst (four y1 y2 y3 y4 ++ Hd.taken.map V.str)) := upd_same
    generalize upd H6 p3 (.lst (four y1 y2 y3 y4 ++ Hd.taken.map V.str)) = H7 at e7 h7 ⊢
    refine lst_l ((show ValL K _ _ 10 from (vl_cons (ve_str (by decide)) (vl_cons (ve_str (by decide)) (vl_cons (ve_str (by decide)) (vl_cons (ve_str (by decide)) (vl_cons (ve_str (by decide)) (vl_cons (ve_str (by decide)) (vl_cons (ve_str (by decide)) (vl_cons (ve_str (by decide)) (vl_cons (ve_str (by decide)) (vl_cons (ve_str (by decide)) vl_nil))))))))))) _ _ fun c1 H8 e8 hc1 => ⟨by omega, fun p8 hp8 => ⟨p3, p8, _, _, rfl, rfl, (Ex.new hp8) _ _ (e8 _ _ h7), upd_same, ?_, fun p9 hp9 => ?_⟩⟩)
    · rw [hc1.2]
      show 25 ≤ sizeLine
      decide
    have e9 := (e5.trans e7).trans (e8.trans ((Ex.new (o := .lst c1) hp8).trans (Ex.new (o := .lst ((four y1 y2 y3 y4 ++ Hd.taken.map V.str) ++ c1)) hp9)))
    have v9 := hc1.1.ext ((Ex.new (o := .lst c1) hp8).trans (Ex.new (o := .lst ((four y1 y2 y3 y4 ++ Hd.taken.map V.str) ++ c1)) hp9))
    have h9 : upd (upd H8 p8 (.lst c1)) p9 (.lst ((four y1 y2 y3 y4 ++ Hd.taken.map V.str) ++ c1)) p9 = some (.lst ((four y1 y2 y3 y4 ++ Hd.taken.map V.str) ++ c1)) := upd_same
    generalize upd (upd H8 p8 (.lst c1)) p9 (.lst ((four y1 y2 y3 y4 ++ Hd.taken.map V.str) ++ c1)) = H9 at e9 v9 h9 ⊢
    have k0 : Vals_ K H9 (four y1 y2 y3 y4 ++ Hd.taken.map V.str) := by
      refine Vals_.app (.cons (.str (by omega)) (.cons (.str (by omega)) (.cons (.str (by omega)) (.cons (.str (by omega)) .nil)))) (.strs fun y hy => ?_)
      have := taken_len y hy
      omega
    have k9 := k0.app v9
    have n9 : ((four y1 y2 y3 y4 ++ Hd.taken.map V.str) ++ c1).length = 25 := by
      rw [List.length_append, hc1.2]
      rfl
    refine nx_p (seq_l (asg_l ?_))
    refine grow_step (n := 12) (Pc := fun cs H' => Vals_ K H' cs ∧ cs.length = 12) rfl h9 (fun Q z => (show ValL K _ _ 12 from (vl_cons (ve_str (by decide)) (vl_cons (ve_str (by decide)) (vl_cons (ve_str (by decide)) (vl_cons (ve_str (by decide)) (vl_cons (ve_str (by decide)) (vl_cons (ve_str (by decide)) (vl_cons (ve_str (by decide)) (vl_cons (ve_str (by decide)) (vl_cons (ve_str (by decide)) (vl_cons (ve_str (by decide)) (vl_cons (ve_str (by decide)) (vl_cons (ve_str (by decide)) vl_nil))))))))))))) _ Q z) (fun _ _ z => z.2) (by rw [n9]; omega) (fun p10 c2 H10 H11 e10 hc2 e11 h11 => nx_p ?_)
    have k11 := (k9.ext (e10.trans e11)).app (hc2.1.ext e11)
    have n11 : (((four y1 y2 y3 y4 ++ Hd.taken.map V.str) ++ c1) ++ c2).length = 37 := by rw [List.length_append, n9, hc2.2]
    refine seq_l (asg_l ?_)
    refine grow_step (n := 16) (Pc := fun cs H' => Vals_ K H' cs ∧ cs.length = 16) rfl h11 (fun Q z => (show ValL K _ _ 16 from (vl_cons (ve_str (by decide)) (vl_cons (ve_str (by decide)) (vl_cons (ve_str (by decide)) (vl_cons ve_non (vl_cons ve_bl (vl_cons ve_bl (vl_cons ve_int (vl_cons ve_int (vl_cons ve_neg (vl_cons (ve_pow ⟨by decide, by decide, by decide⟩) (vl_cons (ve_tup vl_nil (by decide)) (vl_cons (ve_tup (vl_cons (ve_str (by decide)) vl_nil) (by decide)) (vl_cons (ve_tup (vl_cons (ve_str (by decide)) (vl_cons ve_int vl_nil)) (by decide)) (vl_cons (ve_lst vl_nil (by decide)) (vl_cons (ve_lst (vl_cons (ve_str (by decide)) vl_nil) (by decide)) (vl_cons ve_dnew vl_nil))))))))))))))))) _ Q z) (fun _ _ z => z.2) (by rw [n11]; omega) (fun p12 c3 H12 H13 e12 hc3 e13 h13 => nx_p ?_)
    have k13 := (k11.ext (e12.trans e13)).app (hc3.1.ext e13)
    have n13 : ((((four y1 y2 y3 y4 ++ Hd.taken.map V.str) ++ c1) ++ c2) ++ c3).length = 53 := by rw [List.length_append, n11, hc3.2]
    refine seq_l (asg_l ?_)
    refine grow_step (n := 4) (Pc := fun cs H' => Vals_ K H' cs ∧ cs.length = 4) rfl h13 (fun Q z => (show ValL K _ _ 4 from (vl_cons ve_disp1 (vl_cons (ve_str (by decide)) (vl_cons (ve_str (by decide)) (vl_cons ve_err vl_nil))))) _ Q z) (fun _ _ z => z.2) (by rw [n13]; omega) (fun p14 c4 H14 H15 e14 hc4 e15 h15 => nx_p ?_)
    have k15 := (k13.ext (e14.trans e15)).app (hc4.1.ext e15)
    have n15 : (((((four y1 y2 y3 y4 ++ Hd.taken.map V.str) ++ c1) ++ c2) ++ c3) ++ c4).length = 57 := by rw [List.length_append, n13, hc4.2]
    have e415 : Ex H4 H15 := e9.trans ((e10.trans e11).trans ((e12.trans e13).trans (e14.trans e15)))
    have g0 : ((((four y1 y2 y3 y4 ++ Hd.taken.map V.str) ++ c1) ++ c2) ++ c3 ++ c4)[0]? = some (.str y1) := rfl
    have g2 : ((((four y1 y2 y3 y4 ++ Hd.taken.map V.str) ++ c1) ++ c2) ++ c3 ++ c4)[2]? = some (.str y3) := rfl
    have g3 : ((((four y1 y2 y3 y4 ++ Hd.taken.map V.str) ++ c1) ++ c2) ++ c3 ++ c4)[3]? = some (.str y4) := rfl
    generalize ((((four y1 y2 y3 y4 ++ Hd.taken.map V.str) ++ c1) ++ c2) ++ c3 ++ c4) = xs at g0 g2 g3 n15 k15 h15
    have a1 := len_app y1 y4
    have a2 := len_app y3 y1
    have a3 := len_app y4 y3
    refine ret_l (op_l ⟨_, rfl, lst_l ?_⟩)
    refine ⟨_, rfl, p14, xs, 0, _, rfl, rfl, SqL.of h15, atI_nat (j := 0) g0, _, rfl, p14, xs, 3, _, rfl, rfl, SqL.of h15, atI_nat (j := 3) g3, y1, y4, rfl, rfl, by omega, _, rfl, p14, xs, 2, _, rfl, rfl, SqL.of h15, atI_nat (j := 2) g2, _, rfl, p14, xs, 0, _, rfl, rfl, SqL.of h15, atI_nat (j := 0) g0, y3, y1, rfl, rfl, by omega, _, rfl, p14, xs, 3, _, rfl, rfl, SqL.of h15, atI_nat (j := 3) g3, _, rfl, p14, xs, 2, _, rfl, rfl, SqL.of h15, atI_nat (j := 2) g2, y4, y3, rfl, rfl, by omega, by show 3 ≤ sizeLine; decide, fun p16 hp16 => ⟨p14, p16, xs, _, rfl, rfl, (Ex.new hp16) _ _ h15, upd_same, by show xs.length + 3 ≤ sizeLine; omega, fun p17 hp17 => ?_⟩⟩
    have e16 : Ex H15 (upd H15 p16 (.lst [.str (y1 ++ y4), .str (y3 ++ y1), .str (y4 ++ y3)])) := Ex.new hp16
    have e17 := e16.trans (Ex.new (o := .lst (xs ++ [.str (y1 ++ y4), .str (y3 ++ y1), .str (y4 ++ y3)])) hp17)
    refine q p17 _ _ (x04.trans (Ex.but (e415.trans e17))) ((hB4.ex (e415.trans e17)).up (by omega)) upd_same (ne_of_none (e16 _ _ (e415 _ _ hb4)) hp17).symm (by simp [n15]) ?_
    exact (k15.ext e17).app (.cons (.str (by omega)) (.cons (.str (by omega)) (.cons (.str (by omega)) .nil)))
end
end D0

namespace D0
open PySem PySem.Spec PyProof.Rows L2 L2H HotX Evl K9
theorem map_erase {α β : Type} (f : α → β) (l : List α) (i : Nat) : (l.map f).eraseIdx i = (l.eraseIdx i).map f := by
  induction l generalizing i with
  | nil => rfl
  | cons a r ih =>
    cases i with
    | zero => rfl
    | succ i => simp [ih]
theorem seqIndex_nat {d n : Nat} (h : d < n) : seqIndex? (d : Int) n = some d := by
  unfold seqIndex?
  simp
  omega
theorem asgG_l {te : TE} {g : TG} {D : Ends} {σ : L2.St} {H : Hp} (h : te σ H fun v H1 => g v σ H1 D.nx) : tAsg te g D σ H := h
theorem join_l {t : TS} {D : Ends} {σ : L2.St} {H : Hp} {α : Type} {S : α → L2.St} {R : α → Hp → Prop} (main : ∀ a H5, R a H5 → D.nx (S a) H5) (h : (∀ a H5, R a H5 → D.nx (S a) H5) → t D σ H) : t D σ H := h main
section
variable {P : Program} {w : World} {K : PySem.W.Frag} {mg : Str → Option Value} {base : Heap} {f : Addr} {fd : FuncData} {k : Nat}
def spUnlike : Sp := fun vs H Q _ => ∃ (b : Addr) (m n : Nat), vs = [.ref b, .int (n : Int)] ∧ n ≤ 26 ∧ m + 100 ≤ 1000 ∧ BoxAt H b m ∧ ∀ (p : Addr) (ys : List Str) (H' : Hp), ExB b H H' → BoxAt H' b (m + 100) → H p = none → H' p = some (.lst (ys.map V.str)) → p ≠ b → ys.length = n + 1 → (∀ y ∈ ys, y.length ≤ 20) → Q (.ref p) H'
abbrev s_unlike : Stmt := top 38
abbrev N_unlike : List Str := ["box", "many", "stem", "place", "first", "letters", "names", "k"]
theorem sc_unlike : FnScope N_unlike ["box", "many"] (defScope s_unlike) := ⟨rfl, rfl, rfl, by decide +kernel, rfl, by decide +kernel, by decide +kernel⟩
theorem ok_unlike (T : Txt K mg) (k_take : Take P w K mg base k) (k_signs : Signs P w K mg base k) (k_small : Small P w K mg base k) (k_great : Great P w K mg base k) (F : FunD K "_law_unlike" "_law_unlike" (defArgs s_unlike) (defBody s_unlike) (defScope s_unlike) [] [] f fd) (hm : mg "_law_unlike" = some (.ref f)) : OkC P w K mg base (k + 1) "_law_unlike" ["box", "many"] spUnlike := by
  refine okC_of F hm sc_unlike (fun _ _ _ _ _ _ us hl => match us, hl with | [_, _], _ => rfl) (fun vs H Q E h => ?_) (fun cdv A outer s H vs Q E hr h => ?_)
  · obtain ⟨b, m, n, rfl, _⟩ := h
    rfl
  · obtain ⟨b, m, n, rfl, hn, hm, hB, q⟩ := h
    refine ⟨_, PSs.nox (pss_cons (ps_set (i := 2) sc_unlike.nd rfl (Or.inr rfl) (pe_op op_add_str (pe_callK0 k_signs hr (by rfl) (pa_cons (pv 0) (pa_cons (pe_callK00 k_great hr (by rfl)) (pa_cons pe_int pa_nil)))) (pe_callK0 k_signs hr (by rfl) (pa_cons (pv 0) (pa_cons (pe_op op_add_str (pe_callK00 k_small hr (by rfl)) (pe_callK00 k_great hr (by rfl))) (pa_cons (pe_callK0 k_take hr (by rfl) (pa_cons (pv 0) (pa_cons pe_int pa_nil))) pa_nil)))))) (pss_cons (ps_asg (pe_tup (pa_cons (pe_callK0 k_take hr (by rfl) (pa_cons (pv 0) (pa_cons (pe_op op_add (pe_callB call_len_str (by rfl) T.f_len (by decide +kernel) (pa_cons (pv 2) pa_nil)) pe_int) pa_nil))) (pa_cons (pe_callK0 k_take hr (by rfl) (pa_cons (pv 0) (pa_cons pe_int pa_nil))) pa_nil))) (pg_tupC (.inl ⟨rfl, rfl⟩) (pgs_cons (pg_name (i := 3) sc_unlike.nd rfl (Or.inr rfl)) (pgs_cons (pg_name (i := 4) sc_unlike.nd rfl (Or.inr rfl)) pgs_nil)))) (pss_cons (ps_set (i := 5) sc_unlike.nd rfl (Or.inr rfl) (pe_op op_add_str (pe_callK00 k_small hr (by rfl)) (pe_callK00 k_great hr (by rfl)))) (pss_cons (ps_if (pt_cmpR op_eq (pv 3) pe_int (nomark _)) (pss_one (ps_asg (pe_tup (pa_cons (pe_op op_add_str (pe_callK00 k_great hr (by rfl)) (pe_callK00 k_great hr (by rfl))) (pa_cons (pe_op op_fdiv (pv 4) pe_int) pa_nil))) (pg_tupC (.inl ⟨rfl, rfl⟩) (pgs_cons (pg_name (i := 5) sc_unlike.nd rfl (Or.inr rfl)) (pgs_cons (pg_name (i := 4) sc_unlike.nd rfl (Or.inr rfl)) pgs_nil))))) pss_nil) (pss_cons (ps_set (i := 6) sc_unlike.nd rfl (Or.inl rfl) (pe_op op_cat (pe_lst (pa_cons (pv 2) pa_nil)) (pe_lc (own := [("k", 7)]) (g := gName 7) rfl sc_unlike.nd (pi_range1 (by rfl) T.f_range (pa_cons pe_int pa_nil)) (blkOk_by (N := N_unlike) (sc := defScope s_unlike) (by decide +kernel)) (fun _ _ _ _ _ => pg_name (i := 7) sc_unlike.nd rfl (Or.inl rfl)) (fun _ _ _ _ _ => pts_nil) (fun _ _ _ _ _ => (pe_op op_add_str (pe_op op_add_str (pe_slice sl_str (pv 2) po_none (po_some (pv 3))) (pe_ix ix_str (pv 5) (pe_op op_mod (pe_op op_add (pv 4) (pv 7)) pe_int) fun _ _ => rfl)) (pe_slice sl_str (pv 2) (po_some (pv 3)) po_none)))))) (pss_cons (ps_while PassesOwn.never (pw_and (pt_cmpR (op_ne0 (huC (roomH_of hr))) (pv 6) (pe_lst pa_nil) (nomark _)) (pw_and1 (pt_cmpR op_lt (pv 1) (pe_op op_sub (pe_callB call_len_seq (by rfl) T.f_len (by decide +kernel) (pa_cons (pv 6) pa_nil)) pe_int) (nomark _)))).pt (pss_one (ps_expr (pe_bm PySem.F.plainAttrs_list PySem.F.slot_list_pop PySem.F.type_list_pop mt_popAt (pv 6) (pa_cons (pe_callK0 k_take hr (by rfl) (pa_cons (pv 0) (pa_cons (pe_callB call_len_seq (by rfl) T.f_len (by decide +kernel) (pa_cons (pv 6) pa_nil)) pa_nil))) pa_nil))))) (pss_one (ps_ret (pv 6))))))))), ?_⟩
    have sz := sizeLine_eq
    obtain ⟨xs0, hb0⟩ := hB.at_
    refine seq_l (asg_l (op_l ⟨_, rfl, rfl, b, zGreat, 1, m, rfl, by decide, by decide, by decide, by omega, hB, fun y1 H1 l1 x1 hB1 => ?_⟩))
    refine ⟨_, rfl, rfl, rfl, _, _, rfl, rfl, by decide, take_l (b := b) (n := 7) (m := m + 1) (fun R r => ⟨_, rfl, r⟩) (fun R r => r) (by decide) (by decide) (by omega) hB1 fun d2 H2 hd2 x2 hB2 => ⟨b, _, d2, m + 2, rfl, by decide, by decide, by omega, by omega, hB2, fun y3 H3 l3 x3 hB3 => ?_⟩⟩
    have a1 := len_app y1 y3
    refine ⟨_, _, rfl, rfl, by omega, nx_p ?_⟩
    have x03 := x1.trans (x2.trans x3)
    have ls : (y1 ++ y3).length ≤ 7 := by omega
    generalize y1 ++ y3 = stem at ls ⊢
    refine seq_l (asgG_l (tup_l (cons_l (take_l (b := b) (n := stem.length + 1) (m := m + 2 + d2) (fun R r => ⟨_, rfl, r⟩) (fun R r => ⟨_, rfl, stem, rfl, by omega, _, _, rfl, rfl, r⟩) (by omega) (by omega) (by omega) hB3 fun d4 H4 hd4 x4 hB4 => ?_))))
    refine cons_l (take_l (b := b) (n := 52) (m := m + 2 + d2 + 1) (fun R r => ⟨_, rfl, r⟩) (fun R r => r) (by decide) (by decide) (by omega) hB4 fun d5 H5 hd5 x5 hB5 => ?_)
    have x05 := x03.trans (x4.trans x5)
    refine nil_l ⟨by show 2 ≤ sizeLine; decide, fun p5 hp5 => ⟨p5, _, rfl, SqT.of upd_same, rfl, _, _, rfl, _, _, rfl, rfl, nx_p ?_⟩⟩
    have e6 : Ex H5 (upd H5 p5 (.tup [.int (d4 : Int), .int (d5 : Int)])) := Ex.new hp5
    generalize upd H5 p5 (.tup [.int (d4 : Int), .int (d5 : Int)]) = H6 at e6 ⊢
    refine seq_l (asg_l (op_l ⟨rfl, rfl, _, _, rfl, rfl, by decide, nx_p ?_⟩))
    refine seq_l ?_
    refine join_l (α := Str × Nat) (S := fun a => [some (.ref b), some (.int (n : Int)), some (.str stem), some (.int (d4 : Int)), some (.int (a.2 : Int)), some (.str a.1), none, none]) (R := fun a H7 => a.1.length = 52 ∧ Ex H6 H7) (fun a H7 ha => ?_) (fun main => ?_)
    · obtain ⟨z, fr⟩ := a
      obtain ⟨hz, e7⟩ := ha
      have hz : z.length = 52 := hz
      have x07 : ExB b H H7 := x05.trans (Ex.but (e6.trans e7))
      have hB7 : BoxAt H7 b (m + 10) := (hB5.ex (e6.trans e7)).up (by omega)
      refine nx_p (seq_l (asg_l (op_l (lst_l ⟨_, rfl, by show 1 ≤ sizeLine; decide, fun p8 hp8 => ?_⟩))))
      have zz : stem.length ≤ sizeLine := by omega
      have c1 := cutS_len_le stem none (some (d4 : Int))
      have c2 := cutS_len_le stem (some (d4 : Int)) none
      refine lc_by (J := Itr 0 26) (n := 26) (item := fun i => .int (i : Int)) (fun D j acc H1 => ∃ ys : List Str, acc = ys.map V.str ∧ ys.length = j ∧ ∀ y ∈ ys, y.length ≤ 20) (by omega) (by show 7 < 8; decide) (fun R h => ⟨26, rfl, by decide, by decide, h⟩) walks_rng0 (fun _ _ _ _ _ _ h => h) (fun _ _ => ⟨[], rfl, rfl, by simp⟩) (fun D j acc H1 C Cf hj hD e ha hp kf kt => ?_) (fun D acc H9 hD e9 ha hp => ?_)
      · obtain ⟨ys, rfl, ly, hy⟩ := hp
        unfold tYes
        dsimp only
        rw [if_pos rfl]
        have hi : ((fr : Int) + (j : Int)) % 52 = (((fr + j) % 52 : Nat) : Int) := by omega
        have hl : (fr + j) % 52 < z.cps.size := by
          have : z.cps.size = 52 := hz
          omega
        have a2 := len_app (cutS stem none (some (d4 : Int))) ⟨#[z.cps.getD ((fr + j) % 52) 0]⟩
        have a3 := len_app (cutS stem none (some (d4 : Int)) ++ ⟨#[z.cps.getD ((fr + j) % 52) 0]⟩) (cutS stem (some (d4 : Int)) none)
        have l1 : (⟨#[z.cps.getD ((fr + j) % 52) 0]⟩ : Str).length = 1 := rfl
        refine ⟨_, rfl, _, rfl, _, rfl, stem, rfl, zz, _, rfl, _, rfl, _, rfl, _, _, rfl, rfl, _, _, rfl, rfl, (by show (0 : Int) < 52; decide), z, _, z.cps.getD ((fr + j) % 52) 0, rfl, rfl, by omega, ?_, _, _, rfl, rfl, by omega, _, rfl, _, rfl, _, rfl, stem, rfl, zz, _, _, rfl, rfl, by omega, ?_⟩
        · rw [hi]
          exact atI_nat (by rw [Array.getElem?_toList]; simp [Array.getD_eq_getD_getElem?, Array.getElem?_eq_getElem hl])
        · refine kt _ _ (Ex.refl _) ⟨ys ++ [cutS stem none (some (d4 : Int)) ++ ⟨#[z.cps.getD ((fr + j) % 52) 0]⟩ ++ cutS stem (some (d4 : Int)) none], by rw [List.map_append]; rfl, by simp [ly], fun y h => ?_⟩
          rcases List.mem_append.mp h with h | h
          · exact hy y h
          · rw [List.mem_singleton.mp h]
            omega
      · obtain ⟨ys, rfl, ly, hy⟩ := hp
        refine ⟨p8, D, _, _, rfl, rfl, e9 _ _ upd_same, ha, by simp [ly]; omega, fun p9 hp9 => nx_p ?_⟩
        have e10 : Ex H7 (upd H9 p9 (.lst ([.str stem] ++ ys.map V.str))) := (Ex.new hp8).trans (e9.trans (Ex.new hp9))
        have h10 : upd H9 p9 (.lst ([.str stem] ++ ys.map V.str)) p9 = some (.lst ((stem :: ys).map V.str)) := upd_same
        have n9 : H p9 = none := by
          cases hh : H p9 with
          | none => rfl
          | some o =>
            by_cases hb9 : p9 = b
            · obtain ⟨xs7, hb7⟩ := hB7.at_
              exact absurd hp9 (by rw [hb9, ((Ex.new hp8).trans e9) _ _ hb7]; simp)
            · exact absurd hp9 (by rw [((Ex.new hp8).trans e9) _ _ (x07 _ _ hb9 hh)]; simp)
        have nb9 : p9 ≠ b := (ne_of_none hb0 n9).symm
        show tSeq _ _ _ _ (upd H9 p9 (.lst ([.str stem] ++ ys.map V.str)))
        have hy2 : ∀ y ∈ stem :: ys, y.length ≤ 20 := fun y h => by
          rcases List.mem_cons.mp h with rfl | h
          · omega
          · exact hy y h
        have ly2 : (stem :: ys).length = 27 := by simp [ly]
        generalize stem :: ys = ws at hy2 ly2 h10
        generalize upd H9 p9 (.lst ([.str stem] ++ ys.map V.str)) = H10 at e10 h10 ⊢
        have x010 : ExB b H H10 := x07.trans (Ex.but e10)
        have hB10 := hB7.ex e10
        refine seq_l ⟨fun c σ1 H1 => ∃ vs : List Str, σ1 = [some (.ref b), some (.int (n : Int)), some (.str stem), some (.int (d4 : Int)), some (.int (fr : Int)), some (.str z), some (.ref p9), none] ∧ c = vs.length ∧ n + 1 ≤ vs.length ∧ vs.length ≤ 27 ∧ H1 p9 = some (.lst (vs.map V.str)) ∧ BoxAt H1 b (m + 10 + (27 - vs.length)) ∧ ExB b H H1 ∧ ∀ y ∈ vs, y.length ≤ 20,
          ⟨_, ws, rfl, rfl, by omega, by omega, h10, hB10.up (by omega), x010, hy2⟩, ?_⟩
        rintro c σ1 H1 ⟨vs, rfl, rfl, v1, v2, hv, hB1, x1, v3⟩
        have hne : (!(vs.map V.str).isEmpty) = true := by
          cases vs with
          | nil => simp at v1
          | cons a r => rfl
        refine ⟨_, rfl, Nat.zero_le _, fun p11 hp11 => ⟨p9, p11, _, rfl, rfl, SqL.of ((Ex.new hp11) _ _ hv), SqL.of upd_same, _, rfl, ite1 hne ?_⟩⟩
        have e12 : Ex H1 (upd H1 p11 (.lst [])) := Ex.new hp11
        generalize upd H1 p11 (.lst []) = H12 at e12 ⊢
        refine ⟨_, rfl, _, rfl, p9, vs.map V.str, rfl, .inl (SqL.of (e12 _ _ hv)), _, _, rfl, rfl, _, _, rfl, rfl, _, rfl, ?_⟩
        by_cases hlt : (n : Int) < ((vs.map V.str).length : Int) - 1
        · refine ite1 (decide_eq_true hlt) ⟨_, fun σ' H' h => h, ?_⟩
          have lm : (vs.map V.str).length = vs.length := List.length_map ..
          have h12 := e12 _ _ hv
          refine ⟨_, rfl, .inl ⟨rfl, _, SqL.of h12⟩, ?_⟩
          refine cons_l (take_l (b := b) (n := (vs.map V.str).length) (m := m + 10 + (27 - vs.length)) (fun R r => ⟨_, rfl, r⟩) (fun R r => ⟨_, rfl, p9, _, rfl, .inl (SqL.of h12), r⟩) (by omega) (by omega) (by omega) (hB1.ex e12) fun d H13 hd x13 hB13 => ?_)
          have hd2 : d < vs.length := by omega
          refine nil_l ⟨p9, _, (d : Int), d, .str vs[d], rfl, rfl, x13 _ _ nb9 h12, by omega, by omega, seqIndex_nat hd, by rw [List.getElem?_map, List.getElem?_eq_getElem hd2]; rfl, ?_⟩
          have le := List.length_eraseIdx_of_lt hd2
          refine ⟨vs.length - 1, by omega, vs.eraseIdx d, rfl, by omega, by omega, by omega, ?_, ?_, fun a o na ha => ?_, fun y hy => v3 y (List.mem_of_mem_eraseIdx hy)⟩
          · rw [map_erase]
            exact upd_same
          · exact (hB13.ne nb9.symm).up (by omega)
          · rw [upd_ne (ne_of_none ha n9)]
            exact x13 _ _ na (e12 _ _ (x1 _ _ na ha))
        · refine ite0 (by simpa using hlt) (nx_p ?_)
          refine ret_l ⟨_, rfl, ?_⟩
          have lm : (vs.map V.str).length = vs.length := List.length_map ..
          exact q p9 vs _ (x1.trans (Ex.but e12)) ((hB1.ex e12).up (by omega)) n9 (e12 _ _ hv) nb9 (by omega) v3
    · refine ifs_op ⟨_, rfl, rfl, _, rfl, ?_⟩
      by_cases w0 : (d4 : Int) = 0
      · refine ite1 (by simp [w0]) ?_
        refine asgG_l (tup_l (cons_l (op_l ⟨rfl, rfl, _, _, rfl, rfl, by decide, ?_⟩)))
        refine cons_l (op_l ⟨_, rfl, (d5 : Int), 2, rfl, rfl, ⟨by omega, by omega⟩, ?_⟩)
        refine nil_l ⟨by show 2 ≤ sizeLine; decide, fun p7 hp7 => ⟨p7, _, rfl, SqT.of upd_same, rfl, _, _, rfl, _, _, rfl, rfl, ?_⟩⟩
        exact main (zGreat ++ zGreat, d5 / 2) _ ⟨by show (zGreat ++ zGreat).length = 52; decide, Ex.new hp7⟩
      · refine ite0 (by simp; omega) ?_
        exact main (zSmall ++ zGreat, d5) _ ⟨by show (zSmall ++ zGreat).length = 52; decide, Ex.refl _⟩
end
end D0

namespace D0
open PySem PySem.Spec PyProof.Rows L2 L2H HotX Evl K9
theorem BoxAt.at4 {H : Hp} {b : Addr} {n : Nat} (h : BoxAt H b n) : ∃ xs, H b = some (.lst xs) ∧ xs.length = 4 := by
  obtain ⟨g, x, c, y, h1, r⟩ := h
  exact ⟨_, h1, rfl⟩
/-! ### items of lists of names -/
theorem Bas.exb {H H' : Hp} {b : Addr} {v : V} {s : String} {xs ys : List V} (e : ExB b H H') (h1 : H b = some (.lst xs)) (h2 : H' b = some (.lst ys)) (h : Bas H v s) : Bas H' v s := by
  cases h with
  | non => exact .non
  | bl b => exact .bl b
  | int i => exact .int i
  | str z => exact .str z
  | @lst a _ h =>
    by_cases n : a = b
    · subst n
      exact .lst h2
    · exact .lst (e _ _ n h)
  | @tup a _ h => exact .tup (e _ _ (fun z => by rw [z, h1] at h; cases h) h)
  | @dK a _ h => exact .dK (e _ _ (fun z => by rw [z, h1] at h; cases h) h)
-- what stands at the places F
def Has (F : Addr → Prop) (H : Hp) : Prop := ∀ a, F a → ∃ o, H a = some o
theorem Has.ext {F : Addr → Prop} {H H' : Hp} (e : Ex H H') (h : Has F H) : Has F H' := fun a ha => (h a ha).elim fun o ho => ⟨o, e _ _ ho⟩
theorem Has.exb {F : Addr → Prop} {b : Addr} {H H' : Hp} {us : List V} (e : ExB b H H') (h2 : H' b = some (.lst us)) (h : Has F H) : Has F H' := fun a ha => by
  by_cases n : a = b
  · rw [n]
    exact ⟨_, h2⟩
  · exact (h a ha).elim fun o ho => ⟨o, e _ _ n ho⟩
theorem Has.new {F : Addr → Prop} {H : Hp} {p : Addr} (h : Has F H) (hp : H p = none) : ¬ F p := fun hF => by
  obtain ⟨o, ho⟩ := h _ hF
  rw [ho] at hp
  cases hp
-- values that are made of few parts, no list of them at F
mutual
inductive Sv (F : Addr → Prop) (H : Hp) : V → Nat → Prop
  | non : Sv F H .non 1
  | bl (c : Bool) : Sv F H (.bl c) 1
  | int (i : Int) : Sv F H (.int i) 1
  | str (z : Str) : Sv F H (.str z) 1
  | lst {a : Addr} {vs : List V} {n : Nat} : H a = some (.lst vs) → ¬ F a → SvL F H vs n → Sv F H (.ref a) (n + 1)
  | tup {a : Addr} {vs : List V} {n : Nat} : H a = some (.tup vs) → SvL F H vs n → Sv F H (.ref a) (n + 1)
  | dic {a : Addr} {ks : List (Key × V)} {n : Nat} : H a = some (.dK ks) → (ks.map (·.1)).Nodup → SvL F H (ks.map (·.2)) n → Sv F H (.ref a) (n + 1)
inductive SvL (F : Addr → Prop) (H : Hp) : List V → Nat → Prop
  | nil : SvL F H [] 0
  | cons {v : V} {vs : List V} {n m : Nat} : Sv F H v n → SvL F H vs m → SvL F H (v :: vs) (n + m)
end
mutual
theorem Sv.exb {F : Addr → Prop} {b : Addr} {H H' : Hp} {us : List V} (hF : F b) (e : ExB b H H') (h0 : H b = some (.lst us)) {v : V} {n : Nat} (h : Sv F H v n) : Sv F H' v n :=
  match h with
  | .non => .non
  | .bl c => .bl c
  | .int i => .int i
  | .str z => .str z
  | .lst h1 nb h3 => .lst (e _ _ (fun z => nb (by rw [z]; exact hF)) h1) nb (h3.exb hF e h0)
  | .tup h1 h3 => .tup (e _ _ (fun z => by rw [z, h0] at h1; cases h1) h1) (h3.exb hF e h0)
  | .dic h1 h2 h3 => .dic (e _ _ (fun z => by rw [z, h0] at h1; cases h1) h1) h2 (h3.exb hF e h0)
theorem SvL.exb {F : Addr → Prop} {b : Addr} {H H' : Hp} {us : List V} (hF : F b) (e : ExB b H H') (h0 : H b = some (.lst us)) {vs : List V} {n : Nat} (h : SvL F H vs n) : SvL F H' vs n :=
  match h with
  | .nil => .nil
  | .cons h1 h2 => .cons (h1.exb hF e h0) (h2.exb hF e h0)
end
mutual
theorem Sv.ext {F : Addr → Prop} {H H' : Hp} (e : Ex H H') {v : V} {n : Nat} (h : Sv F H v n) : Sv F H' v n :=
  match h with
  | .non => .non
  | .bl c => .bl c
  | .int i => .int i
  | .str z => .str z
  | .lst h1 nb h3 => .lst (e _ _ h1) nb (h3.ext e)
  | .tup h1 h3 => .tup (e _ _ h1) (h3.ext e)
  | .dic h1 h2 h3 => .dic (e _ _ h1) h2 (h3.ext e)
theorem SvL.ext {F : Addr → Prop} {H H' : Hp} (e : Ex H H') {vs : List V} {n : Nat} (h : SvL F H vs n) : SvL F H' vs n :=
  match h with
  | .nil => .nil
  | .cons h1 h2 => .cons (h1.ext e) (h2.ext e)
end
mutual
theorem Sv.lk {F : Addr → Prop} {H : Hp} {v : V} {n : Nat} (h : Sv F H v n) : Lk H v v n :=
  match h with
  | .non => .non
  | .bl c => .bl c
  | .int i => .int i
  | .str z => .str z
  | .lst h1 _ h3 => .lst h1 h1 h3.lk
  | .tup h1 h3 => .tup h1 h1 h3.lk
  | .dic h1 h2 h3 => .dic h1 h1 rfl h2 h3.lk
theorem SvL.lk {F : Addr → Prop} {H : Hp} {vs : List V} {n : Nat} (h : SvL F H vs n) : LkL H vs vs n :=
  match h with
  | .nil => .nil
  | .cons h1 h2 => .cons h1.lk h2.lk
end
theorem sv_mi {F : Addr → Prop} {H : Hp} {v : V} {p : Option Int} (h : MayInt v p) : Sv F H v 1 := by
  cases h with
  | int i => exact .int i
  | bl c => exact .bl c
  | non => exact .non
  | str z => exact .str z
/-- an item of such a list -/
inductive IB0 (H : Hp) : V → Prop
  | other {v : V} {s : String} (h : Bas H v s) (n : s ≠ "tuple") : IB0 H v
  | len {t : Addr} {xs : List V} (h : H t = some (.tup xs)) (n : xs.length ≠ 2) (m : xs.length ≤ 1000) : IB0 H (.ref t)
  | two {t : Addr} {a b : V} {s : String} {p : Option Int} (h : H t = some (.tup [a, b])) (ha : Bas H a s) (hz : ∀ z, a = .str z → z.length ≤ 1000) (hb : MayInt b p) : IB0 H (.ref t)
theorem IB0.ext {H H' : Hp} {v : V} (e : Ex H H') (h : IB0 H v) : IB0 H' v := by
  cases h with
  | other h n => exact .other (h.ext e) n
  | len h n m => exact .len (e _ _ h) n m
  | two h ha hz hb => exact .two (e _ _ h) (ha.ext e) hz hb
theorem IB0.exb {H H' : Hp} {b : Addr} {v : V} {xs ys : List V} (e : ExB b H H') (h1 : H b = some (.lst xs)) (h2 : H' b = some (.lst ys)) (h : IB0 H v) : IB0 H' v := by
  cases h with
  | other h n => exact .other (D0.Bas.exb e h1 h2 h) n
  | len h n m => exact .len (e _ _ (fun z => by rw [z, h1] at h; cases h) h) n m
  | two h ha hz hb => exact .two (e _ _ (fun z => by rw [z, h1] at h; cases h) h) (D0.Bas.exb e h1 h2 ha) hz hb
theorem IB0.row {K : PySem.W.Frag} {H : Hp} {v : V} (h : IB0 H v) : ∃ r, RowQ nameB K H v r := by
  cases h with
  | other h n => exact ⟨_, .other h n⟩
  | len h n m => exact ⟨_, .len h n m⟩
  | two h ha hz hb =>
    obtain ⟨o, ho⟩ := May_of ha hz
    exact row_of h ho hb
def IB (F : Addr → Prop) (H : Hp) (v : V) : Prop := IB0 H v ∧ ∃ n, Sv F H v n ∧ n ≤ 20
theorem IB.ext {F : Addr → Prop} {H H' : Hp} {v : V} (e : Ex H H') (h : IB F H v) : IB F H' v := by
  obtain ⟨h, n, h2, h3⟩ := h
  exact ⟨h.ext e, n, h2.ext e, h3⟩
theorem IB.exb {F : Addr → Prop} {H H' : Hp} {b : Addr} {v : V} {xs ys : List V} (hF : F b) (e : ExB b H H') (h1 : H b = some (.lst xs)) (h2 : H' b = some (.lst ys)) (h : IB F H v) : IB F H' v := by
  obtain ⟨h, n, h4, h3⟩ := h
  exact ⟨h.exb e h1 h2, n, h4.exb hF e h1, h3⟩
theorem IB.row {K : PySem.W.Frag} {F : Addr → Prop} {H : Hp} {v : V} (h : IB F H v) : ∃ r, RowQ nameB K H v r := h.1.row
def IBs (F : Addr → Prop) (H : Hp) (xs : List V) : Prop := ∀ x ∈ xs, IB F H x
theorem IBs.ext {F : Addr → Prop} {H H' : Hp} {xs : List V} (e : Ex H H') (h : IBs F H xs) : IBs F H' xs := fun x hx => (h x hx).ext e
theorem IBs.exb {F : Addr → Prop} {H H' : Hp} {b : Addr} {xs us ys : List V} (hF : F b) (e : ExB b H H') (h1 : H b = some (.lst us)) (h2 : H' b = some (.lst ys)) (h : IBs F H xs) : IBs F H' xs := fun x hx => (h x hx).exb hF e h1 h2
theorem IBs.app {F : Addr → Prop} {H : Hp} {xs ys : List V} (h : IBs F H xs) (h' : IBs F H ys) : IBs F H (xs ++ ys) := fun x hx => (List.mem_append.mp hx).elim (h x) (h' x)
theorem IBs.nil {F : Addr → Prop} {H : Hp} : IBs F H [] := fun x hx => absurd hx (by simp)
theorem IBs.cons {F : Addr → Prop} {H : Hp} {x : V} {xs : List V} (h : IB F H x) (h' : IBs F H xs) : IBs F H (x :: xs) := fun y hy => by
  rcases List.mem_cons.mp hy with rfl | hy
  · exact h
  · exact h' y hy
theorem IBs.sv {F : Addr → Prop} {H : Hp} {xs : List V} (h : IBs F H xs) : ∃ n, SvL F H xs n ∧ n ≤ 20 * xs.length := by
  induction xs with
  | nil => exact ⟨0, .nil, Nat.le_refl _⟩
  | cons x xs ih =>
    obtain ⟨_, n, h1, h2⟩ := h x (List.mem_cons_self ..)
    obtain ⟨m, h3, h4⟩ := ih fun y hy => h y (List.mem_cons_of_mem _ hy)
    exact ⟨n + m, .cons h1 h3, by rw [List.length_cons]; omega⟩
section
variable {σ : L2.St} {t : TA} {n : Nat} {F : Addr → Prop}
def ItL (F : Addr → Prop) (σ : L2.St) (t : TA) (n : Nat) : Prop := ∀ (H : Hp) (Q : List V → Hp → Prop), Has F H → (∀ cs H', Ex H H' → (IBs F H' cs ∧ cs.length = n) → Q cs H') → t σ H Q
def ItE (F : Addr → Prop) (σ : L2.St) (te : TE) : Prop := ∀ (H : Hp) (Q : VK), Has F H → (∀ v H', Ex H H' → IB F H' v → Q v H') → te σ H Q
def StE (σ : L2.St) (te : TE) (n : Nat) : Prop := ∀ (H : Hp) (Q : VK), (∀ (z : Str) H', Ex H H' → z.length ≤ n → Q (.str z) H') → te σ H Q
def MiE (σ : L2.St) (te : TE) : Prop := ∀ (H : Hp) (Q : VK), (∀ (v : V) (p : Option Int) H', Ex H H' → MayInt v p → Q v H') → te σ H Q
theorem il_nil : ItL F σ tNil 0 := fun H Q _ q => q [] H (Ex.refl H) ⟨.nil, rfl⟩
theorem il_cons {te : TE} (h : ItE F σ te) (ht : ItL F σ t n) : ItL F σ (tCons te t) (n + 1) := fun H Q o q =>
  h H _ o fun v H1 e1 hv => ht H1 _ (o.ext e1) fun cs H2 e2 hc => q (v :: cs) H2 (e1.trans e2) ⟨.cons (hv.ext e2) hc.1, by simp [hc.2]⟩
theorem st_c {z : Str} (h : z.length ≤ n) : StE σ (tC (.str z)) n := fun H Q q => q _ H (Ex.refl H) h
theorem st_v {i : Nat} {z : Str} (e : σ[i]? = some (some (.str z))) (h : z.length ≤ n) : StE σ (tVar i) n := fun H Q q => ⟨_, e, q _ H (Ex.refl H) h⟩
theorem st_add {ta tb : TE} {i j : Nat} (ha : StE σ ta i) (hb : StE σ tb j) (h : i + j ≤ n) (hn : n ≤ 1000) : StE σ (tOp (fun x y H Q => ∃ i j : Str, x = .str i ∧ y = .str j ∧ i.length + j.length ≤ sizeLine ∧ Q (.str (i ++ j)) H) ta tb) n := fun H Q q =>
  ha H _ fun x H1 e1 hx => hb H1 _ fun y H2 e2 hy => ⟨x, y, rfl, rfl, by have := sizeLine_eq; omega, q _ H2 (e1.trans e2) (by have := len_app x y; omega)⟩
theorem st_sl {i : Nat} {z : Str} {j : Int} (e : σ[i]? = some (some (.str z))) (h : z.length ≤ n) (hn : n ≤ 1000) : StE σ (tSl rSlS (tVar i) tNoPart (tPart (tC (.int j)))) n := fun H Q q =>
  ⟨_, e, _, rfl, z, rfl, by have := sizeLine_eq; omega, q _ H (Ex.refl H) (Nat.le_trans (cutS_len_le z none (some j)) h)⟩
theorem mi_c {i : Int} : MiE σ (tC (.int i)) := fun H Q q => q _ _ H (Ex.refl H) (.int i)
theorem mi_b {b : Bool} : MiE σ (tC (.bl b)) := fun H Q q => q _ _ H (Ex.refl H) (.bl b)
theorem mi_n : MiE σ (tC .non) := fun H Q q => q _ _ H (Ex.refl H) .non
theorem mi_s {z : Str} : MiE σ (tC (.str z)) := fun H Q q => q _ _ H (Ex.refl H) (.str z)
theorem mi_v {i : Nat} {v : V} {p : Option Int} (e : σ[i]? = some (some v)) (h : MayInt v p) : MiE σ (tVar i) := fun H Q q => ⟨_, e, q _ _ H (Ex.refl H) h⟩
theorem mi_neg {i : Int} : MiE σ (tUn (rU fun i => .int (-i)) (tC (.int i))) := fun H Q q => ⟨i, rfl, q _ _ H (Ex.refl H) (.int _)⟩
theorem mi_pow {i j : Int} (h : CPow i j) : MiE σ (tOp (rI CPow fun i j => .int (i ^ j.toNat)) (tC (.int i)) (tC (.int j))) := fun H Q q => ⟨i, j, rfl, rfl, h, q _ _ H (Ex.refl H) (.int _)⟩
/-- (text, something flat) -/
theorem it_two {ta tb : TE} (ha : StE σ ta n) (hn : n ≤ 1000) (hb : MiE σ tb) : ItE F σ (tTup (tCons ta (tCons tb tNil))) := fun H Q _ q =>
  ha H _ fun z H1 e1 hz => hb H1 _ fun v p H2 e2 hv => ⟨by show 2 ≤ sizeLine; decide, fun t ht => q _ _ (e1.trans (e2.trans (Ex.new ht))) ⟨.two upd_same (.str z) (fun y e => by cases e; omega) hv, _, .tup upd_same (.cons (.str z) (.cons (sv_mi hv) .nil)), by decide⟩⟩
theorem it_l2 {i j : Nat} {z : Str} {c : Int} (e1 : σ[i]? = some (some (.str z))) (e2 : σ[j]? = some (some (.int c))) : ItE F σ (tLst (tCons (tVar i) (tCons (tVar j) tNil))) := fun H Q o q => ⟨_, e1, _, e2, by show 2 ≤ sizeLine; decide, fun p hp => q _ _ (Ex.new hp) ⟨.other (.lst upd_same) (by decide), _, .lst upd_same (o.new hp) (.cons (.str z) (.cons (.int c) .nil)), by decide⟩⟩
theorem it_t1 {i : Nat} {z : Str} (e1 : σ[i]? = some (some (.str z))) : ItE F σ (tTup (tCons (tVar i) tNil)) := fun H Q _ q => ⟨_, e1, by show 1 ≤ sizeLine; decide, fun p hp => q _ _ (Ex.new hp) ⟨.len upd_same (by show 1 ≠ 2; decide) (by show 1 ≤ 1000; decide), _, .tup upd_same (.cons (.str z) .nil), by decide⟩⟩
theorem it_t3 {i j : Nat} {z : Str} {c x : Int} (e1 : σ[i]? = some (some (.str z))) (e2 : σ[j]? = some (some (.int c))) : ItE F σ (tTup (tCons (tVar i) (tCons (tVar j) (tCons (tC (.int x)) tNil)))) := fun H Q _ q => ⟨_, e1, _, e2, by show 3 ≤ sizeLine; decide, fun p hp => q _ _ (Ex.new hp) ⟨.len upd_same (by show 3 ≠ 2; decide) (by show 3 ≤ 1000; decide), _, .tup upd_same (.cons (.str z) (.cons (.int c) (.cons (.int x) .nil))), by decide⟩⟩
theorem it_vs {i : Nat} {z : Str} (e : σ[i]? = some (some (.str z))) : ItE F σ (tVar i) := fun H Q _ q => ⟨_, e, q _ _ (Ex.refl H) ⟨.other (.str z) (by decide), _, .str z, by decide⟩⟩
theorem it_non : ItE F σ (tC .non) := fun H Q _ q => q _ _ (Ex.refl H) ⟨.other .non (by decide), _, .non, by decide⟩
theorem it_disp {i j : Nat} {z : Str} {c : Int} (e1 : σ[i]? = some (some (.str z))) (e2 : σ[j]? = some (some (.int c))) : ItE F σ (tDisp [(tVar i, tVar j)]) := fun H Q _ q p hp => by
  refine ⟨_, e1, _, e2, upd_same, [(.inr z, .int c)], rfl, by show 1 ≤ 15; decide, q _ _ ?_ ⟨.other (.dK upd_same) (by decide), _, .dic upd_same (by show [(Sum.inr z : Key)].Nodup; simp) (.cons (.int c) .nil), by decide⟩⟩
  exact ExB.new (ExB.set.trans ExB.set) hp
theorem it_tt {i : Nat} {z : Str} {c : Int} (e1 : σ[i]? = some (some (.str z))) : ItE F σ (tTup (tCons (tTup (tCons (tVar i) tNil)) (tCons (tC (.int c)) tNil))) := fun H Q _ q =>
  ⟨_, e1, by show 1 ≤ sizeLine; decide, fun p hp => ⟨by show 2 ≤ sizeLine; decide, fun p2 hp2 => q _ _ ((Ex.new hp).trans (Ex.new hp2)) ⟨.two upd_same (.tup ((Ex.new hp2) _ _ upd_same)) (fun _ e => by cases e) (.int c), _, .tup upd_same (.cons (.tup ((Ex.new hp2) _ _ upd_same) (.cons (.str z) .nil)) (.cons (.int c) .nil)), by decide⟩⟩⟩
end
section
variable {P : Program} {w : World} {K : PySem.W.Frag} {mg : Str → Option Value} {base : Heap} {f : Addr} {fd : FuncData} {k : Nat}
def spItem : Sp := fun vs H Q _ => ∃ (F : Addr → Prop) (b t pn : Addr) (z : Str) (c : Int) (ys : List Str) (m : Nat), vs = [.ref b, .ref t, .ref pn] ∧ F b ∧ Has F H ∧ H t = some (.tup [.str z, .int c]) ∧ z.length ≤ 20 ∧ H pn = some (.lst (ys.map V.str)) ∧ pn ≠ b ∧ 1 ≤ ys.length ∧ ys.length ≤ 1000 ∧ (∀ y ∈ ys, y.length ≤ 20) ∧ m + 2 ≤ 1000 ∧ BoxAt H b m ∧
  ∀ (v : V) (H' : Hp), ExB b H H' → BoxAt H' b (m + 2) → IB F H' v → Q v H'
abbrev s_item : Stmt := top 39
abbrev N_item : List Str := ["box", "item", "names", "name", "count", "menu"]
theorem sc_item : FnScope N_item ["box", "item", "names"] (defScope s_item) := ⟨rfl, rfl, rfl, by decide +kernel, rfl, by decide +kernel, by decide +kernel⟩
theorem ok_item (T : Txt K mg) (k_take : Take P w K mg base k) (F : FunD K "_law_item" "_law_item" (defArgs s_item) (defBody s_item) (defScope s_item) [] [] f fd) (hm : mg "_law_item" = some (.ref f)) : OkC P w K mg base (k + 1) "_law_item" ["box", "item", "names"] spItem := by
  refine okC_of F hm sc_item (fun _ _ _ _ _ _ us hl => match us, hl with | [_, _, _], _ => rfl) (fun vs H Q E h => ?_) (fun cdv A outer s H vs Q E hr h => ?_)
  · obtain ⟨F, b, t, pn, z, c, ys, m, rfl, _⟩ := h
    rfl
  · obtain ⟨F, b, t, pn, z, c, ys, m, rfl, hF, hH, ht, hz, hpn, nb, hy1, hy2, hy3, hm, hB, q⟩ := h
    refine ⟨_, PSs.nox (pss_cons (ps_asg (pv 1) (pg_tupC (.inl ⟨rfl, rfl⟩) (pgs_cons (pg_name (i := 3) sc_item.nd rfl (Or.inl rfl)) (pgs_cons (pg_name (i := 4) sc_item.nd rfl (Or.inl rfl)) pgs_nil)))) (pss_cons (ps_set (i := 5) sc_item.nd rfl (Or.inl rfl) (pe_lst (pa_cons (pe_tup (pa_cons (pv 3) (pa_cons pe_int pa_nil))) (pa_cons (pe_tup (pa_cons (pv 3) (pa_cons (pe_un un_neg pe_int) pa_nil))) (pa_cons (pe_tup (pa_cons (pv 3) (pa_cons pe_bl pa_nil))) (pa_cons (pe_tup (pa_cons (pv 3) (pa_cons pe_non pa_nil))) (pa_cons (pe_tup (pa_cons (pv 3) (pa_cons pe_str pa_nil))) (pa_cons (pe_lst (pa_cons (pv 3) (pa_cons (pv 4) pa_nil))) (pa_cons (pe_tup (pa_cons (pv 3) pa_nil)) (pa_cons (pe_tup (pa_cons (pv 3) (pa_cons (pv 4) (pa_cons pe_int pa_nil)))) pa_nil)))))))))) (pss_cons (ps_set (i := 5) sc_item.nd rfl (Or.inl rfl) (pe_op op_cat (pv 5) (pe_lst (pa_cons (pv 3) (pa_cons (pe_tup (pa_cons (pe_op op_add_str pe_str (pe_slice sl_str (pv 3) po_none (po_some pe_int))) (pa_cons (pv 4) pa_nil))) (pa_cons (pe_tup (pa_cons (pe_op op_add_str (pv 3) pe_str) (pa_cons (pv 4) pa_nil))) (pa_cons (pe_tup (pa_cons pe_str (pa_cons (pv 4) pa_nil))) (pa_cons (pe_tup (pa_cons (pe_op op_add_str (pe_slice sl_str (pv 3) po_none (po_some pe_int)) pe_str) (pa_cons (pv 4) pa_nil))) pa_nil)))))))) (pss_cons (ps_set (i := 5) sc_item.nd rfl (Or.inl rfl) (pe_op op_cat (pv 5) (pe_lst (pa_cons (pe_tup (pa_cons (pv 4) (pa_cons (pv 3) pa_nil))) (pa_cons (pe_tup (pa_cons (pe_ix ix_list (pv 2) (pe_callK0 k_take hr (by rfl) (pa_cons (pv 0) (pa_cons (pe_callB call_len_seq (by rfl) T.f_len (by decide +kernel) (pa_cons (pv 2) pa_nil)) pa_nil))) fun _ _ => rfl) (pa_cons pe_int pa_nil))) (pa_cons (pe_tup (pa_cons (pv 3) (pa_cons pe_int pa_nil))) (pa_cons (pe_tup (pa_cons (pv 3) (pa_cons pe_bl pa_nil))) (pa_cons (pe_tup (pa_cons (pv 3) (pa_cons (pe_op op_pow pe_int pe_int) pa_nil))) pa_nil)))))))) (pss_one (ps_ret (pe_ix ix_list (pe_op op_cat (pv 5) (pe_lst (pa_cons (pe_disp (pps_cons (pv 3) (pv 4) pps_nil) rfl rfl (by simp) (by decide)) (pa_cons (pe_tup (pa_cons (pe_tup (pa_cons (pv 3) pa_nil)) (pa_cons pe_int pa_nil))) (pa_cons pe_non pa_nil))))) (pe_callK0 k_take hr (by rfl) (pa_cons (pv 0) (pa_cons pe_int pa_nil))) fun _ _ => rfl))))))), ?_⟩
    have sz := sizeLine_eq
    obtain ⟨xs0, hb0, lb0⟩ := hB.at4
    refine seq_l (asgG_l ⟨_, rfl, t, _, rfl, SqT.of ht, rfl, _, _, rfl, _, _, rfl, rfl, nx_p ?_⟩)
    show tSeq _ _ _ [some (.ref b), some (.ref t), some (.ref pn), some (.str z), some (.int c), none] H
    refine seq_l (asg_l (lst_l ((show ItL F _ _ 8 from (il_cons (it_two (st_v (n := 20) rfl hz) (by decide) mi_c) (il_cons (it_two (st_v (n := 20) rfl hz) (by decide) mi_neg) (il_cons (it_two (st_v (n := 20) rfl hz) (by decide) mi_b) (il_cons (it_two (st_v (n := 20) rfl hz) (by decide) mi_n) (il_cons (it_two (st_v (n := 20) rfl hz) (by decide) mi_s) (il_cons (it_l2 rfl rfl) (il_cons (it_t1 rfl) (il_cons (it_t3 rfl rfl) il_nil))))))))) _ _ hH fun c1 H1 e1 hc1 => ⟨by omega, fun p1 hp1 => nx_p ?_⟩)))
    have e2 : Ex H (upd H1 p1 (.lst c1)) := e1.trans (Ex.new hp1)
    have h2 : upd H1 p1 (.lst c1) p1 = some (.lst c1) := upd_same
    have k2 : IBs F (upd H1 p1 (.lst c1)) c1 := hc1.1.ext (Ex.new hp1)
    generalize upd H1 p1 (.lst c1) = H2 at e2 h2 k2 ⊢
    refine seq_l (asg_l ?_)
    refine grow_step (n := 5) (Pc := fun cs H' => IBs F H' cs ∧ cs.length = 5) rfl h2 (fun Q z2 => (show ItL F _ _ 5 from (il_cons (it_vs rfl) (il_cons (it_two (st_add (n := 100) (st_c (n := 1) (by decide)) (st_sl (n := 20) rfl hz (by decide)) (by decide) (by decide)) (by decide) (mi_v rfl (.int c))) (il_cons (it_two (st_add (n := 100) (st_v (n := 20) rfl hz) (st_c (n := 8) (by decide)) (by decide) (by decide)) (by decide) (mi_v rfl (.int c))) (il_cons (it_two (st_c (n := 0) (by decide)) (by decide) (mi_v rfl (.int c))) (il_cons (it_two (st_add (n := 100) (st_sl (n := 20) rfl hz (by decide)) (st_c (n := 1) (by decide)) (by decide) (by decide)) (by decide) (mi_v rfl (.int c))) il_nil)))))) _ Q (hH.ext e2) z2) (fun _ _ z2 => z2.2) (by omega) (fun p3 c2 H3 H4 e3 hc2 e4 h4 => nx_p ?_)
    have k4 := (k2.ext (e3.trans e4)).app (hc2.1.ext e4)
    have n4 : (c1 ++ c2).length = 13 := by rw [List.length_append, hc1.2, hc2.2]
    generalize c1 ++ c2 = m4 at k4 n4 h4
    have e04 := e2.trans (e3.trans e4)
    have hB4 := hB.ex e04
    have b4 := e04 _ _ hb0
    have pn4 := e04 _ _ hpn
    have p3b : p3 ≠ b := by
      intro z2
      rw [z2, b4] at h4
      injection h4 with h4
      injection h4 with h4
      rw [h4] at lb0
      omega
    refine seq_l (asg_l (op_l ⟨_, rfl, lst_l (cons_l (tup_l ⟨_, rfl, _, rfl, by show 2 ≤ sizeLine; decide, fun p5 hp5 => ?_⟩))⟩))
    have e5 : Ex H4 (upd H4 p5 (.tup [.int c, .str z])) := Ex.new hp5
    have v5 : IB F (upd H4 p5 (.tup [.int c, .str z])) (.ref p5) := ⟨.two upd_same (.int c) (fun _ e => by cases e) (.str z), _, .tup upd_same (.cons (.int c) (.cons (.str z) .nil)), by decide⟩
    generalize upd H4 p5 (.tup [.int c, .str z]) = H5 at e5 v5 ⊢
    have lm : (ys.map V.str).length = ys.length := List.length_map ..
    have pn5 := e5 _ _ pn4
    refine cons_l (tup_l (cons_l (op_l ⟨_, rfl, take_l (b := b) (n := (ys.map V.str).length) (m := m) (fun R r => ⟨_, rfl, r⟩) (fun R r => ⟨_, rfl, pn, _, rfl, .inl (SqL.of pn5), r⟩) (by omega) (by omega) (by omega) (hB4.ex e5) fun d6 H6 hd6 x6 hB6 => ?_⟩)))
    have hd2 : d6 < ys.length := by omega
    refine ⟨pn, _, (d6 : Int), .str ys[d6], rfl, rfl, SqL.of (x6 _ _ nb pn5), atI_nat (by rw [List.getElem?_map, List.getElem?_eq_getElem hd2]; rfl), by show 2 ≤ sizeLine; decide, fun p7 hp7 => ?_⟩
    have hy6 := hy3 _ (List.getElem_mem hd2)
    obtain ⟨xs6, hb6⟩ := hB6.at_
    have e7 : Ex H6 (upd H6 p7 (.tup [.str ys[d6], .int 0])) := Ex.new hp7
    have v7 : IB F (upd H6 p7 (.tup [.str ys[d6], .int 0])) (.ref p7) := ⟨.two upd_same (.str _) (fun y e => by cases e; omega) (.int 0), _, .tup upd_same (.cons (.str _) (.cons (.int 0) .nil)), by decide⟩
    generalize upd H6 p7 (.tup [.str ys[d6], .int 0]) = H7 at e7 v7 ⊢
    have hH7 : Has F H7 := (((hH.ext e04).ext e5).exb x6 hb6).ext e7
    have v57 := (v5.exb hF x6 (e5 _ _ b4) hb6).ext e7
    have k7 := ((k4.ext e5).exb hF x6 (e5 _ _ b4) hb6).ext e7
    have h7 := e7 _ _ (x6 _ _ p3b (e5 _ _ h4))
    have x07 : ExB b H H7 := (Ex.but (e04.trans e5)).trans (x6.trans (Ex.but e7))
    refine (show ItL F _ _ 3 from (il_cons (it_two (st_v (n := 20) rfl hz) (by decide) mi_c) (il_cons (it_two (st_v (n := 20) rfl hz) (by decide) mi_b) (il_cons (it_two (st_v (n := 20) rfl hz) (by decide) (mi_pow ⟨by decide, by decide, by decide⟩)) il_nil)))) _ _ hH7 fun c8 H8 e8 hc8 => ⟨by show c8.length + 1 + 1 ≤ sizeLine; omega, fun p9 hp9 => ⟨p3, p9, m4, _, rfl, rfl, (Ex.new hp9) _ _ (e8 _ _ h7), upd_same, by show m4.length + (c8.length + 1 + 1) ≤ sizeLine; omega, fun p10 hp10 => nx_p ?_⟩⟩
    have e10 : Ex H7 (upd (upd H8 p9 (.lst (.ref p5 :: .ref p7 :: c8))) p10 (.lst (m4 ++ .ref p5 :: .ref p7 :: c8))) := e8.trans ((Ex.new hp9).trans (Ex.new hp10))
    have h10 : upd (upd H8 p9 (.lst (.ref p5 :: .ref p7 :: c8))) p10 (.lst (m4 ++ .ref p5 :: .ref p7 :: c8)) p10 = some (.lst (m4 ++ .ref p5 :: .ref p7 :: c8)) := upd_same
    have k10 : IBs F (upd (upd H8 p9 (.lst (.ref p5 :: .ref p7 :: c8))) p10 (.lst (m4 ++ .ref p5 :: .ref p7 :: c8))) (m4 ++ .ref p5 :: .ref p7 :: c8) := (k7.ext e10).app (.cons (v57.ext e10) (.cons (v7.ext e10) (hc8.1.ext ((Ex.new hp9).trans (Ex.new hp10)))))
    have n10 : (m4 ++ .ref p5 :: .ref p7 :: c8).length = 18 := by
      rw [List.length_append, List.length_cons, List.length_cons, hc8.2, n4]
    generalize upd (upd H8 p9 (.lst (.ref p5 :: .ref p7 :: c8))) p10 (.lst (m4 ++ .ref p5 :: .ref p7 :: c8)) = H10 at e10 h10 k10 ⊢
    generalize m4 ++ .ref p5 :: .ref p7 :: c8 = m10 at h10 k10 n10
    refine ret_l (op_l ?_)
    refine grow_step (n := 3) (Pc := fun cs H' => IBs F H' cs ∧ cs.length = 3) rfl h10 (fun Q z2 => (show ItL F _ _ 3 from (il_cons (it_disp rfl rfl) (il_cons (it_tt rfl) (il_cons it_non il_nil)))) _ Q (hH7.ext e10) z2) (fun _ _ z2 => z2.2) (by omega) (fun p12 c3 H12 H13 e12 hc3 e13 h13 => ?_)
    have e1013 := e12.trans e13
    have k13 := (k10.ext e1013).app (hc3.1.ext e13)
    have n13 : (m10 ++ c3).length = 21 := by rw [List.length_append, hc3.2, n10]
    generalize m10 ++ c3 = m13 at h13 k13 n13
    have hB13 := (hB6.ex e7).ex (e10.trans e1013)
    obtain ⟨xs13, hb13, lb13⟩ := hB13.at4
    have p12b : p12 ≠ b := by
      intro z2
      rw [z2, hb13] at h13
      injection h13 with h13
      injection h13 with h13
      rw [h13] at lb13
      omega
    refine take_l (b := b) (n := 21) (m := m + 1) (fun R r => ⟨_, rfl, r⟩) (fun R r => r) (by decide) (by decide) (by omega) hB13 fun d14 H14 hd14 x14 hB14 => ?_
    obtain ⟨xs14, hb14⟩ := hB14.at_
    have hd : d14 < m13.length := by omega
    refine ⟨p12, m13, (d14 : Int), m13[d14], rfl, rfl, SqL.of (x14 _ _ p12b h13), atI_nat (List.getElem?_eq_getElem hd), ?_⟩
    exact q _ _ (x07.trans ((Ex.but (e10.trans e1013)).trans x14)) hB14 ((k13 _ (List.getElem_mem hd)).exb hF x14 hb13 hb14)
end
end D0

namespace D0
open PySem PySem.Spec PyProof.Rows L2 L2H HotX Evl K9
/-- [e for x in ..], b is written on the way; no test; D, the list that grows, is a list -/
theorem lcB2_by {b : Addr} {wi : TI} {i : Nat} {te : TE} {σ : L2.St} {H H0 : Hp} {Q : VK} {J : It} {n : Nat} {item : Nat → V} {ob : HO} (P : Nat → List V → Hp → Prop)
    (hn : n ≤ sizeLine) (hi : i < σ.length) (hb : H b = some ob) (hw : ∀ R : It → Hp → Prop, R J H → wi σ H0 R) (wk : WalksB b J n item H)
    (mono : ∀ (D : Addr) j acc H1 xs o, D ≠ b → H1 D = some (.lst xs) → P j acc H1 → P j acc (upd H1 D o)) (h0 : ∀ D, H D = none → P 0 [] (upd H D (.lst [])))
    (step : ∀ j acc H1 (C : V → Hp → Prop), j < n → ExB b H H1 → P j acc H1 → (∀ y H4, ExB b H1 H4 → P (j + 1) (acc ++ [y]) H4 → C y H4) → te ((wipe σ [i]).set i (some (item j))) H1 C)
    (fin : ∀ D acc H1, H D = none → ExB b H H1 → H1 D = some (.lst acc) → P n acc H1 → acc.length = n → Q (.ref D) H1) : tLc wi (gName i) tYes te [i] σ H0 Q := by
  refine hw _ fun D hD => ?_
  have nb : D ≠ b := fun z => by rw [z, hb] at hD; cases hD
  have nu : ∀ {H1 : Hp} {o : HO}, ExB b H H1 → ExB b H (upd H1 D o) := fun e a o na h => by
    rw [upd_ne (ne_of_none h hD)]
    exact e a o na h
  refine ⟨fun j m H1 => m = n - j ∧ j ≤ n ∧ ExB b H H1 ∧ ∃ acc, H1 D = some (.lst acc) ∧ acc.length = j ∧ P j acc H1, ⟨n - 0, rfl, Nat.zero_le _, nu ExB.refl, [], upd_same, rfl, h0 D hD⟩, ?_⟩
  rintro j m H1 ⟨rfl, hj, e, acc, ha, hl, hp⟩
  by_cases hjn : j = n
  · subst hjn
    exact .inl ⟨wk.stop H1 e, fin D acc H1 hD e ha hp hl⟩
  · have hj2 : j < n := by omega
    refine .inr ⟨wk.go j H1 e hj2, fun H' => n - (j + 1) < n - j ∧ j + 1 ≤ n ∧ ExB b H H' ∧ ∃ acc, H' D = some (.lst acc) ∧ acc.length = j + 1 ∧ P (j + 1) acc H', ?_, ?_⟩
    · rintro H' ⟨h1, h2, h3⟩
      exact ⟨n - (j + 1), h1, rfl, h2, h3⟩
    · intro x H' hy
      obtain ⟨rfl, rfl⟩ := wk.yld j H1 x H' e hj2 hy
      refine ⟨by simp [wipe], ?_⟩
      unfold tYes
      dsimp only
      rw [if_pos rfl]
      refine step j acc H' _ hj2 e hp fun y H4 e4 p4 => ?_
      have hd := e4 _ _ nb ha
      exact ⟨acc, hd, by omega, by omega, by omega, nu (e.trans e4), acc ++ [y], upd_same, by simp [hl], mono _ _ _ _ _ _ nb hd p4⟩
/-- the same over a list that is made on the way -/
theorem lcS_by {b : Addr} {wi : TI} {i : Nat} {te : TE} {σ : L2.St} {H0 : Hp} {Q : VK} {n : Nat} {item : Nat → V} (Pre : It → Hp → Prop) (P : Nat → List V → Hp → Prop)
    (hn : n ≤ sizeLine) (hi : i < σ.length) (hw : ∀ R : It → Hp → Prop, (∀ J H3, Pre J H3 → R J H3) → wi σ H0 R) (hb : ∀ J H3, Pre J H3 → ∃ ob, H3 b = some ob) (wk : ∀ J H3, Pre J H3 → WalksB b J n item H3)
    (mono : ∀ (D : Addr) j acc H1 xs o, D ≠ b → H1 D = some (.lst xs) → P j acc H1 → P j acc (upd H1 D o)) (h0 : ∀ J H3 D, Pre J H3 → H3 D = none → P 0 [] (upd H3 D (.lst [])))
    (step : ∀ j acc H1 (C : V → Hp → Prop), j < n → P j acc H1 → (∀ y H4, ExB b H1 H4 → P (j + 1) (acc ++ [y]) H4 → C y H4) → te ((wipe σ [i]).set i (some (item j))) H1 C)
    (fin : ∀ J H3 D acc H1, Pre J H3 → H3 D = none → ExB b H3 H1 → H1 D = some (.lst acc) → P n acc H1 → acc.length = n → Q (.ref D) H1) : tLc wi (gName i) tYes te [i] σ H0 Q := by
  refine hw _ fun J H3 hp => ?_
  obtain ⟨ob, ho⟩ := hb J H3 hp
  exact lcB2_by (b := b) (wi := fun _ _ R => R J H3) (i := i) (te := te) (σ := σ) (H := H3) (H0 := H0) (Q := Q) (J := J) P hn hi ho (fun R r => r) (wk J H3 hp) mono (fun D hD => h0 J H3 D hp hD) (fun j acc H1 C hj _ hp2 kk => step j acc H1 C hj hp2 kk) (fun D acc H1 hD e ha hP hl => fin J H3 D acc H1 hp hD e ha hP hl)
/-- for x in ..: b is written on the way -/
theorem forB_by {b : Addr} {wi : TI} {i : Nat} {tb : TS} {D : Ends} {σ : L2.St} {H : Hp} {J : It} {n : Nat} {item : Nat → V} (P : Nat → L2.St → Hp → Prop) (hw : ∀ R : It → Hp → Prop, R J H → wi σ H R) (wk : WalksB b J n item H) (h0 : P 0 σ H)
    (step : ∀ (j : Nat) (σ1 : L2.St) (H1 : Hp) (N : L2.St → Hp → Prop), j < n → ExB b H H1 → P j σ1 H1 → (∀ σ2 H2, ExB b H1 H2 → P (j + 1) σ2 H2 → N σ2 H2) → tb { nx := N, rt := D.rt, bk := D.nx, ct := N } (σ1.set i (some (item j))) H1)
    (fin : ∀ σ1 H1, ExB b H H1 → P n σ1 H1 → D.nx σ1 H1) : tFor wi (gName i) tb D σ H := by
  refine hw _ ⟨fun j m σ1 H1 => m = n - j ∧ j ≤ n ∧ ExB b H H1 ∧ P j σ1 H1, ⟨n - 0, rfl, Nat.zero_le _, ExB.refl, h0⟩, ?_⟩
  rintro j m σ1 H1 ⟨rfl, hj, e, hp⟩
  by_cases hjn : j = n
  · subst hjn
    exact .inl ⟨wk.stop H1 e, fin σ1 H1 e hp⟩
  · have hj2 : j < n := by omega
    refine .inr ⟨wk.go j H1 e hj2, fun σ' H' => n - (j + 1) < n - j ∧ j + 1 ≤ n ∧ ExB b H H' ∧ P (j + 1) σ' H', ?_, ?_⟩
    · rintro σ' H' ⟨h1, h2, h3⟩
      exact ⟨n - (j + 1), h1, rfl, h2, h3⟩
    · intro x H' hy
      obtain ⟨rfl, rfl⟩ := wk.yld j H1 x H' e hj2 hy
      exact step j σ1 H' _ hj2 e hp fun σ2 H2 e2 p2 => ⟨by omega, by omega, e.trans e2, p2⟩
theorem cutV_mem {xs : List V} {lo hi : Option Int} {x : V} (h : x ∈ cutV xs lo hi) : x ∈ xs := List.mem_of_mem_drop (List.mem_of_mem_take h)
theorem sIx_nat (n d k : Nat) : HT.sIx n d (some (k : Int)) = min k n := by
  unfold HT.sIx
  dsimp only
  rw [if_neg (by omega)]
  rfl
theorem cutV_pre (xs : List V) (n : Nat) : (cutV xs none (some (n : Int))).length = min n xs.length := by
  unfold cutV
  rw [sIx_nat]
  unfold HT.sIx
  simp
theorem cutV_suf (xs : List V) (n : Nat) : (cutV xs (some (n : Int)) none).length = xs.length - n := by
  unfold cutV
  rw [sIx_nat]
  unfold HT.sIx
  simp
  omega
theorem cutV_mid (xs : List V) (n m : Nat) : (cutV xs (some (n : Int)) (some (m : Int))).length = min m xs.length - n := by
  unfold cutV
  rw [sIx_nat, sIx_nat]
  simp
  omega
theorem cutV_last (xs : List V) : cutV xs none (some (-1)) = xs.dropLast := by
  unfold cutV HT.sIx
  rw [List.dropLast_eq_take]
  simp
  congr 1
  omega
/-- a row: a tuple of a text and a small number -/
def RZ (H : Hp) (v : V) : Prop := ∃ (t : Addr) (z : Str) (c : Int), v = .ref t ∧ H t = some (.tup [.str z, .int c]) ∧ z.length ≤ 20
theorem RZ.exb {H H' : Hp} {b : Addr} {v : V} {xs : List V} (e : ExB b H H') (h1 : H b = some (.lst xs)) (h : RZ H v) : RZ H' v := by
  obtain ⟨t, z, c, rfl, ht, hz⟩ := h
  exact ⟨t, z, c, rfl, e _ _ (fun q => by rw [q, h1] at ht; cases ht) ht, hz⟩
theorem RZ.ext {H H' : Hp} {v : V} (e : Ex H H') (h : RZ H v) : RZ H' v := by
  obtain ⟨t, z, c, rfl, ht, hz⟩ := h
  exact ⟨t, z, c, rfl, e _ _ ht, hz⟩
theorem RZ.ib {F : Addr → Prop} {H : Hp} {v : V} (h : RZ H v) : IB F H v := by
  obtain ⟨t, z, c, rfl, ht, hz⟩ := h
  exact ⟨.two ht (.str z) (fun y e => by cases e; omega) (.int c), _, .tup ht (.cons (.str z) (.cons (.int c) .nil)), by decide⟩
def RZs (H : Hp) (xs : List V) : Prop := ∀ x ∈ xs, RZ H x
theorem RZs.exb {H H' : Hp} {b : Addr} {vs xs : List V} (e : ExB b H H') (h1 : H b = some (.lst xs)) (h : RZs H vs) : RZs H' vs := fun x hx => (h x hx).exb e h1
theorem RZs.ext {H H' : Hp} {vs : List V} (e : Ex H H') (h : RZs H vs) : RZs H' vs := fun x hx => (h x hx).ext e
theorem RZs.ib {F : Addr → Prop} {H : Hp} {vs : List V} (h : RZs H vs) : IBs F H vs := fun x hx => (h x hx).ib
/-- a value that may be a list of names, not at b -/
inductive LB (F : Addr → Prop) (H : Hp) : V → Prop
  | other {v : V} {s : String} {k : Nat} (h : Bas H v s) (n : s ≠ "list") (m : s ≠ "tuple") (sv : Sv F H v k) (l : k ≤ 20) : LB F H v
  | seq {a : Addr} {xs : List V} (h : SeqAt H a xs) (nb : ¬ F a) (m : xs.length ≤ 30) (r : IBs F H xs) : LB F H (.ref a)
theorem LB.ext {F : Addr → Prop} {H H' : Hp} {v : V} (e : Ex H H') (h : LB F H v) : LB F H' v := by
  cases h with
  | other h n m sv l => exact .other (h.ext e) n m (sv.ext e) l
  | seq h nb m r => exact .seq (h.ext e) nb m (r.ext e)
theorem LB.exb {F : Addr → Prop} {H H' : Hp} {b : Addr} {v : V} {xs ys : List V} (hF : F b) (e : ExB b H H') (h1 : H b = some (.lst xs)) (h2 : H' b = some (.lst ys)) (h : LB F H v) : LB F H' v := by
  cases h with
  | other h n m sv l => exact .other (D0.Bas.exb e h1 h2 h) n m (sv.exb hF e h1) l
  | @seq a _ h nb m r =>
    have n : a ≠ b := fun z => nb (by rw [z]; exact hF)
    exact .seq (h.elim (fun h => .inl (e _ _ n h)) fun h => .inr (e _ _ n h)) nb m (r.exb hF e h1 h2)
def LBs (F : Addr → Prop) (H : Hp) (xs : List V) : Prop := ∀ x ∈ xs, LB F H x
theorem LBs.ext {F : Addr → Prop} {H H' : Hp} {xs : List V} (e : Ex H H') (h : LBs F H xs) : LBs F H' xs := fun x hx => (h x hx).ext e
theorem LBs.exb {F : Addr → Prop} {H H' : Hp} {b : Addr} {us xs ys : List V} (hF : F b) (e : ExB b H H') (h1 : H b = some (.lst xs)) (h2 : H' b = some (.lst ys)) (h : LBs F H us) : LBs F H' us := fun x hx => (h x hx).exb hF e h1 h2
theorem LBs.app {F : Addr → Prop} {H : Hp} {xs ys : List V} (h : LBs F H xs) (h' : LBs F H ys) : LBs F H (xs ++ ys) := fun x hx => (List.mem_append.mp hx).elim (h x) (h' x)
theorem LBs.nil {F : Addr → Prop} {H : Hp} : LBs F H [] := fun x hx => absurd hx (by simp)
theorem LBs.cons {F : Addr → Prop} {H : Hp} {x : V} {xs : List V} (h : LB F H x) (h' : LBs F H xs) : LBs F H (x :: xs) := fun y hy => by
  rcases List.mem_cons.mp hy with rfl | hy
  · exact h
  · exact h' y hy
theorem fresh_back {b p : Addr} {H H' : Hp} (x : ExB b H H') (h : H' p = none) (nb : p ≠ b) : H p = none := by
  cases hh : H p with
  | none => rfl
  | some o => rw [x _ _ nb hh] at h; cases h
theorem RZs.mem {H : Hp} {xs ys : List V} (h : RZs H ys) (s : ∀ x ∈ xs, x ∈ ys) : RZs H xs := fun x hx => h x (s x hx)
theorem IBs.mem {F : Addr → Prop} {H : Hp} {xs ys : List V} (h : IBs F H ys) (s : ∀ x ∈ xs, x ∈ ys) : IBs F H xs := fun x hx => h x (s x hx)
/-- [item(box, mixed[i], names[:-1])] -/
theorem item_l {K : PySem.W.Frag} {F : Addr → Prop} {σ : L2.St} {H : Hp} {Q : VK} {b pm pn : Addr} {ms : List V} {ys : List Str} {i j mm : Nat} (h0 : σ[0]? = some (some (.ref b))) (h5 : σ[5]? = some (some (.ref pm))) (h2 : σ[2]? = some (some (.ref pn))) (hi : σ[i]? = some (some (.int (j : Int))))
    (hF : F b) (hH : Has F H) (hm : H pm = some (.lst ms)) (hr : RZs H ms) (hp : H pn = some (.lst (ys.map V.str))) (hj : j < ms.length) (ly : 2 ≤ ys.length) (ly2 : ys.length ≤ 30) (hy : ∀ y ∈ ys, y.length ≤ 20) (hB : BoxAt H b mm) (hmm : mm + 2 ≤ 1000)
    (q : ∀ (p : Addr) (v : V) (H' : Hp), ExB b H H' → BoxAt H' b (mm + 2) → IB F H' v → H' p = some (.lst [v]) → p ≠ b → Q (.ref p) H') :
    tLst (tCons (tCallB spItem (tCons (tVar 0) (tCons (tOp (rIxL K) (tVar 5) (tVar i)) (tCons (tSl (rSlL K) (tVar 2) tNoPart (tPart (tUn (rU fun i => .int (-i)) (tC (.int 1))))) tNil)))) tNil) σ H Q := by
  obtain ⟨t, z, c, ht, ht2, hz⟩ := hr _ (List.getElem_mem hj)
  obtain ⟨xb, hb⟩ := hB.at_
  have e1 : cutV (ys.map V.str) none (some (-1)) = (ys.dropLast).map V.str := by rw [cutV_last, List.map_dropLast]
  refine lst_l ⟨_, h0, _, h5, _, hi, pm, ms, (j : Int), .ref t, rfl, rfl, SqL.of hm, atI_nat (by rw [List.getElem?_eq_getElem hj, ht]), _, h2, 1, rfl, _, rfl, pn, _, rfl, SqL.of hp, fun p' hp' => ?_⟩
  have e2 : Ex H (upd H p' (.lst (cutV (ys.map V.str) none (some (-1))))) := Ex.new hp'
  refine ⟨F, b, t, p', z, c, ys.dropLast, mm, rfl, hF, hH.ext e2, e2 _ _ ht2, hz, by rw [← e1]; exact upd_same, (ne_of_none hb hp').symm, by rw [List.length_dropLast]; omega, by rw [List.length_dropLast]; omega, fun y h => hy y (List.dropLast_subset _ h), hmm, hB.ex e2, fun v H3 x3 hB3 hv => ?_⟩
  obtain ⟨xb3, hb3⟩ := hB3.at_
  refine ⟨by show 1 ≤ sizeLine; decide, fun p4 hp4 => q p4 v _ ((Ex.but e2).trans (x3.trans (Ex.but (Ex.new hp4)))) (hB3.new hp4) (hv.ext (Ex.new hp4)) upd_same (ne_of_none hb3 hp4).symm⟩
/-- what stays in the loop over the turns -/
structure Sit (F : Addr → Prop) (b pm pn pv : Addr) (ms : List V) (ys : List Str) (xs : List V) (H0 H : Hp) (mm : Nat) : Prop where
  m : H pm = some (.lst ms)
  n : H pn = some (.lst (ys.map V.str))
  k : RZs H ms
  v : H pv = some (.lst xs)
  l : LBs F H xs
  hF : F b
  hH : Has F H
  nf : ¬ F pv
  B : BoxAt H b mm
  x : ExB b H0 H
  nm : pm ≠ b
  nn : pn ≠ b
  nv : pv ≠ b
theorem Sit.ext {F : Addr → Prop} {b pm pn pv : Addr} {ms : List V} {ys : List Str} {xs : List V} {H0 H H' : Hp} {mm : Nat} (s : Sit F b pm pn pv ms ys xs H0 H mm) (e : Ex H H') : Sit F b pm pn pv ms ys xs H0 H' mm :=
  ⟨e _ _ s.m, e _ _ s.n, s.k.ext e, e _ _ s.v, s.l.ext e, s.hF, s.hH.ext e, s.nf, s.B.ex e, s.x.trans (Ex.but e), s.nm, s.nn, s.nv⟩
theorem Sit.box {F : Addr → Prop} {b pm pn pv : Addr} {ms : List V} {ys : List Str} {xs : List V} {H0 H H' : Hp} {mm m2 : Nat} (s : Sit F b pm pn pv ms ys xs H0 H mm) (e : ExB b H H') (hB : BoxAt H' b m2) : Sit F b pm pn pv ms ys xs H0 H' m2 := by
  obtain ⟨u, h1⟩ := s.B.at_
  obtain ⟨u2, h2⟩ := hB.at_
  exact ⟨e _ _ s.nm s.m, e _ _ s.nn s.n, s.k.exb e h1, e _ _ s.nv s.v, s.l.exb s.hF e h1 h2, s.hF, s.hH.exb e h2, s.nf, hB, s.x.trans e, s.nm, s.nn, s.nv⟩
/-- a list of items, not at b -/
structure SL (F : Addr → Prop) (H : Hp) (p : Addr) (A : List V) : Prop where
  nb : ¬ F p
  h : H p = some (.lst A)
  i : IBs F H A
theorem SL.ext {F : Addr → Prop} {p : Addr} {A : List V} {H H' : Hp} (s : SL F H p A) (e : Ex H H') : SL F H' p A := ⟨s.nb, e _ _ s.h, s.i.ext e⟩
theorem SL.box {F : Addr → Prop} {b p : Addr} {A : List V} {H H' : Hp} {m1 m2 : Nat} (hF : F b) (s : SL F H p A) (e : ExB b H H') (h1 : BoxAt H b m1) (h2 : BoxAt H' b m2) : SL F H' p A := by
  obtain ⟨u, g1⟩ := h1.at_
  obtain ⟨u2, g2⟩ := h2.at_
  exact ⟨s.nb, e _ _ (fun z => s.nb (by rw [z]; exact hF)) s.h, s.i.exb hF e g1 g2⟩
theorem SL.new {F : Addr → Prop} {p : Addr} {A : List V} {H : Hp} (hH : Has F H) (hp : H p = none) (hi : IBs F H A) : SL F (upd H p (.lst A)) p A :=
  ⟨hH.new hp, upd_same, hi.ext (Ex.new hp)⟩
theorem SL.lb {F : Addr → Prop} {p : Addr} {A : List V} {H : Hp} (s : SL F H p A) (h : A.length ≤ 30) : LB F H (.ref p) := .seq (.inl s.h) s.nb h s.i
section
variable {σ : L2.St} {t : TA} {n : Nat} {F : Addr → Prop}
def LbL (F : Addr → Prop) (σ : L2.St) (t : TA) (n : Nat) : Prop := ∀ (H : Hp) (Q : List V → Hp → Prop), Has F H → (∀ cs H', Ex H H' → (LBs F H' cs ∧ cs.length = n) → Q cs H') → t σ H Q
def LbE (F : Addr → Prop) (σ : L2.St) (te : TE) : Prop := ∀ (H : Hp) (Q : VK), Has F H → (∀ v H', Ex H H' → LB F H' v → Q v H') → te σ H Q
theorem lb_nil : LbL F σ tNil 0 := fun H Q _ q => q [] H (Ex.refl H) ⟨.nil, rfl⟩
theorem lb_cons {te : TE} (h : LbE F σ te) (ht : LbL F σ t n) : LbL F σ (tCons te t) (n + 1) := fun H Q o q =>
  h H _ o fun v H1 e1 hv => ht H1 _ (o.ext e1) fun cs H2 e2 hc => q (v :: cs) H2 (e1.trans e2) ⟨.cons (hv.ext e2) hc.1, by simp [hc.2]⟩
theorem lb_non : LbE F σ (tC .non) := fun H Q _ q => q _ H (Ex.refl H) (.other .non (by decide) (by decide) .non (by decide))
theorem lb_bl {c : Bool} : LbE F σ (tC (.bl c)) := fun H Q _ q => q _ H (Ex.refl H) (.other (.bl c) (by decide) (by decide) (.bl c) (by decide))
theorem lb_int {i : Int} : LbE F σ (tC (.int i)) := fun H Q _ q => q _ H (Ex.refl H) (.other (.int i) (by decide) (by decide) (.int i) (by decide))
theorem lb_str {z : Str} : LbE F σ (tC (.str z)) := fun H Q _ q => q _ H (Ex.refl H) (.other (.str z) (by decide) (by decide) (.str z) (by decide))
theorem lb_dnew : LbE F σ tDNewK := fun H Q _ q p hp => q _ _ (Ex.new hp) (.other (.dK upd_same) (by decide) (by decide) (.dic upd_same .nil .nil) (by decide))
theorem lb_disp1 {z : Str} {i : Int} : LbE F σ (tDisp [(tC (.str z), tC (.int i))]) := fun H Q _ q p hp => by
  refine ⟨upd_same, [(.inr z, .int i)], rfl, by show 1 ≤ 15; decide, q _ _ ?_ (.other (.dK upd_same) (by decide) (by decide) (.dic upd_same (by show [(Sum.inr z : Key)].Nodup; simp) (.cons (.int i) .nil)) (by decide))⟩
  exact ExB.new (ExB.set.trans ExB.set) hp
theorem lb_tup (h : ItL F σ t n) (hn : n ≤ 30) : LbE F σ (tTup t) := fun H Q o q => h H _ o fun cs H1 e1 hc => ⟨by have := sizeLine_eq; omega, fun p hp => q _ _ (e1.trans (Ex.new hp)) (.seq (.inr upd_same) ((o.ext e1).new hp) (by omega) (hc.1.ext (Ex.new hp)))⟩
theorem lb_lst (h : ItL F σ t n) (hn : n ≤ 30) : LbE F σ (tLst t) := fun H Q o q => h H _ o fun cs H1 e1 hc => ⟨by have := sizeLine_eq; omega, fun p hp => q _ _ (e1.trans (Ex.new hp)) (.seq (.inl upd_same) ((o.ext e1).new hp) (by omega) (hc.1.ext (Ex.new hp)))⟩
theorem it_cs {z : Str} : ItE F σ (tC (.str z)) := fun H Q _ q => q _ H (Ex.refl H) ⟨.other (.str z) (by decide), _, .str z, by decide⟩
theorem it_ci {i : Int} : ItE F σ (tC (.int i)) := fun H Q _ q => q _ H (Ex.refl H) ⟨.other (.int i) (by decide), _, .int i, by decide⟩
theorem it_t0 : ItE F σ (tTup tNil) := fun H Q _ q => ⟨Nat.zero_le _, fun p hp => q _ _ (Ex.new hp) ⟨.len upd_same (by show 0 ≠ 2; decide) (Nat.zero_le _), _, .tup upd_same .nil, by decide⟩⟩
end
/-- what is laid -/
def Alloc (H : Hp) : Addr → Prop := fun a => ∃ o, H a = some o
theorem not_alloc {H : Hp} {a : Addr} (h : H a = none) : ¬ Alloc H a := fun ⟨o, ho⟩ => by rw [h] at ho; cases ho
theorem grow_fresh {σ : L2.St} {H : Hp} {j : Nat} {q : Addr} {bs : List V} {t : TA} {R : VK} {n : Nat} {Pc : List V → Hp → Prop} (hv : σ[j]? = some (some (.ref q))) (hq : H q = some (.lst bs)) (ht : ∀ Q : List V → Hp → Prop, (∀ cs H', Ex H H' → Pc cs H' → Q cs H') → t σ H Q)
    (len : ∀ cs H', Pc cs H' → cs.length = n) (hs : bs.length + n ≤ sizeLine)
    (k : ∀ (p : Addr) (cs : List V) (H1 H2 H' : Hp), Ex H H1 → Pc cs H1 → Ex H1 H2 → H2 p = none → Ex H2 H' → H' p = some (.lst (bs ++ cs)) → R (.ref p) H') : tOp rCat (tVar j) (tLst t) σ H R := by
  refine ⟨_, hv, ht _ fun cs H1 e pc => ?_⟩
  have hl := len _ _ pc
  refine ⟨by omega, fun p hp => ⟨q, p, bs, cs, rfl, rfl, ?_, upd_same, by omega, fun r hr => ?_⟩⟩
  · exact (e.trans (Ex.new hp)) _ _ hq
  · exact k r cs H1 _ _ e pc (Ex.new hp) hr (Ex.new hr) upd_same
section
variable {P : Program} {w : World} {K : PySem.W.Frag} {mg : Str → Option Value} {base : Heap} {f : Addr} {fd : FuncData} {k : Nat}
def spLists : Sp := fun vs H Q _ => ∃ (b : Addr) (m : Nat), vs = [.ref b] ∧ m + 200 ≤ 1000 ∧ BoxAt H b m ∧
  ∀ (r pn pv : Addr) (ys : List Str) (xs : List V) (H' : Hp), ExB b H H' → BoxAt H' b (m + 200) → H' r = some (.tup [.ref pn, .ref pv]) → H' pn = some (.lst (ys.map V.str)) → H' pv = some (.lst xs) → ¬ Alloc H pn → ¬ Alloc H pv → 1 ≤ ys.length → ys.length ≤ 30 → (∀ y ∈ ys, y.length ≤ 20) → xs.length ≤ 40 → LBs (Alloc H) H' xs → Q (.ref r) H'
abbrev s_lists : Stmt := top 40
abbrev N_lists : List Str := ["box", "many", "names", "rows", "name", "mixed", "values", "turn", "place", "spoilt", "other", "both", "again"]
theorem sc_lists : FnScope N_lists ["box"] (defScope s_lists) := ⟨rfl, rfl, rfl, by decide +kernel, rfl, by decide +kernel, by decide +kernel⟩
theorem ok_lists (T : Txt K mg) (k_take : Take P w K mg base k) (k_unlike : OkC P w K mg base k "_law_unlike" ["box", "many"] spUnlike) (k_item : OkC P w K mg base k "_law_item" ["box", "item", "names"] spItem) (F : FunD K "_law_lists" "_law_lists" (defArgs s_lists) (defBody s_lists) (defScope s_lists) [] [] f fd) (hm : mg "_law_lists" = some (.ref f)) : OkC P w K mg base (k + 1) "_law_lists" ["box"] spLists := by
  refine okC_of F hm sc_lists (fun _ _ _ _ _ _ us hl => match us, hl with | [_], _ => rfl) (fun vs H Q E h => ?_) (fun cdv A outer s H vs Q E hr h => ?_)
  · obtain ⟨b, m, rfl, _⟩ := h
    rfl
  · obtain ⟨b, m, rfl, hm, hB, q⟩ := h
    refine ⟨_, PSs.nox (pss_cons (ps_set (i := 1) sc_lists.nd rfl (Or.inl rfl) (pe_ix ix_list (pe_lst (pa_cons pe_int (pa_cons pe_int (pa_cons pe_int (pa_cons pe_int (pa_cons pe_int (pa_cons pe_int (pa_cons pe_int (pa_cons pe_int (pa_cons pe_int (pa_cons pe_int pa_nil))))))))))) (pe_callK0 k_take hr (by rfl) (pa_cons (pv 0) (pa_cons pe_int pa_nil))) fun _ _ => rfl)) (pss_cons (ps_set (i := 2) sc_lists.nd rfl (Or.inl rfl) (pe_callK0 k_unlike hr (by rfl) (pa_cons (pv 0) (pa_cons (pv 1) pa_nil)))) (pss_cons (ps_setLc (i := 3) (own := [("name", 4)]) (g := gName 4) rfl sc_lists.nd rfl rfl rfl (pi_list (pe_slice sl_list (pv 2) po_none (po_some (pe_un un_neg pe_int)))) (blkOk_by (N := N_lists) (sc := defScope s_lists) (by decide +kernel)) (fun _ _ _ _ _ => pg_name (i := 4) sc_lists.nd rfl (Or.inl rfl)) (fun _ _ _ _ _ => pts_nil) (fun _ _ _ _ _ => (pe_tup (pa_cons (pv 4) (pa_cons (pe_callK0 k_take hr (by rfl) (pa_cons (pv 0) (pa_cons pe_int pa_nil))) pa_nil))))) (pss_cons (ps_set (i := 5) sc_lists.nd rfl (Or.inl rfl) (pe_lst pa_nil)) (pss_cons (ps_while PassesOwn.never (pt_cmpR (op_ne0 (huC (roomH_of hr))) (pv 3) (pe_lst pa_nil) (nomark _)) (pss_one (ps_expr (pe_bm PySem.F.plainAttrs_list PySem.F.slot_list_append PySem.F.type_list_append mt_append (pv 5) (pa_cons (pe_bm PySem.F.plainAttrs_list PySem.F.slot_list_pop PySem.F.type_list_pop mt_popAt (pv 3) (pa_cons (pe_callK0 k_take hr (by rfl) (pa_cons (pv 0) (pa_cons (pe_callB call_len_seq (by rfl) T.f_len (by decide +kernel) (pa_cons (pv 3) pa_nil)) pa_nil))) pa_nil)) pa_nil))))) (pss_cons (ps_set (i := 6) sc_lists.nd rfl (Or.inl rfl) (pe_lst (pa_cons (pv 5) (pa_cons (pe_slice sl_list (pv 5) po_none (po_some pe_int)) (pa_cons (pe_callTy call_list_of (by rfl) T.f_list (by decide +kernel) (pa_cons (pe_slice sl_list (pv 5) po_none (po_some pe_int)) pa_nil)) pa_nil))))) (pss_cons (ps_if (pt_cmpR (op_ne0 (huC (roomH_of hr))) (pv 5) (pe_lst pa_nil) (nomark _)) (pss_one (ps_for PassesOwn.never rfl (pi_range1 (by rfl) T.f_range (pa_cons pe_int pa_nil)) (pg_name (i := 7) sc_lists.nd rfl (Or.inl rfl)) (pss_cons (ps_set (i := 8) sc_lists.nd rfl (Or.inl rfl) (pe_callK0 k_take hr (by rfl) (pa_cons (pv 0) (pa_cons (pe_callB (call_min2 rfl) (by rfl) T.f_min (by decide +kernel) (pa_cons pe_int (pa_cons (pe_callB call_len_seq (by rfl) T.f_len (by decide +kernel) (pa_cons (pv 5) pa_nil)) pa_nil))) pa_nil)))) (pss_cons (ps_set (i := 9) sc_lists.nd rfl (Or.inl rfl) (pe_op op_cat (pe_op op_cat (pe_slice sl_list (pv 5) po_none (po_some (pv 8))) (pe_lst (pa_cons (pe_callK0 k_item hr (by rfl) (pa_cons (pv 0) (pa_cons (pe_ix ix_list (pv 5) (pv 8) fun _ _ => rfl) (pa_cons (pe_slice sl_list (pv 2) po_none (po_some (pe_un un_neg pe_int))) pa_nil)))) pa_nil))) (pe_slice sl_list (pv 5) (po_some (pe_op op_add (pv 8) pe_int)) (po_some pe_int)))) (pss_cons (ps_set (i := 10) sc_lists.nd rfl (Or.inl rfl) (pe_callK0 k_take hr (by rfl) (pa_cons (pv 0) (pa_cons (pe_callB call_len_seq (by rfl) T.f_len (by decide +kernel) (pa_cons (pv 9) pa_nil)) pa_nil)))) (pss_cons (ps_set (i := 11) sc_lists.nd rfl (Or.inl rfl) (pe_op op_cat (pe_op op_cat (pe_slice sl_list (pv 9) po_none (po_some (pv 10))) (pe_lst (pa_cons (pe_callK0 k_item hr (by rfl) (pa_cons (pv 0) (pa_cons (pe_ix ix_list (pv 5) (pv 10) fun _ _ => rfl) (pa_cons (pe_slice sl_list (pv 2) po_none (po_some (pe_un un_neg pe_int))) pa_nil)))) pa_nil))) (pe_slice sl_list (pv 9) (po_some (pe_op op_add (pv 10) pe_int)) po_none))) (pss_cons (ps_set (i := 12) sc_lists.nd rfl (Or.inl rfl) (pe_op op_cat (pe_slice sl_list (pv 5) po_none (po_some pe_int)) (pe_lst (pa_cons (pe_tup (pa_cons (pe_ix ix_tup (pe_ix ix_list (pv 5) (pv 8) fun _ _ => rfl) pe_int fun _ _ => rfl) (pa_cons (pe_callK0 k_take hr (by rfl) (pa_cons (pv 0) (pa_cons pe_int pa_nil))) pa_nil))) pa_nil)))) (pss_one (ps_set (i := 6) sc_lists.nd rfl (Or.inl rfl) (pe_op op_cat (pv 6) (pe_lst (pa_cons (pv 9) (pa_cons (pv 11) (pa_cons (pe_revL (pv 12)) pa_nil)))))))))))))) pss_nil) (pss_one (ps_ret (pe_tup (pa_cons (pv 2) (pa_cons (pe_op op_cat (pv 6) (pe_lst (pa_cons pe_non (pa_cons pe_dnewK (pa_cons (pe_disp (pps_cons pe_str pe_int pps_nil) rfl rfl (by simp) (by decide)) (pa_cons pe_str (pa_cons pe_int (pa_cons pe_bl (pa_cons (pe_tup (pa_cons pe_str (pa_cons pe_int pa_nil))) (pa_cons (pe_lst (pa_cons (pe_tup (pa_cons pe_str (pa_cons pe_int pa_nil))) (pa_cons pe_non pa_nil))) (pa_cons (pe_lst (pa_cons (pe_tup pa_nil) pa_nil)) pa_nil))))))))))) pa_nil)))))))))))), ?_⟩
    have sz := sizeLine_eq
    obtain ⟨xs0, hb0⟩ := hB.at_
    refine seq_l (asg_l (op_l (lst_l ⟨by show 10 ≤ sizeLine; decide, fun p1 hp1 => ?_⟩)))
    have np1 : p1 ≠ b := (ne_of_none hb0 hp1).symm
    refine take_l (b := b) (n := 10) (m := m) (fun R r => ⟨_, rfl, r⟩) (fun R r => r) (by decide) (by decide) (by omega) (hB.new hp1) fun d1 H1 hd1 x1 hB1 => ?_
    obtain ⟨n1, hn1, ht1⟩ := pick [24, 25, 1, 2, 23, 5, 3, 0, 24, 26] (fun n : Nat => V.int (n : Int)) hd1 rfl (· ≤ 26) (by decide)
    refine ⟨p1, _, (d1 : Int), _, rfl, rfl, SqL.of (x1 _ _ np1 upd_same), ht1, nx_p ?_⟩
    have x01 : ExB b H H1 := (Ex.but (Ex.new hp1)).trans x1
    refine seq_l (asg_l ⟨_, rfl, _, rfl, b, m + 1, n1, rfl, hn1, by omega, hB1, fun pn ys H2 x2 hB2 n2 h2 nb2 ly hy => nx_p ?_⟩)
    have x02 := x01.trans x2
    obtain ⟨xs2, hb2⟩ := hB2.at_
    have ld : (ys.dropLast.map V.str).length = n1 := by simp [ly]
    refine seq_l (asg_l ?_)
    refine lcS_by (b := b) (n := n1) (item := fun i => (ys.dropLast.map V.str).getD i .non) (fun J H3 => ∃ p3, J = Itl K p3 ∧ H2 p3 = none ∧ Ex H2 H3 ∧ H3 p3 = some (.lst (ys.dropLast.map V.str))) (fun j acc H1 => BoxAt H1 b (m + 101 + j) ∧ RZs H1 acc) (by omega) (by show 4 < 13; decide)
      (fun R h => ⟨_, rfl, 1, rfl, _, rfl, pn, _, rfl, SqL.of h2, fun p3 hp3 => ⟨p3, rfl, ⟨_, SqL.of upd_same⟩, h _ _ ⟨p3, rfl, hp3, Ex.new hp3, by rw [List.map_dropLast, ← cutV_last]; exact upd_same⟩⟩⟩)
      (fun J H3 ⟨p3, _, _, e3, _⟩ => ⟨_, e3 _ _ hb2⟩) (fun J H3 ⟨p3, hJ, hp3, e3, h3⟩ => by rw [hJ, ← ld]; exact walksB_list h3 (ne_of_none hb2 hp3).symm) (fun D j acc H1 xs o nD hD hp => ⟨hp.1.ne nD.symm, hp.2.exb ExB.set hD⟩) (fun J H3 D ⟨p3, _, _, e3, _⟩ hD => ⟨(hB2.ex e3).new hD, fun x hx => absurd hx (by simp)⟩) (fun j acc H4 C hj hp kk => ?_) (fun J H3 pr rs H5 hpre hpr x5 h5 hp lr => ?_)
    · have hj2 : j < ys.dropLast.length := by simpa using (by omega : j < (ys.dropLast.map V.str).length)
      have hi : (ys.dropLast.map V.str).getD j .non = .str (ys.dropLast[j]) := by rw [List.getD_eq_getElem?_getD, List.getElem?_map, List.getElem?_eq_getElem hj2]; rfl
      rw [hi]
      have hz := hy _ (List.dropLast_subset _ (List.getElem_mem hj2))
      obtain ⟨xs4, hb4⟩ := hp.1.at_
      refine tup_l ⟨_, rfl, take_l (b := b) (n := 4) (m := m + 101 + j) (fun R r => ⟨_, rfl, r⟩) (fun R r => r) (by decide) (by decide) (by omega) hp.1 fun d5 H5 hd5 x5 hB5 => ⟨by show 2 ≤ sizeLine; decide, fun t ht => ?_⟩⟩
      refine kk _ _ (x5.trans (Ex.but (Ex.new ht))) ⟨hB5.new ht, fun x hx => ?_⟩
      rcases List.mem_append.mp hx with h | h
      · exact ((hp.2.exb x5 hb4) x h).ext (Ex.new ht)
      · rw [List.mem_singleton.mp h]
        exact ⟨t, _, _, rfl, upd_same, hz⟩
    · obtain ⟨hB5, r5⟩ := hp
      obtain ⟨p3, _, hp3, e3, h3⟩ := hpre
      have hb3 := e3 _ _ hb2
      refine nx_p ?_
      have x05 : ExB b H H5 := x02.trans ((Ex.but e3).trans x5)
      have h5n : H5 pn = some (.lst (ys.map V.str)) := x5 _ _ nb2 (e3 _ _ h2)
      have nbr : pr ≠ b := (ne_of_none hb3 hpr).symm
      have nrn : pr ≠ pn := (ne_of_none (e3 _ _ h2) hpr).symm
      have npr : H pr = none := fresh_back (x02.trans (Ex.but e3)) hpr nbr
      obtain ⟨xs5, hb5⟩ := hB5.at_
      refine seq_l (asg_l ⟨Nat.zero_le _, fun pm hpm => nx_p ?_⟩)
      have nbm : pm ≠ b := (ne_of_none hb5 hpm).symm
      have nmr : pm ≠ pr := (ne_of_none h5 hpm).symm
      have nmn : pm ≠ pn := (ne_of_none h5n hpm).symm
      have npm : H pm = none := fresh_back x05 hpm nbm
      have e6 : Ex H5 (upd H5 pm (.lst [])) := Ex.new hpm
      have h6 : upd H5 pm (.lst []) pm = some (.lst []) := upd_same
      generalize upd H5 pm (.lst []) = H6 at e6 h6 ⊢
      refine seq_l ⟨fun c σ1 H1 => ∃ rs ms : List V, σ1 = [some (.ref b), some (.int (n1 : Int)), some (.ref pn), some (.ref pr), none, some (.ref pm), none, none, none, none, none, none, none] ∧ c = rs.length ∧ rs.length + ms.length = n1 ∧ H1 pr = some (.lst rs) ∧ H1 pm = some (.lst ms) ∧ H1 pn = some (.lst (ys.map V.str)) ∧ RZs H1 rs ∧ RZs H1 ms ∧ BoxAt H1 b (m + 130 + ms.length) ∧ ExB b H H1,
        ⟨_, rs, [], rfl, rfl, by simpa using lr, e6 _ _ h5, h6, e6 _ _ h5n, r5.ext e6, fun x hx => absurd hx (by simp), (hB5.ex e6).up (by omega), x05.trans (Ex.but e6)⟩, ?_⟩
      rintro c σ1 H7 ⟨rs, ms, rfl, rfl, lrm, h7r, h7m, h7n, k7r, k7m, hB7, x07⟩
      refine ⟨_, rfl, Nat.zero_le _, fun p8 hp8 => ⟨pr, p8, rs, rfl, rfl, SqL.of ((Ex.new hp8) _ _ h7r), SqL.of upd_same, _, rfl, ?_⟩⟩
      have e8 : Ex H7 (upd H7 p8 (.lst [])) := Ex.new hp8
      generalize upd H7 p8 (.lst []) = H8 at e8 ⊢
      have hB8 := hB7.ex e8
      have x08 := x07.trans (Ex.but e8)
      have h8r := e8 _ _ h7r
      have h8m := e8 _ _ h7m
      have h8n := e8 _ _ h7n
      have k8r := k7r.ext e8
      have k8m := k7m.ext e8
      obtain ⟨xs8, hb8⟩ := hB8.at_
      cases hrs : rs with
      | cons r0 rt =>
        rw [← hrs]
        have lr1 : 1 ≤ rs.length := by rw [hrs]; simp
        refine ite1 (by rw [hrs]; rfl) ⟨_, fun σ' H' h => h, ?_⟩
        refine ⟨_, rfl, .inl ⟨rfl, _, SqL.of h8m⟩, cons_l ⟨_, rfl, .inl ⟨rfl, _, SqL.of h8r⟩, cons_l (take_l (b := b) (n := rs.length) (m := m + 130 + ms.length) (fun R r => ⟨_, rfl, r⟩) (fun R r => ⟨_, rfl, pr, _, rfl, .inl (SqL.of h8r), r⟩) lr1 (by omega) (by omega) hB8 fun d H9 hd x9 hB9 => ?_)⟩⟩
        obtain ⟨xs9, hb9⟩ := hB9.at_
        have h9r := x9 _ _ nbr h8r
        have h9m := x9 _ _ nbm h8m
        have h9n := x9 _ _ nb2 h8n
        have k9r := k8r.exb x9 hb8
        have k9m := k8m.exb x9 hb8
        refine nil_l ⟨pr, rs, (d : Int), d, rs[d], rfl, rfl, h9r, by omega, by omega, seqIndex_nat hd, List.getElem?_eq_getElem hd, ?_⟩
        have b10 : ExB pr H9 (upd H9 pr (.lst (rs.eraseIdx d))) := ExB.set
        have h10r : upd H9 pr (.lst (rs.eraseIdx d)) pr = some (.lst (rs.eraseIdx d)) := upd_same
        have k10r := (k9r.exb b10 h9r).mem (xs := rs.eraseIdx d) fun x hx => List.mem_of_mem_eraseIdx hx
        have k10m := k9m.exb b10 h9r
        have k10d := (k9r.exb b10 h9r) _ (List.getElem_mem hd)
        have h10m := b10 _ _ nmr h9m
        have h10n := b10 _ _ nrn.symm h9n
        have hB10 := hB9.ne (o := .lst (rs.eraseIdx d)) nbr.symm
        have x10 : ExB b H (upd H9 pr (.lst (rs.eraseIdx d))) := fun a o na ha => by
          rw [upd_ne (ne_of_none ha npr)]
          exact x9 _ _ na (x08 _ _ na ha)
        generalize upd H9 pr (.lst (rs.eraseIdx d)) = H10 at h10r k10r k10m k10d h10m h10n hB10 x10 ⊢
        refine ⟨pm, ms, rs[d], rfl, rfl, h10m, by omega, ?_⟩
        have b11 : ExB pm H10 (upd H10 pm (.lst (ms ++ [rs[d]]))) := ExB.set
        have le := List.length_eraseIdx_of_lt hd
        refine ⟨rs.length - 1, by omega, rs.eraseIdx d, ms ++ [rs[d]], rfl, le.symm, by simp; omega, b11 _ _ nmr.symm h10r, upd_same, b11 _ _ nmn.symm h10n, k10r.exb b11 h10m, fun x hx => ?_, (hB10.ne nbm.symm).up (by simp; omega), fun a o na ha => ?_⟩
        · rcases List.mem_append.mp hx with h | h
          · exact (k10m.exb b11 h10m) x h
          · rw [List.mem_singleton.mp h]
            exact k10d.exb b11 h10m
        · rw [upd_ne (ne_of_none ha npm)]
          exact x10 _ _ na ha
      | nil =>
        refine ite0 (by decide) (nx_p ?_)
        have lm : ms.length = n1 := by rw [hrs] at lrm; simpa using lrm
        refine seq_l (asg_l (lst_l ⟨_, rfl, _, rfl, _, rfl, pm, ms, rfl, SqL.of h8m, fun p9 hp9 => ⟨_, rfl, _, rfl, pm, ms, rfl, SqL.of ((Ex.new hp9) _ _ h8m), fun p10 hp10 => ⟨p10, _, rfl, .inl (SqL.of upd_same), fun p11 hp11 => ⟨by show 3 ≤ sizeLine; decide, fun p12 hp12 => nx_p ?_⟩⟩⟩⟩))
        have hH8 : Has (Alloc H) H8 := Has.exb x08 hb8 fun a h => h
        have i8 : IBs (Alloc H) H8 (cutV ms none (some 24)) := k8m.ib.mem fun x hx => cutV_mem hx
        have l8 : (cutV ms none (some 24)).length ≤ 30 := by
          have : (cutV ms none (some 24)).length = min 24 ms.length := cutV_pre ms 24
          omega
        have s9 := SL.new hH8 hp9 i8
        have e9 : Ex H8 (upd H8 p9 (.lst (cutV ms none (some 24)))) := Ex.new hp9
        have hb9 := e9 _ _ hb8
        have i9 := i8.ext e9
        have hB9 := hB8.ex e9
        generalize upd H8 p9 (.lst (cutV ms none (some 24))) = H9 at s9 e9 hp10 hb9 i9 hB9 hp11 hp12 ⊢
        have e10 : Ex H9 (upd H9 p10 (.lst (cutV ms none (some 24)))) := Ex.new hp10
        have i10 := i9.ext e10
        have hB10 := hB9.ex e10
        generalize upd H9 p10 (.lst (cutV ms none (some 24))) = H10 at e10 i10 hB10 hp11 hp12 ⊢
        have s11 := SL.new (hH8.ext (e9.trans e10)) hp11 i10
        have e11 : Ex H10 (upd H10 p11 (.lst (cutV ms none (some 24)))) := Ex.new hp11
        have s9' := (s9.ext e10).ext e11
        have hB11 := hB10.ex e11
        generalize upd H10 p11 (.lst (cutV ms none (some 24))) = H11 at s11 e11 s9' hB11 hp12 ⊢
        have e12 : Ex H11 (upd H11 p12 (.lst [.ref pm, .ref p9, .ref p11])) := Ex.new hp12
        have e811 := e9.trans (e10.trans e11)
        have hb11 := e811 _ _ hb8
        have S12 : Sit (Alloc H) b pm pn p12 ms ys [.ref pm, .ref p9, .ref p11] H (upd H11 p12 (.lst [.ref pm, .ref p9, .ref p11])) (m + 160) := by
          have e812 := e811.trans e12
          refine ⟨e812 _ _ h8m, e812 _ _ h8n, k8m.ext e812, upd_same, ?_, ⟨_, hb0⟩, hH8.ext e812, (hH8.ext e811).new hp12, (hB8.ex e812).up (by omega), x08.trans (Ex.but e812), nbm, nb2, (ne_of_none hb11 hp12).symm⟩
          exact .cons (.seq (.inl (e812 _ _ h8m)) (not_alloc npm) (by omega) (k8m.ib.ext e812)) (.cons ((s9'.ext e12).lb l8) (.cons ((s11.ext e12).lb l8) .nil))
        generalize upd H11 p12 (.lst [.ref pm, .ref p9, .ref p11]) = H12 at S12 ⊢
        refine seq_l (join_l (α := L2.St × Addr × List V) (S := fun a => a.1) (R := fun a H1 => a.1[2]? = some (some (.ref pn)) ∧ a.1[6]? = some (some (.ref a.2.1)) ∧ Sit (Alloc H) b pm pn a.2.1 ms ys a.2.2 H H1 (m + 199) ∧ 3 ≤ a.2.2.length ∧ a.2.2.length ≤ 12) (fun a H1 ha => ?_) (fun main => ?_))
        · obtain ⟨σ1, pv, xs⟩ := a
          obtain ⟨g2, g6, S1, lx1, lx2⟩ := ha
          have lx1 : 3 ≤ xs.length := lx1
          have lx2 : xs.length ≤ 12 := lx2
          have S1 : Sit (Alloc H) b pm pn pv ms ys xs H H1 (m + 199) := S1
          have g6 : σ1[6]? = some (some (.ref pv)) := g6
          obtain ⟨xb1, hb1⟩ := S1.B.at_
          refine nx_p (ret_l (tup_l ⟨_, g2, ?_⟩))
          refine grow_fresh (n := 9) (Pc := fun cs H' => LBs (Alloc H) H' cs ∧ cs.length = 9) g6 S1.v (fun Q z => (show LbL (Alloc H) _ _ 9 from (lb_cons lb_non (lb_cons lb_dnew (lb_cons lb_disp1 (lb_cons lb_str (lb_cons lb_int (lb_cons lb_bl (lb_cons (lb_tup (il_cons it_cs (il_cons it_ci il_nil)) (by decide)) (lb_cons (lb_lst (il_cons (it_two (st_c (n := 1) (by decide)) (by decide) mi_c) (il_cons it_non il_nil)) (by decide)) (lb_cons (lb_lst (il_cons it_t0 il_nil) (by decide)) lb_nil)))))))))) _ Q S1.hH z) (fun _ _ z => z.2) (by omega) (fun p cs H2 H2b H3 e2 hc e2b hp e3b h3 => ⟨by show 2 ≤ sizeLine; decide, fun r hr => ?_⟩)
          have e3 := e2b.trans e3b
          have e13 := e2.trans e3
          have S3 := S1.ext e13
          have e4 : Ex H3 (upd H3 r (.tup [.ref pn, .ref p])) := Ex.new hr
          have S4 := S3.ext e4
          have lt : (xs ++ cs).length = xs.length + 9 := by rw [List.length_append, hc.2]
          have nbp := ((S1.hH.ext e2).ext e2b).new hp
          exact q r pn p ys (xs ++ cs) _ S4.x (S4.B.up (by omega)) upd_same S4.n (e4 _ _ h3) (not_alloc (fresh_back x01 n2 nb2)) nbp (by omega) (by omega) hy (by omega) ((S3.l.app (hc.1.ext e3)).ext e4)
        · refine ⟨_, rfl, Nat.zero_le _, fun p13 hp13 => ⟨pm, p13, ms, rfl, rfl, SqL.of ((Ex.new hp13) _ _ S12.m), SqL.of upd_same, _, rfl, ?_⟩⟩
          have S13 := S12.ext (Ex.new (o := .lst []) hp13)
          generalize upd H12 p13 (.lst []) = H13 at S13 ⊢
          cases hms : ms with
          | nil =>
            refine ite0 (by decide) ?_
            rw [hms] at S13
            exact main (_, p12, [.ref pm, .ref p9, .ref p11]) _ ⟨rfl, rfl, by rw [hms]; exact ⟨S13.m, S13.n, S13.k, S13.v, S13.l, S13.hF, S13.hH, S13.nf, S13.B.up (by omega), S13.x, S13.nm, S13.nn, S13.nv⟩, by show 3 ≤ 3; decide, by show 3 ≤ 12; decide⟩
          | cons m0 mt =>
            rw [← hms]
            have lm1 : 1 ≤ ms.length := by rw [hms]; simp
            refine ite1 (by rw [hms]; rfl) ?_
            have ly2 : 2 ≤ ys.length := by omega
            have ly3 : ys.length ≤ 30 := by omega
            refine forB_by (b := b) (J := Itr 0 3) (n := 3) (item := fun i => .int (i : Int)) (fun j σ1 H1 => ∃ (pv : Addr) (xs : List V) (s7 s8 s9 s10 s11 s12 : Option V), σ1 = [some (.ref b), some (.int (n1 : Int)), some (.ref pn), some (.ref pr), none, some (.ref pm), some (.ref pv), s7, s8, s9, s10, s11, s12] ∧ Sit (Alloc H) b pm pn pv ms ys xs H H1 (m + 160 + 8 * j) ∧ xs.length = 3 + 3 * j) (fun R h => ⟨3, rfl, by decide, by decide, h⟩) walksB_rng0 ⟨p12, _, none, none, none, none, none, none, rfl, S13, rfl⟩ (fun j σ1 H20 N hj x20 hp kk => ?_) (fun σ1 H20 x20 hp => ?_)
            · obtain ⟨pv, xs, s7, s8, s9, s10, s11, s12, rfl, S20, lx⟩ := hp
              have x020 := S20.x
              replace S20 : Sit (Alloc H) b pm pn pv ms ys xs H20 H20 (m + 160 + 8 * j) := ⟨S20.m, S20.n, S20.k, S20.v, S20.l, S20.hF, S20.hH, S20.nf, S20.B, ExB.refl, S20.nm, S20.nn, S20.nv⟩
              have hcast : (if (ms.length : Int) < 24 then (ms.length : Int) else 24) = ((if ms.length < 24 then ms.length else 24 : Nat) : Int) := by
                split <;> split <;> omega
              have hL1 : 1 ≤ (if ms.length < 24 then ms.length else 24) := by split <;> omega
              have hL2 : (if ms.length < 24 then ms.length else 24) = min 24 ms.length := by split <;> omega
              refine seq_l (asg_l (take_l (b := b) (n := if ms.length < 24 then ms.length else 24) (m := m + 160 + 8 * j) (fun R r => ⟨_, rfl, r⟩) (fun R r => ⟨_, rfl, pm, _, rfl, .inl (SqL.of S20.m), 24, (ms.length : Int), rfl, by rw [hcast]; exact r⟩) hL1 (by omega) (by omega) S20.B fun d H21 hd x21 hB21 => nx_p ?_))
              have S21 := S20.box x21 hB21
              have hd2 : d < min 24 ms.length := by omega
              have lpre : (cutV ms none (some (d : Int))).length = min d ms.length := cutV_pre ms d
              have lmid : (cutV ms (some ((d : Int) + 1)) (some 24)).length = min 24 ms.length - (d + 1) := cutV_mid ms (d + 1) 24
              refine seq_l (asg_l (op_l (op_l ⟨_, rfl, _, rfl, _, rfl, pm, ms, rfl, SqL.of S21.m, fun p22 hp22 => ?_⟩)))
              have s22 := SL.new S21.hH hp22 (S21.k.ib.mem (xs := cutV ms none (some (d : Int))) fun x hx => cutV_mem hx)
              have S22 := S21.ext (Ex.new (o := .lst (cutV ms none (some (d : Int)))) hp22)
              generalize upd H21 p22 (.lst (cutV ms none (some (d : Int)))) = H22 at s22 S22 ⊢
              refine item_l (mm := m + 160 + 8 * j + 1) rfl rfl rfl rfl S22.hF S22.hH S22.m S22.k S22.n (by omega) ly2 ly3 hy S22.B (by omega) (fun p23 v H23 x23 hB23 hv h23 nb23 => ?_)
              have S23 := S22.box x23 hB23
              have s23 := s22.box S22.hF x23 S22.B hB23
              refine ⟨p22, p23, _, _, rfl, rfl, s23.h, h23, by show _ + 1 ≤ sizeLine; omega, fun p24 hp24 => ?_⟩
              have s24 := SL.new S23.hH hp24 (s23.i.app (.cons hv .nil))
              have S24 := S23.ext (Ex.new (o := .lst (cutV ms none (some (d : Int)) ++ [v])) hp24)
              generalize upd H23 p24 (.lst (cutV ms none (some (d : Int)) ++ [v])) = H24 at s24 S24 ⊢
              refine ⟨_, rfl, _, rfl, _, _, rfl, rfl, _, rfl, _, rfl, pm, ms, rfl, SqL.of S24.m, fun p25 hp25 => ?_⟩
              have s25 := SL.new S24.hH hp25 (S24.k.ib.mem (xs := cutV ms (some ((d : Int) + 1)) (some 24)) fun x hx => cutV_mem hx)
              have S25 := S24.ext (Ex.new (o := .lst (cutV ms (some ((d : Int) + 1)) (some 24))) hp25)
              have s24' := s24.ext (Ex.new (o := .lst (cutV ms (some ((d : Int) + 1)) (some 24))) hp25)
              generalize upd H24 p25 (.lst (cutV ms (some ((d : Int) + 1)) (some 24))) = H25 at s25 S25 s24' ⊢
              have lA : ((cutV ms none (some (d : Int)) ++ [v]) ++ cutV ms (some ((d : Int) + 1)) (some 24)).length = min 24 ms.length := by
                simp only [List.length_append, List.length_cons, List.length_nil]
                omega
              refine ⟨p24, p25, _, _, rfl, rfl, s24'.h, s25.h, by simp only [List.length_append, List.length_cons, List.length_nil] at lA ⊢; omega, fun p26 hp26 => nx_p ?_⟩
              have s26 := SL.new S25.hH hp26 (s24'.i.app s25.i)
              have S26 := S25.ext (Ex.new (o := .lst ((cutV ms none (some (d : Int)) ++ [v]) ++ cutV ms (some ((d : Int) + 1)) (some 24))) hp26)
              generalize upd H25 p26 (.lst ((cutV ms none (some (d : Int)) ++ [v]) ++ cutV ms (some ((d : Int) + 1)) (some 24))) = H26 at s26 S26 ⊢
              generalize (cutV ms none (some (d : Int)) ++ [v]) ++ cutV ms (some ((d : Int) + 1)) (some 24) = A1 at lA s26
              refine seq_l (asg_l (take_l (b := b) (n := A1.length) (m := m + 160 + 8 * j + 3) (fun R r => ⟨_, rfl, r⟩) (fun R r => ⟨_, rfl, p26, _, rfl, .inl (SqL.of s26.h), r⟩) (by omega) (by omega) (by omega) S26.B fun c H27 hc x27 hB27 => nx_p ?_))
              have S27 := S26.box x27 hB27
              have s27 := s26.box S26.hF x27 S26.B hB27
              have hc2 : c < min 24 ms.length := by omega
              have lpre2 : (cutV A1 none (some (c : Int))).length = min c A1.length := cutV_pre A1 c
              have lsuf2 : (cutV A1 (some ((c : Int) + 1)) none).length = A1.length - (c + 1) := cutV_suf A1 (c + 1)
              refine seq_l (asg_l (op_l (op_l ⟨_, rfl, _, rfl, _, rfl, p26, A1, rfl, SqL.of s27.h, fun p28 hp28 => ?_⟩)))
              have s28 := SL.new S27.hH hp28 (s27.i.mem (xs := cutV A1 none (some (c : Int))) fun x hx => cutV_mem hx)
              have e28 : Ex H27 (upd H27 p28 (.lst (cutV A1 none (some (c : Int))))) := Ex.new hp28
              generalize upd H27 p28 (.lst (cutV A1 none (some (c : Int)))) = H28 at s28 e28 ⊢
              have S28 := S27.ext e28
              have t28 := s27.ext e28
              refine item_l (mm := m + 160 + 8 * j + 4) rfl rfl rfl rfl S28.hF S28.hH S28.m S28.k S28.n (by omega) ly2 ly3 hy S28.B (by omega) (fun p29 v2 H29 x29 hB29 hv2 h29 nb29 => ?_)
              have S29 := S28.box x29 hB29
              have s29 := s28.box S28.hF x29 S28.B hB29
              have t29 := t28.box S28.hF x29 S28.B hB29
              refine ⟨p28, p29, _, _, rfl, rfl, s29.h, h29, by show _ + 1 ≤ sizeLine; omega, fun p30 hp30 => ?_⟩
              have s30 := SL.new S29.hH hp30 (s29.i.app (.cons hv2 .nil))
              have e30 : Ex H29 (upd H29 p30 (.lst (cutV A1 none (some (c : Int)) ++ [v2]))) := Ex.new hp30
              generalize upd H29 p30 (.lst (cutV A1 none (some (c : Int)) ++ [v2])) = H30 at s30 e30 ⊢
              have S30 := S29.ext e30
              have t30 := t29.ext e30
              refine ⟨_, rfl, _, rfl, _, _, rfl, rfl, _, rfl, p26, A1, rfl, SqL.of t30.h, fun p31 hp31 => ?_⟩
              have s31 := SL.new S30.hH hp31 (t30.i.mem (xs := cutV A1 (some ((c : Int) + 1)) none) fun x hx => cutV_mem hx)
              have e31 : Ex H30 (upd H30 p31 (.lst (cutV A1 (some ((c : Int) + 1)) none))) := Ex.new hp31
              generalize upd H30 p31 (.lst (cutV A1 (some ((c : Int) + 1)) none)) = H31 at s31 e31 ⊢
              have S31 := S30.ext e31
              have t31 := t30.ext e31
              have u31 := s30.ext e31
              have lA2 : ((cutV A1 none (some (c : Int)) ++ [v2]) ++ cutV A1 (some ((c : Int) + 1)) none).length = A1.length := by
                simp only [List.length_append, List.length_cons, List.length_nil]
                omega
              refine ⟨p30, p31, _, _, rfl, rfl, u31.h, s31.h, by simp only [List.length_append, List.length_cons, List.length_nil] at lA2 ⊢; omega, fun p32 hp32 => nx_p ?_⟩
              have s32 := SL.new S31.hH hp32 (u31.i.app s31.i)
              have e32 : Ex H31 (upd H31 p32 (.lst ((cutV A1 none (some (c : Int)) ++ [v2]) ++ cutV A1 (some ((c : Int) + 1)) none))) := Ex.new hp32
              generalize upd H31 p32 (.lst ((cutV A1 none (some (c : Int)) ++ [v2]) ++ cutV A1 (some ((c : Int) + 1)) none)) = H32 at s32 e32 ⊢
              generalize (cutV A1 none (some (c : Int)) ++ [v2]) ++ cutV A1 (some ((c : Int) + 1)) none = A2 at lA2 s32
              have S32 := S31.ext e32
              have t32 := t31.ext e32
              have l23 : (cutV ms none (some (23 : Int))).length = min 23 ms.length := cutV_pre ms 23
              refine seq_l (asg_l (op_l ⟨_, rfl, _, rfl, pm, ms, rfl, SqL.of S32.m, fun p33 hp33 => ?_⟩))
              have s33 := SL.new S32.hH hp33 (S32.k.ib.mem (xs := cutV ms none (some (23 : Int))) fun x hx => cutV_mem hx)
              have e33 : Ex H32 (upd H32 p33 (.lst (cutV ms none (some (23 : Int))))) := Ex.new hp33
              generalize upd H32 p33 (.lst (cutV ms none (some (23 : Int)))) = H33 at s33 e33 ⊢
              have S33 := S32.ext e33
              have t33 := t32.ext e33
              have u33 := s32.ext e33
              have hdm : d < ms.length := by omega
              obtain ⟨tt, z3, c3, et, ht3, hz3⟩ := S33.k _ (List.getElem_mem hdm)
              refine lst_l (cons_l (tup_l (cons_l (op_l (op_l ⟨_, rfl, _, rfl, pm, ms, (d : Int), .ref tt, rfl, rfl, SqL.of S33.m, atI_nat (by rw [List.getElem?_eq_getElem hdm, et]), tt, _, 0, .str z3, rfl, rfl, SqT.of ht3, atI_nat (j := 0) rfl, ?_⟩)))))
              refine cons_l (take_l (b := b) (n := 4) (m := m + 160 + 8 * j + 6) (fun R r => ⟨_, rfl, r⟩) (fun R r => r) (by decide) (by decide) (by omega) S33.B fun d4 H34 hd4 x34 hB34 => ⟨by show 2 ≤ sizeLine; decide, fun p35 hp35 => ?_⟩)
              have S34 := S33.box x34 hB34
              have t34 := t33.box S33.hF x34 S33.B hB34
              have u34 := u33.box S33.hF x34 S33.B hB34
              have s34 := s33.box S33.hF x34 S33.B hB34
              have e35 : Ex H34 (upd H34 p35 (.tup [.str z3, .int (d4 : Int)])) := Ex.new hp35
              have i35 : IB (Alloc H) (upd H34 p35 (.tup [.str z3, .int (d4 : Int)])) (.ref p35) := ⟨.two upd_same (.str z3) (fun y e => by cases e; omega) (.int _), _, .tup upd_same (.cons (.str z3) (.cons (.int _) .nil)), by decide⟩
              generalize upd H34 p35 (.tup [.str z3, .int (d4 : Int)]) = H35 at e35 i35 ⊢
              refine ⟨by show 1 ≤ sizeLine; decide, fun p36 hp36 => ?_⟩
              have e36 : Ex H35 (upd H35 p36 (.lst [.ref p35])) := Ex.new hp36
              have h36 : upd H35 p36 (.lst [.ref p35]) p36 = some (.lst [.ref p35]) := upd_same
              generalize upd H35 p36 (.lst [.ref p35]) = H36 at e36 h36 ⊢
              have e3436 := e35.trans e36
              have S36 := S34.ext e3436
              have s36 := s34.ext e3436
              refine ⟨p33, p36, _, _, rfl, rfl, s36.h, h36, by show _ + 1 ≤ sizeLine; omega, fun p37 hp37 => nx_p ?_⟩
              have s37 := SL.new S36.hH hp37 (s36.i.app (.cons (i35.ext e36) .nil))
              have e37 : Ex H36 (upd H36 p37 (.lst (cutV ms none (some (23 : Int)) ++ [.ref p35]))) := Ex.new hp37
              generalize upd H36 p37 (.lst (cutV ms none (some (23 : Int)) ++ [.ref p35])) = H37 at s37 e37 ⊢
              have S37 := S36.ext e37
              have t37 := t34.ext (e3436.trans e37)
              have u37 := u34.ext (e3436.trans e37)
              have lA3 : (cutV ms none (some (23 : Int)) ++ [V.ref p35]).length ≤ 24 := by
                simp only [List.length_append, List.length_cons, List.length_nil]
                omega
              generalize cutV ms none (some (23 : Int)) ++ [.ref p35] = A3 at lA3 s37
              refine asg_l (op_l ⟨_, rfl, lst_l ⟨_, rfl, _, rfl, _, rfl, p37, A3, rfl, SqL.of s37.h, fun p38 hp38 => ?_⟩⟩)
              have s38 := SL.new S37.hH hp38 (s37.i.mem (xs := A3.reverse) fun x hx => List.mem_reverse.mp hx)
              have e38 : Ex H37 (upd H37 p38 (.lst A3.reverse)) := Ex.new hp38
              generalize upd H37 p38 (.lst A3.reverse) = H38 at s38 e38 ⊢
              refine ⟨by show 3 ≤ sizeLine; decide, fun p39 hp39 => ?_⟩
              have e39 : Ex H38 (upd H38 p39 (.lst [.ref p26, .ref p32, .ref p38])) := Ex.new hp39
              have h39 : upd H38 p39 (.lst [.ref p26, .ref p32, .ref p38]) p39 = some (.lst [.ref p26, .ref p32, .ref p38]) := upd_same
              generalize upd H38 p39 (.lst [.ref p26, .ref p32, .ref p38]) = H39 at e39 h39 ⊢
              have S39 := (S37.ext e38).ext e39
              refine ⟨pv, p39, _, _, rfl, rfl, S39.v, h39, by show _ + 3 ≤ sizeLine; omega, fun p40 hp40 => ?_⟩
              have e40 : Ex H39 (upd H39 p40 (.lst (xs ++ [.ref p26, .ref p32, .ref p38]))) := Ex.new hp40
              have S40 := S39.ext e40
              obtain ⟨u39, g39⟩ := S39.B.at_
              have e3740 := e38.trans (e39.trans e40)
              have l40 : LBs (Alloc H) (upd H39 p40 (.lst (xs ++ [.ref p26, .ref p32, .ref p38]))) (xs ++ [.ref p26, .ref p32, .ref p38]) :=
                S40.l.app (.cons ((t37.ext e3740).lb (by omega)) (.cons ((u37.ext e3740).lb (by omega)) (.cons ((s38.ext (e39.trans e40)).lb (by rw [List.length_reverse]; omega)) .nil)))
              exact kk _ _ S40.x ⟨p40, _, _, _, _, _, _, _, rfl, ⟨S40.m, S40.n, S40.k, upd_same, l40, S40.hF, S40.hH, S39.hH.new hp40, S40.B.up (by omega), x020.trans S40.x, S40.nm, S40.nn, (ne_of_none g39 hp40).symm⟩, by simp [lx]; omega⟩
            · obtain ⟨pv, xs, s7, s8, s9, s10, s11, s12, rfl, S20, lx⟩ := hp
              exact main (_, pv, xs) _ ⟨rfl, rfl, ⟨S20.m, S20.n, S20.k, S20.v, S20.l, S20.hF, S20.hH, S20.nf, S20.B.up (by omega), S20.x, S20.nm, S20.nn, S20.nv⟩, by show 3 ≤ xs.length; omega, by show xs.length ≤ 12; omega⟩
end
end D0

namespace D0
open PySem PySem.Spec PyProof.Rows L2 L2H HotX Evl K9
theorem nodup_filter (ys : List Str) (f : Nat → V) : (((List.range ys.length).filter fun k => decide (ys.getD k "" ∈ ys.take k)).map f).isEmpty = decide ys.Nodup := by
  have e : (((List.range ys.length).filter fun k => decide (ys.getD k "" ∈ ys.take k)).map f).isEmpty = ((List.range ys.length).filter fun k => decide (ys.getD k "" ∈ ys.take k)).isEmpty := by
    cases ((List.range ys.length).filter fun k => decide (ys.getD k "" ∈ ys.take k)) <;> rfl
  rw [e, Bool.eq_iff_iff, List.isEmpty_iff, decide_eq_true_eq, List.filter_eq_nil_iff]
  constructor
  · intro h
    refine List.pairwise_iff_getElem.mpr fun i j hi hj hij he => ?_
    refine h j (List.mem_range.mpr hj) (decide_eq_true ?_)
    rw [List.getD_eq_getElem?_getD, List.getElem?_eq_getElem hj, Option.getD_some, ← he]
    exact List.mem_take_iff_getElem.mpr ⟨i, by omega, rfl⟩
  · intro h k hk hm
    have hk := List.mem_range.mp hk
    have hm := of_decide_eq_true hm
    rw [List.getD_eq_getElem?_getD, List.getElem?_eq_getElem hk, Option.getD_some] at hm
    obtain ⟨i, hi, he⟩ := List.mem_take_iff_getElem.mp hm
    exact (List.pairwise_iff_getElem.mp h) i k (by omega) hk (by omega) he
theorem cutV_take (xs : List V) (n : Nat) : cutV xs none (some (n : Int)) = xs.take n := by
  unfold cutV
  rw [sIx_nat]
  unfold HT.sIx
  simp only [Nat.sub_zero, List.drop_zero]
  by_cases h : n ≤ xs.length
  · rw [Nat.min_eq_left h]
  · rw [Nat.min_eq_right (by omega), List.take_of_length_le (Nat.le_refl _), List.take_of_length_le (by omega)]
section
variable {P : Program} {w : World} {K : PySem.W.Frag} {mg : Str → Option Value} {base : Heap} {f : Addr} {fd : FuncData} {k : Nat}
def spNamesDue (K : PySem.W.Frag) : Sp := fun vs H Q _ => ∃ (v : V) (o : Option (List (Option (Str × Int)))), vs = [v] ∧ ListQ K H v o ∧ ∀ H', Ex H H' → Q (.bl (onList o)) H'
abbrev s_names_due : Stmt := top 41
abbrev N_names_due : List Str := ["value", "item", "words", "k"]
theorem sc_names_due : FnScope N_names_due ["value"] (defScope s_names_due) := ⟨rfl, rfl, rfl, by decide +kernel, rfl, by decide +kernel, by decide +kernel⟩
theorem ok_names_due (T : Txt K mg) (k_name_due : OkC P w K mg base k "_law_name_due" ["value"] (spDue K nameB)) (F : FunD K "_law_names_due" "_law_names_due" (defArgs s_names_due) (defBody s_names_due) (defScope s_names_due) [] [] f fd) (hm : mg "_law_names_due" = some (.ref f)) : OkC P w K mg base (k + 1) "_law_names_due" ["value"] (spNamesDue K) := by
  refine okC_of F hm sc_names_due (fun _ _ _ _ _ _ us hl => match us, hl with | [_], _ => rfl) (fun vs H Q E h => ?_) (fun cdv A outer s H vs Q E hr h => ?_)
  · obtain ⟨v, o, rfl, _⟩ := h
    rfl
  · obtain ⟨v, o, rfl, hv, q⟩ := h
    refine ⟨_, PSs.nox (pss_cons (ps_if (pw_or (pt_not (pt_val (pe_callB call_isiT (by rfl) T.f_isinstance (by decide +kernel) (pa_cons (pv 0) (pa_cons (pe_tup (pa_cons (pe_bltn (v := .ty "list") (by rfl) T.f_list (by decide +kernel) rfl) (pa_cons (pe_bltn (v := .ty "tuple") (by rfl) T.f_tuple (by decide +kernel) rfl) pa_nil))) pa_nil))))) (pw_or1 (pt_cmpR op_gt (pe_callB call_len_seq (by rfl) T.f_len (by decide +kernel) (pa_cons (pv 0) pa_nil)) pe_int (nomark _)))).pt (pss_one (ps_ret pe_bl)) pss_nil) (pss_cons (ps_for PassesOwn.never rfl (pi_seq (pv 0)) (pg_name (i := 1) sc_names_due.nd rfl (Or.inl rfl)) (pss_cons (ps_if (pw_or (pt_not (pt_val (pe_callB call_isi (by rfl) T.f_isinstance (by decide +kernel) (pa_cons (pv 1) (pa_cons (pe_bltn (v := .ty "tuple") (by rfl) T.f_tuple (by decide +kernel) rfl) pa_nil))))) (pw_or (pt_cmpR op_ne (pe_callB call_len_seq (by rfl) T.f_len (by decide +kernel) (pa_cons (pv 1) pa_nil)) pe_int (nomark _)) (pw_or1 (pt_not (pt_val (pe_callK0 k_name_due hr (by rfl) (pa_cons (pe_ix ix_tup (pv 1) pe_int fun _ _ => rfl) pa_nil))))))).pt (pss_one (ps_ret pe_bl)) pss_nil) (pss_one (ps_if (pw_or (pt_not (pt_val (pe_callB call_isi (by rfl) T.f_isinstance (by decide +kernel) (pa_cons (pe_ix ix_tup (pv 1) pe_int fun _ _ => rfl) (pa_cons (pe_bltn (v := .ty "int") (by rfl) T.f_int (by decide +kernel) rfl) pa_nil))))) (pw_or (pt_val (pe_callB call_isi (by rfl) T.f_isinstance (by decide +kernel) (pa_cons (pe_ix ix_tup (pv 1) pe_int fun _ _ => rfl) (pa_cons (pe_bltn (v := .ty "bool") (by rfl) T.f_bool (by decide +kernel) rfl) pa_nil)))) (pw_or1 (pt_not (pt_chain op_le op_le pe_int (pe_ix ix_tup (pv 1) pe_int fun _ _ => rfl) pe_int))))).pt (pss_one (ps_ret pe_bl)) pss_nil)))) (pss_cons (ps_set (i := 2) sc_names_due.nd rfl (Or.inr rfl) (pe_lc (own := [("item", 1)]) (g := gName 1) rfl sc_names_due.nd (pi_seq (pv 0)) (blkOk_by (N := N_names_due) (sc := defScope s_names_due) (by decide +kernel)) (fun _ _ _ _ _ => pg_name (i := 1) sc_names_due.nd rfl (Or.inl rfl)) (fun _ _ _ _ _ => pts_nil) (fun _ _ _ _ _ => (pe_ix (show IxR _ (rIxT K) from ix_tup) (pv 1) pe_int fun _ _ => rfl)))) (pss_one (ps_ret (pe_cmpR (op_eq0 (huC (roomH_of hr))) (pe_lc (own := [("k", 3)]) (g := gName 3) rfl sc_names_due.nd (pi_range1 (by rfl) T.f_range (pa_cons (pe_callB call_len_seq (by rfl) T.f_len (by decide +kernel) (pa_cons (pv 2) pa_nil)) pa_nil)) (blkOk_by (N := N_names_due) (sc := defScope s_names_due) (by decide +kernel)) (fun _ _ _ _ _ => pg_name (i := 3) sc_names_due.nd rfl (Or.inl rfl)) (fun _ _ _ _ _ => (pts_one (pt_cmpR (show OpR _ _ (rIn K false) from op_in_seq) (pe_ix (show IxR _ (rIxL K) from ix_list) (pv 2) (pv 3) fun _ _ => rfl) (pe_slice (show SlR _ (rSlL K) from sl_list) (pv 2) po_none (po_some (pv 3))) (by rfl)))) (fun _ _ _ _ _ => (pv 3))) (pe_lst pa_nil) (nomark _))))))), ?_⟩
    have sz := sizeLine_eq
    cases hv with
    | other h n m =>
      refine ⟨_, rfl, ?_⟩
      dsimp only [tCons, tC, tNil, tTup]
      refine ⟨by decide, fun t ht => ?_⟩
      have e1 := Ex.new (o := .tup [.ty "list", .ty "tuple"]) ht
      refine Bas.isT (T1 := "list") (T2 := "tuple") (r := false) (h.ext e1) upd_same ?_ ?_
      · cases h <;> first
          | rfl
          | exact absurd rfl n
          | exact absurd rfl m
      refine ⟨_, rfl, ite1 (by decide) (ite1 rfl ?_)⟩
      exact q _ e1
    | @seq a xs rs h m r =>
      refine ⟨_, rfl, ?_⟩
      dsimp only [tCons, tC, tNil, tTup]
      refine ⟨by decide, fun t ht => ?_⟩
      have e1 := Ex.new (o := .tup [.ty "list", .ty "tuple"]) ht
      obtain ⟨s, hs, hb⟩ := h.bas
      refine Bas.isT (T1 := "list") (T2 := "tuple") (r := true) (hb.ext e1) upd_same ?_ ?_
      · rcases hs with rfl | rfl <;> rfl
      refine ⟨_, rfl, ite0 (by decide) ?_⟩
      have h1 := h.ext e1
      have lr := r.length
      refine ⟨_, rfl, a, xs, rfl, h1.len, _, _, rfl, rfl, _, rfl, ?_⟩
      by_cases hl : 24 < xs.length
      · refine ite1 (decide_eq_true (by omega)) ?_
        have y := q _ e1
        rw [show onList (some rs) = false from by simp [onList, goodL]; omega] at y
        exact y
      · refine ite0 (by simp; omega) (nx_l ?_)
        obtain ⟨J, wk, tw⟩ := h1.walk (K := K)
        refine seq_l (for_by (J := J) (n := xs.length) (item := fun i => xs.getD i .non) (fun j σ1 H1 => ∃ o1 o2 o3, σ1 = [some (.ref a), o1, o2, o3] ∧ ∀ i, i < j → (rs.getD i none).isSome = true) (fun R hR => ⟨_, rfl, a, rfl, tw R hR⟩) wk ⟨_, _, _, rfl, fun i hi => absurd hi (Nat.not_lt_zero i)⟩ (fun j σ1 H1 N hj e hp kN => ?_) (fun σ1 H1 e hp => ?_))
        · obtain ⟨o1, o2, o3, rfl, hp⟩ := hp
          obtain ⟨x, y, hx, hy, hq⟩ := paired_at r hj
          have hq := hq.ext (e1.trans e)
          have ee := e1.trans e
          have hit : xs.getD j V.non = x := by rw [List.getD_eq_getElem?_getD, hx]; rfl
          rw [hit]
          have bad : y.isSome = false → onList (some rs) = false := fun hn => by
            show (decide (rs.length ≤ 24) && (rs.all (·.isSome) && _)) = false
            rw [show rs.all (·.isSome) = false from by
              rw [Bool.eq_false_iff]
              intro ha
              rw [List.all_eq_true.mp ha y (List.mem_of_getElem? hy)] at hn
              cases hn]
            simp
          have good : y.isSome = true → ∀ i, i < j + 1 → (rs.getD i none).isSome = true := fun hn i hi => by
            by_cases hij : i = j
            · rw [hij, List.getD_eq_getElem?_getD, hy]
              exact hn
            · exact hp i (by omega)
          have qb : y.isSome = false → ∀ H', Ex H H' → Q (.bl false) H' := fun hn H' e' => by
            have z := q H' e'
            rw [bad hn] at z
            exact z
          have two : ∀ (D : Ends), (∀ H', Ex H H' → y.isSome = false → D.rt (.bl false) H') → (∀ σ2 H2, Ex H1 H2 → y.isSome = true → σ2 = [some (.ref a), some x, o2, o3] → D.nx σ2 H2) → ∀ {t : Addr} {a1 b1 : V} (o : Option Str) (p : Option Int), x = .ref t → H1 t = some (.tup [a1, b1]) → MayStr K H1 a1 o → MayInt b1 p → y.isSome = rowB nameB o p →
              tSeq (tIfS (tOr (tNot (tB (tCB (rIsi K) (tCons (tVar 1) (tCons (tC (.ty "tuple")) tNil))))) (tOr (tTest (tOp rNe (tCB (fun xs H_1 Q => ∃ (p : Addr) (ys : List V), xs = [V.ref p] ∧ (SqL K H_1 p ys ∨ SqT K H_1 p ys) ∧ Q (V.int (ys.length : Int)) H_1) (tCons (tVar 1) tNil)) (tC (.int 2)))) (tNot (tB (tCallB (spDue K nameB) (tCons (tOp (rIxT K) (tVar 1) (tC (.int 0))) tNil)))))) (tRet (tC (.bl false))) tNext)
                (tIfS (tOr (tNot (tB (tCB (rIsi K) (tCons (tOp (rIxT K) (tVar 1) (tC (.int 1))) (tCons (tC (.ty "int")) tNil))))) (tOr (tB (tCB (rIsi K) (tCons (tOp (rIxT K) (tVar 1) (tC (.int 1))) (tCons (tC (.ty "bool")) tNil)))) (tNot (tTest (tChain (rI0 fun i j => .bl (decide (i ≤ j))) (rI0 fun i j => .bl (decide (i ≤ j))) (tC (.int 0)) (tOp (rIxT K) (tVar 1) (tC (.int 1))) (tC (.int 3))))))) (tRet (tC (.bl false))) tNext)
                D [some (.ref a), some x, o2, o3] H1 := by
            intro D rt nx t a1 b1 o p ex ht ha hb hn
            subst ex
            refine ⟨_, rfl, ?_⟩
            dsimp only [tCons, tC, tNil]
            refine Bas.isi (T := "tuple") (r := true) (.tup ht) rfl ?_
            refine ⟨_, rfl, ?_⟩
            refine ite0 (by decide) ?_
            refine ⟨_, rfl, t, _, rfl, .inr (SqT.of ht), rfl, _, rfl, ite0 (by simp) ?_⟩
            refine ⟨_, rfl, t, [a1, b1], 0, a1, rfl, rfl, SqT.of ht, atI_nat (j := 0) rfl, a1, o, rfl, ha, fun H2 e2 => ⟨_, rfl, ?_⟩⟩
            have ht2 := e2 _ _ ht
            dsimp only
            cases hs : onStr nameB o with
            | false =>
              refine ite1 (by decide) ?_
              exact rt _ (ee.trans e2) (by
                rw [hn]
                cases o with
                | none => rfl
                | some z => simp [rowB]; exact fun h => absurd h (by rw [show nameB z = false from hs]; decide))
            | true =>
              refine ite0 (by decide) (nx_l ?_)
              obtain ⟨z, rfl, hz⟩ : ∃ z, o = some z ∧ nameB z = true := by
                cases o with
                | none => cases hs
                | some z => exact ⟨z, rfl, hs⟩
              refine ⟨_, rfl, t, [a1, b1], 1, b1, rfl, rfl, SqT.of ht2, atI_nat (j := 1) rfl, ?_⟩
              dsimp only [tCons, tC, tNil]
              cases hb with
              | int i =>
                refine Bas.isi (T := "int") (r := true) (.int i) rfl ?_
                refine ⟨_, rfl, ite0 (by decide) ?_⟩
                refine ⟨_, rfl, t, [a1, .int i], 1, .int i, rfl, rfl, SqT.of ht2, atI_nat (j := 1) rfl, ?_⟩
                dsimp only [tCons, tC, tNil]
                refine Bas.isi (T := "bool") (r := false) (.int i) rfl ?_
                refine ⟨_, rfl, ite0 (by decide) ?_⟩
                refine ⟨_, rfl, t, [a1, .int i], 1, .int i, rfl, rfl, SqT.of ht2, atI_nat (j := 1) rfl, _, _, rfl, rfl, _, rfl, ?_⟩
                by_cases h0 : 0 ≤ i
                · refine ite1 (decide_eq_true h0) ⟨_, _, rfl, rfl, _, rfl, ?_⟩
                  dsimp only
                  by_cases h3 : i ≤ 3
                  · refine ite0 (by simp [h3]) (nx_p ?_)
                    exact nx _ _ e2 (by rw [hn]; simp [rowB, onInt, hz, h0, h3]) rfl
                  · refine ite1 (by simp [h3]) ?_
                    exact rt _ (ee.trans e2) (by rw [hn]; simp [rowB, onInt, hz, h0, h3])
                · refine ite0 (by simp; omega) ⟨_, rfl, ?_⟩
                  refine ite1 (by decide) ?_
                  exact rt _ (ee.trans e2) (by rw [hn]; simp [rowB, onInt, hz, h0])
              | bl c =>
                refine Bas.isi (T := "int") (r := true) (.bl c) rfl ?_
                refine ⟨_, rfl, ite0 (by decide) ?_⟩
                refine ⟨_, rfl, t, [a1, .bl c], 1, .bl c, rfl, rfl, SqT.of ht2, atI_nat (j := 1) rfl, ?_⟩
                dsimp only [tCons, tC, tNil]
                refine Bas.isi (T := "bool") (r := true) (.bl c) rfl ?_
                refine ⟨_, rfl, ite1 (by decide) (ite1 rfl ?_)⟩
                exact rt _ (ee.trans e2) (by rw [hn]; simp [rowB, onInt, hz])
              | non =>
                refine Bas.isi (T := "int") (r := false) .non rfl ?_
                refine ⟨_, rfl, ite1 (by decide) (ite1 rfl ?_)⟩
                exact rt _ (ee.trans e2) (by rw [hn]; simp [rowB, onInt, hz])
              | str c =>
                refine Bas.isi (T := "int") (r := false) (.str c) rfl ?_
                refine ⟨_, rfl, ite1 (by decide) (ite1 rfl ?_)⟩
                exact rt _ (ee.trans e2) (by rw [hn]; simp [rowB, onInt, hz])
          have nxN : ∀ σ2 H2, Ex H1 H2 → y.isSome = true → σ2 = [some (.ref a), some x, o2, o3] → N σ2 H2 := fun σ2 H2 e2 hg hs => kN σ2 H2 e2 ⟨_, _, _, hs, good hg⟩
          cases hq with
          | other h n =>
            refine seq_l ⟨_, rfl, ?_⟩
            dsimp only [tCons, tC, tNil]
            refine Bas.isi (T := "tuple") (r := false) h ?_ ?_
            · cases h <;> first
                | rfl
                | exact absurd rfl n
            refine ⟨_, rfl, ite1 (by decide) (ite1 rfl ?_)⟩
            exact qb rfl _ ee
          | @len t xs h n m =>
            refine seq_l ?_
            refine ⟨_, rfl, ?_⟩
            dsimp only [tCons, tC, tNil]
            refine Bas.isi (T := "tuple") (r := true) (.tup h) rfl ?_
            refine ⟨_, rfl, ?_⟩
            refine ite0 (by decide) ?_
            refine ⟨_, rfl, t, _, rfl, .inr (SqT.of h), rfl, _, rfl, ite1 ?_ (ite1 rfl ?_)⟩
            · simp
              omega
            · exact qb rfl _ ee
          | @bad t a1 b1 o p h ha hb n => exact two _ (fun H' e' hn => qb hn H' e') nxN o p rfl h ha hb (by rw [n]; rfl)
          | @good t z i h hz n => exact two _ (fun H' e' hn => qb hn H' e') nxN (some z) (some i) rfl h (.str z hz) (.int i) (by rw [n]; rfl)
        · obtain ⟨o1, o2, o3, rfl, hp⟩ := hp
          have hall : rs.all (·.isSome) = true := by
            refine List.all_eq_true.mpr fun y hy => ?_
            obtain ⟨i, hi, he⟩ := List.getElem_of_mem hy
            have z := hp i (by omega)
            rw [List.getD_eq_getElem?_getD, List.getElem?_eq_getElem hi, Option.getD_some, he] at z
            exact z
          have hqs : rs = (rs.map fun r => r.getD ("", 0)).map some := by
            rw [List.map_map]
            refine List.ext_getElem (by simp) fun i h4 h5 => ?_
            have z := List.all_eq_true.mp hall _ (List.getElem_mem h4)
            rw [List.getElem_map]
            cases q2 : rs[i] with
            | none => rw [q2] at z; cases z
            | some r => rfl
          have fin : onList (some rs) = decide ((rs.map fun r => (r.getD ("", 0)).1)).Nodup := by
            show goodL rs = _
            unfold goodL
            rw [hall, show decide (rs.length ≤ 24) = true from decide_eq_true (by omega)]
            simp
          have hw2 : (rs.map fun r => (r.getD ("", 0)).1) = (rs.map fun r => r.getD ("", 0)).map (·.1) := by rw [List.map_map]; rfl
          rw [fin, hw2] at q
          generalize rs.map (fun r => r.getD ("", 0)) = qs at hqs q
          rw [hqs] at r lr
          have rr : Paired (RowAt H1) xs qs := Paired.ext (fun _ _ z => z.ext (e1.trans e)) (rows_of r)
          have lq := rr.length
          obtain ⟨J2, wk2, tw2⟩ := (h1.ext e).walk (K := K)
          refine nx_p (seq_l (asg_l ?_))
          refine lc_keep (J := J2) (n := xs.length) (item := fun i => xs.getD i .non) (fun _ => true) (fun j => .str (qs.getD j ("", 0)).1) (by omega) (by show 1 < 4; decide) (fun R hR => ⟨_, rfl, a, rfl, tw2 R hR⟩) wk2 (fun j H2 R hj e2 r2 => r2) (fun j H2 R hj e2 r2 => ?_) (fun D H2 hD e2 h2 => ?_)
          · obtain ⟨x, y, hx, hy, t2, rfl, ht2⟩ := paired_at rr hj
            have hit : xs.getD j V.non = .ref t2 := by rw [List.getD_eq_getElem?_getD, hx]; rfl
            have hq : qs.getD j ("", 0) = y := by rw [List.getD_eq_getElem?_getD, hy]; rfl
            rw [hq] at r2
            rw [hit]
            exact ⟨_, rfl, t2, _, 0, .str y.1, rfl, rfl, SqT.of (e2 _ _ ht2), atI_nat (j := 0) rfl, r2⟩
          · have e2w : ((List.range xs.length).filter fun _ => true).map (fun j => V.str (qs.getD j ("", 0)).1) = (qs.map (·.1)).map V.str := by
              rw [List.filter_eq_self.mpr fun _ _ => rfl, lq, range_map qs ("", 0) fun q => V.str q.1, List.map_map]
              rfl
            rw [e2w] at h2
            have lw : (qs.map (·.1)).length = xs.length := by rw [List.length_map, lq]
            generalize qs.map (·.1) = ws at h2 q lw
            refine nx_p (ret_l (op_l ?_))
            refine lc_by (J := Itr 0 (ws.map V.str).length) (n := (ws.map V.str).length) (item := fun i => .int (i : Int)) (fun D j acc _ => acc = ((List.range j).filter fun k => decide (ws.getD k "" ∈ ws.take k)).map fun k => .int (k : Int)) (by rw [List.length_map]; omega) (by show 3 < 4; decide) (fun R hR => ⟨_, rfl, D, _, rfl, .inl (SqL.of h2), _, rfl, by rw [List.length_map]; omega, by rw [List.length_map]; omega, hR⟩) walks_rng0 (fun _ _ _ _ _ _ h => h) (fun _ _ => rfl) (fun D2 j acc H3 C Cf hj hD2 e3 ha hp2 kf kt => ?_) (fun D2 acc H3 hD2 e3 ha hp2 => ?_)
            · have hj2 : j < ws.length := by simpa using hj
              have h3 := e3 _ _ h2
              have hgw : ws.getD j "" = ws[j] := by rw [List.getD_eq_getElem?_getD, List.getElem?_eq_getElem hj2]; rfl
              refine ⟨_, rfl, _, rfl, D, _, (j : Int), .str ws[j], rfl, rfl, SqL.of h3, atI_nat (by rw [List.getElem?_map, List.getElem?_eq_getElem hj2]; rfl), _, rfl, _, rfl, _, rfl, D, _, rfl, SqL.of h3, fun p4 hp4 => ?_⟩
              rw [cutV_take, ← List.map_take]
              have e4 : Ex H3 (upd H3 p4 (.lst ((ws.take j).map V.str))) := Ex.new hp4
              refine ⟨p4, _, rfl, .inl (SqL.of upd_same), rfl, flat_strs _, _, rfl, ?_⟩
              show (if inV (V.str ws[j]) ((ws.take j).map V.str) = true then _ else _)
              rw [inV_strs]
              by_cases hm : ws[j] ∈ ws.take j
              · refine ite1 (decide_eq_true hm) ⟨_, rfl, kt _ _ e4 ?_⟩
                rw [hp2, List.range_succ, List.filter_append, List.map_append]
                simp [hj2, hm]
              · refine ite0 (by simpa using hm) (kf _ e4 ?_)
                rw [hp2, List.range_succ, List.filter_append, List.map_append]
                simp [hj2, hm]
            · refine ⟨Nat.zero_le _, fun p5 hp5 => ⟨D2, p5, _, rfl, rfl, SqL.of ((Ex.new hp5) _ _ ha), SqL.of upd_same, ?_⟩⟩
              have y := q _ ((e1.trans e).trans (e2.trans (e3.trans (Ex.new (o := .lst []) hp5))))
              rw [hp2, List.length_map, nodup_filter]
              exact y
end
end D0

namespace D0
open PySem PySem.Spec PyProof.Rows L2 L2H HotX Evl K9
theorem ite_same {c : Prop} [Decidable c] {A : Prop} (h : A) : if c then A else A := by
  split <;> exact h
mutual
theorem Sv.fresh {F : Addr → Prop} {a : Addr} {H H' : Hp} (hn : H a = none) (e : Ex H H') {v : V} {n : Nat} (h : Sv F H v n) : Sv (fun x => x = a) H' v n :=
  match h with
  | .non => .non
  | .bl c => .bl c
  | .int i => .int i
  | .str z => .str z
  | .lst h1 _ h3 => .lst (e _ _ h1) (ne_of_none h1 hn) (h3.fresh hn e)
  | .tup h1 h3 => .tup (e _ _ h1) (h3.fresh hn e)
  | .dic h1 h2 h3 => .dic (e _ _ h1) h2 (h3.fresh hn e)
theorem SvL.fresh {F : Addr → Prop} {a : Addr} {H H' : Hp} (hn : H a = none) (e : Ex H H') {vs : List V} {n : Nat} (h : SvL F H vs n) : SvL (fun x => x = a) H' vs n :=
  match h with
  | .nil => .nil
  | .cons h1 h2 => .cons (h1.fresh hn e) (h2.fresh hn e)
end
theorem LkL.snoc {H : Hp} {vs us : List V} {v u : V} {n m : Nat} (h : LkL H vs us n) (h2 : Lk H v u m) : LkL H (vs ++ [v]) (us ++ [u]) (n + m) := by
  induction vs generalizing us n with
  | nil =>
    cases h
    have z := LkL.cons h2 (.nil (H := H))
    rw [Nat.add_zero] at z
    rw [Nat.zero_add]
    exact z
  | cons a r ih =>
    cases h with
    | @cons _ u2 _ us2 n1 n2 h3 h4 =>
      have z := LkL.cons h3 (ih h4)
      rw [Nat.add_assoc]
      exact z
/-- what is handed to Names -/
inductive MIn (H : Hp) : V → Prop
  | lst {a : Addr} {xs : List V} {n : Nat} (h : H a = some (.lst xs)) (sv : SvL (fun x => x = a) H xs n) (l : n ≤ 900) (m : xs.length ≤ 30) : MIn H (.ref a)
  | other {v : V} {s : String} {n : Nat} (h : Bas H v s) (ns : s ≠ "list") (lk : Lk H v v n) (l : n ≤ 900) : MIn H v
/-- all stands but the list v itself -/
def ExM (v : V) (H H' : Hp) : Prop := ∀ a o, (∀ xs, o = .lst xs → v ≠ .ref a) → H a = some o → H' a = some o
theorem Ex.exm {v : V} {H H' : Hp} (e : Ex H H') : ExM v H H' := fun a o _ h => e a o h
theorem Err.exb {l : List (Addr × Obj)} {H H' : Hp} {a b C : Addr} {fs : List (Str × V)} {us : List V} (e : ExB b H H') (h0 : H b = some (.lst us)) (h : Err l H a C (some fs)) : Err l H' a C (some fs) := by
  obtain ⟨d, h1, h2⟩ := h
  refine ⟨d, h1.elim (fun h => .inl (e _ _ (fun z => by rw [z, h0] at h; cases h) h)) .inr, ?_⟩
  rcases h2 with h | h
  · exact .inl (e _ _ (fun z => by rw [z, h0] at h; cases h) h)
  · exact .inr (e _ _ (fun z => by rw [z, h0] at h; cases h) h)
/-- the value and what was kept of it -/
inductive KeptOk (H : Hp) (v v2 : V) : Prop
  | lst {a p : Addr} {xs : List V} {n : Nat} (e1 : v = .ref a) (e2 : v2 = .ref p) (h1 : H a = some (.lst xs)) (h2 : H p = some (.lst xs)) (n12 : p ≠ a) (sv : SvL (fun x => x = a) H xs n) (l : n ≤ 900) (m : xs.length ≤ 30) : KeptOk H v v2
  | same {s : String} {n : Nat} (e : v2 = v) (h : Bas H v s) (ns : s ≠ "list") (lk : Lk H v v n) (l : n ≤ 900) : KeptOk H v v2
theorem KeptOk.ext {H H' : Hp} {v v2 : V} (e : Ex H H') (h : KeptOk H v v2) : KeptOk H' v v2 := by
  cases h with
  | lst e1 e2 h1 h2 n12 sv l m => exact .lst e1 e2 (e _ _ h1) (e _ _ h2) n12 (sv.ext e) l m
  | same e2 h ns lk l => exact .same e2 (h.ext e) ns (lk.ext e) l
theorem KeptOk.lk {H : Hp} {v v2 : V} (h : KeptOk H v v2) : ∃ n, n ≤ 1000 ∧ Lk H v v2 n := by
  cases h with
  | lst e1 e2 h1 h2 n12 sv l m =>
    subst e1 e2
    exact ⟨_, by omega, .lst h1 h2 sv.lk⟩
  | same e2 h ns lk l =>
    subst e2
    exact ⟨_, by omega, lk⟩
section
variable {P : Program} {w : World} {K : PySem.W.Frag} {mg : Str → Option Value} {base : Heap} {f : Addr} {fd : FuncData} {k : Nat}
def spMade (K : PySem.W.Frag) (C Ph Pa : Addr) : Sp := fun vs H Q _ => ∃ (v : V) (c : Bool) (o : Option (List (Option (Str × Int)))), vs = [v, .bl c] ∧ ListQ K H v o ∧ TabX H Ph ∧ TabX H Pa ∧ MIn H v ∧
  (∀ (qs : List (Str × Int)) (x : Addr) (H' : Hp), o = some (qs.map some) → onList o = true → Ex H H' → NamesAt H' C x qs → Q (.ref x) H') ∧ (onList o = false → ∀ H', ExM v H H' → Q .non H')
abbrev s_made : Stmt := top 42
abbrev N_made : List Str := ["value", "by_name", "due", "kept", "names", "e"]
theorem sc_made : FnScope N_made ["value", "by_name"] (defScope s_made) := ⟨rfl, rfl, rfl, by decide +kernel, rfl, by decide +kernel, by decide +kernel⟩
theorem ok_made {C Ph Pa : Addr} (T : Txt K mg) (E0 : Errs K Hd.errs "ChoiceError" Hd.ini Hd.flds) (te : PySem.W.exmOne K (.ref (He.ga K "InvalidNames")) (.ref (He.ga K "InvalidNames")) = some true) (n_Names : NOk P w K mg base k "Names" C ["self", "names"] ["names"] (spNames K C Ph Pa)) (k_names_due : OkC P w K mg base (k + 1) "_law_names_due" ["value"] (spNamesDue K)) (k_like : Ok P w K mg base (k + 1) "_law_like" ["told", "due"] spLike)
    (F : FunD K "_law_made" "_law_made" (defArgs s_made) (defBody s_made) (defScope s_made) [] [] f fd) (hm : mg "_law_made" = some (.ref f)) : OkC P w K mg base (k + 2) "_law_made" ["value", "by_name"] (spMade K C Ph Pa) := by
  refine okC_of F hm sc_made (fun _ _ _ _ _ _ us hl => match us, hl with | [_, _], _ => rfl) (fun vs H Q E h => ?_) (fun cdv A outer s H vs Q E hr h => ?_)
  · obtain ⟨v, c, o, rfl, _⟩ := h
    rfl
  · obtain ⟨v, c, o, rfl, hv, hTh, hTa, hm2, q1, q0⟩ := h
    refine ⟨_, PSs.nox (pss_cons (ps_par rfl sc_made.nd (i := 2) (j := 3) rfl rfl (by decide) rfl rfl (pa_cons (pe_callK0 k_names_due hr (by rfl) (pa_cons (pv 0) pa_nil)) (pa_cons (pe_ifExp (pt_val (pe_callB call_isi (by rfl) T.f_isinstance (by decide +kernel) (pa_cons (pv 0) (pa_cons (pe_bltn (v := .ty "list") (by rfl) T.f_list (by decide +kernel) rfl) pa_nil)))) (pe_callTy call_list_of (by rfl) T.f_list (by decide +kernel) (pa_cons (pv 0) pa_nil)) (pv 0)) pa_nil)) rfl) (pss_cons (L2N.ps_try_as (i := 5) (Wout := fun _ _ _ _ => False) rfl rfl sc_made.nd rfl rfl ⟨(by rfl), by decide, .inl (T.g_cls "InvalidNames" (by decide))⟩ takes_never (fun W pn xe tk hp => (by exact (pss_one (ps_set (i := 4) sc_made.nd rfl (Or.inl rfl) (pe_ifExp (pt_val (pv 1)) (pe_makeKw tk n_Names rfl hr (by rfl) (pk_cons (pv 0) pk_nil)) (pe_makeP tk n_Names hr (by rfl) (pa_cons (pv 0) pa_nil))))))) (fun a oe cls d pn hz hf => suite_all (fun oe pn hz hf => (by exact (pss_cons (ps_if (pw_or (pt_val (pv 2)) (pw_or (pt_not (pt_val (pe_callB call_isE1 (by rfl) T.f_isinstance (by decide +kernel) (pa_cons (pv 5) (pa_cons (pe_glob (v := .ref (He.ga K "ChoiceError")) (by rfl) (T.g_cls "ChoiceError" (by decide)) rfl) pa_nil))))) (pw_or (pt_not (pt_val (pe_callO k_like (markR hr) (suite_call hz hf) (by rfl) (pa_cons (pe_getE (pv 5)) (pa_cons (pv 3) pa_nil))))) (pw_or1 (pt_not (pt_val (pe_callO k_like (markR hr) (suite_call hz hf) (by rfl) (pa_cons (pv 0) (pa_cons (pv 3) pa_nil))))))))).pt (pss_one (ps_ret pe_bl)) pss_nil) (pss_cons (ps_if (pt_val (pe_callB call_isi (by rfl) T.f_isinstance (by decide +kernel) (pa_cons (pv 0) (pa_cons (pe_bltn (v := .ty "list") (by rfl) T.f_list (by decide +kernel) rfl) pa_nil)))) (pss_cons (ps_expr (pe_bm PySem.F.plainAttrs_list PySem.F.slot_list_append PySem.F.type_list_append mt_append (pv 0) (pa_cons pe_str pa_nil))) (pss_one (ps_ret (pe_ifExp (pt_val (pe_callO k_like (markR hr) (suite_call hz hf) (by rfl) (pa_cons (pe_getE (pv 5)) (pa_cons (pe_op op_cat (pv 3) (pe_lst (pa_cons pe_str pa_nil))) pa_nil)))) pe_non pe_bl)))) pss_nil) (pss_one (ps_ret pe_non)))))) oe pn hz hf)) (pss_one (ps_ret (pe_ifExp (pw_and (pt_val (pv 2)) (pw_and1 (pt_val (pe_callO k_like (roomH_of hr) (.inl ⟨rfl, rfl⟩) (by rfl) (pa_cons (pv 0) (pa_cons (pv 3) pa_nil)))))).pt (pv 4) pe_bl))))), ?_⟩
    have sz := sizeLine_eq
    have hN : ("InvalidNames" : Str) ∈ Hd.errs := by decide
    have hC : ("ChoiceError" : Str) ∈ Hd.errs := by decide
    refine seq_l (join_l (α := V) (S := fun a => [some v, some (.bl c), some (.bl (onList o)), some a, none, none]) (R := fun a H2 => Ex H H2 ∧ KeptOk H2 v a) (fun v2 H2 ha => ?_) (fun main => ?_))
    · obtain ⟨e2, kp⟩ := ha
      have hv2 := hv.ext e2
      refine nx_p (seq_l (asg_l ⟨_, rfl, _, rfl, ite_same ?_⟩))
      refine ⟨_, rfl, v, rfl, fun x dx hx hdx hne => ?_⟩
      have e0 : Ex H2 (upd (upd H2 dx (.own x)) x (.ins C dx [])) := (Ex.new hdx).trans (Ex.new (by rw [upd_ne hne.symm]; exact hx))
      refine ⟨x, dx, v, o, rfl, upd_same, hv2.ext e0, (hTh.ext e2).ext e0, (hTa.ext e2).ext e0, fun qs H3 ho1 ho nd ex hNm => ⟨rfl, ?_⟩, fun ho d H3 ex hd => ?_⟩
      · have e3 : Ex H2 H3 := ExB.new ((Ex.but e0).trans ex) hx
        obtain ⟨n, hn, lk⟩ := (kp.ext e3).lk
        refine nx_p (ret_l ⟨_, rfl, _, rfl, ite1 ho ⟨_, rfl, _, rfl, v, v2, n, rfl, hn, lk, fun H4 e4 => ⟨_, rfl, ite1 rfl ⟨_, rfl, ?_⟩⟩⟩⟩)
        exact q1 qs x H4 ho1 ho (e2.trans (e3.trans e4)) (hNm.ext e4)
      · have e3 : Ex H2 H3 := e0.trans ex
        refine ⟨true, te, fun _ a ha oe pn hz hf => ?_, fun z => absurd z (by decide)⟩
        have he : Err ((a, oe) :: pn) H3 a (He.ga K "InvalidNames") (some [("given", v)]) := ⟨d, .inr ⟨oe, List.mem_cons_self .., ⟨hz.1, hz.2.1⟩, hf⟩, .inr hd⟩
        have kp3 := kp.ext e3
        obtain ⟨n, hn, lk⟩ := kp3.lk
        refine seq_l ⟨_, rfl, _, rfl, ite0 (by rw [ho]; decide) ?_⟩
        have kit : PySem.W.kitOne K (.ref (He.ga K "InvalidNames")) (.ref (He.ga K "ChoiceError")) = some true := by
          rw [E0.kit _ hN _ hC]
          rfl
        refine ⟨_, rfl, a, _, _, _, _, true, rfl, he, E0.err _ hN, .own _, kit, ?_⟩
        refine ⟨_, rfl, ite0 (by decide) ?_⟩
        have fld := E0.fld _ hN "given" (by decide)
        refine ⟨_, rfl, a, _, _, v, rfl, he, E0.err _ hN, fld, rfl, _, rfl, v, v2, n, rfl, hn, lk, fun H4 e4 => ⟨_, rfl, ite0 (by decide) ?_⟩⟩
        refine ⟨_, rfl, _, rfl, v, v2, n, rfl, hn, lk.ext e4, fun H5 e5 => ⟨_, rfl, ite0 (by decide) (nx_l ?_)⟩⟩
        have e35 := e4.trans e5
        have kp5 := kp3.ext e35
        have he5 := he.ext e35
        have e05 : Ex H H5 := e2.trans (e3.trans e35)
        refine seq_l ⟨_, rfl, ?_⟩
        dsimp only [tCons, tC, tNil]
        cases kp5 with
        | @lst a1 p xs n5 r1 r2 h1 h2 n12 sv l m =>
          subst r1 r2
          refine Bas.isi (T := "list") (r := true) (.lst h1) rfl ⟨_, rfl, ite1 rfl ?_⟩
          refine seq_l ⟨_, rfl, .inl ⟨rfl, _, SqL.of h1⟩, a1, xs, .str "more", rfl, rfl, h1, by omega, ?_⟩
          have b6 : ExB a1 H5 (upd H5 a1 (.lst (xs ++ [.str "more"]))) := ExB.set
          have h6 : upd H5 a1 (.lst (xs ++ [.str "more"])) a1 = some (.lst (xs ++ [.str "more"])) := upd_same
          have he6 := Err.exb b6 h1 he5
          have h6p := b6 _ _ n12 h2
          have sv6 := SvL.exb (F := fun x => x = a1) rfl b6 h1 sv
          generalize upd H5 a1 (.lst (xs ++ [.str "more"])) = H6 at b6 h6 he6 h6p sv6 ⊢
          refine nx_p (ret_l ⟨_, rfl, a, _, _, .ref a1, rfl, he6, E0.err _ hN, fld, rfl, _, rfl, by show 1 ≤ sizeLine; decide, fun p7 hp7 => ?_⟩)
          refine ⟨p, p7, xs, _, rfl, rfl, (Ex.new hp7) _ _ h6p, upd_same, by show xs.length + 1 ≤ sizeLine; omega, fun p8 hp8 => ?_⟩
          have e8 : Ex H6 (upd (upd H6 p7 (.lst [.str "more"])) p8 (.lst (xs ++ [.str "more"]))) := (Ex.new hp7).trans (Ex.new hp8)
          have h8 : upd (upd H6 p7 (.lst [.str "more"])) p8 (.lst (xs ++ [.str "more"])) p8 = some (.lst (xs ++ [.str "more"])) := upd_same
          generalize upd (upd H6 p7 (.lst [.str "more"])) p8 (.lst (xs ++ [.str "more"])) = H8 at e8 h8 ⊢
          refine ⟨.ref a1, .ref p8, n5 + 1 + 1, rfl, by omega, .lst (e8 _ _ h6) h8 (D0.LkL.snoc (sv6.ext e8).lk (.str "more")), fun H9 e9 => ⟨_, rfl, ite1 rfl ?_⟩⟩
          refine q0 ho H9 fun a' o' hno ha' => ?_
          have na : a' ≠ a1 := by
            intro z2
            have hz2 := e05 _ _ ha'
            rw [z2, h1] at hz2
            injection hz2 with hz2
            exact hno _ hz2.symm (by rw [z2])
          exact e9 _ _ (e8 _ _ (b6 _ _ na (e05 _ _ ha')))
        | @same s5 n5 r2 h ns lk5 l =>
          subst r2
          refine Bas.isi (T := "list") (r := false) h ?_ ⟨_, rfl, ite0 (by decide) (nx_l ?_)⟩
          · cases h <;> first
              | rfl
              | exact absurd rfl ns
          refine ret_l ?_
          exact q0 ho H5 (D0.Ex.exm e05)
    · refine ⟨_, rfl, v, o, rfl, hv, fun H1 e1 => ?_⟩
      refine ⟨_, rfl, ?_⟩
      dsimp only [tCons, tC, tNil]
      have hm3 := hm2
      cases hm2 with
      | @lst a xs n h sv l m =>
        refine Bas.isi (T := "list") (r := true) (.lst (e1 _ _ h)) rfl ⟨_, rfl, ite1 rfl ?_⟩
        refine ⟨_, rfl, a, xs, rfl, .inl (SqL.of (e1 _ _ h)), fun p hp => ⟨_, _, rfl, ?_⟩⟩
        have e2 : Ex H1 (upd H1 p (.lst xs)) := Ex.new hp
        exact main (.ref p) _ ⟨e1.trans e2, .lst rfl rfl ((e1.trans e2) _ _ h) upd_same (ne_of_none (e1 _ _ h) hp).symm (sv.ext (e1.trans e2)) l m⟩
      | @other _ s5 n h ns lk l =>
        refine Bas.isi (T := "list") (r := false) (h.ext e1) ?_ ⟨_, rfl, ite0 (by decide) ?_⟩
        · cases h <;> first
            | rfl
            | exact absurd rfl ns
        refine ⟨_, rfl, _, _, rfl, ?_⟩
        exact main v _ ⟨e1, .same rfl (h.ext e1) ns (lk.ext e1) l⟩
end
end D0

namespace D0
open PySem PySem.Spec PyProof.Rows L2 L2H HotX Evl K9
theorem lexS_anti {p q : Str × Int} (h1 : PySem.K9S.lexS p q = false) (h2 : PySem.K9S.lexS q p = false) : p = q := by
  rw [PySem.K9S.lexS_no] at h1 h2
  rcases h1 with h1 | ⟨a1, b1⟩ <;> rcases h2 with h2 | ⟨a2, b2⟩
  · exact absurd (PySem.K9S.ltZ_trans h1 h2) (PySem.K9S.ltZ_irr _)
  · rw [a2] at h1
    exact absurd h1 (PySem.K9S.ltZ_irr _)
  · rw [a1] at h2
    exact absurd h2 (PySem.K9S.ltZ_irr _)
  · obtain ⟨x1, x2⟩ := p
    obtain ⟨y1, y2⟩ := q
    dsimp only at a1 a2 b1 b2
    subst a1
    have : x2 = y2 := by omega
    rw [this]
theorem sorted_uniq {ss ts : List (Str × Int)} (h : SrtO.Srtd PySem.K9S.lexS ss) (h' : SrtO.Srtd PySem.K9S.lexS ts) (p : ss.Perm ts) : ss = ts :=
  List.Perm.eq_of_pairwise (fun a b _ _ h1 h2 => lexS_anti h2 h1) h h' p
theorem rows_lk {H : Hp} {us vs : List V} {ss : List (Str × Int)} (h : Paired (RowAt H) us ss) (h' : Paired (RowAt H) vs ss) : ∃ n, n ≤ 3 * ss.length ∧ LkL H us vs n := by
  induction h generalizing vs with
  | nil =>
    cases h'
    exact ⟨0, Nat.le_refl _, .nil⟩
  | cons a _ ih =>
    cases h' with
    | cons b r =>
      obtain ⟨n, h1, h2⟩ := ih r
      obtain ⟨t1, rfl, g1⟩ := a
      obtain ⟨t2, rfl, g2⟩ := b
      refine ⟨1 + (1 + 0) + 1 + n, ?_, .cons (.tup g1 g2 (.cons (.str _) (.cons (.int _) .nil))) h2⟩
      rw [List.length_cons]
      omega
/-- for a, b in ..: the heap grows -/
theorem forG_by {wi : TI} {g : TG} {tb : TS} {D : Ends} {σ : L2.St} {H : Hp} {J : It} {n : Nat} {item : Nat → V} (P : Nat → L2.St → Hp → Prop) (hw : ∀ R : It → Hp → Prop, R J H → wi σ H R) (wk : Walks J n item H) (h0 : P 0 σ H)
    (step : ∀ (j : Nat) (σ1 : L2.St) (H1 : Hp) (N : L2.St → Hp → Prop), j < n → Ex H H1 → P j σ1 H1 → (∀ σ2 H2, Ex H1 H2 → P (j + 1) σ2 H2 → N σ2 H2) → g (item j) σ1 H1 fun σ2 H2 => tb { nx := N, rt := D.rt, bk := D.nx, ct := N } σ2 H2)
    (fin : ∀ σ1 H1, Ex H H1 → P n σ1 H1 → D.nx σ1 H1) : tFor wi g tb D σ H := by
  refine hw _ ⟨fun j m σ1 H1 => m = n - j ∧ j ≤ n ∧ Ex H H1 ∧ P j σ1 H1, ⟨n - 0, rfl, Nat.zero_le _, Ex.refl H, h0⟩, ?_⟩
  rintro j m σ1 H1 ⟨rfl, hj, e, hp⟩
  by_cases hjn : j = n
  · subst hjn
    exact .inl ⟨wk.stop H1 e, fin σ1 H1 e hp⟩
  · have hj2 : j < n := by omega
    refine .inr ⟨wk.go j H1 e hj2, fun σ' H' => n - (j + 1) < n - j ∧ j + 1 ≤ n ∧ Ex H H' ∧ P (j + 1) σ' H', ?_, ?_⟩
    · rintro σ' H' ⟨h1, h2, h3⟩
      exact ⟨n - (j + 1), h1, rfl, h2, h3⟩
    · intro x H' hy
      obtain ⟨rfl, rfl⟩ := wk.yld j H1 x H' e hj2 hy
      exact step j σ1 H' _ hj2 e hp fun σ2 H2 e2 p2 => ⟨by omega, by omega, e.trans e2, p2⟩
/-- [e for a, b in ..], all told ahead -/
theorem lcT_by {K : PySem.W.Frag} {wi : TI} {i j : Nat} {te : TE} {σ : L2.St} {H : Hp} {Q : VK} {J : It} {n : Nat} {item : Nat → V} (val : Nat → V) (hn : n ≤ sizeLine) (hw : ∀ R : It → Hp → Prop, R J H → wi σ H R) (wk : Walks J n item H)
    (hwipe : ∀ u v : V, wipe (((wipe σ [i, j]).set i (some u)).set j (some v)) [i, j] = wipe σ [i, j])
    (elem : ∀ k H1 (R : VK), k < n → Ex H H1 → R (val k) H1 → ∃ (a : Addr) (u v : V), item k = .ref a ∧ SqT K H1 a [u, v] ∧ te (((wipe σ [i, j]).set i (some u)).set j (some v)) H1 R)
    (fin : ∀ D H1, H D = none → Ex H H1 → H1 D = some (.lst ((List.range n).map val)) → Q (.ref D) H1) : tLc wi (gTup K 2 (gCons (gName i) (gCons (gName j) gNil))) tYes te [i, j] σ H Q := by
  refine hw _ fun D hD => ?_
  refine ⟨fun k m H1 => m = n - k ∧ k ≤ n ∧ Ex H H1 ∧ H1 D = some (.lst ((List.range k).map val)), ⟨n - 0, rfl, Nat.zero_le _, Ex.new hD, upd_same⟩, ?_⟩
  rintro k m H1 ⟨rfl, hj, e, ha⟩
  by_cases hjn : k = n
  · subst hjn
    exact .inl ⟨wk.stop H1 e, fin D H1 hD e ha⟩
  · have hj2 : k < n := by omega
    refine .inr ⟨wk.go k H1 e hj2, fun H' => n - (k + 1) < n - k ∧ k + 1 ≤ n ∧ Ex H H' ∧ H' D = some (.lst ((List.range (k + 1)).map val)), ?_, ?_⟩
    · rintro H' ⟨h1, h2, h3⟩
      exact ⟨n - (k + 1), h1, rfl, h2, h3⟩
    · intro x H' hy
      obtain ⟨rfl, rfl⟩ := wk.yld k H1 x H' e hj2 hy
      obtain ⟨a, u, v, h1, h2, h3⟩ := elem k H' (fun y H4 => ∃ acc, H4 D = some (.lst acc) ∧ acc.length < sizeLine ∧ (fun H' => n - (k + 1) < n - k ∧ k + 1 ≤ n ∧ Ex H H' ∧ H' D = some (.lst ((List.range (k + 1)).map val))) (upd H4 D (.lst (acc ++ [y])))) hj2 e ⟨_, ha, by rw [List.length_map, List.length_range]; omega, by omega, by omega, ExB.new (fun a o na h => (by rw [upd_ne na]; exact e a o h)) hD, by rw [List.range_succ, List.map_append]; exact upd_same⟩
      refine ⟨a, _, h1, h2, rfl, u, _, rfl, v, _, rfl, rfl, hwipe u v, ?_⟩
      unfold tYes
      dsimp only
      rw [if_pos rfl]
      exact h3
theorem count_mem {qs : List (Str × Int)} (nd : (qs.map (·.1)).Nodup) {q : Str × Int} (h : q ∈ qs) : countOf qs q.1 = q.2 := by
  induction qs with
  | nil => cases h
  | cons r rs ih =>
    rw [List.map_cons, List.nodup_cons] at nd
    unfold countOf
    rw [List.find?_cons]
    rcases List.mem_cons.mp h with rfl | h
    · simp
    · have ne : ¬ r.1 = q.1 := fun e => nd.1 (by rw [e]; exact List.mem_map_of_mem h)
      simp only [ne, decide_false]
      exact ih nd.2 h
theorem count_none {qs : List (Str × Int)} {z : Str} (h : z ∉ qs.map (·.1)) : countOf qs z = 0 := by
  unfold countOf
  rw [List.find?_eq_none.mpr fun r hr => by
    simp only [decide_eq_true_eq]
    intro e
    exact h (by rw [← e]; exact List.mem_map_of_mem hr)]
  rfl
section
variable {P : Program} {w : World} {K : PySem.W.Frag} {mg : Str → Option Value} {base : Heap} {f : Addr} {fd : FuncData} {k : Nat}
def spTold (C : Addr) : Sp := fun vs H Q _ => ∃ (x pr ps : Addr) (c : Bool) (ur : List V) (qs : List (Str × Int)) (ys : List Str), vs = [.ref x, .ref pr, .ref ps, .bl c] ∧ NamesAt H C x qs ∧ H pr = some (.lst ur) ∧ Paired (RowAt H) ur qs ∧ (qs.map (·.1)).Nodup ∧ qs.length ≤ 24 ∧ H ps = some (.lst (ys.map V.str)) ∧ ys.length ≤ 100 ∧ ∀ H', Ex H H' → Q (.bl true) H'
abbrev s_told_right : Stmt := top 43
abbrev N_told_right : List Str := ["names", "rows", "strange", "by_name", "name", "count", "told", "words"]
theorem sc_told_right : FnScope N_told_right ["names", "rows", "strange", "by_name"] (defScope s_told_right) := ⟨rfl, rfl, rfl, by decide +kernel, rfl, by decide +kernel, by decide +kernel⟩
theorem ok_told_right {C : Addr} (T : Txt K mg) (T2 : Txt2 K mg) (cl : NClass K C) (m_count_of : MOk P w K mg base k C "count_of" ["self", "name"] ["name"] (spCount K C)) (k_like : Ok P w K mg base k "_law_like" ["told", "due"] spLike) (F : FunD K "_law_told_right" "_law_told_right" (defArgs s_told_right) (defBody s_told_right) (defScope s_told_right) [] [] f fd) (hm : mg "_law_told_right" = some (.ref f)) :
    OkC P w K mg base (k + 1) "_law_told_right" ["names", "rows", "strange", "by_name"] (spTold C) := by
  refine okC_of F hm sc_told_right (fun _ _ _ _ _ _ us hl => match us, hl with | [_, _, _, _], _ => rfl) (fun vs H Q E h => ?_) (fun cdv A outer s H vs Q E hr h => ?_)
  · obtain ⟨x, pr, ps, c, ur, qs, ys, rfl, _⟩ := h
    rfl
  · obtain ⟨x, pr, ps, c, ur, qs, ys, rfl, hN, hpr, hrr, nd, l24, hps, ly, q⟩ := h
    refine ⟨_, PSs.nox (pss_cons (ps_if (pt_not (pt_val (pe_callO k_like (roomH_of hr) (.inl ⟨rfl, rfl⟩) (by rfl) (pa_cons (pe_fld (pv 0) rfl) (pa_cons (pe_callTy call_tuple_of (by rfl) T.f_tuple (by decide +kernel) (pa_cons (pe_callB cr_sortedN (by rfl) T2.f_sorted (by decide +kernel) (pa_cons (pv 1) pa_nil)) pa_nil)) pa_nil))))) (pss_one (ps_ret pe_bl)) pss_nil) (pss_cons (ps_for PassesOwn.never rfl (pi_list (pv 1)) (pg_tupC (.inl ⟨rfl, rfl⟩) (pgs_cons (pg_name (i := 4) sc_told_right.nd rfl (Or.inl rfl)) (pgs_cons (pg_name (i := 5) sc_told_right.nd rfl (Or.inl rfl)) pgs_nil))) (pss_cons (ps_set (i := 6) sc_told_right.nd rfl (Or.inl rfl) (pe_ifExp (pt_val (pv 3)) (pe_methK m_count_of hr rfl (pv 0) (pk_cons (pv 4) pk_nil)) (pe_methM m_count_of hr (pv 0) (pa_cons (pv 4) pa_nil)))) (pss_one (ps_if (pt_not (pt_val (pe_callO k_like (roomH_of hr) (.inl ⟨rfl, rfl⟩) (by rfl) (pa_cons (pv 6) (pa_cons (pv 5) pa_nil))))) (pss_one (ps_ret pe_bl)) pss_nil)))) (pss_cons (ps_set (i := 7) sc_told_right.nd rfl (Or.inr rfl) (pe_lc (own := [("name", 4), ("count", 5)]) (g := gTup K 2 (gCons (gName 4) (gCons (gName 5) gNil))) rfl sc_told_right.nd (pi_list (pv 1)) (blkOk_by (N := N_told_right) (sc := defScope s_told_right) (by decide +kernel)) (fun _ _ _ _ _ => pg_tupC (.inl ⟨rfl, rfl⟩) (pgs_cons (pg_name (i := 4) sc_told_right.nd rfl (Or.inl rfl)) (pgs_cons (pg_name (i := 5) sc_told_right.nd rfl (Or.inl rfl)) pgs_nil))) (fun _ _ _ _ _ => pts_nil) (fun _ _ _ _ _ => (pv 4)))) (pss_one (ps_ret (pe_cmpR (op_eq0 (huC (roomH_of hr))) (pe_lc (own := [("name", 4)]) (g := gName 4) rfl sc_told_right.nd (pi_list (pv 2)) (blkOk_by (N := N_told_right) (sc := defScope s_told_right) (by decide +kernel)) (fun _ _ _ _ _ => pg_name (i := 4) sc_told_right.nd rfl (Or.inl rfl)) (fun _ _ _ _ _ => (pts_one (pw_and (pt_cmpR (show OpR _ _ (rIn K true) from op_notIn_seq) (pv 4) (pv 7) (by rfl)) (pw_and1 (pt_not (pt_val (pe_callO k_like (roomH_of hr) (.inl ⟨rfl, rfl⟩) (by rfl) (pa_cons (pe_methM m_count_of hr (pv 0) (pa_cons (pv 4) pa_nil)) (pa_cons pe_int pa_nil))))))).pt)) (fun _ _ _ _ _ => (pv 4))) (pe_lst pa_nil) (nomark _))))))), ?_⟩
    have sz := sizeLine_eq
    have hN0 := hN
    obtain ⟨dx, t, c2, us, ss, h1, h2, h3, h4, h5, h6⟩ := hN
    have lq := hrr.length
    refine seq_l (ifNotB_l ⟨_, rfl, x, C, dx, _, _, rfl, h1, cl.cls, cl.told, rfl, _, rfl, pr, ur, rowKey H, rfl, .inl (SqL.of hpr), fun y hy => rows_mem hrr y hy, fun zs p hs hst hp => ⟨p, zs, rfl, .inl ⟨SqL.of upd_same, fun l hl => ?_⟩⟩⟩)
    have e1 : Ex H (upd (upd H p (.lst zs)) l (.tup zs)) := (Ex.new hp).trans (Ex.new hl)
    have hzs : ss = zs.map (rowKey H) := by
      refine sorted_uniq h4 (SrtO.srtd_map hs) (h5.trans ?_)
      have z := (hst.perm.map (rowKey H)).symm
      rw [rows_keys hrr] at z
      exact z
    have rz : Paired (RowAt H) zs ss := by
      rw [hzs]
      exact rows_back fun y hy => rows_mem hrr y (hst.perm.mem_iff.mp hy)
    obtain ⟨n, hn, lk⟩ := rows_lk (Paired.ext (fun _ _ z => z.ext e1) h3) (Paired.ext (fun _ _ z => z.ext e1) rz)
    have lss : ss.length = qs.length := h5.length_eq
    refine ⟨.ref t, .ref l, n + 1, rfl, by omega, .tup (e1 _ _ h2) upd_same lk, fun H3 e3 => ⟨_, rfl, ite0 (by decide) (nx_l ?_)⟩⟩
    have e03 := e1.trans e3
    generalize upd (upd H p (.lst zs)) l (.tup zs) = H2 at e1 e3
    have hN3 := hN0.ext e03
    have hpr3 := e03 _ _ hpr
    have hps3 := e03 _ _ hps
    have h13 := e03 _ _ h1
    have hrr3 : Paired (RowAt H3) ur qs := Paired.ext (fun _ _ z => z.ext e03) hrr
    refine seq_l (forG_by (J := Itl K pr) (n := ur.length) (item := fun i => ur.getD i .non) (fun j σ1 H1 => ∃ o4 o5 o6, σ1 = [some (.ref x), some (.ref pr), some (.ref ps), some (.bl c), o4, o5, o6, none]) (fun R h => ⟨_, rfl, pr, rfl, ⟨_, SqL.of hpr3⟩, h⟩) (walks_list (SqL.of hpr3)) ⟨_, _, _, rfl⟩ (fun j σ1 H4 N hj e4 hp kN => ?_) (fun σ1 H4 e4 hp => ?_))
    · obtain ⟨o4, o5, o6, rfl⟩ := hp
      obtain ⟨v, r, hv, hr, t2, rfl, ht2⟩ := paired_at hrr3 hj
      refine ⟨t2, _, by rw [List.getD_eq_getElem?_getD, hv]; rfl, SqT.of (e4 _ _ ht2), rfl, _, _, rfl, _, _, rfl, rfl, ?_⟩
      have hc := count_mem nd (List.mem_of_getElem? hr)
      refine seq_l (asg_l ⟨_, rfl, _, rfl, ite_same ⟨_, rfl, x, dx, _, rfl, e4 _ _ h13, rfl, _, rfl, _, rfl, x, r.1, qs, rfl, hN3.ext e4, nx_p ?_⟩⟩)
      rw [hc]
      refine ifNotB_l ⟨_, rfl, _, rfl, _, _, 1, rfl, by decide, .int r.2, fun H5 e5 => ⟨_, rfl, ite0 (by decide) ?_⟩⟩
      exact kN _ _ e5 ⟨_, _, _, rfl⟩
    · obtain ⟨o4, o5, o6, rfl⟩ := hp
      have e04 := e03.trans e4
      have hpr4 := e4 _ _ hpr3
      refine nx_p (seq_l (asg_l ?_))
      refine lcT_by (K := K) (J := Itl K pr) (n := ur.length) (item := fun i => ur.getD i .non) (fun j => .str (qs.getD j ("", 0)).1) (by omega) (fun R h => ⟨_, rfl, pr, rfl, ⟨_, SqL.of hpr4⟩, h⟩) (walks_list (SqL.of hpr4)) (fun _ _ => rfl) (fun j H5 R hj e5 hR => ?_) (fun D H5 hD e5 h5w => ?_)
      · obtain ⟨v, r, hv, hr, t2, rfl, ht2⟩ := paired_at hrr3 hj
        have hq : qs.getD j ("", 0) = r := by rw [List.getD_eq_getElem?_getD, hr]; rfl
        rw [hq] at hR
        exact ⟨t2, .str r.1, .int r.2, by rw [List.getD_eq_getElem?_getD, hv]; rfl, SqT.of (e5 _ _ (e4 _ _ ht2)), _, rfl, hR⟩
      · rw [lq, range_map qs ("", 0) fun q => V.str q.1] at h5w
        have hw2 : qs.map (fun q => V.str q.1) = (qs.map (·.1)).map V.str := by rw [List.map_map]; rfl
        rw [hw2] at h5w
        have e05 := e04.trans e5
        have hps5 := e5 _ _ (e4 _ _ hps3)
        have hN5 := (hN3.ext e4).ext e5
        have h15 := e5 _ _ (e4 _ _ h13)
        refine nx_p (ret_l (op_l ?_))
        refine lc_none (J := Itl K ps) (n := (ys.map V.str).length) (item := fun i => (ys.map V.str).getD i .non) (by rw [List.length_map]; omega) (by show 4 < 8; decide) (fun R h => ⟨_, rfl, ps, rfl, ⟨_, SqL.of hps5⟩, h⟩) (walks_list (SqL.of hps5)) (fun j H6 R hj e6 hR => ?_) (fun D2 H6 hD2 e6 h6w => ?_)
        · have hj2 : j < ys.length := by simpa using hj
          have hi : (ys.map V.str).getD j .non = .str ys[j] := by rw [List.getD_eq_getElem?_getD, List.getElem?_map, List.getElem?_eq_getElem hj2]; rfl
          rw [hi]
          refine ⟨_, rfl, _, rfl, D, _, rfl, .inl (SqL.of (e6 _ _ h5w)), rfl, flat_strs _, _, rfl, ?_⟩
          show (if (!inV (.str ys[j]) ((qs.map (·.1)).map V.str)) = true then _ else _)
          rw [inV_strs]
          by_cases hm : ys[j] ∈ qs.map (·.1)
          · refine ite0 (by simpa using hm) (hR _ (Ex.refl _))
          · refine ite1 (by simpa using hm) ?_
            refine ⟨_, rfl, x, dx, _, rfl, e6 _ _ h15, rfl, _, rfl, _, rfl, x, ys[j], qs, rfl, hN5.ext e6, ?_⟩
            rw [count_none hm]
            exact ⟨_, _, 1, rfl, by decide, .int 0, fun H7 e7 => ⟨_, rfl, hR _ e7⟩⟩
        · exact ⟨Nat.zero_le _, fun p9 hp9 => ⟨D2, p9, _, rfl, rfl, SqL.of ((Ex.new hp9) _ _ h6w), SqL.of upd_same, q _ (e05.trans (e6.trans (Ex.new hp9)))⟩⟩
end
end D0

namespace D0
open PySem PySem.Spec PyProof.Rows L2 L2H HotX Evl K9
theorem op_isBR {X : Cx} {b : Bool} : OpR X (compareOp .Is) (fun x y H Q => y = .bl b ∧ (x = .non ∨ ∃ a, x = .ref a) ∧ Q (.bl false) H) := by
  rintro pins s σ H x y v u Q I rx ry ⟨rfl, hx, q⟩
  obtain rfl : u = Value.bool b := ry
  rcases hx with rfl | ⟨c, rfl⟩
  · obtain rfl : v = Value.none := rx
    exact wpAny_pure ⟨.bl false, _, I, by cases b <;> rfl, q⟩
  · obtain rfl : v = Value.ref c := rx
    exact wpAny_pure ⟨.bl false, _, I, by cases b <;> rfl, q⟩
theorem TabX.exb {H H' : Hp} {P c : Addr} {us : List V} (e : ExB c H H') (hc : H c = some (.lst us)) (h : TabX H P) : TabX H' P := by
  exact e _ _ (fun z => by
    have h : H P = some (.ext (TabF P)) := h
    rw [z, hc] at h
    cases h) h
/-- for i in range(n): nothing is told of the heap -/
theorem forR_by {wi : TI} {i n : Nat} {tb : TS} {D : Ends} {σ : L2.St} {H : Hp} (P : Nat → L2.St → Hp → Prop) (hw : ∀ R : It → Hp → Prop, R (Itr 0 n) H → wi σ H R) (h0 : P 0 σ H)
    (step : ∀ (j : Nat) (σ1 : L2.St) (H1 : Hp) (N : L2.St → Hp → Prop), j < n → P j σ1 H1 → (∀ σ2 H2, P (j + 1) σ2 H2 → N σ2 H2) → tb { nx := N, rt := D.rt, bk := D.nx, ct := N } (σ1.set i (some (.int (j : Int)))) H1)
    (fin : ∀ σ1 H1, P n σ1 H1 → D.nx σ1 H1) : tFor wi (gName i) tb D σ H := by
  refine hw _ ⟨fun j m σ1 H1 => m = n - j ∧ j ≤ n ∧ P j σ1 H1, ⟨n - 0, rfl, Nat.zero_le _, h0⟩, ?_⟩
  rintro j m σ1 H1 ⟨rfl, hj, hp⟩
  by_cases hjn : j = n
  · subst hjn
    exact .inl ⟨Nat.le_refl _, fin σ1 H1 hp⟩
  · have hj2 : j < n := by omega
    refine .inr ⟨hj2, fun σ' H' => n - (j + 1) < n - j ∧ j + 1 ≤ n ∧ P (j + 1) σ' H', ?_, ?_⟩
    · rintro σ' H' ⟨h1, h2, h3⟩
      exact ⟨n - (j + 1), h1, rfl, h2, h3⟩
    · intro x H' hy
      have hx : x = .int (j : Int) := by rw [hy.2, Int.zero_add]
      have hH : H' = H1 := hy.1
      subst hx hH
      exact step j σ1 H' _ hj2 hp fun σ2 H2 p2 => ⟨by omega, by omega, p2⟩
/-! ### what was kept -/
theorem RowAt.exl {H H' : Hp} {c : Addr} {v : V} {r : Str × Int} {us : List V} (e : ExB c H H') (hc : H c = some (.lst us)) (h : RowAt H v r) : RowAt H' v r := by
  obtain ⟨t, rfl, h⟩ := h
  exact ⟨t, rfl, e _ _ (fun z => by rw [z, hc] at h; cases h) h⟩
theorem NamesAt.exl {H H' : Hp} {C x c : Addr} {rs : List (Str × Int)} {us : List V} (e : ExB c H H') (hc : H c = some (.lst us)) (h : NamesAt H C x rs) : NamesAt H' C x rs := by
  obtain ⟨dx, t, c2, vs, ss, h1, h2, h3, h4, h5, h6⟩ := h
  exact ⟨dx, t, c2, vs, ss, e _ _ (fun z => by rw [z, hc] at h1; cases h1) h1, e _ _ (fun z => by rw [z, hc] at h2; cases h2) h2, Paired.ext (fun _ _ z => z.exl e hc) h3, h4, h5, e _ _ (fun z => by rw [z, hc] at h6; cases h6) h6⟩
/-- an entry: an instance, its rows, strange words -/
def KE (C : Addr) (G : Addr → Prop) (H : Hp) (k : V) : Prop := ∃ (p x pr ps : Addr) (ur : List V) (qs : List (Str × Int)) (ys : List Str), k = .ref p ∧ H p = some (.lst [.ref x, .ref pr, .ref ps]) ∧ NamesAt H C x qs ∧ H pr = some (.lst ur) ∧ Paired (RowAt H) ur qs ∧ (qs.map (·.1)).Nodup ∧ qs.length ≤ 24 ∧
  H ps = some (.lst (ys.map V.str)) ∧ ys.length ≤ 60 ∧ ¬ G p ∧ ¬ G pr ∧ ¬ G ps
theorem KE.ext {C : Addr} {G : Addr → Prop} {H H' : Hp} {k : V} (e : Ex H H') (h : KE C G H k) : KE C G H' k := by
  obtain ⟨p, x, pr, ps, ur, qs, ys, rfl, h1, h2, h3, h4, h5, h6, h7, h8, n1, n2, n3⟩ := h
  exact ⟨p, x, pr, ps, ur, qs, ys, rfl, e _ _ h1, h2.ext e, e _ _ h3, Paired.ext (fun _ _ z => z.ext e) h4, h5, h6, e _ _ h7, h8, n1, n2, n3⟩
theorem KE.exb {C c : Addr} {G : Addr → Prop} {H H' : Hp} {k : V} {us : List V} (hG : G c) (e : ExB c H H') (hc : H c = some (.lst us)) (h : KE C G H k) : KE C G H' k := by
  obtain ⟨p, x, pr, ps, ur, qs, ys, rfl, h1, h2, h3, h4, h5, h6, h7, h8, n1, n2, n3⟩ := h
  have ne : ∀ {a : Addr}, ¬ G a → a ≠ c := fun n z => n (by rw [z]; exact hG)
  exact ⟨p, x, pr, ps, ur, qs, ys, rfl, e _ _ (ne n1) h1, h2.exl e hc, e _ _ (ne n2) h3, Paired.ext (fun _ _ z => z.exl e hc) h4, h5, h6, e _ _ (ne n3) h7, h8, n1, n2, n3⟩
def KEs (C : Addr) (G : Addr → Prop) (H : Hp) (ks : List V) : Prop := ∀ k ∈ ks, KE C G H k
theorem KEs.ext {C : Addr} {G : Addr → Prop} {H H' : Hp} {ks : List V} (e : Ex H H') (h : KEs C G H ks) : KEs C G H' ks := fun k hk => (h k hk).ext e
theorem KEs.exb {C c : Addr} {G : Addr → Prop} {H H' : Hp} {ks us : List V} (hG : G c) (e : ExB c H H') (hc : H c = some (.lst us)) (h : KEs C G H ks) : KEs C G H' ks := fun k hk => (h k hk).exb hG e hc
/-- a value's reading as a list of names -/
theorem LB.lq {K : PySem.W.Frag} {F : Addr → Prop} {H : Hp} {v : V} (h : LB F H v) : ∃ o, ListQ K H v o := by
  cases h with
  | other h n m _ _ => exact ⟨none, .other h n m⟩
  | @seq a xs h nb m r =>
    have hr : ∃ rs, Paired (RowQ nameB K H) xs rs := by
      clear h m
      induction xs with
      | nil => exact ⟨[], .nil⟩
      | cons x xs ih =>
        obtain ⟨r1, h1⟩ := (r x (List.mem_cons_self ..)).row (K := K)
        obtain ⟨rs, h2⟩ := ih fun y hy => r y (List.mem_cons_of_mem _ hy)
        exact ⟨_, .cons h1 h2⟩
    obtain ⟨rs, hrs⟩ := hr
    exact ⟨some rs, .seq h (by omega) hrs⟩
theorem KE.more {C q : Addr} {G G' : Addr → Prop} {H : Hp} {k : V} (hq : H q = none) (hG : ∀ a, G' a → G a ∨ a = q) (h : KE C G H k) : KE C G' H k := by
  obtain ⟨p, x, pr, ps, ur, qs, ys, rfl, h1, h2, h3, h4, h5, h6, h7, h8, n1, n2, n3⟩ := h
  have ne : ∀ {a : Addr} {o : HO}, H a = some o → ¬ G a → ¬ G' a := fun ho n z => (hG _ z).elim n fun e => by
    rw [e, hq] at ho
    cases ho
  exact ⟨p, x, pr, ps, ur, qs, ys, rfl, h1, h2, h3, h4, h5, h6, h7, h8, ne h1 n1, ne h3 n2, ne h7 n3⟩
theorem KE.less {C : Addr} {G G' : Addr → Prop} {H : Hp} {k : V} (hG : ∀ a, G' a → G a) (h : KE C G H k) : KE C G' H k := by
  obtain ⟨p, x, pr, ps, ur, qs, ys, rfl, h1, h2, h3, h4, h5, h6, h7, h8, n1, n2, n3⟩ := h
  exact ⟨p, x, pr, ps, ur, qs, ys, rfl, h1, h2, h3, h4, h5, h6, h7, h8, fun z => n1 (hG _ z), fun z => n2 (hG _ z), fun z => n3 (hG _ z)⟩
def Two (b pk : Addr) : Addr → Prop := fun a => a = b ∨ a = pk
structure NR (C b pk Ph Pa : Addr) (H0 H : Hp) (ks : List V) (mm : Nat) : Prop where
  kp : H pk = some (.lst ks)
  ke : KEs C (Two b pk) H ks
  B : BoxAt H b mm
  th : TabX H Ph
  ta : TabX H Pa
  x : ExB b H0 H
  nk : pk ≠ b
  n0 : H0 pk = none
theorem NR.ext {C b pk Ph Pa : Addr} {H0 H H' : Hp} {ks : List V} {mm : Nat} (s : NR C b pk Ph Pa H0 H ks mm) (e : Ex H H') : NR C b pk Ph Pa H0 H' ks mm :=
  ⟨e _ _ s.kp, s.ke.ext e, s.B.ex e, s.th.ext e, s.ta.ext e, s.x.trans (Ex.but e), s.nk, s.n0⟩
theorem NR.box {C b pk Ph Pa : Addr} {H0 H H' : Hp} {ks : List V} {mm m2 : Nat} (s : NR C b pk Ph Pa H0 H ks mm) (e : ExB b H H') (hB : BoxAt H' b m2) : NR C b pk Ph Pa H0 H' ks m2 := by
  obtain ⟨u, h1⟩ := s.B.at_
  exact ⟨e _ _ s.nk s.kp, s.ke.exb (.inl rfl) e h1, hB, D0.TabX.exb e h1 s.th, D0.TabX.exb e h1 s.ta, s.x.trans e, s.nk, s.n0⟩
theorem seq_fun {H : Hp} {a : Addr} {xs ys : List V} (h : SeqAt H a xs) (h' : SeqAt H a ys) : xs = ys := by
  rcases h with h | h <;> rcases h' with h' | h' <;> rw [h] at h' <;> cases h' <;> rfl
theorem Bas.noSeq {H : Hp} {a : Addr} {s : String} {xs : List V} (h : Bas H (.ref a) s) (n : s ≠ "list") (m : s ≠ "tuple") (h' : SeqAt H a xs) : False := by
  cases h with
  | lst _ => exact n rfl
  | tup _ => exact m rfl
  | dK g => rcases h' with h' | h' <;> rw [g] at h' <;> cases h'
theorem LB.svl {F : Addr → Prop} {H : Hp} {a : Addr} {xs : List V} (h : LB F H (.ref a)) (hs : SeqAt H a xs) : xs.length ≤ 30 ∧ ∃ n, SvL F H xs n ∧ n ≤ 600 := by
  cases h with
  | other g n m _ _ => exact (D0.Bas.noSeq g n m hs).elim
  | seq g nb m r =>
    obtain rfl := seq_fun g hs
    obtain ⟨n, h1, h2⟩ := r.sv
    exact ⟨m, n, h1, by omega⟩
theorem lq_seq {K : PySem.W.Frag} {H : Hp} {a : Addr} {xs : List V} {o : Option (List (Option (Str × Int)))} (h : ListQ K H (.ref a) o) (hs : SeqAt H a xs) : ∃ rs, o = some rs ∧ xs.length ≤ 1000 ∧ Paired (RowQ nameB K H) xs rs := by
  cases h with
  | other g n m => exact (D0.Bas.noSeq g n m hs).elim
  | seq g m r =>
    obtain rfl := seq_fun g hs
    exact ⟨_, rfl, m, r⟩
theorem lq_copy {K : PySem.W.Frag} {H H' : Hp} {a p : Addr} {xs : List V} {o : Option (List (Option (Str × Int)))} (h : ListQ K H (.ref a) o) (hs : SeqAt H a xs) (e : Ex H H') (hp : SeqAt H' p xs) : ListQ K H' (.ref p) o := by
  obtain ⟨rs, rfl, m, r⟩ := lq_seq h hs
  exact .seq hp m (Paired.ext (fun _ _ z => z.ext e) r)
theorem MIn.at_ {H : Hp} {a : Addr} (h : MIn H (.ref a)) : ∃ o, H a = some o := by
  cases h with
  | lst h _ _ _ => exact ⟨_, h⟩
  | other h _ _ _ =>
    cases h with
    | lst h => exact ⟨_, h⟩
    | tup h => exact ⟨_, h⟩
    | dK h => exact ⟨_, h⟩
theorem MIn.ext {H H' : Hp} {v : V} (e : Ex H H') (h : MIn H v) : MIn H' v := by
  cases h with
  | lst h sv l m => exact .lst (e _ _ h) (sv.ext e) l m
  | other h ns lk l => exact .other (h.ext e) ns (lk.ext e) l
/-- what is handed over: H12 the heap ahead of it -/
structure Hand (K : PySem.W.Frag) (o : Option (List (Option (Str × Int)))) (H12 : Hp) (hd : V) (H : Hp) : Prop where
  e : Ex H12 H
  q : ListQ K H hd o
  m : MIn H hd
  f : ∀ a us, hd = .ref a → H a = some (.lst us) → H12 a = none
theorem Hand.ext {K : PySem.W.Frag} {o : Option (List (Option (Str × Int)))} {H12 H H' : Hp} {hd : V} (h : Hand K o H12 hd H) (e : Ex H H') : Hand K o H12 hd H' := by
  refine ⟨h.e.trans e, h.q.ext e, h.m.ext e, fun a us ea ha => ?_⟩
  obtain ⟨u, hu⟩ := (show MIn H (.ref a) from ea ▸ h.m).at_
  have hu2 := e _ _ hu
  rw [ha] at hu2
  injection hu2 with hu2
  exact h.f a us ea (by rw [hu, hu2])
theorem BoxAt.exk {H H' : Hp} {b c : Addr} {n : Nat} (e : ExB c H H') (nb : b ≠ c) (h : BoxAt H b n) : BoxAt H' b n := by
  obtain ⟨g, x, y, z, h1, r⟩ := h
  exact ⟨g, x, y, z, e _ _ nb h1, r⟩
abbrev zz2 : List Str := ["Zzzzzzzz", "Zzzzzzzy"]
abbrev az (u v : Str) : List Str := ["A", "Z", u, v]
theorem last_l {K : PySem.W.Frag} {σ : L2.St} {H : Hp} {Q : VK} {pn : Addr} {ys : List Str} (h4 : σ[4]? = some (some (.ref pn))) (hp : H pn = some (.lst (ys.map V.str))) (ly : 1 ≤ ys.length) (hy : ∀ y ∈ ys, y.length ≤ 20) (q : ∀ z : Str, Q (.str z) H) :
    tIf (tTest (tOp (rI0 fun i j => .bl (decide (i < j))) (tCB (fun xs H Q => ∃ z : Str, xs = [V.str z] ∧ z.length ≤ sizeLine ∧ Q (V.int (z.length : Int)) H) (tCons (tOp (rIxL K) (tVar 4) (tUn (rU fun i => .int (-i)) (tC (.int 1)))) tNil)) (tC (.int 8))))
      (tOp (fun x y H Q => ∃ i j : Str, x = V.str i ∧ y = V.str j ∧ i.length + j.length ≤ sizeLine ∧ Q (V.str (i ++ j)) H) (tOp (rIxL K) (tVar 4) (tUn (rU fun i => .int (-i)) (tC (.int 1)))) (tC (.str "a"))) (tC (.str "Zz")) σ H Q := by
  have sz := sizeLine_eq
  have hl : ys.length - 1 < ys.length := by omega
  have hz := hy _ (List.getElem_mem hl)
  have ha : atI (ys.map V.str) (-1) = some (.str (ys[ys.length - 1])) := by
    unfold atI ixN
    rw [if_neg (by decide), if_pos (by rw [List.length_map]; omega)]
    show (ys.map V.str)[((-1 : Int) + ((ys.map V.str).length : Int)).toNat]? = _
    rw [show ((-1 : Int) + ((ys.map V.str).length : Int)).toNat = ys.length - 1 from by rw [List.length_map]; omega, List.getElem?_map, List.getElem?_eq_getElem hl]
    rfl
  refine ⟨_, h4, 1, rfl, pn, _, -1, _, rfl, rfl, SqL.of hp, ha, _, rfl, by omega, _, _, rfl, rfl, _, rfl, ?_⟩
  dsimp only
  split
  · have l1 : ("a" : Str).length = 1 := rfl
    exact ⟨_, h4, 1, rfl, pn, _, -1, _, rfl, rfl, SqL.of hp, ha, _, _, rfl, rfl, by omega, q _⟩
  · exact q _
section
variable {P : Program} {w : World} {K : PySem.W.Frag} {mg : Str → Option Value} {base : Heap} {f : Addr} {fd : FuncData} {k : Nat}
def spNR (Ph Pa : Addr) : Sp := fun vs H Q _ => ∃ (b : Addr) (c : Bool) (m : Nat), vs = [.ref b, .bl c] ∧ m + 400 ≤ 1000 ∧ BoxAt H b m ∧ TabX H Ph ∧ TabX H Pa ∧ ∀ H', ExB b H H' → BoxAt H' b (m + 400) → Q (.bl true) H'
abbrev s_names_right : Stmt := top 44
abbrev N_names_right : List Str := ["box", "by_name", "kept", "turn", "words", "values", "strange", "value", "rows", "handed", "names"]
theorem sc_names_right : FnScope N_names_right ["box", "by_name"] (defScope s_names_right) := ⟨rfl, rfl, rfl, by decide +kernel, rfl, by decide +kernel, by decide +kernel⟩
theorem ok_names_right {C Ph Pa : Addr} (T : Txt K mg) (k_lists : OkC P w K mg base k "_law_lists" ["box"] spLists) (k_names_due : OkC P w K mg base k "_law_names_due" ["value"] (spNamesDue K)) (k_made : OkC P w K mg base k "_law_made" ["value", "by_name"] (spMade K C Ph Pa))
    (k_told_right : OkC P w K mg base k "_law_told_right" ["names", "rows", "strange", "by_name"] (spTold C)) (F : FunD K "_law_names_right" "_law_names_right" (defArgs s_names_right) (defBody s_names_right) (defScope s_names_right) [] [] f fd) (hm : mg "_law_names_right" = some (.ref f)) : OkC P w K mg base (k + 1) "_law_names_right" ["box", "by_name"] (spNR Ph Pa) := by
  refine okC_of F hm sc_names_right (fun _ _ _ _ _ _ us hl => match us, hl with | [_, _], _ => rfl) (fun vs H Q E h => ?_) (fun cdv A outer s H vs Q E hr h => ?_)
  · obtain ⟨b, c, m, rfl, _⟩ := h
    rfl
  · obtain ⟨b, c, m, rfl, hm, hB, hTh, hTa, q⟩ := h
    refine ⟨_, PSs.nox (pss_cons (ps_set (i := 2) sc_names_right.nd rfl (Or.inl rfl) (pe_lst pa_nil)) (pss_cons (ps_for PassesOwn.never rfl (pi_range1 (by rfl) T.f_range (pa_cons pe_int pa_nil)) (pg_name (i := 3) sc_names_right.nd rfl (Or.inl rfl)) (pss_cons (ps_asg (pe_callK0 k_lists hr (by rfl) (pa_cons (pv 0) pa_nil)) (pg_tupC (.inl ⟨rfl, rfl⟩) (pgs_cons (pg_name (i := 4) sc_names_right.nd rfl (Or.inl rfl)) (pgs_cons (pg_name (i := 5) sc_names_right.nd rfl (Or.inl rfl)) pgs_nil)))) (pss_cons (ps_set (i := 6) sc_names_right.nd rfl (Or.inl rfl) (pe_op op_cat (pv 4) (pe_lst (pa_cons pe_str (pa_cons pe_str (pa_cons (pe_slice sl_str (pe_ix ix_list (pv 4) pe_int fun _ _ => rfl) po_none (po_some pe_int)) (pa_cons (pe_ifExp (pt_cmpR op_lt (pe_callB call_len_str (by rfl) T.f_len (by decide +kernel) (pa_cons (pe_ix ix_list (pv 4) (pe_un un_neg pe_int) fun _ _ => rfl) pa_nil)) pe_int (nomark _)) (pe_op op_add_str (pe_ix ix_list (pv 4) (pe_un un_neg pe_int) fun _ _ => rfl) pe_str) pe_str) pa_nil))))))) (pss_one (ps_for PassesOwn.never rfl (pi_list (pv 5)) (pg_name (i := 7) sc_names_right.nd rfl (Or.inl rfl)) (pss_cons (ps_set (i := 8) sc_names_right.nd rfl (Or.inl rfl) (pe_ifExp (pt_val (pe_callK0 k_names_due hr (by rfl) (pa_cons (pv 7) pa_nil))) (pe_callTy call_list_of (by rfl) T.f_list (by decide +kernel) (pa_cons (pv 7) pa_nil)) (pe_lst pa_nil))) (pss_cons (ps_set (i := 9) sc_names_right.nd rfl (Or.inl rfl) (pe_ifExp (pt_val (pe_callB call_isi (by rfl) T.f_isinstance (by decide +kernel) (pa_cons (pv 7) (pa_cons (pe_bltn (v := .ty "list") (by rfl) T.f_list (by decide +kernel) rfl) pa_nil)))) (pe_callTy call_list_of (by rfl) T.f_list (by decide +kernel) (pa_cons (pv 7) pa_nil)) (pv 7))) (pss_cons (ps_if (pw_and (pt_cmpR (op_ne0 (huC (roomH_of hr))) (pv 8) (pe_lst pa_nil) (nomark _)) (pw_and (pt_val (pv 1)) (pw_and1 (pt_cmpR op_eq (pv 3) pe_int (nomark _))))).pt (pss_one (ps_set (i := 9) sc_names_right.nd rfl (Or.inl rfl) (pe_callTy call_tuple_of (by rfl) T.f_tuple (by decide +kernel) (pa_cons (pv 7) pa_nil)))) pss_nil) (pss_cons (ps_set (i := 10) sc_names_right.nd rfl (Or.inl rfl) (pe_callK0 k_made hr (by rfl) (pa_cons (pv 9) (pa_cons (pv 1) pa_nil)))) (pss_cons (ps_if (pt_cmpR (op_isBR (b := false)) (pv 10) pe_bl (nomark _)) (pss_one (ps_ret pe_bl)) pss_nil) (pss_one (ps_if (pt_cmpR op_notN (pv 10) pe_non (nomark _)) (pss_cons (ps_expr (pe_bm PySem.F.plainAttrs_list PySem.F.slot_list_append PySem.F.type_list_append mt_append (pv 2) (pa_cons (pe_lst (pa_cons (pv 10) (pa_cons (pv 8) (pa_cons (pv 6) pa_nil)))) pa_nil))) (pss_one (ps_if (pt_val (pe_callB call_isi (by rfl) T.f_isinstance (by decide +kernel) (pa_cons (pv 9) (pa_cons (pe_bltn (v := .ty "list") (by rfl) T.f_list (by decide +kernel) rfl) pa_nil)))) (pss_cons (ps_expr (pe_bm PySem.F.plainAttrs_list PySem.F.slot_list_append PySem.F.type_list_append mt_append (pv 9) (pa_cons (pe_tup (pa_cons pe_str (pa_cons pe_int pa_nil))) pa_nil))) (pss_one (ps_asg (pe_tup (pa_cons pe_str (pa_cons pe_int pa_nil))) (pg_sub (pv 9) pe_int set_list)))) pss_nil))) pss_nil)))))))))))) (pss_cons (ps_for PassesOwn.never rfl (pi_range1 (by rfl) T.f_range (pa_cons pe_int pa_nil)) (pg_name (i := 3) sc_names_right.nd rfl (Or.inl rfl)) (pss_one (ps_for PassesOwn.never rfl (pi_list (pv 2)) (pg_unl rfl (pgs_cons (pg_name (i := 10) sc_names_right.nd rfl (Or.inl rfl)) (pgs_cons (pg_name (i := 8) sc_names_right.nd rfl (Or.inl rfl)) (pgs_cons (pg_name (i := 6) sc_names_right.nd rfl (Or.inl rfl)) pgs_nil)))) (pss_one (ps_if (pt_not (pt_val (pe_callK0 k_told_right hr (by rfl) (pa_cons (pv 10) (pa_cons (pv 8) (pa_cons (pe_op op_cat (pv 6) (pe_lst (pa_cons pe_str (pa_cons pe_str pa_nil)))) (pa_cons (pe_cmpR op_eq (pv 1) (pe_cmpR op_eq (pv 3) pe_int (nomark _)) (nomark _)) pa_nil))))))) (pss_one (ps_ret pe_bl)) pss_nil))))) (pss_one (ps_ret pe_bl))))), ?_⟩
    have sz := sizeLine_eq
    obtain ⟨xs0, hb0⟩ := hB.at_
    refine seq_l (asg_l ⟨Nat.zero_le _, fun pk hpk => nx_p ?_⟩)
    have nkb : pk ≠ b := (ne_of_none hb0 hpk).symm
    have e1 : Ex H (upd H pk (.lst [])) := Ex.new hpk
    have N1 : NR C b pk Ph Pa H (upd H pk (.lst [])) [] (m + 200 * 0) := ⟨upd_same, fun k hk => absurd hk (by simp), hB.ex e1, hTh.ext e1, hTa.ext e1, Ex.but e1, nkb, hpk⟩
    generalize upd H pk (.lst []) = H1 at N1 ⊢
    refine seq_l (forR_by (n := 2) (fun j σ1 H1 => ∃ (ks : List V) (o3 o4 o5 o6 o7 o8 o9 o10 : Option V), σ1 = [some (.ref b), some (.bl c), some (.ref pk), o3, o4, o5, o6, o7, o8, o9, o10] ∧ NR C b pk Ph Pa H H1 ks (m + 200 * j) ∧ ks.length ≤ 60 * j) (fun R h => ⟨2, rfl, by decide, by decide, h⟩) ⟨[], _, _, _, _, _, _, _, _, rfl, N1, Nat.le_refl _⟩ (fun j σ1 H2 N hj hp kN => ?_) (fun σ1 H2 hp => ?_))
    · obtain ⟨ks, o3, o4, o5, o6, o7, o8, o9, o10, rfl, N2, lk⟩ := hp
      refine seq_l (asgG_l ⟨_, rfl, b, m + 200 * j, rfl, by omega, N2.B, fun r pn pv ys xs H3 x3 hB3 hr3 hpn hpv npn npv ly1 ly2 hy lx lbs => ⟨r, _, rfl, SqT.of hr3, rfl, _, _, rfl, _, _, rfl, rfl, nx_p ?_⟩⟩)
      have N3 := N2.box x3 hB3
      obtain ⟨ub2, hb2⟩ := N2.B.at_
      have hFb : Alloc H2 b := ⟨_, hb2⟩
      have hFk : Alloc H2 pk := ⟨_, N2.kp⟩
      have nvk : pv ≠ pk := fun z => npv (by rw [z]; exact hFk)
      have hl0 : 0 < ys.length := by omega
      have hz0 := hy _ (List.getElem_mem hl0)
      refine seq_l (asg_l (op_l ⟨_, rfl, lst_l ?_⟩))
      refine ⟨_, rfl, pn, _, 0, .str ys[0], rfl, rfl, SqL.of hpn, atI_nat (j := 0) (by rw [List.getElem?_map, List.getElem?_eq_getElem hl0]; rfl), _, rfl, ys[0], rfl, by omega, ?_⟩
      refine cons_l (last_l rfl hpn ly1 hy fun z4 => ?_)
      refine ⟨by show 4 ≤ sizeLine; decide, fun p4 hp4 => ⟨pn, p4, _, _, rfl, rfl, (Ex.new hp4) _ _ hpn, upd_same, by rw [List.length_map]; show ys.length + 4 ≤ sizeLine; omega, fun ps hps => nx_p ?_⟩⟩
      have e5 : Ex H3 (upd (upd H3 p4 (.lst [.str "A", .str "Z", .str (cutS ys[0] none (some 1)), .str z4])) ps (.lst (ys.map V.str ++ [.str "A", .str "Z", .str (cutS ys[0] none (some 1)), .str z4]))) := (Ex.new hp4).trans (Ex.new hps)
      have nsb : ps ≠ b := by
        obtain ⟨u, hu⟩ := hB3.at_
        exact (ne_of_none ((Ex.new hp4) _ _ hu) hps).symm
      have nsk : ps ≠ pk := (ne_of_none ((Ex.new hp4) _ _ N3.kp) hps).symm
      have h5s : upd (upd H3 p4 (.lst [.str "A", .str "Z", .str (cutS ys[0] none (some 1)), .str z4])) ps (.lst (ys.map V.str ++ [.str "A", .str "Z", .str (cutS ys[0] none (some 1)), .str z4])) ps = some (.lst ((ys ++ az (cutS ys[0] none (some 1)) z4).map V.str)) := by
        rw [List.map_append]
        exact upd_same
      have l5 : (ys ++ az (cutS ys[0] none (some 1)) z4).length ≤ 40 := by
        rw [List.length_append]
        show ys.length + 4 ≤ 40
        omega
      generalize upd (upd H3 p4 (.lst [.str "A", .str "Z", .str (cutS ys[0] none (some 1)), .str z4])) ps (.lst (ys.map V.str ++ [.str "A", .str "Z", .str (cutS ys[0] none (some 1)), .str z4])) = H5 at e5 h5s ⊢
      generalize ys ++ az (cutS ys[0] none (some 1)) z4 = zs at h5s l5
      have N5 := N3.ext e5
      have h5v := e5 _ _ hpv
      have lbs5 := lbs.ext e5
      refine forB_by (b := pk) (J := Itl K pv) (n := xs.length) (item := fun i => xs.getD i .non) (fun i σ1 H1 => ∃ (ks : List V) (o7 o8 o9 o10 : Option V), σ1 = [some (.ref b), some (.bl c), some (.ref pk), some (.int (j : Int)), some (.ref pn), some (.ref pv), some (.ref ps), o7, o8, o9, o10] ∧ NR C b pk Ph Pa H H1 ks (m + 200 * j + 200) ∧ ks.length ≤ 60 * j + i ∧ H1 ps = some (.lst (zs.map V.str)) ∧ LBs (Alloc H2) H1 xs) (fun R h => ⟨_, rfl, pv, rfl, ⟨_, SqL.of h5v⟩, h⟩) (walksB_list h5v nvk) ⟨ks, _, _, _, _, rfl, N5, by omega, h5s, lbs5⟩ (fun i σ1 H10 N' hi x10 hp kk => ?_) (fun σ1 H10 x10 hp => ?_)
      · obtain ⟨ks, o7, o8, o9, o10, rfl, N10, lks, h10s, lbs10⟩ := hp
        have hv0 : xs.getD i V.non = xs[i] := by rw [List.getD_eq_getElem?_getD, List.getElem?_eq_getElem hi]; rfl
        rw [hv0]
        have hlb := lbs10 _ (List.getElem_mem hi)
        generalize xs[i] = v at hlb ⊢
        obtain ⟨o, hlq⟩ := hlb.lq (K := K)
        refine seq_l (join_l (α := Addr × List V) (S := fun a => [some (.ref b), some (.bl c), some (.ref pk), some (.int (j : Int)), some (.ref pn), some (.ref pv), some (.ref ps), some v, some (.ref a.1), o9, o10]) (R := fun a H12 => Ex H10 H12 ∧ H12 a.1 = some (.lst a.2) ∧ H10 a.1 = none ∧ (onList o = true → ∃ a0, v = .ref a0 ∧ SeqAt H12 a0 a.2) ∧ (onList o = false → a.2 = [])) (fun a H12 ha => ?_) (fun main => ?_))
        · obtain ⟨pr, ur⟩ := a
          obtain ⟨e12, hur, nur, ut, uf⟩ := ha
          have hur : H12 pr = some (.lst ur) := hur
          have nur : H10 pr = none := nur
          have hlb12 := hlb.ext e12
          have hlq12 := hlq.ext e12
          refine nx_p (seq_l (join_l (α := V) (S := fun hd => [some (.ref b), some (.bl c), some (.ref pk), some (.int (j : Int)), some (.ref pn), some (.ref pv), some (.ref ps), some v, some (.ref pr), some hd, o10]) (R := fun hd H13 => Hand K o H12 hd H13) (fun hd H13 h13 => ?_) (fun main2 => ?_)))
          · have hur13 := h13.e _ _ hur
            refine nx_p (seq_l (join_l (α := V) (S := fun hd => [some (.ref b), some (.bl c), some (.ref pk), some (.int (j : Int)), some (.ref pn), some (.ref pv), some (.ref ps), some v, some (.ref pr), some hd, o10]) (R := fun hd H14 => Hand K o H12 hd H14) (fun hd H14 h14 => ?_) (fun main3 => ?_)))
            · have xe : Ex H10 H14 := e12.trans h14.e
              have N14 := N10.ext xe
              have h12k := e12 _ _ N10.kp
              refine nx_p (seq_l (asg_l ⟨_, rfl, _, rfl, hd, c, o, rfl, h14.q, N14.th, N14.ta, h14.m, fun qs x H15 ho1 ho e15 hN => nx_p ?_, fun ho H15 xm => nx_p ?_⟩))
              · have N15 := N14.ext e15
                refine seq_l (ifs_op ⟨_, rfl, rfl, .inr ⟨_, rfl⟩, _, rfl, ite0 (by decide) (nx_l ?_)⟩)
                refine ifs_op ⟨_, rfl, rfl, _, rfl, ite1 (by simp) ?_⟩
                refine seq_l ⟨_, rfl, .inl ⟨rfl, _, SqL.of N15.kp⟩, _, rfl, _, rfl, _, rfl, by show 3 ≤ sizeLine; decide, fun p16 hp16 => ?_⟩
                have e16 : Ex H15 (upd H15 p16 (.lst [.ref x, .ref pr, .ref ps])) := Ex.new hp16
                have h16 : upd H15 p16 (.lst [.ref x, .ref pr, .ref ps]) p16 = some (.lst [.ref x, .ref pr, .ref ps]) := upd_same
                generalize upd H15 p16 (.lst [.ref x, .ref pr, .ref ps]) = H16 at e16 h16 ⊢
                have N16 := N15.ext e16
                have e1016 : Ex H10 H16 := xe.trans (e15.trans e16)
                have e1216 : Ex H12 H16 := h14.e.trans (e15.trans e16)
                obtain ⟨a0, rfl, hs⟩ := ut ho
                obtain ⟨rs, ho2, m30, rq⟩ := lq_seq hlq12 hs
                have hrs : rs = qs.map some := by
                  rw [ho2] at ho1
                  exact Option.some.inj ho1
                rw [hrs] at rq
                have rr : Paired (RowAt H16) ur qs := Paired.ext (fun _ _ z => z.ext e1216) (rows_of rq)
                have hgood : goodL (qs.map some) = true := by
                  rw [ho1] at ho
                  exact ho
                obtain ⟨qs', eq', nd, l24⟩ := good_rows hgood
                have hqq : qs = qs' := (List.map_inj_right (fun _ _ h => Option.some.inj h)).mp eq'
                rw [← hqq] at nd l24
                obtain ⟨ub15, hb15⟩ := N15.B.at_
                have p16b : p16 ≠ b := (ne_of_none hb15 hp16).symm
                have p16k : p16 ≠ pk := (ne_of_none N15.kp hp16).symm
                obtain ⟨ub10, hb10⟩ := N10.B.at_
                have prb : pr ≠ b := (ne_of_none hb10 nur).symm
                have prk : pr ≠ pk := (ne_of_none N10.kp nur).symm
                have mkE : ∀ G' : Addr → Prop, ¬ G' p16 → ¬ G' pr → ¬ G' ps → KE C G' H16 (.ref p16) := fun G' n1 n2 n3 =>
                  ⟨p16, x, pr, ps, ur, qs, zs, rfl, h16, hN.ext e16, e1216 _ _ hur, rr, nd, l24, e1016 _ _ h10s, by omega, n1, n2, n3⟩
                refine ⟨pk, ks, .ref p16, rfl, rfl, N16.kp, by omega, ?_⟩
                have b17 : ExB pk H16 (upd H16 pk (.lst (ks ++ [.ref p16]))) := ExB.set
                have k17 : upd H16 pk (.lst (ks ++ [.ref p16])) pk = some (.lst (ks ++ [.ref p16])) := upd_same
                have hm14 := h14.m
                refine nx_p ?_
                generalize upd H16 pk (.lst (ks ++ [.ref p16])) = H17 at b17 k17 ⊢
                refine ⟨_, rfl, ?_⟩
                dsimp only [tCons, tC, tNil]
                cases hm14 with
                | @lst ph us n hph sv l m =>
                  have ph0 : H12 ph = none := h14.f ph us rfl hph
                  have phk : ph ≠ pk := (ne_of_none h12k ph0).symm
                  have phb : ph ≠ b := (ne_of_none (e12 _ _ hb10) ph0).symm
                  have ph10 : H10 ph = none := by
                    cases hh : H10 ph with
                    | none => rfl
                    | some u => rw [e12 _ _ hh] at ph0; cases ph0
                  have php : p16 ≠ ph := (ne_of_none (e15 _ _ hph) hp16).symm
                  have phr : pr ≠ ph := ne_of_none hur ph0
                  have phs : ps ≠ ph := ne_of_none (e12 _ _ h10s) ph0
                  have h17p := b17 _ _ phk (e16 _ _ (e15 _ _ hph))
                  have E17 : KE C (fun a => Two b pk a ∨ a = ph) H17 (.ref p16) := (mkE _ (fun z => z.elim (fun z => z.elim p16b p16k) php) (fun z => z.elim (fun z => z.elim prb prk) phr) (fun z => z.elim (fun z => z.elim nsb nsk) phs)).exb (.inl (.inr rfl)) b17 N16.kp
                  refine Bas.isi (T := "list") (r := true) (.lst h17p) rfl ⟨_, rfl, ite1 rfl ?_⟩
                  refine seq_l ⟨_, rfl, .inl ⟨rfl, _, SqL.of h17p⟩, by show 2 ≤ sizeLine; decide, fun p18 hp18 => ?_⟩
                  have e18 : Ex H17 (upd H17 p18 (.tup [.str "Zzzzzzzz", .int 3])) := Ex.new hp18
                  generalize upd H17 p18 (.tup [.str "Zzzzzzzz", .int 3]) = H18 at e18 ⊢
                  have h18p := e18 _ _ h17p
                  refine ⟨ph, us, .ref p18, rfl, rfl, h18p, by omega, ?_⟩
                  have b19 : ExB ph H18 (upd H18 ph (.lst (us ++ [.ref p18]))) := ExB.set
                  have h19p : upd H18 ph (.lst (us ++ [.ref p18])) ph = some (.lst (us ++ [.ref p18])) := upd_same
                  refine nx_p ?_
                  generalize upd H18 ph (.lst (us ++ [.ref p18])) = H19 at b19 h19p ⊢
                  refine asgG_l (tup_l ⟨by show 2 ≤ sizeLine; decide, fun p20 hp20 => ?_⟩)
                  have e20 : Ex H19 (upd H19 p20 (.tup [.str "Zzzzzzzy", .int 2])) := Ex.new hp20
                  generalize upd H19 p20 (.tup [.str "Zzzzzzzy", .int 2]) = H20 at e20 ⊢
                  have h20p := e20 _ _ h19p
                  refine ⟨_, rfl, ph, _, 0, 0, rfl, rfl, h20p, ?_, ?_⟩
                  · unfold ixN
                    simp
                  · have b21 : ExB ph H20 (upd H20 ph (.lst ((us ++ [V.ref p18]).set 0 (V.ref p20)))) := ExB.set
                    generalize upd H20 ph (.lst ((us ++ [V.ref p18]).set 0 (V.ref p20))) = H21 at b21 ⊢
                    have r1721 : ExB ph H17 H21 := (Ex.but e18).trans (b19.trans ((Ex.but e20).trans b21))
                    have rel : ExB pk H10 H21 := fun a o' na ha => r1721 _ _ (ne_of_none ha ph10) (b17 _ _ na (e1016 _ _ ha))
                    have k21 := r1721 _ _ phk.symm k17
                    have E21 := (E17.exb (.inr rfl) r1721 h17p).less (G' := Two b pk) fun a z => .inl z
                    refine kk _ _ rel ⟨ks ++ [.ref p16], _, _, _, _, rfl, ⟨k21, fun k hk => ?_, BoxAt.exk rel N10.nk.symm N10.B, D0.TabX.exb rel N10.kp N10.th, D0.TabX.exb rel N10.kp N10.ta, fun a o' na ha => rel _ _ (ne_of_none ha N10.n0) (N10.x _ _ na ha), N10.nk, N10.n0⟩, by simp; omega, rel _ _ nsk h10s, lbs10.exb hFk rel N10.kp k21⟩
                    rcases List.mem_append.mp hk with h | h
                    · exact (N10.ke k h).exb (.inr rfl) rel N10.kp
                    · rw [List.mem_singleton.mp h]
                      exact E21
                | @other hd s n hbas ns lkk l =>
                  have hbas17 : Bas H17 hd s := by
                    have hb16 := (hbas.ext e15).ext e16
                    clear hbas
                    cases hb16 with
                    | non => exact .non
                    | bl b => exact .bl b
                    | int i => exact .int i
                    | str z => exact .str z
                    | lst h => exact absurd rfl ns
                    | tup h => exact .tup (b17 _ _ (fun z => by rw [z, N16.kp] at h; cases h) h)
                    | dK h => exact .dK (b17 _ _ (fun z => by rw [z, N16.kp] at h; cases h) h)
                  have E17 : KE C (Two b pk) H17 (.ref p16) := (mkE _ (fun z => z.elim p16b p16k) (fun z => z.elim prb prk) (fun z => z.elim nsb nsk)).exb (.inr rfl) b17 N16.kp
                  have rel : ExB pk H10 H17 := fun a o' na ha => b17 _ _ na (e1016 _ _ ha)
                  refine Bas.isi (T := "list") (r := false) hbas17 ?_ ⟨_, rfl, ite0 (by decide) (nx_l ?_)⟩
                  · cases hbas17 <;> first
                      | rfl
                      | exact absurd rfl ns
                  refine kk _ _ rel ⟨ks ++ [.ref p16], _, _, _, _, rfl, ⟨k17, fun k hk => ?_, BoxAt.exk rel N10.nk.symm N10.B, D0.TabX.exb rel N10.kp N10.th, D0.TabX.exb rel N10.kp N10.ta, fun a o' na ha => rel _ _ (ne_of_none ha N10.n0) (N10.x _ _ na ha), N10.nk, N10.n0⟩, by simp; omega, rel _ _ nsk h10s, lbs10.exb hFk rel N10.kp k17⟩
                  rcases List.mem_append.mp hk with h | h
                  · exact (N10.ke k h).exb (.inr rfl) rel N10.kp
                  · rw [List.mem_singleton.mp h]
                    exact E17
              · have e1015 : Ex H10 H15 := fun a o' ha => xm a o' (fun us eo ehd => by
                  have z := h14.f a us ehd (by rw [← eo]; exact xe _ _ ha)
                  rw [e12 _ _ ha] at z
                  cases z) (xe _ _ ha)
                refine seq_l (ifs_op ⟨_, rfl, rfl, .inl rfl, _, rfl, ite0 (by decide) (nx_l ?_)⟩)
                refine ifs_op ⟨_, rfl, rfl, _, rfl, ite0 (by decide) (nx_l ?_)⟩
                exact kk _ _ (Ex.but e1015) ⟨ks, _, _, _, _, rfl, N10.ext e1015, by omega, e1015 _ _ h10s, lbs10.ext e1015⟩
            · refine ⟨_, rfl, Nat.zero_le _, fun p14 hp14 => ⟨pr, p14, ur, rfl, rfl, SqL.of ((Ex.new hp14) _ _ hur13), SqL.of upd_same, _, rfl, ?_⟩⟩
              have h14 := h13.ext (Ex.new (o := .lst []) hp14)
              have skip := main3 hd _ h14
              have e14 : Ex H12 (upd H13 p14 (.lst [])) := h13.e.trans (Ex.new hp14)
              generalize upd H13 p14 (.lst []) = H14 at h14 skip e14 ⊢
              by_cases he : ur = []
              · exact ite0 (by rw [he]; decide) (ite0 (by decide) skip)
              · refine ite1 (by
                  cases ur with
                  | nil => exact absurd rfl he
                  | cons _ _ => rfl) ⟨_, rfl, _, rfl, ?_⟩
                cases c with
                | false => exact ite0 (by decide) (ite0 (by decide) skip)
                | true =>
                  refine ite1 rfl ⟨_, rfl, rfl, _, rfl, ?_⟩
                  by_cases hj0 : (j : Int) = 0
                  · refine ite1 (by simp [hj0]) ?_
                    have hol : onList o = true := by
                      cases hh : onList o with
                      | true => rfl
                      | false => exact absurd (uf hh) he
                    obtain ⟨a0, rfl, hs⟩ := ut hol
                    have hs14 : SeqAt H14 a0 ur := SeqAt.ext e14 hs
                    obtain ⟨m30, n, sv, hn⟩ := LB.svl (hlb12.ext e14) hs14
                    have hlq14 := hlq12.ext e14
                    rcases hs14 with h | h
                    · refine asg_l ⟨_, rfl, a0, ur, rfl, .inl ⟨SqL.of h, fun l hl => ?_⟩⟩
                      have el : Ex H14 (upd H14 l (.tup ur)) := Ex.new hl
                      exact main3 (.ref l) _ ⟨e14.trans el, lq_copy hlq14 (.inl h) el (.inr upd_same), .other (.tup upd_same) (by decide) (.tup upd_same upd_same (sv.ext el).lk) (by omega), fun a us ea ha => by cases ea; rw [upd_same] at ha; cases ha⟩
                    · refine asg_l ⟨_, rfl, a0, ur, rfl, .inr ⟨SqT.of h, ?_⟩⟩
                      exact main3 (.ref a0) _ ⟨e14, hlq14, .other (.tup h) (by decide) (.tup h h sv.lk) (by omega), fun a us ea ha => by cases ea; rw [h] at ha; cases ha⟩
                  · exact ite0 (by simp; omega) skip
          · refine asg_l ⟨_, rfl, ?_⟩
            dsimp only [tCons, tC, tNil]
            have hlb13 := hlb12
            cases hlb12 with
            | other h n m sv l =>
              refine Bas.isi (T := "list") (r := false) h ?_ ⟨_, rfl, ite0 (by decide) ⟨_, rfl, main2 v _ ⟨Ex.refl _, hlq12, .other h n sv.lk (by omega), fun a us ea ha => ?_⟩⟩⟩
              · cases h <;> first
                  | rfl
                  | exact absurd rfl n
              · subst ea
                exact (D0.Bas.noSeq h n m (.inl ha)).elim
            | @seq a0 xs' h nb m r =>
              obtain ⟨m30, n, sv, hn⟩ := LB.svl hlb13 h
              rcases h with h | h
              · refine Bas.isi (T := "list") (r := true) (.lst h) rfl ⟨_, rfl, ite1 rfl ⟨_, rfl, a0, xs', rfl, .inl (SqL.of h), fun ph hph => main2 (.ref ph) _ ?_⟩⟩
                have el : Ex H12 (upd H12 ph (.lst xs')) := Ex.new hph
                exact ⟨el, lq_copy hlq12 (.inl h) el (.inl upd_same), .lst upd_same (sv.fresh hph el) (by omega) m30, fun a us ea ha => by cases ea; exact hph⟩
              · refine Bas.isi (T := "list") (r := false) (.tup h) rfl ⟨_, rfl, ite0 (by decide) ⟨_, rfl, main2 (.ref a0) _ ?_⟩⟩
                exact ⟨Ex.refl _, hlq12, .other (.tup h) (by decide) (.tup h h sv.lk) (by omega), fun a us ea ha => by cases ea; rw [h] at ha; cases ha⟩
        · refine asg_l ⟨_, rfl, v, o, rfl, hlq, fun H11 e11 => ⟨_, rfl, ?_⟩⟩
          have fr : ∀ {p : Addr}, H11 p = none → H10 p = none := fun {p} hp => by
            cases hh : H10 p with
            | none => rfl
            | some u => rw [e11 _ _ hh] at hp; cases hp
          cases ho : onList o with
          | true =>
            cases hlq with
            | other _ _ _ => cases ho
            | @seq a0 xs' rs h m r =>
              refine ite1 rfl ⟨_, rfl, a0, xs', rfl, (SeqAt.ext e11 h).len, fun pr hpr => ?_⟩
              exact main (pr, xs') _ ⟨e11.trans (Ex.new hpr), upd_same, fr hpr, fun _ => ⟨a0, rfl, SeqAt.ext (e11.trans (Ex.new hpr)) h⟩, fun z => (by rw [ho] at z; cases z)⟩
          | false =>
            refine ite0 (by decide) ⟨Nat.zero_le _, fun pr hpr => ?_⟩
            exact main (pr, []) _ ⟨e11.trans (Ex.new hpr), upd_same, fr hpr, fun z => (by rw [ho] at z; cases z), fun _ => rfl⟩
      · obtain ⟨ks, o7, o8, o9, o10, rfl, N10, lks, h10s, lbs10⟩ := hp
        exact kN _ _ ⟨ks, _, _, _, _, _, _, _, _, rfl, N10, by omega⟩
    · obtain ⟨ks, o3, o4, o5, o6, o7, o8, o9, o10, rfl, N2, lk⟩ := hp
      refine nx_p (seq_l (forR_by (n := 2) (fun j σ1 H1 => ∃ (o3 o4 o5 o6 o7 o8 o9 o10 : Option V), σ1 = [some (.ref b), some (.bl c), some (.ref pk), o3, o4, o5, o6, o7, o8, o9, o10] ∧ NR C b pk Ph Pa H H1 ks (m + 200 * 2)) (fun R h => ⟨2, rfl, by decide, by decide, h⟩) ⟨_, _, _, _, _, _, _, _, rfl, N2⟩ (fun j σ1 H3 N hj hp kN => ?_) (fun σ1 H3 hp => ?_)))
      · obtain ⟨o3, o4, o5, o6, o7, o8, o9, o10, rfl, N3⟩ := hp
        refine forG_by (J := Itl K pk) (n := ks.length) (item := fun i => ks.getD i .non) (fun i σ1 H1 => ∃ (o4 o5 o6 o7 o8 o9 o10 : Option V), σ1 = [some (.ref b), some (.bl c), some (.ref pk), some (.int (j : Int)), o4, o5, o6, o7, o8, o9, o10] ∧ NR C b pk Ph Pa H H1 ks (m + 200 * 2)) (fun R h => ⟨_, rfl, pk, rfl, ⟨_, SqL.of N3.kp⟩, h⟩) (walks_list (SqL.of N3.kp)) ⟨_, _, _, _, _, _, _, rfl, N3⟩ (fun i σ1 H4 N' hi e4 hp kk => ?_) (fun σ1 H4 e4 hp => ?_)
        · obtain ⟨o4, o5, o6, o7, o8, o9, o10, rfl, N4⟩ := hp
          have hk0 : ks.getD i V.non = ks[i] := by rw [List.getD_eq_getElem?_getD, List.getElem?_eq_getElem hi]; rfl
          rw [hk0]
          obtain ⟨p, x, pr, ps, ur, qs, ys, hk, h1, h2, h3, h4, h5, h6, h7, h8, _, _, _⟩ := N4.ke _ (List.getElem_mem hi)
          rw [hk]
          refine ⟨p, _, rfl, SqL.of h1, rfl, _, _, rfl, _, _, rfl, _, _, rfl, rfl, ?_⟩
          refine ifNotB_l ⟨_, rfl, _, rfl, _, rfl, by show 2 ≤ sizeLine; decide, fun p1 hp1 => ⟨ps, p1, _, _, rfl, rfl, (Ex.new hp1) _ _ h7, upd_same, by rw [List.length_map]; show ys.length + 2 ≤ sizeLine; omega, fun p2 hp2 => ?_⟩⟩
          have e5 : Ex H4 (upd (upd H4 p1 (.lst [.str "Zzzzzzzz", .str "Zzzzzzzy"])) p2 (.lst (ys.map V.str ++ [.str "Zzzzzzzz", .str "Zzzzzzzy"]))) := (Ex.new hp1).trans (Ex.new hp2)
          have h52 : upd (upd H4 p1 (.lst [.str "Zzzzzzzz", .str "Zzzzzzzy"])) p2 (.lst (ys.map V.str ++ [.str "Zzzzzzzz", .str "Zzzzzzzy"])) p2 = some (.lst ((ys ++ zz2).map V.str)) := by
            rw [List.map_append]
            exact upd_same
          generalize upd (upd H4 p1 (.lst [.str "Zzzzzzzz", .str "Zzzzzzzy"])) p2 (.lst (ys.map V.str ++ [.str "Zzzzzzzz", .str "Zzzzzzzy"])) = H5 at e5 h52 ⊢
          refine ⟨_, rfl, _, rfl, rfl, rfl, x, pr, p2, _, ur, qs, ys ++ zz2, rfl, h2.ext e5, e5 _ _ h3, Paired.ext (fun _ _ z => z.ext e5) h4, h5, h6, h52, by rw [List.length_append]; show ys.length + 2 ≤ 100; omega, fun H6 e6 => ⟨_, rfl, ite0 (by decide) (nx_l ?_)⟩⟩
          exact kk _ _ (e5.trans e6) ⟨_, _, _, _, _, _, _, rfl, (N4.ext e5).ext e6⟩
        · obtain ⟨o4, o5, o6, o7, o8, o9, o10, rfl, N4⟩ := hp
          exact kN _ _ ⟨_, _, _, _, _, _, _, _, rfl, N4⟩
      · obtain ⟨o3, o4, o5, o6, o7, o8, o9, o10, rfl, N3⟩ := hp
        refine nx_p (ret_l ?_)
        exact q H3 N3.x (N3.B.up (by omega))
end
end D0

namespace D0
open PySem PySem.Spec PyProof.Rows L2 L2H HotX Evl K9
theorem Val.exb {K : PySem.W.Frag} {H H' : Hp} {b : Addr} {v : V} {xs ys : List V} (e : ExB b H H') (h1 : H b = some (.lst xs)) (h2 : H' b = some (.lst ys)) (h : Val K H v) : Val K H' v := by
  cases h with
  | str h => exact .str h
  | bas h n => exact .bas (D0.Bas.exb e h1 h2 h) n
  | err h => exact .err (D0.Err.exb e h1 h)
section
variable {P : Program} {w : World} {K : PySem.W.Frag} {mg : Str → Option Value} {base : Heap} {f : Addr} {fd : FuncData} {k : Nat}
def spLaw (K : PySem.W.Frag) (Ph Pa : Addr) : Sp := fun vs H Q _ => ∃ (a : Addr) (ns : List Int), vs = [.ref a] ∧ ns.length ≤ 63 ∧ SqL K H a (ns.map V.int) ∧ TabX H Ph ∧ TabX H Pa ∧ ∀ H', Ex H H' → Q (.bl true) H'
abbrev s_law : Stmt := top 45
abbrev N_law : List Str := ["script", "k", "box", "by_name", "values", "value"]
theorem sc_law : FnScope N_law ["script"] (defScope s_law) := ⟨rfl, rfl, rfl, by decide +kernel, rfl, by decide +kernel, by decide +kernel⟩
theorem ok_law {Ph Pa : Addr} (T : Txt K mg) (E0 : Errs K Hd.errs "ChoiceError" Hd.ini Hd.flds) (kS : PySem.W.kitOne K (.ref (He.ga K "InvalidNames")) (.type "str") = some false) (k_box : OkC P w K mg base k "_law_box" ["great"] spBox) (k_cell : OkC P w K mg base k "_law_cell" ["script", "k"] (spCellD K)) (k_take : Take P w K mg base k)
    (k_values : OkC P w K mg base k "_law_values" ["box"] (spValues K)) (k_asked_right : OkC P w K mg base k "_law_asked_right" ["value", "by_name"] (spAsked Ph K)) (k_names_right : OkC P w K mg base k "_law_names_right" ["box", "by_name"] (spNR Ph Pa)) (F : FunD K "law" "law" (defArgs s_law) (defBody s_law) (defScope s_law) [] [] f fd) (hm : mg "law" = some (.ref f)) :
    FnOk P w K mg base CX0 (k + 1) f fd ["script"] (spLaw K Ph Pa) := by
  refine F.ok sc_law (fun vs H Q E h => ?_) (fun cdv A outer s H vs Q E' hr h => ?_)
  · obtain ⟨a, ns, rfl, _⟩ := h
    rfl
  · obtain ⟨a, ns, rfl, hn, ha, hTh, hTa, q⟩ := h
    refine ⟨_, PSs.nox (pss_cons (ps_for PassesOwn.never rfl (pi_range1 (by rfl) T.f_range (pa_cons (pe_callB (call_max2 rfl) (by rfl) T.f_max (by decide +kernel) (pa_cons pe_int (pa_cons (pe_callB (call_min2 rfl) (by rfl) T.f_min (by decide +kernel) (pa_cons pe_int (pa_cons (pe_callB call_len_seq (by rfl) T.f_len (by decide +kernel) (pa_cons (pv 0) pa_nil)) pa_nil))) pa_nil))) pa_nil)) (pg_name (i := 1) sc_law.nd rfl (Or.inl rfl)) (pss_cons (ps_set (i := 2) sc_law.nd rfl (Or.inl rfl) (pe_callK0 k_box hr (by rfl) (pa_cons (pe_callK0 k_cell hr (by rfl) (pa_cons (pv 0) (pa_cons (pv 1) pa_nil))) pa_nil))) (pss_cons (ps_set (i := 3) sc_law.nd rfl (Or.inr rfl) (pe_cmpR op_eq (pe_callK0 k_take hr (by rfl) (pa_cons (pv 2) (pa_cons pe_int pa_nil))) pe_int (nomark _))) (pss_cons (ps_set (i := 4) sc_law.nd rfl (Or.inl rfl) (pe_callK0 k_values hr (by rfl) (pa_cons (pv 2) pa_nil))) (pss_cons (ps_for PassesOwn.never rfl (pi_list (pv 4)) (pg_name (i := 5) sc_law.nd rfl (Or.inl rfl)) (pss_one (ps_if (pt_not (pt_val (pe_callK0 k_asked_right hr (by rfl) (pa_cons (pv 5) (pa_cons (pv 3) pa_nil))))) (pss_one (ps_ret pe_bl)) pss_nil))) (pss_cons (ps_if (pt_not (pt_val (pe_callK0 k_names_right hr (by rfl) (pa_cons (pv 2) (pa_cons (pv 3) pa_nil))))) (pss_one (ps_ret pe_bl)) pss_nil) (pss_one (ps_if (pt_cmpR (op_ne0 (huC (roomH_of hr))) (pe_lc (own := [("value", 5)]) (g := gName 5) rfl sc_law.nd (pi_list (pv 4)) (blkOk_by (N := N_law) (sc := defScope s_law) (by decide +kernel)) (fun _ _ _ _ _ => pg_name (i := 5) sc_law.nd rfl (Or.inl rfl)) (fun _ _ _ _ _ => (pts_one (pt_not (pt_val (pe_callK0 k_asked_right hr (by rfl) (pa_cons (pv 5) (pa_cons (pe_not (pv 3)) pa_nil))))))) (fun _ _ _ _ _ => (pv 5))) (pe_lst pa_nil) (nomark _)) (pss_one (ps_ret pe_bl)) pss_nil)))))))) (pss_one (ps_ret pe_bl))), ?_⟩
    have sz := sizeLine_eq
    have hN : ∃ n : Nat, n ≤ 63 ∧ (if (if ((((ns.map V.int).length : Nat) : Int) < 5) then (((ns.map V.int).length : Nat) : Int) else 5) > 2 then (if ((((ns.map V.int).length : Nat) : Int) < 5) then (((ns.map V.int).length : Nat) : Int) else 5) else (2 : Int)) = (n : Int) := by
      rw [List.length_map]
      refine ⟨(if (if ((ns.length : Int) < 5) then (ns.length : Int) else 5) > 2 then (if ((ns.length : Int) < 5) then (ns.length : Int) else 5) else (2 : Int)).toNat, ?_, ?_⟩ <;> split <;> split <;> omega
    obtain ⟨N, hN1, hN2⟩ := hN
    refine seq_l (for_by (J := Itr 0 N) (n := N) (item := fun i => .int (i : Int)) (fun _ σ' _ => ∃ x1 x2 x3 x4 x5, σ' = [some (.ref a), x1, x2, x3, x4, x5]) (fun R h => ?_) walks_rng0 ⟨_, _, _, _, _, rfl⟩ (fun j σ1 G0 Nx hj g0 hP kN => ?_) (fun σ1 G0 g0 hP => nx_p (ret_l (q _ g0))))
    · refine ⟨_, rfl, a, _, rfl, .inl ha, _, _, rfl, _, _, rfl, _, rfl, ?_, ?_, ?_⟩
      · rw [hN2]; omega
      · rw [hN2]; omega
      · rw [hN2, Int.toNat_natCast]
        exact h
    obtain ⟨x1, x2, x3, x4, x5, rfl⟩ := hP
    refine seq_asg ?_
    refine ⟨_, rfl, _, rfl, a, ns, j, rfl, SqL.ext g0 ha, fun i G1 e1 => ⟨i, rfl, fun b G2 hb2 e2 bx0 => ?_⟩⟩
    have hb0 : G0 b = none := by
      cases hz : G0 b with
      | none => rfl
      | some o =>
        rw [e1 _ _ hz] at hb2
        cases hb2
    have e02 : Ex G0 G2 := e1.trans e2
    refine seq_l (asg_l (op_l (take_l (b := b) (n := 2) (m := 0) (fun R r => ⟨_, rfl, r⟩) (fun R r => r) (by decide) (by decide) (by decide) bx0 fun d G3 hd r3 bx3 => ⟨rfl, nx_p ?_⟩)))
    generalize decide (V.int (d : Int) = V.int 1) = c
    refine seq_l (asg_l ⟨_, rfl, b, 0 + 1, rfl, by decide, bx3, fun p xs G4 r4 bx4 h4 np lx hv => nx_p ?_⟩)
    have hT4 : ∀ {P : Addr}, TabX H P → TabX G4 P := fun {P} hT => by
      have z := (hT.ext g0).ext e02
      obtain ⟨u, hu⟩ := bx0.at_
      have z3 := D0.TabX.exb r3 hu z
      obtain ⟨u3, hu3⟩ := bx3.at_
      exact D0.TabX.exb r4 hu3 z3
    have hTh4 := hT4 hTh
    have hTa4 := hT4 hTa
    refine seq_l (for_by (J := Itl K p) (n := xs.length) (item := fun i => xs.getD i .non) (fun i σ1 H1 => ∃ o5, σ1 = [some (.ref a), some (.int (j : Int)), some (.ref b), some (.bl c), some (.ref p), o5]) (fun R h => ⟨_, rfl, p, rfl, ⟨_, SqL.of h4⟩, h⟩) (walks_list (SqL.of h4)) ⟨_, rfl⟩ (fun i σ1 G5 N5 hi e5 hp k5 => ?_) (fun σ1 G5 e5 hp => ?_))
    · obtain ⟨o5, rfl⟩ := hp
      have hv0 : xs.getD i V.non = xs[i] := by rw [List.getD_eq_getElem?_getD, List.getElem?_eq_getElem hi]; rfl
      rw [hv0]
      obtain ⟨o, ho⟩ := ((hv _ (List.getElem_mem hi)).ext e5).may E0 kS
      refine ifNotB_l ⟨_, rfl, _, rfl, xs[i], o, c, rfl, ho, hTh4.ext e5, fun G6 e6 => ⟨_, rfl, ite0 (by decide) (nx_l ?_)⟩⟩
      exact k5 _ _ e6 ⟨_, rfl⟩
    · obtain ⟨o5, rfl⟩ := hp
      refine nx_p (seq_l (ifNotB_l ⟨_, rfl, _, rfl, b, c, 0 + 1 + 120, rfl, by decide, bx4.ex e5, hTh4.ext e5, hTa4.ext e5, fun G6 r6 bx6 => ⟨_, rfl, ite0 (by decide) (nx_l ?_)⟩⟩))
      obtain ⟨u5, hu5⟩ := (bx4.ex e5).at_
      obtain ⟨u6, hu6⟩ := bx6.at_
      have h6 := r6 _ _ np (e5 _ _ h4)
      have hTh6 := D0.TabX.exb r6 hu5 (hTh4.ext e5)
      have hv6 : ∀ x ∈ xs, Val K G6 x := fun x hx => ((hv x hx).ext e5).exb r6 hu5 hu6
      refine ifs_op (lc_none (J := Itl K p) (n := xs.length) (item := fun i => xs.getD i .non) (by omega) (by show 5 < 6; decide) (fun R h => ⟨_, rfl, p, rfl, ⟨_, SqL.of h6⟩, h⟩) (walks_list (SqL.of h6)) (fun i G7 R hi e7 hR => ?_) (fun D G7 hD e7 h7 => ⟨Nat.zero_le _, fun p8 hp8 => ⟨D, p8, [], rfl, rfl, SqL.of ((Ex.new hp8) _ _ h7), SqL.of upd_same, _, rfl, ite0 (by decide) (nx_l ?_)⟩⟩))
      · have hv0 : xs.getD i V.non = xs[i] := by rw [List.getD_eq_getElem?_getD, List.getElem?_eq_getElem hi]; rfl
        rw [hv0]
        obtain ⟨o, ho⟩ := ((hv6 _ (List.getElem_mem hi)).ext e7).may E0 kS
        exact ⟨_, rfl, _, rfl, _, rfl, xs[i], o, !c, rfl, ho, hTh6.ext e7, fun G8 e8 => ⟨_, rfl, hR _ e8⟩⟩
      · refine kN _ _ ?_ ⟨_, _, _, _, _, rfl⟩
        exact ExB.new (ExB.trans (Ex.but e02) (ExB.trans r3 (ExB.trans r4 (ExB.trans (Ex.but e5) (ExB.trans r6 (Ex.but (e7.trans (Ex.new hp8)))))))) hb0
end
end D0

namespace D0
open PySem PySem.Spec PyProof.Rows L2 L2H HotX Evl K9
theorem sql_tabs {K : PySem.W.Frag} {cs : List (Addr × Addr)} {H : Hp} {a : Addr} {xs : List V} (ht : ∀ p ∈ cs, H p.2 = some (.tbl #[])) (h : SqL K H a xs) : SqL K (tabsX cs H) a xs := by
  have same : ∀ b u, H b = some u → (∀ qs, u ≠ .tbl qs) → tabsX cs H b = some u := fun b u e hu => by
    unfold tabsX
    rw [if_neg (fun hm => by
      obtain ⟨p, hp, e2⟩ := List.mem_map.mp hm
      rw [← e2, ht p hp] at e
      exact hu _ (Option.some.inj e).symm)]
    exact e
  rcases h with h | h
  · rcases h with h | ⟨o, h⟩
    · exact .inl (.inl (same _ _ h fun _ z => by cases z))
    · exact .inl (.inr ⟨o, same _ _ h fun _ z => by cases z⟩)
  · exact .inr h
theorem code_of {K : PySem.W.Frag} {x q : Str} {p : Str × Option Str} {params : Arguments} {body : List Stmt} {scope : Scope} {fd : FuncData} (F : FunD K x q params body scope [] [] (He.fAd K p) fd) : fd.code = .ref (He.codeOf K p) := by
  obtain ⟨oc, od, dV, kV, doc, pm, an, cdv, ct, osl, rfl, lk, hcd, _, _⟩ := F.ex
  obtain ⟨c, rfl⟩ := He.codeIn_ref hcd
  rw [He.codeOf_eq lk rfl]
section
variable {P : Program} {w : World} {K : PySem.W.Frag} {h : Heap} {mg : Str → Option Value}
theorem glo_at (X : K.In h) (G : h.Ns mainGlobals mg) (c : He.SaysX Hd.fa Hd.fn [] Hd.tf Hd.ex w h K) (i : Nat) {x : Str} (e : Hd.fa[i]? = some (.glo x)) : mg x = some (.ref (He.ga K x)) := He.glo_ok X G (c.t.d.fact i e)
theorem free_at (X : K.In h) (G : h.Ns mainGlobals mg) (c : He.SaysX Hd.fa Hd.fn [] Hd.tf Hd.ex w h K) (i : Nat) {x : Str} (e : Hd.fa[i]? = some (.free x)) : mg x = none := He.free_ok X G (c.t.d.fact i e)
theorem str_at (X : K.In h) (G : h.Ns mainGlobals mg) (c : He.SaysX Hd.fa Hd.fn [] Hd.tf Hd.ex w h K) (i : Nat) {x z : Str} (e : Hd.fa[i]? = some (.str x z)) : ∃ t, mg x = some (.str z t) := He.str_ok X G (c.t.d.fact i e)
theorem int_at (X : K.In h) (G : h.Ns mainGlobals mg) (c : He.SaysX Hd.fa Hd.fn [] Hd.tf Hd.ex w h K) (i : Nat) {x : Str} {z : Int} (e : Hd.fa[i]? = some (.int x z)) : ∃ t, mg x = some (.int z t) := He.int_ok X G (c.t.d.fact i e)
theorem txt (X : K.In h) (G : h.Ns mainGlobals mg) (c : He.SaysX Hd.fa Hd.fn [] Hd.tf Hd.ex w h K) : Txt K mg :=
  ⟨(free_at X G c 50 rfl), (free_at X G c 54 rfl), (free_at X G c 52 rfl), (free_at X G c 62 rfl), (free_at X G c 57 rfl), (free_at X G c 64 rfl), (free_at X G c 53 rfl), (free_at X G c 56 rfl), (free_at X G c 63 rfl), (free_at X G c 58 rfl), (free_at X G c 59 rfl), (free_at X G c 60 rfl), (free_at X G c 55 rfl), (free_at X G c 49 rfl), List.forall_mem_cons.mpr ⟨(glo_at X G c 46 rfl), List.forall_mem_cons.mpr ⟨(glo_at X G c 47 rfl), fun x hx => absurd hx (by simp)⟩⟩⟩
theorem more4 (c : He.SaysX Hd.fa Hd.fn [] Hd.tf Hd.ex w h K) : K9.errsB Hd.errs "ChoiceError" Hd.ini Hd.flds K = true ∧ He.tupB K "NO_WORDS" (Hd.taken.map He.Dv.str) = true ∧ PySem.W.kitOne K (.ref (He.ga K "InvalidNames")) (.type "str") = some false ∧ PySem.W.exmOne K (.ref (He.ga K "InvalidNames")) (.ref (He.ga K "InvalidNames")) = some true := by
  have m := c.more
  unfold Hd.ex at m
  simp only [Bool.and_eq_true, beq_iff_eq] at m
  exact ⟨m.1.1.1, m.1.1.2, m.1.2, m.2⟩
theorem txt2 (X : K.In h) (G : h.Ns mainGlobals mg) (c : He.SaysX Hd.fa Hd.fn [] Hd.tf Hd.ex w h K) : Txt2 K mg := by
  refine ⟨(free_at X G c 51 rfl), (free_at X G c 61 rfl), (str_at X G c 0 rfl), (str_at X G c 1 rfl), (str_at X G c 2 rfl), (str_at X G c 3 rfl), (int_at X G c 5 rfl), (int_at X G c 6 rfl), (glo_at X G c 4 rfl), fun H => ?_⟩
  have z := He.tupB_ok (more4 c).2.1 H
  rw [List.map_map] at z
  exact z
theorem nclass (c : He.SaysX Hd.fa Hd.fn [] Hd.tf Hd.ex w h K) : NClass K (He.ga K "Names") := ⟨He.cls_ok (c.t.d.fact 7 rfl), He.noat_ok (c.t.d.fact 10 rfl), He.noat_ok (c.t.d.fact 11 rfl)⟩
theorem facts {f : Addr} (X : K.In h) (G : h.Ns mainGlobals mg) (hfa : mg ("law" : Str) = some (.ref f)) (c : He.SaysX Hd.fa Hd.fn [] Hd.tf Hd.ex w h K) :
    ∃ fd : FuncData, (∀ (s : Shared) (v : Value), BindsTo s fd ⟨[v], []⟩ [("script", v)]) ∧ ∀ base : Heap, K.In base → base.Ns mainGlobals mg → TabK base mg (He.cT K ("has_only", none)).1 (He.cT K ("has_only", none)).2 → TabK base mg (He.cT K ("are_name_rows", none)).1 (He.cT K ("are_name_rows", none)).2 →
      FnOk P w K mg base CX0 11 f fd ["script"] (spLaw K (He.cT K ("has_only", none)).2 (He.cT K ("are_name_rows", none)).2) := by
  obtain ⟨m1, m2, kS, te⟩ := more4 c
  have E : Errs K Hd.errs "ChoiceError" Hd.ini Hd.flds := errs_of m1
  have T := txt X G c
  have T2 := txt2 X G c
  have cl := nclass c
  obtain ⟨fd_has_only, F_has_only⟩ := c.t.d.def_ 0 (d := Hd.d_has_only) rfl
  obtain ⟨fd_is_word, F_is_word⟩ := c.t.d.def_ 1 (d := Hd.d_is_word) rfl
  obtain ⟨fd_is_type_name, F_is_type_name⟩ := c.t.d.def_ 2 (d := Hd.d_is_type_name) rfl
  obtain ⟨fd_is_variable, F_is_variable⟩ := c.t.d.def_ 3 (d := Hd.d_is_variable) rfl
  obtain ⟨fd_is_whole, F_is_whole⟩ := c.t.d.def_ 4 (d := Hd.d_is_whole) rfl
  obtain ⟨fd_is_name_row, F_is_name_row⟩ := c.t.d.def_ 5 (d := Hd.d_is_name_row) rfl
  obtain ⟨fd_are_name_rows, F_are_name_rows⟩ := c.t.d.def_ 6 (d := Hd.d_are_name_rows) rfl
  obtain ⟨fd_cell, F_cell⟩ := c.t.d.def_ 7 (d := Hd.d__law_cell) rfl
  obtain ⟨fd_box, F_box⟩ := c.t.d.def_ 8 (d := Hd.d__law_box) rfl
  obtain ⟨fd_take, F_take⟩ := c.t.d.def_ 9 (d := Hd.d__law_take) rfl
  obtain ⟨fd_like, F_like⟩ := c.t.d.def_ 10 (d := Hd.d__law_like) rfl
  obtain ⟨fd_small, F_small⟩ := c.t.d.def_ 11 (d := Hd.d__law_small) rfl
  obtain ⟨fd_great, F_great⟩ := c.t.d.def_ 12 (d := Hd.d__law_great) rfl
  obtain ⟨fd_signs, F_signs⟩ := c.t.d.def_ 13 (d := Hd.d__law_signs) rfl
  obtain ⟨fd_spoilt, F_spoilt⟩ := c.t.d.def_ 14 (d := Hd.d__law_spoilt) rfl
  obtain ⟨fd_taken, F_taken⟩ := c.t.d.def_ 15 (d := Hd.d__law_taken) rfl
  obtain ⟨fd_like_word, F_like_word⟩ := c.t.d.def_ 16 (d := Hd.d__law_like_word) rfl
  obtain ⟨fd_like_name, F_like_name⟩ := c.t.d.def_ 17 (d := Hd.d__law_like_name) rfl
  obtain ⟨fd_like_variable, F_like_variable⟩ := c.t.d.def_ 18 (d := Hd.d__law_like_variable) rfl
  obtain ⟨fd_all_in, F_all_in⟩ := c.t.d.def_ 19 (d := Hd.d__law_all_in) rfl
  obtain ⟨fd_word_due, F_word_due⟩ := c.t.d.def_ 20 (d := Hd.d__law_word_due) rfl
  obtain ⟨fd_name_due, F_name_due⟩ := c.t.d.def_ 21 (d := Hd.d__law_name_due) rfl
  obtain ⟨fd_variable_due, F_variable_due⟩ := c.t.d.def_ 22 (d := Hd.d__law_variable_due) rfl
  obtain ⟨fd_asked_right, F_asked_right⟩ := c.t.d.def_ 23 (d := Hd.d__law_asked_right) rfl
  obtain ⟨fd_values, F_values⟩ := c.t.d.def_ 24 (d := Hd.d__law_values) rfl
  obtain ⟨fd_unlike, F_unlike⟩ := c.t.d.def_ 25 (d := Hd.d__law_unlike) rfl
  obtain ⟨fd_item, F_item⟩ := c.t.d.def_ 26 (d := Hd.d__law_item) rfl
  obtain ⟨fd_lists, F_lists⟩ := c.t.d.def_ 27 (d := Hd.d__law_lists) rfl
  obtain ⟨fd_names_due, F_names_due⟩ := c.t.d.def_ 28 (d := Hd.d__law_names_due) rfl
  obtain ⟨fd_made, F_made⟩ := c.t.d.def_ 29 (d := Hd.d__law_made) rfl
  obtain ⟨fd_told_right, F_told_right⟩ := c.t.d.def_ 30 (d := Hd.d__law_told_right) rfl
  obtain ⟨fd_names_right, F_names_right⟩ := c.t.d.def_ 31 (d := Hd.d__law_names_right) rfl
  obtain ⟨fd_Names___init__, F_Names___init__⟩ := c.t.d.def_ 34 (d := Hd.d_Names___init__) rfl
  obtain ⟨fd_Names_count_of, F_Names_count_of⟩ := c.t.d.def_ 35 (d := Hd.d_Names_count_of) rfl
  obtain ⟨fd_InvalidNames___init__, F_InvalidNames___init__⟩ := c.t.d.def_ 33 (d := Hd.d_InvalidNames___init__) rfl
  obtain ⟨fd, F⟩ := c.t.d.def_ 32 (d := Hd.d_law) rfl
  have e := hfa.symm.trans (glo_at X G c 45 rfl)
  cases e
  have bnd := FunD.bindsA (ps := ["script"]) F fun _ _ _ _ _ _ us hl => match us, hl with | [_], _ => rfl
  refine ⟨fd, fun s v => bnd s [v] rfl, fun base _ _ TBh TBa => ?_⟩
  have iv := ini_InvalidNames (P := P) (w := w) (mg := mg) (base := base) E (glo_at X G c 47 rfl) F_InvalidNames___init__
  have has := ok_has_only (P := P) (w := w) (base := base) (k := 0) T2 TBh (code_of F_has_only) F_has_only (glo_at X G c 13 rfl)
  have isw := ok_is_word (P := P) (w := w) (base := base) (k := 2) T T2 has F_is_word (glo_at X G c 14 rfl)
  have ist := ok_is_type_name (P := P) (w := w) (base := base) (k := 2) T T2 has F_is_type_name (glo_at X G c 15 rfl)
  have isv := ok_is_variable (P := P) (w := w) (base := base) (k := 2) T T2 has F_is_variable (glo_at X G c 16 rfl)
  have whole := ok_is_whole (P := P) (w := w) (base := base) (k := 0) T F_is_whole (glo_at X G c 17 rfl)
  have row := ok_is_name_row (P := P) (w := w) (base := base) (k := 3) T T2 ist.c (whole.mono (by decide)) F_is_name_row (glo_at X G c 18 rfl)
  have rows := ok_are_name_rows (P := P) (w := w) (base := base) (k := 4) T T2 TBa (code_of F_are_name_rows) row F_are_name_rows (glo_at X G c 19 rfl)
  have fnn := fn_Names (P := P) (w := w) (mg := mg) (base := base) (k := 6) T T2 E ⟨iv⟩ (by decide) cl rows F_Names___init__
  have nn : NOk P w K mg base 7 "Names" (He.ga K "Names") ["self", "names"] ["names"] (spNames K (He.ga K "Names") (He.cT K ("has_only", none)).2 (He.cT K ("are_name_rows", none)).2) :=
    ⟨(glo_at X G c 48 rfl), _, _, He.mkr_ok (c.t.d.fact 8 rfl), fnn, kbn_of F_Names___init__ fun _ _ _ _ _ _ us ws hu hw => match us, ws, hu, hw with | [_, _], [], _, _ => rfl, kbn_of F_Names___init__ fun _ _ _ _ _ _ us ws hu hw => match us, ws, hu, hw with | [_], [_], _, _ => rfl⟩
  have cnt := m_count_of (P := P) (w := w) (mg := mg) (base := base) (k := 0) cl (He.meth_ok (c.t.d.fact 9 rfl)) F_Names_count_of
  have x_cell := ok_cell (P := P) (w := w) (base := base) (k := 0) T F_cell (glo_at X G c 20 rfl)
  have x_box := ok_box (P := P) (w := w) (base := base) (k := 0) T F_box (glo_at X G c 21 rfl)
  have x_take := ok_take (P := P) (w := w) (base := base) (k := 0) T F_take (glo_at X G c 22 rfl)
  have x_like := ok_like (P := P) (w := w) (base := base) (k := 0) T F_like (glo_at X G c 23 rfl)
  have x_small := ok_small (P := P) (w := w) (base := base) (k := 0)  F_small (glo_at X G c 24 rfl)
  have x_great := ok_great (P := P) (w := w) (base := base) (k := 0)  F_great (glo_at X G c 25 rfl)
  have x_taken := ok_taken (P := P) (w := w) (base := base) (k := 0)  F_taken (glo_at X G c 28 rfl)
  have x_all_in := ok_all_in (P := P) (w := w) (base := base) (k := 0)  F_all_in (glo_at X G c 32 rfl)
  have x_word_due := ok_word_due (P := P) (w := w) (base := base) (k := 1) T x_all_in x_small x_taken F_word_due (glo_at X G c 33 rfl)
  have x_name_due := ok_name_due (P := P) (w := w) (base := base) (k := 1) T x_all_in x_small x_great F_name_due (glo_at X G c 34 rfl)
  have x_variable_due := ok_variable_due (P := P) (w := w) (base := base) (k := 1) T x_all_in x_small F_variable_due (glo_at X G c 35 rfl)
  have x_asked_right := ok_asked_right (P := P) (w := w) (base := base) (k := 3) isw ist isv (x_word_due.mono (by decide)) (x_name_due.mono (by decide)) (x_variable_due.mono (by decide)) (x_like.mono (by decide)) F_asked_right (glo_at X G c 36 rfl)
  have x_signs := ok_signs (P := P) (w := w) (base := base) (k := 1) T x_take F_signs (glo_at X G c 26 rfl)
  have x_spoilt := ok_spoilt (P := P) (w := w) (base := base) (k := 1) T x_take F_spoilt (glo_at X G c 27 rfl)
  have x_like_word := ok_like_word (P := P) (w := w) (base := base) (k := 2) T (x_take.mono (by decide)) x_signs x_spoilt (x_small.mono (by decide)) (x_taken.mono (by decide)) F_like_word (glo_at X G c 29 rfl)
  have x_like_name := ok_like_name (P := P) (w := w) (base := base) (k := 2) T (x_take.mono (by decide)) x_signs x_spoilt (x_small.mono (by decide)) (x_great.mono (by decide)) F_like_name (glo_at X G c 30 rfl)
  have x_like_variable := ok_like_variable (P := P) (w := w) (base := base) (k := 2) T (x_take.mono (by decide)) x_signs x_spoilt (x_small.mono (by decide)) F_like_variable (glo_at X G c 31 rfl)
  have x_values := ok_values (P := P) (w := w) (base := base) (k := 3) T ⟨iv⟩ (by decide) (x_taken.mono (by decide)) x_like_word x_like_name x_like_variable F_values (glo_at X G c 37 rfl)
  have x_unlike := ok_unlike (P := P) (w := w) (base := base) (k := 2) T (x_take.mono (by decide)) x_signs (x_small.mono (by decide)) (x_great.mono (by decide)) F_unlike (glo_at X G c 38 rfl)
  have x_item := ok_item (P := P) (w := w) (base := base) (k := 1) T x_take F_item (glo_at X G c 39 rfl)
  have x_lists := ok_lists (P := P) (w := w) (base := base) (k := 3) T (x_take.mono (by decide)) x_unlike (x_item.mono (by decide)) F_lists (glo_at X G c 40 rfl)
  have x_names_due := ok_names_due (P := P) (w := w) (base := base) (k := 2) T x_name_due F_names_due (glo_at X G c 41 rfl)
  have x_made := ok_made (P := P) (w := w) (base := base) (k := 7) T E te nn (x_names_due.mono (by decide)) (x_like.mono (by decide)) F_made (glo_at X G c 42 rfl)
  have x_told_right := ok_told_right (P := P) (w := w) (base := base) (k := 1) T T2 cl cnt x_like F_told_right (glo_at X G c 43 rfl)
  have x_names_right := ok_names_right (P := P) (w := w) (base := base) (k := 9) T (x_lists.mono (by decide)) (x_names_due.mono (by decide)) x_made (x_told_right.mono (by decide)) F_names_right (glo_at X G c 44 rfl)
  exact ok_law (P := P) (w := w) (base := base) (k := 10) T E kS (x_box.mono (by decide)) (x_cell.mono (by decide)) (x_take.mono (by decide)) (x_values.mono (by decide)) (x_asked_right.mono (by decide)) x_names_right F (glo_at X G c 45 rfl)
end
end D0
open PySem PySem.W PySem.Calls PyProof.Rows
theorem PySem.Challenge.cw_mostspecial_k01_words_and_names_holds : PySem.Challenge.rw_mostspecial_k01_words_and_names.Holds := by
  w_on; o_law
  refine HandSHeadRun.head_any (r := OpenLaw.row PySem.Challenge.rw_mostspecial_k01_words_and_names) (q := view (OpenLaw.row PySem.Challenge.rw_mostspecial_k01_words_and_names).prog [45]) (H := Hd.hk) (ob := Hd.ob) (M := 20000) (loose := Hd.lo) (d := HandSHeadRun.topDef (OpenLaw.row PySem.Challenge.rw_mostspecial_k01_words_and_names).prog 45) (kwd := []) Hd.ob_eq
    (by kernel_rfl) (fun s => by kernel_rfl) Hd.run (by kernel_rfl) (by kernel_rfl) (by kernel_rfl) (by rfl) (by first | assumption | decide +kernel) (by decide +kernel) ⟨rfl, rfl, rfl, rfl, rfl, by decide +kernel⟩ ?hw ?hc
  case hw => w_witness2
  case hc =>
    refine LamX.walk_ofTsE (l := PySem.Challenge.rw_mostspecial_k01_words_and_names) (n := 63) (k := 11) (x := "script") (CX := fun _ => L2.CX0) rfl (by decide) (by kernel_rfl) ⟨rfl, by decide, by decide⟩ ?F (fun _ _ _ _ _ z => z)
    intro w mg fa h Y G hmg0
    obtain ⟨K, KX, c⟩ := Y
    have hmg : mg ("law" : PySem.Str) = some (.ref fa) := by
      have e : (HandSHeadRun.topDef (OpenLaw.row PySem.Challenge.rw_mostspecial_k01_words_and_names).prog 45).name = ("law" : PySem.Str) := by kernel_rfl
      rw [← e]
      exact hmg0
    obtain ⟨fd, hb, hF⟩ := D0.facts (P := (PySem.Challenge.rw_mostspecial_k01_words_and_names).prog) (w := w) KX G hmg c
    have hd := c.hd
    have hout := c.out
    have hemp := c.empty
    refine ⟨K, KX, fd, Hd.tf.map (He.cT K), K9.spT (Hd.tf.map (He.cT K)) (D0.spLaw K (He.cT K ("has_only", none)).2 (He.cT K ("are_name_rows", none)).2), fun p hp => ?_, fun p hp => ?_, fun p hp => ?_, hb, fun H a ns hl _ ht hS => ?_, fun base hK hG hT => ?_⟩
    · obtain ⟨q, hq, rfl⟩ := List.mem_map.mp hp
      exact hemp q hq
    · obtain ⟨q, hq, rfl⟩ := List.mem_map.mp hp
      exact hout q hq
    · obtain ⟨q, hq, rfl⟩ := List.mem_map.mp hp
      exact codeHd_of_K KX (hd q hq)
    · have tx : ∀ q ∈ Hd.tf, K9.TabX (K9.tabsX (Hd.tf.map (He.cT K)) H) (He.cT K q).2 := fun q hq => by
        unfold K9.TabX K9.tabsX
        rw [if_pos (List.mem_map.mpr ⟨_, List.mem_map.mpr ⟨q, hq, rfl⟩, rfl⟩)]
      refine ⟨ht, a, ns, rfl, hl, D0.sql_tabs ht hS, tx _ (by simp [Hd.tf]), tx _ (by simp [Hd.tf]), fun H' e => ⟨fun p hp => ?_, fun _ => rfl⟩⟩
      obtain ⟨q, hq, rfl⟩ := List.mem_map.mp hp
      exact (tx q hq).ext e
    · have tk : ∀ q ∈ Hd.tf, K9.TabK base mg (He.cT K q).1 (He.cT K q).2 := fun q hq => by
        have z := hT _ (List.mem_map.mpr ⟨q, hq, rfl⟩)
        refine ⟨z.code, ?_⟩
        obtain ⟨bm, ob, h1, h2, h3, h4⟩ := z.bm
        exact ⟨bm, ob, h1, h2, h4.2⟩
      exact K9.fn_tabs _ (hF base hK hG (tk _ (by simp [Hd.tf])) (tk _ (by simp [Hd.tf])))

