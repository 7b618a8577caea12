import PyProof.Rows.All
import Wide.All
import OpenK.AllK
import Wide.FinOn
import HandS.ForMost
import HandS.Exc
import HandS.ExcInit
import HandS.Evl
import HandS.ExcOwn
import HandS.HotCalls
import HandS.Defaults
import HandS.IsInst
import HandS.Comp
import HandS.Iter
import PyProof.NeKinds
import PyProof.EqAt
import KE.KExcIs
import HandS.ExcField
import HandS.ExcValue
import HandS.ExcCtx
import HandS.Wide
import HandS.TupLe
import HandS.Style
import HandS.HeadHook4
import HandS.DeepEq
import HandS.WordsDict
import HandS.AnyAll
import HandS.GenOver
import PyProof.ConsumeS
import HandS.HeadWalk
import HandS.SortRule
import PyProof.Rows.SortKeyStr
import HandS.SetBool
import HandS.SetKeys
import HandS.MakeKw
import HandS.MakeKwOnly
import HandS.DictComp
import HandS.NoneIn
import PyProof.EqKinds
import PyProof.FactsAll.dict
import HandS.TupAny
import KE.KDictPairs
import KE.KStateDown
import Lean
import HandS.Base
import HandS.Call
import HandS.Ends
import HandS.More
import HandS.Words
import HandS.WordsExc
import HandS.Head0
import HandS.Head1
import HandS.Head2
import HandS.HeadEnd
import HandS.HeadHook1
import HandS.HeadHook2
import HandS.Head3
import HandS.Strs
import HandS.Zip
import HandS.NestedK
import PySem.Challenge.RW_mostspecial_k02_terms_judged
set_option Elab.async false
set_option linter.all false
set_option maxRecDepth 100000
set_option maxHeartbeats 0
namespace PySem
namespace K9
open PySem.W PySem.Calls PyProof.Rows PySem.HandSPX
section
variable {M : Model} {A : Around} {E : Value → Shared → Prop} {h : Heap} {g : Array GenState} {d : Drawn} {t : Nat} {os : OsState}
variable {nm q : Str} {C N : Addr} {bs bm bmB : List Value} {hdct : Bool} {sn : List Str} {sub : List Value} {ab : Bool} {col : Option Bool} {dd : Option Addr} {k0 k1 k2 k3 k5 : Option Value} {B newId initId : String}
theorem chk_kw (F : ExcBaseFacts B newId initId bmB) (hT : ∀ X : String, bm.contains (.type X) = bmB.contains (.type X))
    {rest : List Value} {kw : List (Str × Value)} {Q : Unit → Shared → Prop}
    (hC : h.get? C = some (excClassObj nm q C N bs bm hdct sn sub ab col dd k0 k1 k2 k3 k5 newId))
    (hq : Q () ⟨h, g, d, t, os⟩) :
    wpAny M A (checkBuiltinCall newId ⟨.ref C :: rest, kw⟩) Q E ⟨h, g, d, t, os⟩ := by
  have inB : (Value.ref C :: bm).contains (.type B) = true := by
    rw [List.contains_cons, hT, F.hasB]
    exact Bool.or_true _
  have ns := F.noStar
  simp only [checkBuiltinCall, F.newKind, F.newSplit, F.newRow]
  repeat (first
    | refine wpAny_loadPart_at hC ?_
    | (refine wpAny_isSubtype_exc hC ?_
       rw [inB])
    | refine wpAny_staticBase_exc hC ?_
    | refine wpAny_madeBy_exc hC ?_
    | simp only [bne_self_eq_false, Bool.false_eq_true, if_false]
    | wp_step)
  exact hq
end
section
variable {prog : Program} {w : World} {A : Around} {E : Value → Shared → Prop} {R : Result → Shared → Prop} {h : Heap} {g : Array GenState} {d : Drawn} {t : Nat} {os : OsState}
variable {nm q : Str} {C N : Addr} {bs bm bmB : List Value} {hdct : Bool} {sn : List Str} {sub : List Value} {ab : Bool} {col : Option Bool} {dd : Option Addr} {k0 k1 k2 k3 k5 : Option Value} {B newId initId : String}
/-- the raw maker, keywords beside: they are passed over -/
theorem maker_kw (F : ExcBaseFacts B newId initId bmB) (hT : ∀ X : String, bm.contains (.type X) = bmB.contains (.type X))
    {rest : List Value} {kw : List (Str × Value)}
    (hC : h.get? C = some (excClassObj nm q C N bs bm hdct sn sub ab col dd k0 k1 k2 k3 k5 newId)) (room : rest.length ≤ sizeLine)
    (hq : R (.ok (.ret (.ref (h.objs.size + 1)))) ⟨(h.push (kdv_tup rest)).push (excO C h.objs.size), g, d, t, os⟩) :
    codeAny (model prog w) A (.builtin newId ⟨.ref C :: rest, kw⟩) R ⟨h, g, d, t, os⟩ := by
  have ends := F.ends
  have inB : (Value.ref C :: bm).contains (.type B) = true := by
    rw [List.contains_cons, hT, F.hasB]
    exact Bool.or_true _
  have noA : (Value.ref C :: bm).contains (.type "AttributeError") = false := by
    rw [List.contains_cons, hT, F.noAttr]
    rfl
  have noN : (Value.ref C :: bm).contains (.type "NameError") = false := by
    rw [List.contains_cons, hT, F.noName]
    rfl
  refine codeAny_builtinAt F.entry ?_
  unfold Builtin.«BaseException.__new__»
  refine wpAt_bind ?_
  show wpAt _ _ _ (stack >>= _) _ _ _
  refine wpAt_bind (wpAt_stack fun p below => wpAt_of_wpAny ?_)
  wp_walk
  refine wpAt_of_wpAny ?_
  rw [F.owner]
  repeat (first
    | with_reducible refine wpAny_madeHere_exc F.canon hC ?_
    | with_reducible refine wpAny_loadPart_at hC ?_
    | (with_reducible refine wpAny_isSubtype_exc hC ?_
       first
         | rw [inB]
         | rw [noA]
         | rw [noN])
    | wp_step)
  show R _ _
  rw [Heap.size_push]
  exact hq
/-- C(.., k = v ..): type.__call__, the maker, the own __init__ -/
theorem typeCall_kw (F : ExcBaseFacts B newId initId bmB) (hT : ∀ X : String, bm.contains (.type X) = bmB.contains (.type X))
    {rest : List Value} {kw : List (Str × Value)} {fI : Addr} {Q : Fin → Shared → Prop}
    (hC : h.get? C = some (excClassObj nm q C N bs bm hdct sn sub ab col dd k0 k1 k2 k3 k5 newId))
    (hi : Looks (model prog w) h (typeLookup (.ref C) "__init__") (some (.ref fI)))
    (hb : ∀ self, Looks (model prog w) h (bindSpecial (.ref fI) self) (.ref fI, [self])) (room : rest.length ≤ sizeLine)
    (hq : codeAny (model prog w) A (.call (.ref fI) ⟨.ref (h.objs.size + 1) :: rest, kw⟩)
      (fun r s' => match r with
        | .ok (.ret v) => v = .none ∧ Q (.done (.ret (.ref (h.objs.size + 1)))) s'
        | .ok _ => False
        | .error e => E e s')
      ⟨(h.push (kdv_tup rest)).push (excO C h.objs.size), g, d, t, os⟩) :
    wpAny (model prog w) A (Builtin.«type.__call__» ⟨.ref C :: rest, kw⟩) Q E ⟨h, g, d, t, os⟩ := by
  repeat (first
    | with_reducible refine wpAny_loadPart_at hC ?_
    | with_reducible refine wpAny_madeBy_exc hC ?_
    | wp_step)
  refine codeAny_call_builtin_code (Code.quiet_builtin _ F.quiet) (chk_kw F hT hC ?_)
  refine maker_kw F hT hC room ?_
  show wpAny _ _ _ _ _ _
  have keep : ∀ b o, h.get? b = some o → ((h.push (kdv_tup rest)).push (excO C h.objs.size)).get? b = some o :=
    fun b o e => Heap.get?_push_of_some _ (Heap.get?_push_of_some _ e)
  have hC2 := keep _ _ hC
  have new : ((h.push (kdv_tup rest)).push (excO C h.objs.size)).get? (h.objs.size + 1) = some (excO C h.objs.size) := by
    heap_get
  have self : (Value.ref C :: bm).contains (.ref C) = true := by simp
  have i2 := hi.keeps keep
  have b2 := (hb (.ref (h.objs.size + 1))).keeps keep
  unfold isInstance
  repeat (first
    | with_reducible refine wpAny_loadPart_at new ?_
    | (with_reducible refine wpAny_isSubtype_exc hC2 ?_
       rw [self])
    | wp_step)
  show wpAny _ _ (typeLookup (.ref C) _) _ _ _
  refine i2.at ?_
  refine wpAny_holding (wpAny_bind (b2.at ?_))
  refine wpAny_bind (wpAny_call (codeAny_mono hq fun r s' z => ?_))
  rcases r with e | (v | _ | _ | _) <;> first
    | exact z
    | exact z.elim
    | skip
  obtain ⟨e, z⟩ := z
  subst e
  first
    | exact wpAny_pure (wpAny_pure z)
    | (wp_walk
       exact z)
theorem call_kw (F : ExcBaseFacts B newId initId bmB) (hT : ∀ X : String, bm.contains (.type X) = bmB.contains (.type X))
    {rest : List Value} {kw : List (Str × Value)} {fI : Addr}
    (hC : h.get? C = some (excClassObj nm q C N bs bm hdct sn sub ab col dd k0 k1 k2 k3 k5 newId))
    (hi : Looks (model prog w) h (typeLookup (.ref C) "__init__") (some (.ref fI)))
    (hb : ∀ self, Looks (model prog w) h (bindSpecial (.ref fI) self) (.ref fI, [self])) (room : rest.length ≤ sizeLine)
    (hq : codeAny (model prog w) (A.under (.builtin "type.__call__" ⟨.ref C :: rest, kw⟩)) (.call (.ref fI) ⟨.ref (h.objs.size + 1) :: rest, kw⟩)
      (InitBack (h.objs.size + 1) R) ⟨(h.push (kdv_tup rest)).push (excO C h.objs.size), g, d, t, os⟩) :
    codeAny (model prog w) A (.call (.ref C) ⟨rest, kw⟩) R ⟨h, g, d, t, os⟩ := by
  have e1 := tc_lookup
  have e2 := tc_bind (.ref C)
  have ty : (⟨h, g, d, t, os⟩ : Shared).TypeIs (.ref C) "type" := ⟨_, hC, rfl⟩
  refine codeAny_of_tree ?_
  show wpAny _ _ (callAny (.ref C) _) _ _ _
  repeat (any_goals (first
    | assumption
    | with_reducible refine wpAny_loadPart_at hC ?_
    | wp_step))
  refine ⟨rfl, ?_⟩
  refine codeAny_call_builtin_at (Code.quiet_builtin _ (by decide +kernel)) entry_typeCall
    (wpAny_check_type_call_sub hC (typeCall_kw F hT hC hi hb room ?_))
  refine codeAny_mono hq fun r s' z => ?_
  rcases r with e | (v | _ | _ | _) <;> exact z
end
end K9
end PySem

namespace K9
open PySem PySem.Spec PyProof.Rows L2 L2H HotX Evl
abbrev St := L2.St
/-! ### bodies that run where nothing is handled, or where one exception is: the pin p -/
abbrev Pin := Option (Addr × Obj)
/-- nothing is handled and nothing pinned, or an exception that is pinned is handled -/
def Mood (X : Cx) : Prop := (X.calm = true ∧ X.pn = []) ∨ HotC X
/-- the pin that a callee sees -/
def CallC (X : Cx) (p : Pin) : Prop := (X.calm = true ∧ p = none) ∨ ∃ o, p = some o ∧ Hot1 X.A o ∧ o ∈ X.pn
/-- a def's context, in both cases -/
abbrev cxB (P : Program) (w : World) (K : PySem.W.Frag) (mg : Str → Option Value) (base : Heap) (N : List Str) (qual : Str) (scope : Scope) (f : Addr) (cd : Value)
    (A : Around) (outer : List Env) (s : Shared) (H : Hp) (E : XK) (c : Bool) (l : List (Addr × Obj)) : Cx :=
  { cxOf CX0 P w K mg base N qual scope f cd A outer s H E with calm := c, pn := l }
structure FnB (P : Program) (w : World) (K : PySem.W.Frag) (mg : Str → Option Value) (base : Heap) (k : Nat) (f : Addr) (fd : FuncData) (ps : List Str) (sp : Pin → Sp) : Prop where
  len : ∀ p vs H Q E, sp p vs H Q E → vs.length = ps.length
  cold : FnOk P w K mg base CX0 k f fd ps (sp none)
  hot : ∀ (p : Addr × Obj) (A : Around) (outer : List Env) (s : Shared) (H : Hp) (args : Args) (us : List Value) (vs : List V) (Q : VK) (E : XK),
    RoomH k A → Hot1 A p → PinOk outer H s p → Env0 P w K mg base A outer s H → BindsTo s fd args (ps.zip us) → Vals vs us → sp (some p) vs H Q E →
    codeAny (model P w) A (.call (.ref f) args) (CR CX0 outer P w H s Q E) s
theorem FnB.mono {P : Program} {w : World} {K : PySem.W.Frag} {mg : Str → Option Value} {base : Heap} {j k : Nat} {f : Addr} {fd : FuncData} {ps : List Str} {sp : Pin → Sp}
    (F : FnB P w K mg base j f fd ps sp) (h : j ≤ k) : FnB P w K mg base k f fd ps sp :=
  ⟨F.len, F.cold.mono h, fun p A outer s H args us vs Q E hr => F.hot p A outer s H args us vs Q E (hr.mono h)⟩
/-- a def by its body, for both -/
theorem fnB_of {P : Program} {w : World} {K : PySem.W.Frag} {mg : Str → Option Value} {base : Heap} {k : Nat} {f : Addr} {name qual : Str} {params : Arguments} {body : List Stmt} {scope : Scope}
    {dV kV doc pm cdv ct oc : Value} {an od : Option Addr} {osl : Array (Option Value)} {N ps : List Str} {sp : Pin → Sp}
    (lk : K.lookup f = some ⟨oc, od, .func (PySem.W.fnOf name qual params body scope dV kV doc pm an cdv ct), osl⟩) (hcd : PySem.W.codeIn K cdv qual = true) (S : FnScope N ps scope)
    (len : ∀ p vs H Q E, sp p vs H Q E → vs.length = ps.length)
    (hbody : ∀ (A : Around) (outer : List Env) (s : Shared) (H : Hp) (vs : List V) (Q : VK) (E : XK) (p : Pin) (c : Bool),
      Mood (cxB P w K mg base N qual scope f cdv A outer s H E c p.toList) → CallC (cxB P w K mg base N qual scope f cdv A outer s H E c p.toList) p →
      RoomH k (A.deeper (envOfC qual scope s.heap.objs.size f cdv)) → sp p vs H Q E →
      ∃ t, PSs (cxB P w K mg base N qual scope f cdv A outer s H E c p.toList) body t ∧ t { nx := fun _ H' => Q .non H', rt := Q } (start N vs) H) :
    FnB P w K mg base (k + 1) f (PySem.W.fnOf name qual params body scope dV kV doc pm an cdv ct) ps sp := by
  refine ⟨len, ?_, ?_⟩
  · refine fn_of lk hcd S (len none) fun A outer s H vs Q E hr hsp => ?_
    exact hbody A outer s H vs Q E none true (.inl ⟨rfl, rfl⟩) (.inl ⟨rfl, rfl⟩) (roomH_of hr) hsp
  · intro p A outer s H args us vs Q E hr hot hpin e0 hb r hsp
    have hl := len _ _ _ _ _ hsp
    have KX : K.In s.heap := e0.mod.kin.keeps fun b o e => (e0.bs b o e).1
    have lim : s.heap.NoLimit := e0.mod.nolimit.keeps fun b o e => (e0.bs b o e).1
    have kinds : ∀ y ∈ ps.zip us, scope.names.lookup y.1 = some .local ∨
        (scope.names.lookup y.1 = some .cell ∧ ((cellsFrom (s.heap.objs.size + 1) scope.names []).lookup y.1).isSome = true) := by
      rintro ⟨n, v⟩ hy
      rcases S.par n (List.of_mem_zip hy).1 with q | q
      · exact .inl q
      · exact .inr ⟨q, PySem.W.cellsFrom_some _ _ _ (.inl q)⟩
    refine codeAny_call_function hr.depth (KX _ _ lk) rfl S.co S.gen rfl (PySem.W.codeRec_of KX hcd) (hb _ _ _ _ ?_)
    refine wpAny_newFunctionEnv_cells S.kind kinds fun env he s1 x => ?_
    subst he
    refine ⟨lim.keeps x.toInCall.keep, codeAny_func ?_⟩
    have hc : HotC (cxB P w K mg base N qual scope f cdv A outer s H E false [p]) := ⟨p, hot, List.mem_singleton.mpr rfl⟩
    obtain ⟨t, ht, hq⟩ := hbody A outer s H vs Q E (some p) false (.inr hc) (.inr ⟨p, rfl, hot, List.mem_singleton.mpr rfl⟩) (hr.deeper _) hsp
    have I : Inv (cxB P w K mg base N qual scope f cdv A outer s H E false [p]) [] (start N vs) H s1 :=
      inv_startH (CX := CX0) S hpin e0 hl r x
    refine wpAny_mono (ht.run [] s1 (start N vs) H _ I hq) (fun fl s' hs => ?_) fun e s' hs => hs
    have done : ∀ {σ' : St} {H' : Hp} {v : V} {u : Value}, Inv (cxB P w K mg base N qual scope f cdv A outer s H E false [p]) [] σ' H' s' →
        RelV v u → Q v H' → CE outer P w H s Q u s' := fun {σ' H' v u} J rv q => ⟨v, H', J.os, J.bare, J.base, J.hok, rv, q⟩
    cases fl with
    | ret u =>
      obtain ⟨v, σ', H', J, rv, q⟩ := hs
      exact done J rv q
    | next =>
      obtain ⟨σ', H', J, q⟩ := hs
      exact done (v := V.non) (u := Value.none) J rfl q
    | brk =>
      obtain ⟨_, _, _, q⟩ := hs
      exact q.elim
    | cont =>
      obtain ⟨_, _, _, q⟩ := hs
      exact q.elim
/-! ### the call of such a def -/
section
variable {X : Cx} {k : Nat} {f : Addr} {fd : FuncData} {ps : List Str} {sp : Pin → Sp} {x : Str} {q pos : Pos} {e : Expr} {es : List Expr} {t : TA}
theorem runB {p : Pin} {pins : List (Addr × Obj)} {σ : St} {H : Hp} {s : Shared} {Q : VK} {us : List Value} {vs : List V} {args : Args} (F : FnB X.prog X.w X.K X.mg X.base k f fd ps sp) (hr : RoomH k X.A)
    (hc : CallC X p) (hb : BindsTo s fd args (ps.zip us)) (I : Inv X pins σ H s) (r : Vals vs us) (h : sp p vs H Q E0) :
    codeAny (model X.prog X.w) X.A (.call (.ref f) args) (fun r s' => match r with
      | .ok (.ret u) => EP X pins σ Q u s'
      | .ok _ => False
      | .error e => X.xe e s') s := by
  have fin : ∀ (r : Result) (s' : Shared), CR CX0 X.stack X.prog X.w H s Q E0 r s' → (match r with
      | .ok (.ret u) => EP X pins σ Q u s'
      | .ok _ => False
      | .error e => X.xe e s') := by
    intro r s' hq
    cases r with
    | error e => exact False.elim hq
    | ok fl =>
      cases fl with
      | ret u => exact I.after hq
      | next => exact False.elim hq
      | brk => exact False.elim hq
      | cont => exact False.elim hq
  rcases hc with ⟨hc, rfl⟩ | ⟨o, rfl, hot, hp⟩
  · have rm : Room k X.A := ⟨I.ok.hd hc, hr.dp, hr.un⟩
    exact codeAny_mono (F.cold.run X.A X.stack s H args us vs Q E0 rm I.env0 hb r h) fin
  · have P1 := I.pin o (List.mem_append_left _ hp)
    have pin : PinOk X.stack H s o := ⟨P1.1, P1.2.1, fun hm => by
      rcases List.mem_cons.mp (I.stkSub o.1 hm) with z | z
      · exact P1.2.2.1 z
      · exact P1.2.2.2.1 z, P1.2.2.2.2⟩
    exact codeAny_mono (F.hot o X.A X.stack s H args us vs Q E0 hr hot pin I.env0 hb r h) fin
/-- f(e, ..) -/
def tCallB (sp : Sp) (t : TA) : TE := fun σ H Q => t σ H fun vs H1 => sp vs H1 Q E0
theorem pe_callC {p : Pin} (F : FnB X.prog X.w X.K X.mg X.base k f fd ps sp) (hr : RoomH k X.A) (hc : CallC X p) (hg : Gl X x) (hm : X.mg x = some (.ref f)) (hk : PySem.W.keepIn X.K (.ref f) = true)
    (hb : Binds X.K fd ps []) (ha : PA X (e :: es) t) (hdb : (x == ("__debug__" : Str)) = false := by decide)
    (he : starEach (e :: es) X.env = (false, eval e X.env) :: starEach es X.env := by rfl) (hpl : (backTo pos (starEach es X.env)).any (·.1) = false := by rfl) :
    PE X (.Call (.Name x q) (e :: es) [] pos) (tCallB (sp p) t) := by
  refine ⟨fun pins s σ H Q I h => ?_⟩
  refine wpAny_Call_Name_kw (ld_glob I hg hm ?_ hdb)
  refine PySem.W.callWith_K (h₀ := X.base) I.ok.mod.kin hk (thn (ha.run pos pins s σ H _ I h) fun us s1 ⟨vs, H1, I1, r, q1⟩ => ⟨I1.kIn, ?_⟩) he hpl
  have hl : us.length = ps.length := by
    rw [← r.length]
    exact F.len _ _ _ _ _ q1
  have b := hb s1 us I1.kIn (by rw [List.append_nil]; exact hl)
  rw [List.append_nil] at b
  refine wpAny_call (codeAny_mono (runB F hr hc b I1 r q1) fun r s' z => ?_)
  cases r with
  | error e => exact z
  | ok fl => cases fl <;> exact z
end
end K9

namespace PySem
namespace K9S
open PySem.Spec PyProof.Rows HotX
section
variable {prog : Program} {w : World} {A : Around} {E : Value → Shared → Prop} {s : Shared}
/-- StopIteration, made and raised where x1 is handled, then caught by next -/
theorem stop_hot {x1 : Addr} {P : Fin → Shared → Prop} {Q : Option Value → Shared → Prop} (hot : HotAt A x1 s.heap)
    (hQ : ∀ h', (∀ b o, s.heap.get? b = some o → h'.get? b = some o) → Q none { s with heap := h' }) :
    wpAny (model prog w) A.in1 Builtin.SmallTypes.stopIteration P (fun e s' => wpAny (model prog w) A (do
      let yes ← isInstance e (.type "StopIteration")
      if yes = true then pure none else throw e) Q E s') s := by
  obtain ⟨hh, o1, vs1, h1, d1, c1⟩ := hot
  show wpAny _ _ (newExc (.type "StopIteration") [] >>= _) _ _ _
  refine wpAny_bind ?_
  simp only [newExc, newTuple]
  refine wpAny_bind (wpAny_newObj_type ?_ (by size_fits))
  refine wpAny_bind (m := firstArgMember _ _) (wpAny_of_eq (a := Value.none) (by
    first
      | rfl
      | (simp only [firstArgMember]; rfl)) ?_)
  refine wpAny_newObj_type ?_ (by size_fits)
  refine raiseNew_hot ⟨hh, o1, vs1, Heap.get?_push_of_some _ (Heap.get?_push_of_some _ h1), d1, c1⟩ (Nat.ne_of_lt (Heap.lt_size (Heap.get?_push_of_some _ h1))) (Heap.get?_push_size _ rfl) rfl (by
    first
      | (simp; done)
      | (simp; omega)
      | (simp only [Array.size_append]; simp; omega)) ?_
  refine wpAny_bind (wpAny_isInstance (T := "StopIteration") (b := true) ⟨_, Heap.get?_update_self _ (Heap.get?_push_size _ rfl) rfl, rfl⟩ isSubtype_stop ?_)
  refine wpAny_pure (hQ _ fun b o e => ?_)
  rw [Heap.get?_update_other _ _ (Nat.ne_of_gt (Heap.lt_size (Heap.get?_push_of_some _ e)))]
  exact Heap.get?_push_of_some _ (Heap.get?_push_of_some _ e)
/-- an object other than the one that was updated -/
theorem past {h : Heap} {it b : Addr} {f : Obj → Obj} {o : Obj} (ne : b ≠ it) (e : h.get? b = some o) : (h.update it f).get? b = some o := by
  rw [Heap.get?_update_other h f (Ne.symm ne)]
  exact e
theorem tuple_end_hot {it t x1 : Addr} {i : Nat} {items : Array Value} {Q : Option Value → Shared → Prop} (hot : HotAt A x1 s.heap) (ne : x1 ≠ it)
    (hit : s.heap.IsTupleIter it t i) (ht : s.heap.IsTuple t items) (hx : items[i]? = none)
    (hQ : ∀ h', Heap.ExtBut it s.heap h' → Q none { s with heap := h' }) : wpAny (model prog w) A (pyNext (.ref it)) Q E s := by
  obtain ⟨hh, o1, vs1, h1, d1, c1⟩ := hot
  obtain ⟨o, ho, hc, hd⟩ := id hit
  obtain ⟨ol, hol, _, nl, hdl⟩ := ht
  unfold pyNext
  refine wpAny_bind (wpAny_attempt (wpAny_callSpecial?_slot (name := Str.ofString "__next__") hit.typeIs F.slot_tuple_iterator_next
    (wpAny_call_entry F.slot_tuple_iterator_next hit.typeIs F.entry_tuple_iterator_next ?_ (F.args_tuple_iterator_next_1 _))))
  show wpAny _ _ (field (.ref it) 0 >>= _) _ _ s
  refine wpAny_bind (wpAny_field ho hd (x := .ref t) rfl ?_)
  show wpAny _ _ (if (Value.ref t == Value.none) = true then _ else _) _ _ s
  rw [if_neg (show ¬ ((Value.ref t == Value.none) = true) from Bool.false_ne_true)]
  show wpAny _ _ (field (.ref it) 1 >>= _) _ _ s
  refine wpAny_bind (wpAny_field ho hd (x := .int i 0) rfl ?_)
  show wpAny _ _ (seqItems? (.ref t) >>= _) _ _ s
  refine wpAny_bind (wpAny_seqItems hol hdl ?_)
  simp only [Int.toNat_natCast, hx]
  refine wpAny_bind (wpAny_rule (wpAny_bind (wpAny_setField ho hd (by simp) ?_)))
  exact stop_hot (x1 := x1) ⟨hh, o1, vs1, past ne h1, d1, c1⟩ fun h' k => hQ h' fun b o hb e => k b o (past hb e)
theorem list_end_hot {it t x1 : Addr} {i : Nat} {items : Array Value} {Q : Option Value → Shared → Prop} (hot : HotAt A x1 s.heap) (ne : x1 ≠ it)
    (hit : s.heap.IsListIter it t i) (ht : s.heap.IsList t items) (hx : items[i]? = none)
    (hQ : ∀ h', Heap.ExtBut it s.heap h' → Q none { s with heap := h' }) : wpAny (model prog w) A (pyNext (.ref it)) Q E s := by
  obtain ⟨hh, o1, vs1, h1, d1, c1⟩ := hot
  obtain ⟨o, ho, hc, hd⟩ := id hit
  obtain ⟨ol, hol, _, nl, hdl⟩ := ht
  unfold pyNext
  refine wpAny_bind (wpAny_attempt (wpAny_callSpecial?_slot (name := Str.ofString "__next__") hit.typeIs slot_listiter_next
    (wpAny_call_entry slot_listiter_next hit.typeIs entry_listiter_next ?_ (args_listiter_next _))))
  show wpAny _ _ (field (.ref it) 0 >>= _) _ _ s
  refine wpAny_bind (wpAny_field ho hd (x := .ref t) rfl ?_)
  show wpAny _ _ (if (Value.ref t == Value.none) = true then _ else _) _ _ s
  rw [if_neg (show ¬ ((Value.ref t == Value.none) = true) from Bool.false_ne_true)]
  show wpAny _ _ (field (.ref it) 1 >>= _) _ _ s
  refine wpAny_bind (wpAny_field ho hd (x := .int i 0) rfl ?_)
  show wpAny _ _ (seqItems? (.ref t) >>= _) _ _ s
  refine wpAny_bind (wpAny_seqItems hol hdl ?_)
  simp only [Int.toNat_natCast, hx]
  refine wpAny_bind (wpAny_rule (wpAny_bind (wpAny_setField ho hd (by simp) ?_)))
  exact stop_hot (x1 := x1) ⟨hh, o1, vs1, past ne h1, d1, c1⟩ fun h' k => hQ h' fun b o hb e => k b o (past hb e)
end
section
variable {prog : Program} {w : World} {A : Around} {E : Value → Shared → Prop} {s : Shared} {K : Type} [DecidableEq K] {knd : KeyKind prog w K}
theorem dict_end_hot {it d x1 : Addr} {i ep : Nat} {kvs : List (K × Value)} {Q : Option Value → Shared → Prop} (hot : HotAt A x1 s.heap) (ne : x1 ≠ it) (hit : s.heap.IsKeyIter it d i kvs.length ep)
    (hm : s.heap.DictAt knd d kvs ep) (hx : kvs[i]? = none)
    (hQ : ∀ h', Heap.ExtBut it s.heap h' → Q none { s with heap := h' }) : wpAny (model prog w) A (pyNext (.ref it)) Q E s := by
  obtain ⟨hh, o1, vs1, h1, d1, c1⟩ := hot
  obtain ⟨o, ho, hc, hd⟩ := id hit
  obtain ⟨od, es, hod, hcd, hdd, hk, hp, hn⟩ := id hm
  unfold pyNext
  refine wpAny_bind (wpAny_attempt (wpAny_callSpecial?_slot (name := Str.ofString "__next__") hit.typeIs F.slot_dict_keyiterator_next
    (wpAny_call_entry F.slot_dict_keyiterator_next hit.typeIs F.entry_dict_keyiterator_next ?_ (F.args_dict_keyiterator_next_1 _))))
  refine wpAny_bind (wpAny_pure (wpAny_bind (wpAny_bind ?_)))
  first
    | refine wpAny_bind (wpAny_typeNameOfWhole_keyiter hit.typeIs (wpAny_pure ?_))
    | refine wpAny_bind (wpAny_typeNameOf_keyiter hit.typeIs (wpAny_pure ?_))
  refine wpAny_bind (wpAny_fieldsOf ho hd ?_)
  have own : Builtin.Dict_items.ownsTuple "dict_keyiterator" = false := by decide
  simp only [own, Bool.false_eq_true, if_false]
  show wpAny _ _ (if (Value.ref d == Value.none) = true then _ else _) _ _ s
  rw [if_neg (show ¬ ((Value.ref d == Value.none) = true) from Bool.false_ne_true)]
  refine wpAny_bind (wpAny_pure (wpAny_bind (wpAny_dictEntries hod hdd ?_)))
  have many : es.size = kvs.length := by
    rw [← hp.length]
    simp
  rw [if_neg (by rw [many]; simp)]
  refine wpAny_bind (wpAny_pure (wpAny_bind (wpAny_dictEpoch hod hdd ?_)))
  rw [if_neg (by simp)]
  refine wpAny_pure ?_
  have over : es.size ≤ i := by
    rw [many]
    simpa using hx
  simp only [show ¬ ((i : Int) < 0) from by omega, if_false, Int.toNat_natCast, Array.getElem?_eq_none over]
  refine wpAny_bind ?_
  first
    | refine wpAny_bind (wpAny_typeNameOfWhole_keyiter hit.typeIs (wpAny_pure ?_))
    | refine wpAny_bind (wpAny_typeNameOf_keyiter hit.typeIs (wpAny_pure ?_))
  show wpAny _ _ (setField (.ref it) 0 .none >>= _) _ _ s
  refine wpAny_bind (wpAny_setField ho hd (by simp) ?_)
  exact stop_hot (x1 := x1) ⟨hh, o1, vs1, past ne h1, d1, c1⟩ fun h' k => hQ h' fun b o hb e => k b o (past hb e)
end
end K9S
end PySem

namespace K9
open PySem PySem.Spec PyProof.Rows L2 L2H HotX Evl
theorem hot_pin {X : Cx} {pins : List (Addr × Obj)} {σ : St} {H : Hp} {s : Shared} (c : HotC X) (I : Inv X pins σ H s) : ∃ p : Addr × Obj, p ∈ X.pn ∧ HotAt X.A p.1 s.heap := by
  obtain ⟨p, ⟨hh, vs, e1, c1⟩, hp⟩ := c
  exact ⟨p, hp, hh, p.2, vs, (I.pin p (List.mem_append_left _ hp)).1, e1, c1⟩
section
variable {P : Program} {w : World} {K : PySem.W.Frag} {tg : Expr}
theorem turnH_list (a it : Addr) : TurnH P w K tg (Itl K a) [it] it (fun i h => h.IsListIter it a i) where
  mem := by simp
  obj := (turn_list (P := P) (w := w) (K := K) (tg := tg) a it).obj
  keep := (turn_list (P := P) (w := w) (K := K) (tg := tg) a it).keep
  item := by
    intro X hP hw hK hc i pins s σ H E I hf st hg
    subst hP hw hK
    obtain ⟨xs, x, hq, hx⟩ := hg
    obtain ⟨its, rv, p, hz⟩ := I.list hq
    obtain ⟨u, hu, ru⟩ := rv.get hx
    obtain ⟨f0, f1, f2, f3, f4, f5⟩ := hf it (by simp)
    refine wpAny_pyNext_list_item st p.isList (x := u) (by simpa using hu) fun h' st' sb => ?_
    have J : Inv X pins σ H { s with heap := h' } := I.turned (t' := s.toks) (fun b o hb e => (sb.2 b hb).trans e) f0 f1 f3 f4 f5
    obtain ⟨o, e, c, d⟩ := id st'
    refine ⟨u, rfl, go_of (s := { s with heap := h' }) e c d (by decide) ⟨x, H, J, ru, ⟨rfl, fun ys hy => ?_⟩, st', fun b hb => (hf b hb).1⟩⟩
    rw [I.list_inj hy hq]
    exact hx
  done := by
    intro X hP hw hK hc i pins s σ H E I hf st hg
    subst hP hw hK
    obtain ⟨xs, hq, hx⟩ := hg
    obtain ⟨its, rv, p, hz⟩ := I.list hq
    obtain ⟨f0, f1, f2, f3, f4, f5⟩ := hf it (by simp)
    obtain ⟨q, hq2, hot⟩ := hot_pin hc I
    have hl := rv.length
    exact PySem.K9S.list_end_hot hot (f5 q (List.mem_append_left _ hq2)) st p.isList (by simp; omega) fun h' eb =>
      ⟨rfl, I.turned (t' := s.toks) (fun b o hb e => eb b o hb e) f0 f1 f3 f4 f5⟩
  self := (turn_list (P := P) (w := w) (K := K) (tg := tg) a it).self
theorem turnH_tuple (a it : Addr) : TurnH P w K tg (Itt K a) [it] it (fun i h => h.IsTupleIter it a i) where
  mem := by simp
  obj := (turn_tuple (P := P) (w := w) (K := K) (tg := tg) a it).obj
  keep := (turn_tuple (P := P) (w := w) (K := K) (tg := tg) a it).keep
  item := by
    intro X hP hw hK hc i pins s σ H E I hf st hg
    subst hP hw hK
    obtain ⟨xs, x, hq, hx⟩ := hg
    obtain ⟨its, rv, p, hz⟩ := I.tuple hq
    obtain ⟨u, hu, ru⟩ := rv.get hx
    obtain ⟨f0, f1, f2, f3, f4, f5⟩ := hf it (by simp)
    refine wpAny_pyNext_tuple_item st (show s.heap.IsTuple a its.toArray from p) (x := u) (by simpa using hu) fun h' st' sb => ?_
    have J : Inv X pins σ H { s with heap := h' } := I.turned (t' := s.toks) (fun b o hb e => (sb.2 b hb).trans e) f0 f1 f3 f4 f5
    obtain ⟨o, e, c, d⟩ := id st'
    refine ⟨u, rfl, go_of (s := { s with heap := h' }) e c d (by decide) ⟨x, H, J, ru, ⟨rfl, fun ys hy => ?_⟩, st', fun b hb => (hf b hb).1⟩⟩
    rw [I.tuple_inj hy hq]
    exact hx
  done := by
    intro X hP hw hK hc i pins s σ H E I hf st hg
    subst hP hw hK
    obtain ⟨xs, hq, hx⟩ := hg
    obtain ⟨its, rv, p, hz⟩ := I.tuple hq
    obtain ⟨f0, f1, f2, f3, f4, f5⟩ := hf it (by simp)
    obtain ⟨q, hq2, hot⟩ := hot_pin hc I
    have hl := rv.length
    exact PySem.K9S.tuple_end_hot hot (f5 q (List.mem_append_left _ hq2)) st (show s.heap.IsTuple a its.toArray from p) (by simp; omega) fun h' eb =>
      ⟨rfl, I.turned (t' := s.toks) (fun b o hb e => eb b o hb e) f0 f1 f3 f4 f5⟩
  self := (turn_tuple (P := P) (w := w) (K := K) (tg := tg) a it).self
theorem turnH_keys {d : Addr} {o : Obj} {es : Array DictEntry} {ep : Nat} {kvs : List (Key × V)} (it : Addr) (hod : o.data = .dict es ep) :
    TurnH P w K tg (Itk d o kvs) [it] it (fun i h => h.IsKeyIter it d i kvs.length ep) where
  mem := by simp
  obj := (turn_keys (P := P) (w := w) (K := K) (tg := tg) (d := d) (kvs := kvs) it hod).obj
  keep := (turn_keys (P := P) (w := w) (K := K) (tg := tg) (d := d) (kvs := kvs) it hod).keep
  item := by
    intro X hP hw hK hc i pins s σ H E I hf st hg
    subst hP hw hK
    obtain ⟨hd, hi⟩ := hg
    obtain ⟨f0, f1, f2, f3, f4, f5⟩ := hf it (by simp)
    obtain ⟨hs, hgd, hx, es', ep', vs, hdt, hsz, kv, hm⟩ := I.frzK hd
    obtain ⟨rfl, rfl⟩ := dict_ep hod hdt
    obtain ⟨⟨k, v⟩, hkv⟩ : ∃ p, kvs[i]? = some p := ⟨kvs[i], List.getElem?_eq_getElem hi⟩
    obtain ⟨u, hu, ru⟩ := kv_get kv hkv
    have hl : kvs.length = vs.length := Paired.length kv
    rw [hl] at st
    refine wpAny_pyNext_dict_item st hm hu fun key h' hkey st' sb => ?_
    have J : Inv X pins σ H { s with heap := h' } := I.turned (t' := s.toks) (fun b ob hb e => (sb.2 b hb).trans e) f0 f1 f3 f4 f5
    obtain ⟨oi, e, c, dd⟩ := id st'
    refine ⟨key, rfl, go_of (s := { s with heap := h' }) e c dd (by decide) ⟨kV k, H, J, relV_key (show keyIs k key = true from hkey), ⟨rfl, k, v, hkv, rfl⟩, ?_, fun b hb => (hf b hb).1⟩⟩
    show h'.IsKeyIter it d (i + 1) kvs.length _
    rw [hl]
    exact st'
  done := by
    intro X hP hw hK hc i pins s σ H E I hf st hg
    subst hP hw hK
    obtain ⟨hd, hi⟩ := hg
    obtain ⟨f0, f1, f2, f3, f4, f5⟩ := hf it (by simp)
    obtain ⟨hs, hgd, hx, es', ep', vs, hdt, hsz, kv, hm⟩ := I.frzK hd
    obtain ⟨rfl, rfl⟩ := dict_ep hod hdt
    obtain ⟨q, hq2, hot⟩ := hot_pin hc I
    have hl : kvs.length = vs.length := Paired.length kv
    rw [hl] at st hi
    exact PySem.K9S.dict_end_hot hot (f5 q (List.mem_append_left _ hq2)) st hm (List.getElem?_eq_none hi) fun h' eb =>
      ⟨rfl, I.turned (t' := s.toks) (fun b ob hb e => eb b ob hb e) f0 f1 f3 f4 f5⟩
  self := (turn_keys (P := P) (w := w) (K := K) (tg := tg) (d := d) (kvs := kvs) it hod).self
end
section
variable {X : Cx} {tg : Expr}
theorem pieH_one {pins : List (Addr × Obj)} {σ : St} {H : Hp} {s : Shared} {R : It → Hp → Prop} {J : It} {tn : Nat → Heap → Prop} {o : Obj} (I : Inv X pins σ H s)
    (T : TurnH X.prog X.w X.K tg J [s.heap.objs.size] s.heap.objs.size tn) (t0 : tn 0 (s.heap.push o)) (q : R J H) :
    PIEH X pins σ tg R (.ref s.heap.objs.size) { s with heap := s.heap.push o } := by
  refine ⟨s.heap.objs.size, [s.heap.objs.size], tn, J, H, rfl, I.kept (t' := s.toks) fun b u e => Heap.get?_push_of_some _ e, T, t0, fun b hb => ?_, q⟩
  have e : b = s.heap.objs.size := by simpa using hb
  subst e
  exact I.fpOk (Nat.le_refl _) (I.hok.fresh (Nat.le_refl _))
theorem piH_list {l : Expr} {tl : TE} (hl : PE X l tl) : PIH X tg l (iList X.K tl) := by
  refine ⟨fun pins s σ H R I h => ?_⟩
  refine thn (hl.run pins s σ H _ I h) fun v s1 ⟨x, H1, I1, r1, a, e, ⟨xs, hq⟩, q⟩ => ?_
  subst e
  cases r1
  obtain ⟨its, rv, p, hz⟩ := I1.list hq
  exact wpAny_pyIter_list p.isList (pieH_one I1 (turnH_list a _) ⟨_, Heap.get?_push_size _ rfl, rfl, rfl⟩ q)
theorem piH_tup {l : Expr} {tl : TE} (hl : PE X l tl) : PIH X tg l (iTup X.K tl) := by
  refine ⟨fun pins s σ H R I h => ?_⟩
  refine thn (hl.run pins s σ H _ I h) fun v s1 ⟨x, H1, I1, r1, a, e, ⟨xs, hq⟩, q⟩ => ?_
  subst e
  cases r1
  obtain ⟨its, rv, p, hz⟩ := I1.tuple hq
  exact wpAny_pyIter_tuple (show s1.heap.IsTuple a its.toArray from p) (pieH_one I1 (turnH_tuple a _) ⟨_, Heap.get?_push_size _ rfl, rfl, rfl⟩ q)
/-- the keys of a locked dict of keys that are ints or texts -/
def iKeyK (td : TE) : TI := fun σ H R => td σ H fun x H1 => ∃ d o, x = .ref d ∧ ∃ kvs, H1 d = some (.frz o (.dK kvs)) ∧ R (Itk d o kvs) H1
theorem pi_keyK {l : Expr} {td : TE} (hl : PE X l td) : PI X tg l (iKeyK td) := by
  refine ⟨fun pins s σ H R I h => ?_⟩
  refine thn (hl.run pins s σ H _ I h) fun u s1 ⟨x, H1, I1, rx, d, o, ex, kvs, hd, q⟩ => ?_
  subst ex
  obtain rfl : u = Value.ref d := rx
  obtain ⟨hs, hgd, hx, es, ep, vs, hdt, hsz, kv, hm⟩ := I1.frzK hd
  refine iter_keys hs hgd hx hdt (pi_one (tk := s1.toks) I1 _ (turn_keys _ hdt) ⟨_, Heap.get?_push_size _ rfl, rfl, ?_⟩ q)
  rw [hsz] <;> rfl
theorem piH_keyK {l : Expr} {td : TE} (hl : PE X l td) : PIH X tg l (iKeyK td) := by
  refine ⟨fun pins s σ H R I h => ?_⟩
  refine thn (hl.run pins s σ H _ I h) fun u s1 ⟨x, H1, I1, rx, d, o, ex, kvs, hd, q⟩ => ?_
  subst ex
  obtain rfl : u = Value.ref d := rx
  obtain ⟨hs, hgd, hx, es, ep, vs, hdt, hsz, kv, hm⟩ := I1.frzK hd
  refine iter_keys hs hgd hx hdt (pieH_one I1 (turnH_keys _ hdt) ⟨_, Heap.get?_push_size _ rfl, rfl, ?_⟩ q)
  rw [hsz] <;> rfl
end
/-! ### a list comprehension, in both moods -/
/-- the block's context: the pins stay -/
abbrev blkC (X : Cx) (s : Shared) (H : Hp) (scope : Scope) (ce : Env) (fp : List Addr) : Cx := { X.blk s H scope ce fp with pn := X.pn }
section
variable {X : Cx} {pins : List (Addr × Obj)} {σ σ' : St} {H H' : Hp} {s s' : Shared} {scope : Scope} {ce : Env} {fp : List Addr}
/-- the same state, with the pins of the def borne along -/
theorem blk_pins (I : Inv (X.blk s H scope ce fp) [] σ' H' s') (hp : ∀ p ∈ X.pn, s'.heap.get? p.1 = some p.2 ∧ H' p.1 = none ∧ p.1 ≠ ce.locals ∧ p.1 ∉ frs X.stack ∧ ∀ v, p.2.data ≠ .cell v) :
    Inv (blkC X s H scope ce fp) [] σ' H' s' :=
  ⟨⟨I.ok.mod, I.ok.kind, I.ok.glob, I.ok.blt, I.ok.above, I.ok.inj, I.ok.has, I.ok.cab, I.ok.hd, I.ok.frames, I.ok.stk, I.ok.exf, I.ok.bs, I.ok.bsz, I.ok.noex, I.ok.exfs, I.ok.funs, I.ok.frf⟩,
    I.os, I.bare, I.base, I.loc, I.cell, I.free, I.freeC, (fun p h => by
      rcases List.mem_append.mp h with h | h
      · exact hp p h
      · cases h), I.hok, I.len⟩
end
section
variable {X : Cx} {elt tg iter : Expr} {ifs : List Expr} {scope : Scope} {own : List (Str × Nat)} {pos : Pos} {wi : TI} {g : TG} {tt : TT} {te : TE}
theorem pe_lcH (hc : HotC X) (hN : X.N.Nodup) (hi : PIH X tg iter wi) (ok : BlkOk X.N X.env.scope scope own)
    (hg : ∀ (s : Shared) (H : Hp) (C : Addr) (cl : List (Str × Addr)) (fp : List Addr), PG (blkC X s H scope (compEnvC scope cl C X.env) fp) tg g)
    (ht : ∀ (s : Shared) (H : Hp) (C : Addr) (cl : List (Str × Addr)) (fp : List Addr), PTs (blkC X s H scope (compEnvC scope cl C X.env) fp) ifs tt)
    (he : ∀ (s : Shared) (H : Hp) (C : Addr) (cl : List (Str × Addr)) (fp : List Addr), PE (blkC X s H scope (compEnvC scope cl C X.env) fp) elt te)
    (hs : ∀ x, foldedSetIterable iter X.env x = pure x := by intro _; rfl) :
    PE X (.ListComp elt [⟨tg, iter, ifs, 0⟩] scope pos) (tLc wi g tt te (own.map (·.2))) := by
  refine ⟨fun pins s σ H Q I h => ?_⟩
  rw [eval_ListComp]
  have caps : ∀ y ∈ scope.names, y.2 = .free → ∃ c, X.env.cells.lookup y.1 = some c := fun y hy e => by
    rcases ok.free y hy e with k | k
    · exact I.ok.has _ (.inl k)
    · exact I.ok.has _ (.inr k)
  refine wpAny_comprehension_free (use := none) rfl hs (closure_ok caps) ok.kind (fun y hy e => by rw [ok.uniq y hy, e])
    (thn (hi.run pins s σ H _ I h) fun xv s1 hx => thn hx fun itv s2 h2 => ?_)
  obtain ⟨it, fp, tn, J, H2, e, I2, T, st2, f2, q⟩ := h2
  subst e
  refine wpAny_newObj_type (newEnv_comp ?_) (by show 0 ≤ sizeLine; decide)
  generalize hD : s2.heap.objs.size = D
  have freeD : H2 D = none := I2.hok.fresh (Nat.le_of_eq hD)
  obtain ⟨W, ⟨m0, w0⟩, turn⟩ := q D freeD
  generalize hs3 : ({ s2 with heap := s2.heap.push { cls := .type "list", data := .seq ([] : List Value).toArray } } : Shared) = s3
  have h3 : s3.heap = s2.heap.push { cls := .type "list", data := .seq ([] : List Value).toArray } := by rw [← hs3]
  have I3 : Inv X pins σ (upd H2 D (.lst [])) s3 := by
    rw [← hs3]
    refine I2.laid (t' := s2.toks) (fun b o e => Heap.get?_push_of_some _ e) (Nat.le_of_eq hD) ⟨Nat.zero_le _, [], 0, .nil, ?_⟩
    rw [← hD]
    exact Heap.get?_push_size _ rfl
  have below : ∀ b ∈ fp, b < s2.heap.objs.size := fun b hb => by
    obtain ⟨o, e, _⟩ := T.obj _ _ st2 b hb
    exact Heap.lt_size e
  have f3 : ∀ b ∈ fp, FpOk X pins (upd H2 D (.lst [])) b ∧ b < s3.heap.objs.size := fun b hb => by
    have lt := below b hb
    constructor
    · refine ⟨?_, (f2 b hb).2⟩
      rw [upd_ne (by rw [← hD]; exact Nat.ne_of_lt lt)]
      exact (f2 b hb).1
    · rw [h3, Heap.size_push]
      exact Nat.lt_succ_of_lt lt
  have st3 : tn 0 s3.heap := T.keep _ _ _ st2 fun b _ o e => by
    rw [h3]
    exact Heap.get?_push_of_some _ e
  have I4 := block_start I3 ok hN f3
  have pg := hg s3 (upd H2 D (.lst [])) s3.heap.objs.size (cellsFrom (s3.heap.objs.size + 1) scope.names (cloFrom X.env.cells scope.names [])) fp
  have pt := ht s3 (upd H2 D (.lst [])) s3.heap.objs.size (cellsFrom (s3.heap.objs.size + 1) scope.names (cloFrom X.env.cells scope.names [])) fp
  have pe := he s3 (upd H2 D (.lst [])) s3.heap.objs.size (cellsFrom (s3.heap.objs.size + 1) scope.names (cloFrom X.env.cells scope.names [])) fp
  show codeAny _ _ (.compStart (.ListComp elt [⟨tg, iter, ifs, 0⟩] scope pos) 0 (.ref it) (.ref D) (compEnvC scope (cellsFrom (s3.heap.objs.size + 1) scope.names (cloFrom X.env.cells scope.names [])) s3.heap.objs.size X.env)) _ { s3 with heap := pushCells (s3.heap.push { cls := .type "dict", data := .dict #[] }) scope.names }
  have nfp : ∀ b ∈ fp, (upd H2 D (.lst [])) b = none := fun b hb => (f3 b hb).1.1
  generalize hce : compEnvC scope (cellsFrom (s3.heap.objs.size + 1) scope.names (cloFrom X.env.cells scope.names [])) s3.heap.objs.size X.env = ce at I4 pg pt pe ⊢
  have cL : ce.locals = s3.heap.objs.size := by
    subst hce
    rfl
  have nfr : ∀ p ∈ X.pn, p.1 ≠ ce.locals ∧ p.1 ∉ frs X.stack := fun p hp => by
    have z := I3.pin p (List.mem_append_left _ hp)
    refine ⟨?_, fun hm => ?_⟩
    · rw [cL]
      exact Nat.ne_of_lt (Heap.lt_size z.1)
    · rcases List.mem_cons.mp (I3.stkSub p.1 hm) with y | y
      · exact z.2.2.1 y
      · exact z.2.2.2.1 y
  generalize hH3 : upd H2 D (.lst []) = H3 at I3 I4 pg pt pe w0 nfp f3
  generalize hs4 : ({ s3 with heap := pushCells (s3.heap.push { cls := .type "dict", data := .dict #[] }) scope.names } : Shared) = s4 at I4 ⊢
  have st4 : tn 0 s4.heap := T.keep _ _ _ st3 fun b _ o e => by
    rw [← hs4]
    exact pushCells_keeps _ _ _ _ (Heap.get?_push_of_some _ e)
  have J4 : Inv (blkC X s3 H3 scope ce fp) [] (wipe σ (own.map (·.2))) H3 s4 := by
    refine blk_pins I4 fun p hp => ?_
    have z := I3.pin p (List.mem_append_left _ hp)
    refine ⟨?_, z.2.1, (nfr p hp).1, (nfr p hp).2, z.2.2.2.2⟩
    rw [← hs4]
    exact pushCells_keeps _ _ _ _ (Heap.get?_push_of_some _ z.1)
  have hotB : HotC (blkC X s3 H3 scope ce fp) := hc
  have stat : ∀ {σ' : St} {H' : Hp} {s' : Shared}, Inv (blkC X s3 H3 scope ce fp) [] σ' H' s' → (∀ b ∈ fp, H' b = none) → ∀ b ∈ fp, FpOk (blkC X s3 H3 scope ce fp) [] H' b := fun {σ' H' s'} I' hn b hb =>
    ⟨hn b hb, (I'.ok.exf b hb).1, I'.ok.exfs b hb, .inl hb, fun x c e => (I'.ok.exf b hb).2 x c e, fun p hp => by
      rcases List.mem_append.mp hp with y | y
      · exact (f3 b hb).1.2.2.2.2.2 p (List.mem_append_left _ y)
      · cases y⟩
  have loop : codeAny (model X.prog X.w) X.A (.compLoop (.ListComp elt [⟨tg, iter, ifs, 0⟩] scope pos) 0 (.ref it) (.ref D) ce) (compPost (model X.prog X.w) X.A X.xe none (EP X pins σ Q) (.ref D) s3.heap.objs.size) s4 := by
    refine compLoop_any (fun n s' => ∃ i H', Inv (blkC X s3 H3 scope ce fp) [] (wipe σ (own.map (·.2))) H' s' ∧ tn i s'.heap ∧ (∀ b ∈ fp, H' b = none) ∧ W i n H') ?_ m0 ⟨0, H3, J4, st4, nfp, w0⟩
    rintro n s5 ⟨i, H5, I5, st5, n5, w5⟩
    rcases turn i n H5 w5 with ⟨stop, qq⟩ | ⟨go, Nx, hNx, step⟩
    · refine thnF (T.done (blkC X s3 H3 scope ce fp) rfl rfl rfl hotB i [] s5 _ H5 (fun _ _ => False) I5 (stat I5 n5) st5 stop) fun r s6 ⟨hr, I6⟩ => ?_
      subst hr
      have I7 : Inv X pins σ H5 s6 := I3.call' (ch := fp) I6.os I6.base I6.hok I6.bare fun b hb =>
        ⟨(f3 b hb).1.2.2.2.1, (f3 b hb).1.2.1, (f3 b hb).1.2.2.2.2.1, (f3 b hb).1.2.2.2.2.2⟩
      have nC : H5 s3.heap.objs.size = none := by
        have z : H5 ce.locals = none := I6.free
        rw [cL] at z
        exact z
      obtain ⟨m, hn, _⟩ := I6.loc
      have hn : s6.heap.Ns ce.locals m := hn
      rw [cL] at hn
      refine ⟨m, hn, fun h'' sb => ?_⟩
      obtain ⟨y0, y1, y2, y3, y4, y5⟩ := I3.fpOk (Nat.le_refl _) nC
      exact ⟨.ref D, H5, I7.turned (t' := s6.toks) (fun b o hb e => (sb.2 b hb).trans e) y0 y1 y3 y4 y5, rfl, qq⟩
    · refine thnF (T.item (blkC X s3 H3 scope ce fp) rfl rfl rfl hotB i [] s5 _ H5 (fun _ _ => False) I5 (stat I5 n5) st5 go) fun r s6 ⟨u, hr, h6⟩ => ?_
      subst hr
      refine thnF h6 fun _ s7 ⟨x, H7, I7, r7, y7, st7, n7⟩ => ?_
      have I7' := I7.pinned (stat I7 n7) (T.obj _ _ st7)
      refine thnF (pg.run _ s7 _ H7 x u _ I7' r7 (step x H7 y7)) fun _ s8 ⟨σ8, H8, I8, hw8, q8⟩ => ?_
      refine thnF (pt.run _ s8 σ8 H8 _ I8 q8) fun b s9 ⟨H9, I9, q9⟩ => ?_
      have next : ∀ {s' : Shared} {H' : Hp}, Inv (blkC X s3 H3 scope ce fp) ([] ++ pinsAt fp s7.heap) σ8 H' s' → Nx H' →
          ∃ m, m < n ∧ ∃ i H', Inv (blkC X s3 H3 scope ce fp) [] (wipe σ (own.map (·.2))) H' s' ∧ tn i s'.heap ∧ (∀ b ∈ fp, H' b = none) ∧ W i m H' := fun {s' H'} I' nx => by
        obtain ⟨m', hm, w'⟩ := hNx H' nx
        have still : ∀ b ∈ fp, ∀ o, s7.heap.get? b = some o → s'.heap.get? b = some o ∧ H' b = none := fun b hb o e =>
          let z := I'.pin (b, o) (List.mem_append_right _ (List.mem_append_right _ (mem_pinsAt hb e)))
          ⟨z.1, z.2.1⟩
        have hl : (wipe σ (own.map (·.2))).length = σ8.length := by rw [← hw8, wipe_length]
        refine ⟨m', hm, i + 1, H', (I'.unpinned (pins := [])).weak hl (fun j v e => ?_), T.keep _ _ _ st7 fun b hb o e => (still b hb o e).1, fun b hb => ?_, w'⟩
        · rw [← hw8] at e
          exact (wipe_some e).1
        · obtain ⟨o, e, _⟩ := T.obj _ _ st7 b hb
          exact (still b hb o e).2
      cases b with
      | false =>
        simp only [Bool.false_eq_true, if_false] at q9 ⊢
        exact next I9 q9
      | true =>
        simp only [if_true] at q9 ⊢
        refine thnF (pe.run _ s9 σ8 H9 _ I9 q9) fun z s10 ⟨yv, H10, I10, r10, acc, hD10, hz10, nx⟩ => ?_
        exact app_ok (X := blkC X s3 H3 scope ce fp) I10 hD10 hz10 r10 fun s11 I11 => next I11 nx
  exact codeAny_compStart_list loop (T.self X.A 0 _ _ _ st4 loop)
theorem pe_lcC (hc : Mood X) (hN : X.N.Nodup) (hi : X.calm = true → PI X tg iter wi) (hiH : HotC X → PIH X tg iter wi) (ok : BlkOk X.N X.env.scope scope own)
    (hg : ∀ (s : Shared) (H : Hp) (C : Addr) (cl : List (Str × Addr)) (fp : List Addr), PG (blkC X s H scope (compEnvC scope cl C X.env) fp) tg g)
    (ht : ∀ (s : Shared) (H : Hp) (C : Addr) (cl : List (Str × Addr)) (fp : List Addr), PTs (blkC X s H scope (compEnvC scope cl C X.env) fp) ifs tt)
    (he : ∀ (s : Shared) (H : Hp) (C : Addr) (cl : List (Str × Addr)) (fp : List Addr), PE (blkC X s H scope (compEnvC scope cl C X.env) fp) elt te)
    (hs : ∀ x, foldedSetIterable iter X.env x = pure x := by intro _; rfl) :
    PE X (.ListComp elt [⟨tg, iter, ifs, 0⟩] scope pos) (tLc wi g tt te (own.map (·.2))) := by
  rcases hc with ⟨hc, hp⟩ | hc
  · have e : ∀ (s : Shared) (H : Hp) (ce : Env) (fp : List Addr), blkC X s H scope ce fp = X.blk s H scope ce fp := fun s H ce fp => by
      unfold blkC
      rw [hp]
    refine pe_lc hc hN (hi hc) ok (fun s H C cl fp => ?_) (fun s H C cl fp => ?_) (fun s H C cl fp => ?_) hs
    · rw [← e]
      exact hg s H C cl fp
    · rw [← e]
      exact ht s H C cl fp
    · rw [← e]
      exact he s H C cl fp
  · exact pe_lcH hc hN (hiH hc) ok hg ht he hs
end
end K9

namespace PySem
namespace K9S
open PySem.Spec PyProof.Rows HotX
section
variable {prog : Program} {w : World} {A : Around} {E : Value → Shared → Prop} {s : Shared}
theorem unpack_hot {x1 t : Addr} {items : Array Value} {targets : List (Bool × (Value → Sem Unit))} {Q : Unit → Shared → Prop} (hot : HotAt A x1 s.heap) (ht : IsTup s.heap t items)
    (hn : targets.length = items.size) (star : targets.findIdx? (·.1) = none)
    (h : ∀ h', Heap.ExtBut s.heap.objs.size s.heap h' → wpAny (model prog w) A (assignInOrder (targets.map (·.2)) items.toList) Q E { s with heap := h' }) :
    wpAny (model prog w) A (unpack (.ref t) targets) Q E s := by
  obtain ⟨hh, o1, vs1, h1, d1, c1⟩ := hot
  have lt : t < s.heap.objs.size := by
    obtain ⟨o, ho, _⟩ := ht
    exact Heap.lt_size ho
  have ne := Nat.ne_of_lt lt
  have ne1 := Nat.ne_of_lt (Heap.lt_size h1)
  unfold unpack
  rw [hn, star]
  refine wpAny_bind (wpAny_holding ?_)
  unfold unpackItems
  refine wpAny_bind ?_
  unfold notIterableAtAll
  refine wpAny_bind (wpAny_specialOf ht.typeIs slot_tuple_iter.lookup (wpAny_pure ?_))
  simp only [Bool.false_eq_true, if_false]
  refine wpAny_bind (wpAny_holding (iter_tuple ht (wpAny_bind (wpAny_holding
    (draw_tuple ne items.size 0 _ _ ⟨_, Heap.get?_push_size _ rfl, rfl, rfl⟩ (ht.push _) (by omega) fun ha it1 sb1 => ?_)))))
  have all : List.take items.size (List.drop 0 items.toList) = items.toList := by
    rw [List.drop_zero]
    exact List.take_of_length_le (by simp)
  rw [all, if_neg (by simp)]
  have ht1 : IsTup ha t items := (ht.push _).extBut sb1.extBut ne
  have k1 : ha.get? x1 = some o1 := sb1.extBut x1 o1 ne1 (Heap.get?_push_of_some _ h1)
  refine wpAny_bind (wpAny_holding (tuple_end_hot (x1 := x1) (i := 0 + items.size) (items := items) ⟨hh, o1, vs1, k1, d1, c1⟩ ne1 it1 ht1 (by simp) fun hb eb => ?_))
  simp only [Option.isSome_none, Bool.false_eq_true, if_false]
  exact wpAny_pure (h hb fun b o hb' e => eb b o hb' (sb1.extBut b o hb' (Heap.get?_push_of_some _ e)))
theorem assign_tuple_hot {x1 : Addr} {env : Env} {elts : List Expr} {k} {pos : Pos} {t : Addr} {items : Array Value} {Q : Unit → Shared → Prop} (hot : HotAt A x1 s.heap) (ht : IsTup s.heap t items)
    (hn : (assignEach elts env).length = items.size) (star : (assignEach elts env).findIdx? (·.1) = none)
    (h : ∀ h', Heap.ExtBut s.heap.objs.size s.heap h' → wpAny (model prog w) A (assignInOrder ((assignEach elts env).map (·.2)) items.toList) Q E { s with heap := h' }) :
    wpAny (model prog w) A (assign (.Tuple elts k pos) env (.ref t)) Q E s := by
  rw [assign_Tuple]
  exact wpAny_bind (wpAny_standAt (unpack_hot hot ht hn star h))
end
end K9S
end PySem
namespace K9
open PySem PySem.Spec PyProof.Rows L2 L2H HotX Evl
section
variable {X : Cx} {pos : Pos}
/-- (a, b, ..) = a tuple of that length, in both moods -/
theorem pg_tupC {es : List Expr} {k : Nat} {t : TGs} {n : Nat} (hc : Mood X) (h : PGs X es t)
    (hn : (assignEach es X.env).length = n := by rfl) (hst : (assignEach es X.env).findIdx? (·.1) = none := by rfl) : PG X (.Tuple es k pos) (gTup X.K n t) := by
  rcases hc with ⟨hc, _⟩ | hc
  · exact pg_tup hc h hn hst
  · refine ⟨fun pins s σ H v u Q I r ⟨a, xs, e1, hq, hl, hw⟩ => ?_⟩
    subst e1
    cases r
    obtain ⟨its, rv, ht, hz⟩ := I.tuple hq
    obtain ⟨p, hp, hot⟩ := hot_pin hc I
    refine PySem.K9S.assign_tuple_hot hot ht (by simp [hn, ← hl, rv.length]) hst fun h' hx => ?_
    have J : Inv X pins σ H { s with heap := h' } := I.kept (t' := s.toks) fun b o e => hx b o (Nat.ne_of_lt (Heap.lt_size e)) e
    exact h.run pins _ σ H xs _ Q J (by simpa using rv) hw
/-! ### a list against the empty list -/
def rEq0 (K : PySem.W.Frag) : R2 := fun x y H Q => ∃ a b xs, x = .ref a ∧ y = .ref b ∧ SqL K H a xs ∧ SqL K H b [] ∧ Q (.bl xs.isEmpty) H
def rNe0 (K : PySem.W.Frag) : R2 := fun x y H Q => ∃ a b xs, x = .ref a ∧ y = .ref b ∧ SqL K H a xs ∧ SqL K H b [] ∧ Q (.bl (!xs.isEmpty)) H
theorem op_eq0 (hu : X.A.units + 64 < cLine) : OpR X (compareOp .Eq) (rEq0 X.K) := by
  intro pins s σ H x y v u Q I rx ry ⟨a, b, xs, ex, ey, ha, hb, q⟩
  subst ex ey
  obtain rfl : v = Value.ref a := rx
  obtain rfl : u = Value.ref b := ry
  obtain ⟨i1, r1, p1, z1⟩ := I.list ha
  obtain ⟨i2, r2, p2, z2⟩ := I.list hb
  have hu' : X.A.units < cLine := by omega
  cases r2
  cases r1 with
  | nil => exact SeqAt.RcAt.lists (e := fun _ => true) p1.isList p2.isList rfl hu' (fun j h1 => absurd h1 (by simp)) X.prog X.w _ _ ⟨.bl true, H, I, rfl, q⟩
  | cons r rr => exact SeqAt.RcAt.lists_lengths p1.isList p2.isList (by simp) hu' X.prog X.w _ _ ⟨.bl false, H, I, rfl, q⟩
theorem op_ne0 (hu : X.A.units + 64 < cLine) : OpR X (compareOp .NotEq) (rNe0 X.K) := by
  intro pins s σ H x y v u Q I rx ry ⟨a, b, xs, ex, ey, ha, hb, q⟩
  subst ex ey
  obtain rfl : v = Value.ref a := rx
  obtain rfl : u = Value.ref b := ry
  obtain ⟨i1, r1, p1, z1⟩ := I.list ha
  obtain ⟨i2, r2, p2, z2⟩ := I.list hb
  have hu' : X.A.units < cLine := by omega
  cases r2
  cases r1 with
  | nil => exact SeqAt.RcNeAt.lists (e := fun _ => true) p1.isList p2.isList rfl hu' (fun j h1 => absurd h1 (by simp)) X.prog X.w _ _ ⟨.bl false, H, I, rfl, q⟩
  | cons r rr => exact SeqAt.RcNeAt.lists_lengths p1.isList p2.isList (by simp) hu' X.prog X.w _ _ ⟨.bl true, H, I, rfl, q⟩
end
end K9

namespace K9
open PySem PySem.Spec PyProof.Rows L2 L2H HotX Evl
/-! ### errors as values -/
/-- at a stands an error of the class at C: tracked, or the one that is handled -/
def EAt (l : List (Addr × Obj)) (H : Hp) (a C : Addr) (d : Option Addr) : Prop :=
  H a = some (exo a C d) ∨ ∃ oe, (a, oe) ∈ l ∧ Zc (.ref C) d oe ∧ ∃ vs, oe.data = .fields vs
/-- at d stands a dict of these fields -/
def FAt (H : Hp) (d : Addr) (fs : List (Str × V)) : Prop := H d = some (exd d fs) ∨ H d = some (.xd fs)
/-- an error with its fields, none if it has no dict -/
def Err (l : List (Addr × Obj)) (H : Hp) (a C : Addr) : Option (List (Str × V)) → Prop
  | none => EAt l H a C none
  | some fs => ∃ d, EAt l H a C (some d) ∧ FAt H d fs
theorem FAt.ext {H H' : Hp} {d : Addr} {fs : List (Str × V)} (e : Ex H H') (h : FAt H d fs) : FAt H' d fs := by
  rcases h with h | h
  · exact .inl (e _ _ h)
  · exact .inr (e _ _ h)
theorem EAt.ext {l : List (Addr × Obj)} {H H' : Hp} {a C : Addr} {d : Option Addr} (e : Ex H H') (h : EAt l H a C d) : EAt l H' a C d := by
  rcases h with h | h
  · exact .inl (e _ _ h)
  · exact .inr h
theorem Err.ext {l : List (Addr × Obj)} {H H' : Hp} {a C : Addr} {o : Option (List (Str × V))} (e : Ex H H') (h : Err l H a C o) : Err l H' a C o := by
  cases o with
  | none => exact EAt.ext e h
  | some fs =>
    obtain ⟨d, h1, h2⟩ := h
    exact ⟨d, h1.ext e, h2.ext e⟩
/-- what the written part says of an error's class -/
structure ErrC (K : PySem.W.Frag) (C : Addr) : Prop where
  ox : OexC K C
  xf : XfC K C
  cl : (PySem.W.clsIn K C).isSome = true
  ha : PySem.W.findIn K (.ref C) "__class__" = some (some (.builtin "object.__class__"))
  hn : PySem.W.specialIn K (.builtin "object.__class__") "__get__" = some (some (.builtin "getset_descriptor.__get__"))
  ht : PySem.W.takesIn K (.builtin "object.__class__") = some true
  hm : PySem.W.mroIn K C (.type "object") = some true
section
variable {X : Cx} {pins : List (Addr × Obj)} {σ : St} {H : Hp} {s : Shared} {a C d : Addr} {fs : List (Str × V)}
theorem FAt.ns (I : Inv X pins σ H s) (h : FAt H d fs) : ∃ mA, s.heap.Ns1 d mA ∧ ∀ f, RelO (fs.lookup f) (mA f) := by
  rcases h with h | h
  · exact exd_at I.hok h
  · exact (show ObjOk X.prog X.w H s.heap d (.xd fs) from I.hok d _ h)
theorem EAt.obj {d : Option Addr} (I : Inv X pins σ H s) (h : EAt X.pn H a C d) : ∃ ox, s.heap.get? a = some ox ∧ ox.cls = .ref C ∧ ox.dict = d ∧ PySem.W.notCls ox = true := by
  rcases h with h | ⟨oe, hp, hz, vs, hd⟩
  · obtain ⟨t1, e⟩ := exo_at I.hok h
    exact ⟨_, e, rfl, rfl, rfl⟩
  · refine ⟨oe, (I.pin (a, oe) (List.mem_append_left _ hp)).1, hz.1, hz.2, ?_⟩
    unfold PySem.W.notCls
    rw [hd] <;> rfl
theorem Err.inst {o : Option (List (Str × V))} (I : Inv X pins σ H s) (h : Err X.pn H a C o) : ∃ ox od, PySem.W.InstAt s.heap a ox C od := by
  cases o with
  | none =>
    obtain ⟨ox, e, h1, h2, h3⟩ := EAt.obj I h
    refine ⟨ox, none, e, h1, h3, ?_⟩
    rw [h2]
    trivial
  | some fs =>
    obtain ⟨d, h, hf⟩ := h
    obtain ⟨ox, e, h1, h2, h3⟩ := EAt.obj I h
    obtain ⟨mA, hns, _⟩ := hf.ns I
    obtain ⟨od, ho, _⟩ := lookIn_ns hns
    refine ⟨ox, some od, e, h1, h3, ?_⟩
    rw [h2]
    exact ho
/-- e.f of an error -/
def tGetE (K : PySem.W.Frag) (l : List (Addr × Obj)) (f : Str) (te : TE) : TE := fun σ H Q => te σ H fun x H1 =>
  ∃ (a C : Addr) (fs : List (Str × V)) (v : V), x = .ref a ∧ Err l H1 a C (some fs) ∧ ErrC K C ∧ PySem.W.findIn K (.ref C) f = some none ∧ fs.lookup f = some v ∧ Q v H1
theorem pe_getE {e : Expr} {te : TE} {pos : Pos} {n : Str} (he : PE X e te) (hb : attributeBase e n X.env (eval e X.env) = eval e X.env := by rfl) :
    PE X (.Attribute e n pos) (tGetE X.K X.pn n te) := by
  refine ⟨fun pins s σ H Q I h => ?_⟩
  refine attr_of hb (thn (he.run pins s σ H _ I h) fun u s1 hh => ?_)
  obtain ⟨x, H1, I1, rx, a, C, fs, v, ex, ⟨d, h1, hf⟩, T, hno, l, q⟩ := hh
  subst ex
  obtain rfl : u = Value.ref a := rx
  obtain ⟨ox, e1, e2, e3, e4⟩ := EAt.obj I1 h1
  obtain ⟨mA, hns, hr⟩ := hf.ns I1
  obtain ⟨od, ho, hl⟩ := lookIn_ns hns
  obtain ⟨u, hu, ru⟩ := RelO.some_of (v := v) (o := mA n) (by
    rw [← l]
    exact hr n)
  have J : PySem.W.InstAt s1.heap a ox C (some od) := ⟨e1, e2, e4, by
    rw [e3]
    exact ho⟩
  exact HandSPX.exc_get I1.kIn J T.xf.ga T.xf.gg T.xf.exC (PySem.W.findObj_own T.xf.hdC hno rfl (by rw [hl, hu])) (handed_of ru) ⟨v, H1, I1.tok _, ru, q⟩
/-- isinstance(e, c) and isinstance(e, (c1, c2, ..)) of an error -/
def rIsE1 (K : PySem.W.Frag) (l : List (Addr × Obj)) : List V → Hp → VK → Prop := fun xs H Q =>
  ∃ (a C : Addr) (o : Option (List (Str × V))) (c : V) (u : Value) (b : Bool), xs = [.ref a, c] ∧ Err l H a C o ∧ ErrC K C ∧ ClsV c u ∧ PySem.W.kitOne K (.ref C) u = some b ∧ Q (.bl b) H
def rIsET (K : PySem.W.Frag) (l : List (Addr × Obj)) : List V → Hp → VK → Prop := fun xs H Q =>
  ∃ (a C tp : Addr) (o : Option (List (Str × V))) (cs : List V) (us : List Value) (b : Bool), xs = [.ref a, .ref tp] ∧ Err l H a C o ∧ ErrC K C ∧ H tp = some (.tup cs) ∧ Paired ClsV cs us ∧
    PySem.W.kitAny K (.ref C) us = some b ∧ Q (.bl b) H
theorem call_isE1 : CallR X (.builtin "isinstance") (rIsE1 X.K X.pn) := by
  intro pins s σ H xs us Q I r ⟨a, C, o, c, u, b, ex, he, T, k, e, q⟩
  subst ex
  obtain ⟨u1, u2, rfl, r1, r2⟩ := vals2 r
  cases (show u1 = Value.ref a from r1)
  have e2 := k.eq r2
  subst e2
  obtain ⟨ox, od, J⟩ := Err.inst I he
  exact PySem.W.kia_one (PySem.W.kitx_exc (gt := none) T.cl T.xf.ga T.xf.gg T.xf.exC T.ha T.hn T.ht T.hm) I.kIn J e (fun z => nomatch z) fun tk => ⟨.bl b, H, I.tok tk, rfl, q⟩
theorem call_isET : CallR X (.builtin "isinstance") (rIsET X.K X.pn) := by
  intro pins s σ H xs us Q I r ⟨a, C, tp, o, cs, ws, b, ex, he, T, hT, k, e, q⟩
  subst ex
  obtain ⟨u1, u2, rfl, r1, r2⟩ := vals2 r
  cases (show u1 = Value.ref a from r1)
  cases (show u2 = Value.ref tp from r2)
  obtain ⟨ox, od, J⟩ := Err.inst I he
  obtain ⟨_, its, rv, ob, h1, h2, n, h3⟩ := (show ObjOk X.prog X.w H s.heap tp (.tup cs) from I.hok tp _ hT)
  have e3 := ClsV.all k rv
  subst e3
  obtain ⟨oc, od2, dt, sl⟩ := ob
  simp only at h2 h3
  subst h2 h3
  exact PySem.W.kia_tup (PySem.W.kitx_exc (gt := none) T.cl T.xf.ga T.xf.gg T.xf.exC T.ha T.hn T.ht T.hm) I.kIn J h1 e (fun z => nomatch z) fun tk => ⟨.bl b, H, I.tok tk, rfl, q⟩
end
/-! ### C(.., k = v ..): an error made, not raised -/
/-- what __init__ asks and leaves: the error at a gets the fields fs, in a dict of its own -/
def spErr (C : Addr) (ns : List Str) : Sp := fun vs H Q _ => ∃ (a : Addr) (us : List V), vs = .ref a :: us ∧ us.length = ns.length ∧ H a = some (exo a C none) ∧
  ∀ (d : Addr) (H' : Hp), H d = none → (∀ b o, b ≠ a → H b = some o → H' b = some o) → H' a = some (exo a C (some d)) → H' d = some (exd d (ns.zip us).reverse) → Q .non H'
def tNewE (C : Addr) (n m : Nat) (ns : List Str) (gV : List V → List V → List V) (t tk : TA) : TE := fun σ H Q => t σ H fun vs H1 => tk σ H1 fun zs H2 => vs.length = n ∧ zs.length = m ∧
  ∃ us, (∀ x, gV (x :: vs) zs = x :: us) ∧ us.length = ns.length ∧ ∀ (a d : Addr) (H3 : Hp), H2 a = none → H2 d = none → Ex H2 H3 → H3 a = some (exo a C (some d)) → H3 d = some (exd d (ns.zip us).reverse) → Q (.ref a) H3
section
variable {X : Cx} {k n : Nat} {fI C : Addr} {fd : FuncData} {ps ks ns : List Str} {x : Str} {p pos : Pos} {e : Expr} {es : List Expr} {kws : List Keyword} {t tk : TA} {g : List Value → List Value → List Value} {gV : List V → List V → List V}
theorem run_newE {pins : List (Addr × Obj)} {σ : St} {H : Hp} {s : Shared} {Q : VK} {us ws : List Value} {vs zs : List V} (T : OexC X.K C) (iC : PySem.W.findIn X.K (.ref C) "__init__" = some (some (.ref fI))) (tI : PySem.W.typeIn X.K (.ref fI) = some (.type "function"))
    (F1 : FnOk X.prog X.w X.K X.mg X.base CX0 k fI fd ps (spErr C ns)) (hr : RoomH (k + 1) X.A) (hc : X.calm = true) (hn : n ≤ 1000) (hb : KBn X.K fd ps (n + 1) ks g gV)
    (I : Inv X pins σ H s) (r : Vals vs us) (rz : Vals zs ws) (l1 : vs.length = n) (l2 : zs.length = ks.length)
    (h : ∃ us, (∀ x, gV (x :: vs) zs = x :: us) ∧ us.length = ns.length ∧ ∀ (a d : Addr) (H3 : Hp), H a = none → H d = none → Ex H H3 → H3 a = some (exo a C (some d)) → H3 d = some (exd d (ns.zip us).reverse) → Q (.ref a) H3) :
    wpAny (model X.prog X.w) X.A (call (.ref C) us (ks.zip ws)) (EP X pins σ Q) X.xe s := by
  obtain ⟨nm, q, N, bs, bm, sn, sub, ab, col, dd, k0, k1, k2, k3, k5, hC, hbm⟩ := T.cls
  obtain ⟨zs2, hz, lz, hq⟩ := h
  have rm : Room (k + 1) X.A := ⟨I.ok.hd hc, hr.dp, hr.un⟩
  obtain ⟨hp, gg, dr, tk, os⟩ := s
  have new : H (hp.objs.size + 1) = none := I.hok.fresh (Nat.le_succ _)
  have keep : ∀ b o, hp.get? b = some o → ((hp.push (PySem.W.kdv_tup us)).push (PySem.HandSPX.excO C hp.objs.size)).get? b = some o := fun b o e => Heap.get?_push_of_some _ (Heap.get?_push_of_some _ e)
  have hget : ((hp.push (PySem.W.kdv_tup us)).push (PySem.HandSPX.excO C hp.objs.size)).get? (hp.objs.size + 1) = some (PySem.HandSPX.excO C hp.objs.size) := by heap_get
  have I2 : Inv X pins σ (upd H (hp.objs.size + 1) (exo (hp.objs.size + 1) C none)) ⟨(hp.push (PySem.W.kdv_tup us)).push (PySem.HandSPX.excO C hp.objs.size), gg, dr, tk, os⟩ :=
    I.laid (t' := tk) keep (Nat.le_succ _) (exo_ok hget)
  have r2 : Vals (V.ref (hp.objs.size + 1) :: zs2) (g (Value.ref (hp.objs.size + 1) :: us) ws) := by
    have y := hb.rel (vs := V.ref (hp.objs.size + 1) :: vs) (us := Value.ref (hp.objs.size + 1) :: us) (.cons rfl r) rz
    rw [hz] at y
    exact y
  have n1 : (Value.ref (hp.objs.size + 1) :: us).length = n + 1 := by rw [List.length_cons, ← r.length, l1]
  have room : us.length ≤ sizeLine := by
    rw [← r.length, l1, sizeLine_eq]
    omega
  have sp : spErr C ns (V.ref (hp.objs.size + 1) :: zs2) (upd H (hp.objs.size + 1) (exo (hp.objs.size + 1) C none)) (fun v H2 => v = .non ∧ Q (.ref (hp.objs.size + 1)) H2) E0 := by
    refine ⟨_, zs2, rfl, lz, upd_same, fun d H' hd k1 ha hd2 => ⟨rfl, hq _ d H' new ?_ (fun b o e => k1 b o ?_ ?_) ha hd2⟩⟩
    · by_cases z : d = hp.objs.size + 1
      · rw [z, upd_same] at hd
        cases hd
      · rw [upd_ne z] at hd
        exact hd
    · exact ne_of_none e new
    · rw [upd_ne (ne_of_none e new)]
      exact e
  refine wpAny_call (PySem.K9.call_kw PySem.F.excBase_ValueError (fun Y => PySem.HandSPX.refsVE_contains Y bm hbm) (I.kIn _ _ hC) (PySem.W.looks_findIn I.kIn iC) (fun self => PySem.W.bind_fn I.kIn self tI) room
    (codeAny_mono (F1.run _ X.stack _ _ ⟨Value.ref (hp.objs.size + 1) :: us, ks.zip ws⟩ _ _ _ E0 (rm.make C us (ks.zip ws)) (I2.env0.make C us (ks.zip ws)) (hb.to _ _ ws I2.kIn n1 (rz.length.symm.trans l2)) r2 sp) fun r s' hq' => ?_))
  cases r with
  | error e => exact False.elim hq'
  | ok fl =>
    cases fl with
    | ret u =>
      obtain ⟨v, H', I3, rv, ev, q3⟩ := I2.after hq'
      subst ev
      exact ⟨rv, V.ref (hp.objs.size + 1), H', I3, rfl, q3⟩
    | next => exact False.elim hq'
    | brk => exact False.elim hq'
    | cont => exact False.elim hq'
/-- C(k = v, ..) -/
theorem pe_newE0 (T : OexC X.K C) (iC : PySem.W.findIn X.K (.ref C) "__init__" = some (some (.ref fI))) (tI : PySem.W.typeIn X.K (.ref fI) = some (.type "function"))
    (F1 : FnOk X.prog X.w X.K X.mg X.base CX0 k fI fd ps (spErr C ns)) (hr : RoomH (k + 1) X.A) (hc : X.calm = true) (hg : Gl X x) (hm : X.mg x = some (.ref C)) (hb : KBn X.K fd ps 1 ks g gV) (hkw : PK X kws tk)
    (hall : (backToKw pos (keywordEach kws X.env)).all (·.1.isSome) = true := by rfl) (hks : (backToKw pos (keywordEach kws X.env)).filterMap (·.1) = ks := by rfl)
    (hdb : (x == ("__debug__" : Str)) = false := by decide)
    (hpl : ((backTo pos (starEach [] X.env)).any (·.1) || (backToKw pos (keywordEach kws X.env)).any (·.1.isNone)) = false := by rfl) :
    PE X (.Call (.Name x p) [] kws pos) (tNewE C 0 ks.length ns gV tNil tk) := by
  refine ⟨fun pins s σ H Q I h => ?_⟩
  refine wpAny_Call_Name_kw (ld_glob I hg hm ?_ hdb)
  refine PySem.W.callWith_KW0 (h₀ := X.base) I.ok.mod.kin T.kC hall ?_ hpl
  refine thn (hkw.run pos pins s σ H _ I h) fun ws s2 ⟨zs, H2, I2, rz, l1, l2, q2⟩ => ⟨I2.kIn, ?_⟩
  rw [hks]
  exact run_newE (us := []) (vs := []) T iC tI F1 hr hc (by omega) hb I2 .nil rz rfl l2 q2
/-- C(e, .., k = v, ..) -/
theorem pe_newEK (hn : n ≤ 1000) (T : OexC X.K C) (iC : PySem.W.findIn X.K (.ref C) "__init__" = some (some (.ref fI))) (tI : PySem.W.typeIn X.K (.ref fI) = some (.type "function"))
    (F1 : FnOk X.prog X.w X.K X.mg X.base CX0 k fI fd ps (spErr C ns)) (hr : RoomH (k + 1) X.A) (hc : X.calm = true) (hg : Gl X x) (hm : X.mg x = some (.ref C)) (hb : KBn X.K fd ps (n + 1) ks g gV) (ha : PA X (e :: es) t) (hkw : PK X kws tk)
    (hall : (backToKw pos (keywordEach kws X.env)).all (·.1.isSome) = true := by rfl) (hks : (backToKw pos (keywordEach kws X.env)).filterMap (·.1) = ks := by rfl)
    (hdb : (x == ("__debug__" : Str)) = false := by decide) (he : starEach (e :: es) X.env = (false, eval e X.env) :: starEach es X.env := by rfl)
    (hpl : ((backTo pos (starEach (e :: es) X.env)).any (·.1) || (backToKw pos (keywordEach kws X.env)).any (·.1.isNone)) = false := by rfl) :
    PE X (.Call (.Name x p) (e :: es) kws pos) (tNewE C n ks.length ns gV t tk) := by
  refine ⟨fun pins s σ H Q I h => ?_⟩
  refine wpAny_Call_Name_kw (ld_glob I hg hm ?_ hdb)
  refine PySem.W.callWith_KW (h₀ := X.base) I.ok.mod.kin T.kC hall (thn (ha.run pos pins s σ H _ I h) fun us s1 ⟨vs, H1, I1, r, q⟩ => ?_) hpl he
  refine thn (hkw.run pos pins s1 σ H1 _ I1 q) fun ws s2 ⟨zs, H2, I2, rz, l1, l2, q2⟩ => ⟨I2.kIn, ?_⟩
  rw [hks]
  exact run_newE T iC tI F1 hr hc hn hb I2 r rz l1 l2 q2
/-- C(), C a class over ValueError without an own __init__ -/
def tNewX (C : Addr) : TE := fun _ H Q => ∀ (a : Addr) (H1 : Hp), H a = none → Ex H H1 → H1 a = some (exo a C none) → Q (.ref a) H1
theorem pe_newX {bmB : List Value} {B newId initId : String} (F : ExcBaseFacts B newId initId bmB) (q : PySem.W.excIn X.K C bmB newId = true) (gC : X.mg x = some (.ref C)) (kC : PySem.W.keepIn X.K (.ref C) = true) (hg : Gl X x)
    (hdb : (x == ("__debug__" : Str)) = false := by decide) : PE X (.Call (.Name x p) [] [] pos) (tNewX C) := by
  refine ⟨fun pins s σ H Q I h => ?_⟩
  refine wpAny_Call_Name_kw (ld_glob I hg gC ?_ hdb)
  refine PySem.W.callWith_K0 I.kIn kC ?_
  show wpAny _ _ (call (.ref C) []) _ _ _
  obtain ⟨bm, N, nm, qn, bs, hdct, sn, sub, ab, col, dd, k0, k1, k2, k3, k5, mN, hC, hN, hni, T⟩ := exc_obj I.kIn q
  refine wpAny_call_exc_subT F T hC hN hni (fun h' a hm => ?_) (Nat.zero_le _)
  have hn : H a = none := I.hok.gone hm.new
  obtain ⟨t, ht, _, _⟩ := hm.there
  exact ⟨.ref a, upd H a (exo a C none), I.laidN hm.keeps hm.new hn (exo_ok ht), rfl, h a _ hn (Ex.new hn) upd_same⟩
end
end K9

namespace K9
open PySem PySem.Spec PyProof.Rows L2 L2H HotX Evl
/-! ### raise C(.., k = v ..) where nothing is handled -/
def tMkE (C : Addr) (n m : Nat) (ns : List Str) (gV : List V → List V → List V) (t tk : TA) : St → Hp → XK → Prop := fun σ H Q => t σ H fun vs H1 => tk σ H1 fun zs H2 => vs.length = n ∧ zs.length = m ∧
  ∃ us, (∀ x, gV (x :: vs) zs = x :: us) ∧ us.length = ns.length ∧ ∀ (d : Addr) (H3 : Hp), H2 d = none → Ex H2 H3 → H3 d = some (.xd (ns.zip us).reverse) → Q (.ref C) (some d) H3
section
variable {X : Cx} {k n : Nat} {fI C : Addr} {fd : FuncData} {ps ks ns : List Str} {x : Str} {p pos : Pos} {e : Expr} {es : List Expr} {kws : List Keyword} {t tk : TA} {g : List Value → List Value → List Value} {gV : List V → List V → List V}
theorem run_mkE {pins : List (Addr × Obj)} {σ : St} {H : Hp} {s : Shared} {Q : XK} {us ws : List Value} {vs zs : List V} (T : OexC X.K C) (iC : PySem.W.findIn X.K (.ref C) "__init__" = some (some (.ref fI))) (tI : PySem.W.typeIn X.K (.ref fI) = some (.type "function"))
    (F1 : FnOk X.prog X.w X.K X.mg X.base CX0 k fI fd ps (spErr C ns)) (hr : RoomH (k + 1) X.A) (hc : X.calm = true) (hn : n ≤ 1000) (hb : KBn X.K fd ps (n + 1) ks g gV)
    (I : Inv X pins σ H s) (r : Vals vs us) (rz : Vals zs ws) (l1 : vs.length = n) (l2 : zs.length = ks.length)
    (h : ∃ us, (∀ x, gV (x :: vs) zs = x :: us) ∧ us.length = ns.length ∧ ∀ (d : Addr) (H3 : Hp), H d = none → Ex H H3 → H3 d = some (.xd (ns.zip us).reverse) → Q (.ref C) (some d) H3) :
    wpAny (model X.prog X.w) X.A (call (.ref C) us (ks.zip ws)) (L2N.MkP X pins σ Q) X.xe s := by
  obtain ⟨nm, q, N, bs, bm, sn, sub, ab, col, dd, k0, k1, k2, k3, k5, hC, hbm⟩ := T.cls
  obtain ⟨zs2, hz, lz, hq⟩ := h
  have rm : Room (k + 1) X.A := ⟨I.ok.hd hc, hr.dp, hr.un⟩
  obtain ⟨hp, gg, dr, tk, os⟩ := s
  have new : H (hp.objs.size + 1) = none := I.hok.fresh (Nat.le_succ _)
  have keep : ∀ b o, hp.get? b = some o → ((hp.push (PySem.W.kdv_tup us)).push (PySem.HandSPX.excO C hp.objs.size)).get? b = some o := fun b o e => Heap.get?_push_of_some _ (Heap.get?_push_of_some _ e)
  have hget : ((hp.push (PySem.W.kdv_tup us)).push (PySem.HandSPX.excO C hp.objs.size)).get? (hp.objs.size + 1) = some (PySem.HandSPX.excO C hp.objs.size) := by heap_get
  have I2 : Inv X pins σ (upd H (hp.objs.size + 1) (exo (hp.objs.size + 1) C none)) ⟨(hp.push (PySem.W.kdv_tup us)).push (PySem.HandSPX.excO C hp.objs.size), gg, dr, tk, os⟩ :=
    I.laid (t' := tk) keep (Nat.le_succ _) (exo_ok hget)
  have r2 : Vals (V.ref (hp.objs.size + 1) :: zs2) (g (Value.ref (hp.objs.size + 1) :: us) ws) := by
    have y := hb.rel (vs := V.ref (hp.objs.size + 1) :: vs) (us := Value.ref (hp.objs.size + 1) :: us) (.cons rfl r) rz
    rw [hz] at y
    exact y
  have n1 : (Value.ref (hp.objs.size + 1) :: us).length = n + 1 := by rw [List.length_cons, ← r.length, l1]
  have room : us.length ≤ sizeLine := by
    rw [← r.length, l1, sizeLine_eq]
    omega
  have sp : spErr C ns (V.ref (hp.objs.size + 1) :: zs2) (upd H (hp.objs.size + 1) (exo (hp.objs.size + 1) C none))
      (fun v H2 => v = .non ∧ ∃ (d : Addr), H2 (hp.objs.size + 1) = some (exo (hp.objs.size + 1) C (some d)) ∧ H2 d = some (exd d (ns.zip zs2).reverse) ∧ H d = none ∧ Q (.ref C) (some d) (upd (del H2 (hp.objs.size + 1)) d (.xd (ns.zip zs2).reverse))) E0 := by
    refine ⟨_, zs2, rfl, lz, upd_same, fun d H' hd k1 ha hd2 => ?_⟩
    have nd : d ≠ hp.objs.size + 1 := fun z => by
      rw [z, upd_same] at hd
      cases hd
    have hd0 : H d = none := by
      rw [upd_ne nd] at hd
      exact hd
    refine ⟨rfl, d, ha, hd2, hd0, hq d _ hd0 (fun b o e => ?_) upd_same⟩
    have nb : b ≠ hp.objs.size + 1 := ne_of_none e new
    rw [upd_ne (ne_of_none e hd0), del_ne nb]
    refine k1 b o nb ?_
    rw [upd_ne nb]
    exact e
  refine wpAny_call (PySem.K9.call_kw PySem.F.excBase_ValueError (fun Y => PySem.HandSPX.refsVE_contains Y bm hbm) (I.kIn _ _ hC) (PySem.W.looks_findIn I.kIn iC) (fun self => PySem.W.bind_fn I.kIn self tI) room
    (codeAny_mono (F1.run _ X.stack _ _ ⟨Value.ref (hp.objs.size + 1) :: us, ks.zip ws⟩ _ _ _ E0 (rm.make C us (ks.zip ws)) (I2.env0.make C us (ks.zip ws)) (hb.to _ _ ws I2.kIn n1 (rz.length.symm.trans l2)) r2 sp) fun r s' hq' => ?_))
  cases r with
  | error e => exact False.elim hq'
  | ok fl =>
    cases fl with
    | ret u =>
      obtain ⟨v, H2, os2, bare2, un2, hok2, rv, ev, d, ea, ed, hd1, q2⟩ := hq'
      subst ev
      obtain ⟨h2, g2, d2, t2, os'⟩ := s'
      obtain ⟨t0, G, J, kG, ge, hoe, na⟩ := mk_end0 (d2 := d2) (t2 := t2) I (Nat.le_succ _) keep un2 hok2 os2 bare2 ea ed hd1
      exact ⟨rv, hp.objs.size + 1, _, _, ⟨G, g2, d2, t2, os'⟩, _, .ref C, some d, rfl, J, kG, ge, hoe, ⟨rfl, rfl, fun vs e => by cases e; rfl⟩, rfl, rfl, na, rfl, bare2, raises_own T.exC T.tyC, q2⟩
    | next => exact False.elim hq'
    | brk => exact False.elim hq'
    | cont => exact False.elim hq'
theorem pmk_E0 (T : OexC X.K C) (iC : PySem.W.findIn X.K (.ref C) "__init__" = some (some (.ref fI))) (tI : PySem.W.typeIn X.K (.ref fI) = some (.type "function"))
    (F1 : FnOk X.prog X.w X.K X.mg X.base CX0 k fI fd ps (spErr C ns)) (hr : RoomH (k + 1) X.A) (hc : X.calm = true) (hg : Gl X x) (hm : X.mg x = some (.ref C)) (hb : KBn X.K fd ps 1 ks g gV) (hkw : PK X kws tk)
    (hall : (backToKw pos (keywordEach kws X.env)).all (·.1.isSome) = true := by rfl) (hks : (backToKw pos (keywordEach kws X.env)).filterMap (·.1) = ks := by rfl)
    (hdb : (x == ("__debug__" : Str)) = false := by decide)
    (hpl : ((backTo pos (starEach [] X.env)).any (·.1) || (backToKw pos (keywordEach kws X.env)).any (·.1.isNone)) = false := by rfl) :
    L2N.PMk X (.Call (.Name x p) [] kws pos) (tMkE C 0 ks.length ns gV tNil tk) := by
  intro pins s σ H Q I h
  refine wpAny_Call_Name_kw (ld_glob I hg hm ?_ hdb)
  refine PySem.W.callWith_KW0 (h₀ := X.base) I.ok.mod.kin T.kC hall ?_ hpl
  refine thn (hkw.run pos pins s σ H _ I h) fun ws s2 ⟨zs, H2, I2, rz, l1, l2, q2⟩ => ⟨I2.kIn, ?_⟩
  rw [hks]
  exact run_mkE (us := []) (vs := []) T iC tI F1 hr hc (by omega) hb I2 .nil rz rfl l2 q2
theorem pmk_EK (hn : n ≤ 1000) (T : OexC X.K C) (iC : PySem.W.findIn X.K (.ref C) "__init__" = some (some (.ref fI))) (tI : PySem.W.typeIn X.K (.ref fI) = some (.type "function"))
    (F1 : FnOk X.prog X.w X.K X.mg X.base CX0 k fI fd ps (spErr C ns)) (hr : RoomH (k + 1) X.A) (hc : X.calm = true) (hg : Gl X x) (hm : X.mg x = some (.ref C)) (hb : KBn X.K fd ps (n + 1) ks g gV) (ha : PA X (e :: es) t) (hkw : PK X kws tk)
    (hall : (backToKw pos (keywordEach kws X.env)).all (·.1.isSome) = true := by rfl) (hks : (backToKw pos (keywordEach kws X.env)).filterMap (·.1) = ks := by rfl)
    (hdb : (x == ("__debug__" : Str)) = false := by decide) (he : starEach (e :: es) X.env = (false, eval e X.env) :: starEach es X.env := by rfl)
    (hpl : ((backTo pos (starEach (e :: es) X.env)).any (·.1) || (backToKw pos (keywordEach kws X.env)).any (·.1.isNone)) = false := by rfl) :
    L2N.PMk X (.Call (.Name x p) (e :: es) kws pos) (tMkE C n ks.length ns gV t tk) := by
  intro pins s σ H Q I h
  refine wpAny_Call_Name_kw (ld_glob I hg hm ?_ hdb)
  refine PySem.W.callWith_KW (h₀ := X.base) I.ok.mod.kin T.kC hall (thn (ha.run pos pins s σ H _ I h) fun us s1 ⟨vs, H1, I1, r, q⟩ => ?_) hpl he
  refine thn (hkw.run pos pins s1 σ H1 _ I1 q) fun ws s2 ⟨zs, H2, I2, rz, l1, l2, q2⟩ => ⟨I2.kIn, ?_⟩
  rw [hks]
  exact run_mkE T iC tI F1 hr hc hn hb I2 r rz l1 l2 q2
theorem pmk_X {bmB : List Value} {B newId initId : String} (F : ExcBaseFacts B newId initId bmB) (q : PySem.W.excIn X.K C bmB newId = true) (gC : X.mg x = some (.ref C)) (kC : PySem.W.keepIn X.K (.ref C) = true) (r : Raises X (.ref C)) (hg : Gl X x)
    (hdb : (x == ("__debug__" : Str)) = false := by decide) : L2N.PMk X (.Call (.Name x p) [] [] pos) (fun _ H Q => Q (.ref C) none H) := by
  intro pins s σ H Q I h
  refine wpAny_Call_Name_kw (ld_glob I hg gC ?_ hdb)
  refine PySem.W.callWith_K0 I.kIn kC ?_
  show wpAny _ _ (call (.ref C) []) _ _ _
  obtain ⟨bm, N, nm, qn, bs, hdct, sn, sub, ab, col, dd, k0, k1, k2, k3, k5, mN, hC, hN, hni, T⟩ := exc_obj I.kIn q
  refine wpAny_call_exc_subT F T hC hN hni (fun h' a hm => ?_) (Nat.zero_le _)
  exact L2N.mk_of I hm r h (I.hok.gone hm.new)
end
/-- the suite of a caught error: its mood, the pin that its callees see -/
theorem suite_hot {X : Cx} {a : Addr} {oe : Obj} {cls : Value} {d : Option Addr} {pn : List (Addr × Obj)} (hz : L2N.Zn cls d oe) (hf : ∃ vs, oe.data = .fields vs) : HotC (X.suite a ((a, oe) :: pn)) := by
  obtain ⟨vs, hd⟩ := hf
  exact ⟨(a, oe), ⟨rfl, vs, hd, hz.2.2 vs hd⟩, List.mem_cons_self⟩
theorem suite_call {X : Cx} {a : Addr} {oe : Obj} {cls : Value} {d : Option Addr} {pn : List (Addr × Obj)} (hz : L2N.Zn cls d oe) (hf : ∃ vs, oe.data = .fields vs) : CallC (X.suite a ((a, oe) :: pn)) (some (a, oe)) := by
  obtain ⟨vs, hd⟩ := hf
  exact .inr ⟨(a, oe), rfl, ⟨rfl, vs, hd, hz.2.2 vs hd⟩, List.mem_cons_self⟩
end K9

namespace K9
open PySem PySem.Spec PyProof.Rows L2 L2H HotX Evl
/-! ### a def that stands in the module and keeps its promise, in both moods -/
def Ok (P : Program) (w : World) (K : PySem.W.Frag) (mg : Str → Option Value) (base : Heap) (k : Nat) (x : Str) (ps : List Str) (sp : Pin → Sp) : Prop :=
  ∃ f fd, FnB P w K mg base k f fd ps sp ∧ mg x = some (.ref f) ∧ PySem.W.keepIn K (.ref f) = true ∧ Binds K fd ps []
theorem Ok.mono {P : Program} {w : World} {K : PySem.W.Frag} {mg : Str → Option Value} {base : Heap} {j k : Nat} {x : Str} {ps : List Str} {sp : Pin → Sp} (o : Ok P w K mg base j x ps sp) (h : j ≤ k) :
    Ok P w K mg base k x ps sp := by
  obtain ⟨f, fd, F, r⟩ := o
  exact ⟨f, fd, F.mono h, r⟩
theorem ok_of {P : Program} {w : World} {K : PySem.W.Frag} {mg : Str → Option Value} {base : Heap} {k : Nat} {x : Str} {params : Arguments} {body : List Stmt} {scope : Scope} {f : Addr} {fd : FuncData} {N ps : List Str} {sp : Pin → Sp}
    (F : FunD K x x params body scope [] [] f fd) (hm : mg x = some (.ref f)) (S : FnScope N ps scope)
    (hb : ∀ (kV doc pm : Value) (an : Option Addr) (cdv ct : Value) (us : List Value), us.length = ps.length → bindArgs (PySem.W.fnOf x x params body scope .none kV doc pm an cdv ct) ⟨us, []⟩ = pure (ps.zip us))
    (len : ∀ p vs H Q E, sp p vs H Q E → vs.length = ps.length)
    (hbody : ∀ (cdv : Value) (A : Around) (outer : List Env) (s : Shared) (H : Hp) (vs : List V) (Q : VK) (E : XK) (p : Pin) (c : Bool),
      Mood (cxB P w K mg base N x scope f cdv A outer s H E c p.toList) → CallC (cxB P w K mg base N x scope f cdv A outer s H E c p.toList) p →
      RoomH k (A.deeper (envOfC x scope s.heap.objs.size f cdv)) → sp p vs H Q E →
      ∃ t, PSs (cxB P w K mg base N x scope f cdv A outer s H E c p.toList) body t ∧ t { nx := fun _ H' => Q .non H', rt := Q } (start N vs) H) :
    Ok P w K mg base (k + 1) x ps sp := by
  have bn := F.bindsN (ps := ps) hb
  obtain ⟨oc, od, dV, kV, doc, pm, an, cdv, ct, osl, rfl, lk, hcd, _, _⟩ := F.ex
  exact ⟨f, _, fnB_of lk hcd S len (fun A outer s H vs Q E p c hc hp hr hsp => hbody cdv A outer s H vs Q E p c hc hp hr hsp), hm, F.kp, bn⟩
/-- the call of such a def -/
theorem pe_callO {X : Cx} {k : Nat} {x : Str} {ps : List Str} {sp : Pin → Sp} {p : Pin} {q pos : Pos} {e : Expr} {es : List Expr} {t : TA} (o : Ok X.prog X.w X.K X.mg X.base k x ps sp) (hr : RoomH k X.A) (hc : CallC X p)
    (hg : Gl X x) (ha : PA X (e :: es) t) (hdb : (x == ("__debug__" : Str)) = false := by decide)
    (he : starEach (e :: es) X.env = (false, eval e X.env) :: starEach es X.env := by rfl) (hpl : (backTo pos (starEach es X.env)).any (·.1) = false := by rfl) :
    PE X (.Call (.Name x q) (e :: es) [] pos) (tCallB (sp p) t) := by
  obtain ⟨f, fd, F, hm, hk, hb⟩ := o
  exact pe_callC F hr hc hg hm hk hb ha hdb he hpl
end K9
namespace K9
open PySem PySem.Spec PyProof.Rows L2 L2H HotX Evl
/-! ### a def that is called where nothing is handled -/
def OkC (P : Program) (w : World) (K : PySem.W.Frag) (mg : Str → Option Value) (base : Heap) (k : Nat) (x : Str) (ps : List Str) (sp : Sp) : Prop :=
  ∃ f fd, FnOk P w K mg base CX0 k f fd ps sp ∧ mg x = some (.ref f) ∧ PySem.W.keepIn K (.ref f) = true ∧ Binds K fd ps []
theorem OkC.mono {P : Program} {w : World} {K : PySem.W.Frag} {mg : Str → Option Value} {base : Heap} {j k : Nat} {x : Str} {ps : List Str} {sp : Sp} (o : OkC P w K mg base j x ps sp) (h : j ≤ k) :
    OkC P w K mg base k x ps sp := by
  obtain ⟨f, fd, F, r⟩ := o
  exact ⟨f, fd, F.mono h, r⟩
theorem Ok.cold {P : Program} {w : World} {K : PySem.W.Frag} {mg : Str → Option Value} {base : Heap} {k : Nat} {x : Str} {ps : List Str} {sp : Pin → Sp} (o : Ok P w K mg base k x ps sp) : OkC P w K mg base k x ps (sp none) := by
  obtain ⟨f, fd, F, r⟩ := o
  exact ⟨f, fd, F.cold, r⟩
theorem okC_of {P : Program} {w : World} {K : PySem.W.Frag} {mg : Str → Option Value} {base : Heap} {k : Nat} {x : Str} {params : Arguments} {body : List Stmt} {scope : Scope} {f : Addr} {fd : FuncData} {N ps : List Str} {sp : Sp}
    (F : FunD K x x params body scope [] [] f fd) (hm : mg x = some (.ref f)) (S : FnScope N ps scope)
    (hb : ∀ (kV doc pm : Value) (an : Option Addr) (cdv ct : Value) (us : List Value), us.length = ps.length → bindArgs (PySem.W.fnOf x x params body scope .none kV doc pm an cdv ct) ⟨us, []⟩ = pure (ps.zip us))
    (len : ∀ vs H Q E, sp vs H Q E → vs.length = ps.length)
    (hbody : ∀ (cdv : Value) (A : Around) (outer : List Env) (s : Shared) (H : Hp) (vs : List V) (Q : VK) (E : XK), Room k (A.deeper (envOfC x scope s.heap.objs.size f cdv)) → sp vs H Q E →
      ∃ t, PSs (cxOf CX0 P w K mg base N x scope f cdv A outer s H E) body t ∧ t { nx := fun _ H' => Q .non H', rt := Q } (start N vs) H) :
    OkC P w K mg base (k + 1) x ps sp := by
  refine ⟨f, fd, F.ok S len fun cdv A outer s H vs Q E hr h => ?_, hm, F.kp, F.bindsN (ps := ps) hb⟩
  exact hbody cdv A outer s H vs Q E hr h
theorem pe_callK0 {X : Cx} {k : Nat} {x : Str} {ps : List Str} {sp : Sp} {q pos : Pos} {e : Expr} {es : List Expr} {t : TA} (o : OkC X.prog X.w X.K X.mg X.base k x ps sp) (hr : Room k X.A)
    (hg : Gl X x) (ha : PA X (e :: es) t) (hdb : (x == ("__debug__" : Str)) = false := by decide)
    (he : starEach (e :: es) X.env = (false, eval e X.env) :: starEach es X.env := by rfl) (hpl : (backTo pos (starEach es X.env)).any (·.1) = false := by rfl) :
    PE X (.Call (.Name x q) (e :: es) [] pos) (tCallB sp t) := by
  obtain ⟨f, fd, F, hm, hk, hb⟩ := o
  have e2 : tCallB sp t = tCall sp [] E0 t := by
    funext σ H Q
    show t σ H (fun vs H1 => sp vs H1 Q E0) = t σ H (fun vs H1 => sp (vs ++ []) H1 Q E0)
    simp only [List.append_nil]
  rw [e2]
  exact pe_call F hr hg hm hk hb .nil pass0 ha hdb he hpl
end K9

namespace K9
open PySem PySem.Spec PyProof.Rows L2 L2H HotX Evl
/-! ### the classes of errors, told by one Bool of the written part -/
def oexB (K : PySem.W.Frag) (C : Addr) : Bool :=
  match K.lookup C with
  | some ⟨.type t, _, .cls ⟨_, _, .ref C' :: bm, _, _, hd, _, _, _, _, hdel⟩, ⟨[_, _, _, _, some (.builtin n), _]⟩⟩ => t == "type" && C' == C && n == "ValueError.__new__" && hd && !hdel && PySem.HandSPX.refsVE bm
  | _ => false
theorem oexB_of {K : PySem.W.Frag} {C : Addr} (h : oexB K C = true) : ∃ nm q N bs bm sn sub ab col dd k0 k1 k2 k3 k5,
    K.lookup C = some (excClassObj nm q C N bs bm true sn sub ab col dd k0 k1 k2 k3 k5 "ValueError.__new__") ∧ PySem.HandSPX.refsVE bm = true := by
  unfold oexB at h
  split at h
  · rename_i t dd nm bs C' bm N q hd sn sub ab col hdel k0 k1 k2 k3 n k5 hl
    simp only [Bool.and_eq_true, beq_iff_eq, Bool.not_eq_true'] at h
    obtain ⟨⟨⟨⟨⟨rfl, rfl⟩, rfl⟩, rfl⟩, rfl⟩, hb⟩ := h
    exact ⟨nm, q, N, bs, bm, sn, sub, ab, col, dd, k0, k1, k2, k3, k5, hl, hb⟩
  · cases h
def errB (K : PySem.W.Frag) (C : Addr) : Bool :=
  oexB K C && decide (PySem.W.findIn K (.ref C) "__setattr__" = some (some (.builtin "object.__setattr__"))) && decide (PySem.W.subIn K (.ref C) (.type "BaseException") = some true) &&
  decide (PySem.W.typeIn K (.ref C) = some (.type "type")) && PySem.W.keepIn K (.ref C) && decide (PySem.W.findIn K (.ref C) "__getattribute__" = some (some (.builtin "BaseException.__getattribute__"))) &&
  decide (PySem.W.findIn K (.ref C) "__getattr__" = some none) && PySem.W.hasDictIn K C && (PySem.W.clsIn K C).isSome && decide (PySem.W.findIn K (.ref C) "__class__" = some (some (.builtin "object.__class__"))) &&
  decide (PySem.W.mroIn K C (.type "object") = some true)
def spcB (K : PySem.W.Frag) : Bool :=
  decide (PySem.W.specialIn K (.builtin "object.__class__") "__get__" = some (some (.builtin "getset_descriptor.__get__"))) && decide (PySem.W.takesIn K (.builtin "object.__class__") = some true)
theorem errC_of {K : PySem.W.Frag} {C : Addr} (h : errB K C = true) (hs : spcB K = true) : ErrC K C := by
  simp only [errB, spcB, Bool.and_eq_true, decide_eq_true_eq] at h hs
  obtain ⟨⟨⟨⟨⟨⟨⟨⟨⟨⟨h0, h1⟩, h2⟩, h3⟩, h4⟩, h5⟩, h6⟩, h7⟩, h8⟩, h9⟩, h10⟩ := h
  exact ⟨⟨oexB_of h0, h1, h2, h3, h4⟩, ⟨h5, h6, h2, h7⟩, h8, h9, hs.1, hs.2, h10⟩
/-- the facts of a module's own errors: cs their names, top the one over all of them, ini those with an own __init__, fs the fields -/
structure Errs (K : PySem.W.Frag) (cs : List Str) (tp : Str) (ini fs : List Str) : Prop where
  err : ∀ x ∈ cs, ErrC K (He.ga K x)
  fld : ∀ x ∈ cs, ∀ f ∈ fs, PySem.W.findIn K (.ref (He.ga K x)) f = some none
  init : ∀ x ∈ ini, PySem.W.findIn K (.ref (He.ga K x)) "__init__" = some (some (.ref (He.fAd K (x, some "__init__"))))
  fn : ∀ x ∈ ini, PySem.W.typeIn K (.ref (He.fAd K (x, some "__init__"))) = some (.type "function")
  kit : ∀ x ∈ cs, ∀ y ∈ cs, PySem.W.kitOne K (.ref (He.ga K x)) (.ref (He.ga K y)) = some (decide (x = y) || decide (y = tp))
  kve : ∀ x ∈ cs, PySem.W.kitOne K (.ref (He.ga K x)) (.type "ValueError") = some true
def errsB (cs : List Str) (tp : Str) (ini fs : List Str) (K : PySem.W.Frag) : Bool :=
  spcB K && cs.all (fun x => errB K (He.ga K x)) && cs.all (fun x => fs.all fun f => decide (PySem.W.findIn K (.ref (He.ga K x)) f = some none)) &&
  ini.all (fun x => decide (PySem.W.findIn K (.ref (He.ga K x)) "__init__" = some (some (.ref (He.fAd K (x, some "__init__")))))) &&
  ini.all (fun x => decide (PySem.W.typeIn K (.ref (He.fAd K (x, some "__init__"))) = some (.type "function"))) &&
  cs.all (fun x => cs.all fun y => decide (PySem.W.kitOne K (.ref (He.ga K x)) (.ref (He.ga K y)) = some (decide (x = y) || decide (y = tp)))) &&
  cs.all (fun x => decide (PySem.W.kitOne K (.ref (He.ga K x)) (.type "ValueError") = some true))
theorem errs_of {cs : List Str} {tp : Str} {ini fs : List Str} {K : PySem.W.Frag} (h : errsB cs tp ini fs K = true) : Errs K cs tp ini fs := by
  simp only [errsB, Bool.and_eq_true, List.all_eq_true, decide_eq_true_eq] at h
  obtain ⟨⟨⟨⟨⟨⟨h0, h1⟩, h2⟩, h3⟩, h4⟩, h5⟩, h6⟩ := h
  exact ⟨fun x hx => errC_of (h1 x hx) h0, h2, h3, h4, h5, h6⟩
/-- isinstance of several of them -/
theorem Errs.any {K : PySem.W.Frag} {cs : List Str} {tp : Str} {ini fs : List Str} (E : Errs K cs tp ini fs) {x : Str} (hx : x ∈ cs) (ys : List Str) (hy : ∀ y ∈ ys, y ∈ cs) (ht : ∀ y ∈ ys, y ≠ tp) :
    PySem.W.kitAny K (.ref (He.ga K x)) (ys.map fun y => .ref (He.ga K y)) = some (decide (x ∈ ys)) := by
  induction ys with
  | nil => rfl
  | cons y r ih =>
    have h1 := E.kit x hx y (hy y List.mem_cons_self)
    have h2 := ih (fun z hz => hy z (List.mem_cons_of_mem _ hz)) (fun z hz => ht z (List.mem_cons_of_mem _ hz))
    have h3 : decide (y = tp) = false := decide_eq_false (ht y List.mem_cons_self)
    rw [h3, Bool.or_false] at h1
    by_cases e : x = y
    · subst e
      rw [decide_eq_true rfl] at h1
      simp [PySem.W.kitAny, h1]
    · rw [decide_eq_false e] at h1
      simp [PySem.W.kitAny, h1, h2, e]
end K9

namespace K9
open PySem PySem.Spec PyProof.Rows L2 L2H HotX Evl
/-! ### __init__ by its fields -/
section
variable {K : PySem.W.Frag} {C : Addr} {vs : List V} {H : Hp} {Q : VK} {E : XK} {f1 f2 f3 f4 n1 n2 n3 n4 : Str}
theorem up2 {H : Hp} {a d : Addr} {o : HO} (hd : H d = none) (ne : d ≠ a) {u : HO} : ∀ b o', b ≠ a → H b = some o' → upd (upd H d u) a o b = some o' := fun b o' nb e => by
  rw [upd_ne nb, upd_ne (ne_of_none e hd)]
  exact e
theorem ini1 (T : OexC K C) (h1 : PySem.W.findIn K (.ref C) f1 = some none) (h : spErr C [f1] vs H Q E) :
    tOst K f1 (tVar 0) (tVar 1) { nx := fun _ H' => Q .non H', rt := Q } (start ["self", n1] vs) H := by
  obtain ⟨a, us, rfl, hl, ha, q⟩ := h
  match us, hl with
  | [u], _ =>
    refine ⟨_, rfl, _, rfl, a, C, rfl, T, h1, .inl ⟨ha, fun d hd ne => ?_⟩⟩
    refine q d _ hd (up2 hd ne) upd_same ?_
    rw [upd_ne ne, upd_same]
    rfl
theorem ini2 (T : OexC K C) (h1 : PySem.W.findIn K (.ref C) f1 = some none) (h2 : PySem.W.findIn K (.ref C) f2 = some none) (h : spErr C [f1, f2] vs H Q E) :
    tSeq (tOst K f1 (tVar 0) (tVar 1)) (tOst K f2 (tVar 0) (tVar 2)) { nx := fun _ H' => Q .non H', rt := Q } (start ["self", n1, n2] vs) H := by
  obtain ⟨a, us, rfl, hl, ha, q⟩ := h
  match us, hl with
  | [u1, u2], _ =>
    refine ⟨_, rfl, _, rfl, a, C, rfl, T, h1, .inl ⟨ha, fun d hd ne => ?_⟩⟩
    refine ⟨_, rfl, _, rfl, a, C, rfl, T, h2, .inr ⟨d, _, upd_same, by rw [upd_ne ne, upd_same], (by show (1 : Nat) ≤ 900; decide), ?_⟩⟩
    refine q d _ hd (fun b o nb e => ?_) ?_ ?_
    · rw [upd_ne (ne_of_none e hd)]
      exact up2 hd ne b o nb e
    · rw [upd_ne (Ne.symm ne), upd_same]
    · rw [upd_same]
      rfl
theorem ini3 (T : OexC K C) (h1 : PySem.W.findIn K (.ref C) f1 = some none) (h2 : PySem.W.findIn K (.ref C) f2 = some none) (h3 : PySem.W.findIn K (.ref C) f3 = some none) (h : spErr C [f1, f2, f3] vs H Q E) :
    tSeq (tOst K f1 (tVar 0) (tVar 1)) (tSeq (tOst K f2 (tVar 0) (tVar 2)) (tOst K f3 (tVar 0) (tVar 3))) { nx := fun _ H' => Q .non H', rt := Q } (start ["self", n1, n2, n3] vs) H := by
  obtain ⟨a, us, rfl, hl, ha, q⟩ := h
  match us, hl with
  | [u1, u2, u3], _ =>
    refine ⟨_, rfl, _, rfl, a, C, rfl, T, h1, .inl ⟨ha, fun d hd ne => ?_⟩⟩
    refine ⟨_, rfl, _, rfl, a, C, rfl, T, h2, .inr ⟨d, _, upd_same, by rw [upd_ne ne, upd_same], (by show (1 : Nat) ≤ 900; decide), ?_⟩⟩
    refine ⟨_, rfl, _, rfl, a, C, rfl, T, h3, .inr ⟨d, _, by rw [upd_ne (Ne.symm ne), upd_same], upd_same, (by show (2 : Nat) ≤ 900; decide), ?_⟩⟩
    refine q d _ hd (fun b o nb e => ?_) ?_ ?_
    · rw [upd_ne (ne_of_none e hd), upd_ne (ne_of_none e hd)]
      exact up2 hd ne b o nb e
    · rw [upd_ne (Ne.symm ne), upd_ne (Ne.symm ne), upd_same]
    · rw [upd_same]
      rfl
theorem ini4 (T : OexC K C) (h1 : PySem.W.findIn K (.ref C) f1 = some none) (h2 : PySem.W.findIn K (.ref C) f2 = some none) (h3 : PySem.W.findIn K (.ref C) f3 = some none) (h4 : PySem.W.findIn K (.ref C) f4 = some none) (h : spErr C [f1, f2, f3, f4] vs H Q E) :
    tSeq (tOst K f1 (tVar 0) (tVar 1)) (tSeq (tOst K f2 (tVar 0) (tVar 2)) (tSeq (tOst K f3 (tVar 0) (tVar 3)) (tOst K f4 (tVar 0) (tVar 4)))) { nx := fun _ H' => Q .non H', rt := Q } (start ["self", n1, n2, n3, n4] vs) H := by
  obtain ⟨a, us, rfl, hl, ha, q⟩ := h
  match us, hl with
  | [u1, u2, u3, u4], _ =>
    refine ⟨_, rfl, _, rfl, a, C, rfl, T, h1, .inl ⟨ha, fun d hd ne => ?_⟩⟩
    refine ⟨_, rfl, _, rfl, a, C, rfl, T, h2, .inr ⟨d, _, upd_same, by rw [upd_ne ne, upd_same], (by show (1 : Nat) ≤ 900; decide), ?_⟩⟩
    refine ⟨_, rfl, _, rfl, a, C, rfl, T, h3, .inr ⟨d, _, by rw [upd_ne (Ne.symm ne), upd_same], upd_same, (by show (2 : Nat) ≤ 900; decide), ?_⟩⟩
    refine ⟨_, rfl, _, rfl, a, C, rfl, T, h4, .inr ⟨d, _, by rw [upd_ne (Ne.symm ne), upd_ne (Ne.symm ne), upd_same], upd_same, (by show (3 : Nat) ≤ 900; decide), ?_⟩⟩
    refine q d _ hd (fun b o nb e => ?_) ?_ ?_
    · rw [upd_ne (ne_of_none e hd), upd_ne (ne_of_none e hd), upd_ne (ne_of_none e hd)]
      exact up2 hd ne b o nb e
    · rw [upd_ne (Ne.symm ne), upd_ne (Ne.symm ne), upd_ne (Ne.symm ne), upd_same]
    · rw [upd_same]
      rfl
end
theorem spErr_len {C : Addr} {ns : List Str} (vs : List V) (H : Hp) (Q : VK) (E : XK) (h : spErr C ns vs H Q E) : vs.length = ns.length + 1 := by
  obtain ⟨a, us, rfl, hl, _⟩ := h
  simp [hl]
end K9

namespace K9
open PySem PySem.Spec PyProof.Rows L2 L2H HotX Evl
/-! ### arguments by position and by name, in any order -/
def gP (ix : List Nat) (us ws : List Value) : List Value := us ++ ix.map fun i => ws.getD i .none
def gPV (ix : List Nat) (vs zs : List V) : List V := vs ++ ix.map fun i => zs.getD i .non
theorem vals_getD {zs : List V} {ws : List Value} (r : Vals zs ws) (i : Nat) : RelV (zs.getD i .non) (ws.getD i .none) := by
  induction r generalizing i with
  | nil => rfl
  | cons h r ih =>
    cases i with
    | zero => exact h
    | succ i => exact ih i
theorem gP_rel {ix : List Nat} {vs zs : List V} {us ws : List Value} (r : Vals vs us) (rz : Vals zs ws) : Vals (gPV ix vs zs) (gP ix us ws) := by
  refine Vals.append r ?_
  induction ix with
  | nil => exact .nil
  | cons i ix ih => exact .cons (vals_getD rz i) ih
theorem kbn_of {K : PySem.W.Frag} {x qual : Str} {params : Arguments} {body : List Stmt} {scope : Scope} {kws : List (Str × V)} {f : Addr} {fd : FuncData} {ps ks : List Str} {n : Nat} {ix : List Nat}
    (F : FunD K x qual params body scope [] kws f fd)
    (hb : ∀ (kV doc pm : Value) (an : Option Addr) (cdv ct : Value) (us ws : List Value), us.length = n → ws.length = ks.length →
      bindArgs (PySem.W.fnOf x qual params body scope .none kV doc pm an cdv ct) ⟨us, ks.zip ws⟩ = pure (ps.zip (gP ix us ws))) : KBn K fd ps n ks (gP ix) (gPV ix) := by
  refine ⟨fun s us ws hk hu hw => ?_, gP_rel⟩
  obtain ⟨oc, od, dV, kV, doc, pm, an, cdv, ct, osl, rfl, lk, hc, hd, hkw⟩ := F.ex
  rcases hd with ⟨_, rfl⟩ | ⟨z, _⟩
  · intro M A E Q q
    rw [hb kV doc pm an cdv ct us ws hu hw]
    exact wpAny_pure q
  · exact absurd rfl z
/-! ### a module's own class of errors with its __init__ -/
structure Ini (P : Program) (w : World) (K : PySem.W.Frag) (mg : Str → Option Value) (base : Heap) (x : Str) (ns : List Str) (ways : List (Nat × List Str × List Nat)) : Prop where
  err : ErrC K (He.ga K x)
  ic : PySem.W.findIn K (.ref (He.ga K x)) "__init__" = some (some (.ref (He.fAd K (x, some "__init__"))))
  ti : PySem.W.typeIn K (.ref (He.fAd K (x, some "__init__"))) = some (.type "function")
  gl : mg x = some (.ref (He.ga K x))
  ok : ∃ fd, FnOk P w K mg base CX0 1 (He.fAd K (x, some "__init__")) fd ("self" :: ns) (spErr (He.ga K x) ns) ∧ ∀ q ∈ ways, KBn K fd ("self" :: ns) q.1 q.2.1 (gP q.2.2) (gPV q.2.2)
section
variable {X : Cx} {n : Nat} {ns ks : List Str} {ix : List Nat} {ways : List (Nat × List Str × List Nat)} {x : Str} {p pos : Pos} {e : Expr} {es : List Expr} {kws : List Keyword} {t tk : TA}
theorem pe_iniK (i : Ini X.prog X.w X.K X.mg X.base x ns ways) (hq : (n + 1, ks, ix) ∈ ways) (hr : RoomH 2 X.A) (hc : X.calm = true) (hg : Gl X x) (ha : PA X (e :: es) t) (hkw : PK X kws tk) (hn : n ≤ 1000 := by decide)
    (hall : (backToKw pos (keywordEach kws X.env)).all (·.1.isSome) = true := by rfl) (hks : (backToKw pos (keywordEach kws X.env)).filterMap (·.1) = ks := by rfl)
    (hdb : (x == ("__debug__" : Str)) = false := by decide) (he : starEach (e :: es) X.env = (false, eval e X.env) :: starEach es X.env := by rfl)
    (hpl : ((backTo pos (starEach (e :: es) X.env)).any (·.1) || (backToKw pos (keywordEach kws X.env)).any (·.1.isNone)) = false := by rfl) :
    PE X (.Call (.Name x p) (e :: es) kws pos) (tNewE (He.ga X.K x) n ks.length ns (gPV ix) t tk) := by
  obtain ⟨fd, F, hb⟩ := i.ok
  exact pe_newEK hn i.err.ox i.ic i.ti F hr hc hg i.gl (hb _ hq) ha hkw hall hks hdb he hpl
theorem pe_ini0 (i : Ini X.prog X.w X.K X.mg X.base x ns ways) (hq : (1, ks, ix) ∈ ways) (hr : RoomH 2 X.A) (hc : X.calm = true) (hg : Gl X x) (hkw : PK X kws tk)
    (hall : (backToKw pos (keywordEach kws X.env)).all (·.1.isSome) = true := by rfl) (hks : (backToKw pos (keywordEach kws X.env)).filterMap (·.1) = ks := by rfl)
    (hdb : (x == ("__debug__" : Str)) = false := by decide)
    (hpl : ((backTo pos (starEach [] X.env)).any (·.1) || (backToKw pos (keywordEach kws X.env)).any (·.1.isNone)) = false := by rfl) :
    PE X (.Call (.Name x p) [] kws pos) (tNewE (He.ga X.K x) 0 ks.length ns (gPV ix) tNil tk) := by
  obtain ⟨fd, F, hb⟩ := i.ok
  exact pe_newE0 i.err.ox i.ic i.ti F hr hc hg i.gl (hb _ hq) hkw hall hks hdb hpl
theorem pmk_iniK (i : Ini X.prog X.w X.K X.mg X.base x ns ways) (hq : (n + 1, ks, ix) ∈ ways) (hr : RoomH 2 X.A) (hc : X.calm = true) (hg : Gl X x) (ha : PA X (e :: es) t) (hkw : PK X kws tk) (hn : n ≤ 1000 := by decide)
    (hall : (backToKw pos (keywordEach kws X.env)).all (·.1.isSome) = true := by rfl) (hks : (backToKw pos (keywordEach kws X.env)).filterMap (·.1) = ks := by rfl)
    (hdb : (x == ("__debug__" : Str)) = false := by decide) (he : starEach (e :: es) X.env = (false, eval e X.env) :: starEach es X.env := by rfl)
    (hpl : ((backTo pos (starEach (e :: es) X.env)).any (·.1) || (backToKw pos (keywordEach kws X.env)).any (·.1.isNone)) = false := by rfl) :
    L2N.PMk X (.Call (.Name x p) (e :: es) kws pos) (tMkE (He.ga X.K x) n ks.length ns (gPV ix) t tk) := by
  obtain ⟨fd, F, hb⟩ := i.ok
  exact pmk_EK hn i.err.ox i.ic i.ti F hr hc hg i.gl (hb _ hq) ha hkw hall hks hdb he hpl
theorem pmk_ini0 (i : Ini X.prog X.w X.K X.mg X.base x ns ways) (hq : (1, ks, ix) ∈ ways) (hr : RoomH 2 X.A) (hc : X.calm = true) (hg : Gl X x) (hkw : PK X kws tk)
    (hall : (backToKw pos (keywordEach kws X.env)).all (·.1.isSome) = true := by rfl) (hks : (backToKw pos (keywordEach kws X.env)).filterMap (·.1) = ks := by rfl)
    (hdb : (x == ("__debug__" : Str)) = false := by decide)
    (hpl : ((backTo pos (starEach [] X.env)).any (·.1) || (backToKw pos (keywordEach kws X.env)).any (·.1.isNone)) = false := by rfl) :
    L2N.PMk X (.Call (.Name x p) [] kws pos) (tMkE (He.ga X.K x) 0 ks.length ns (gPV ix) tNil tk) := by
  obtain ⟨fd, F, hb⟩ := i.ok
  exact pmk_E0 i.err.ox i.ic i.ti F hr hc hg i.gl (hb _ hq) hkw hall hks hdb hpl
end
/-! ### several errors made into a list -/
def ErrsAt (K : PySem.W.Frag) (l : List (Addr × Obj)) (H : Hp) : List V → List (Str × List (Str × V)) → Prop := Paired fun r q => ∃ a, r = .ref a ∧ Err l H a (He.ga K q.1) (some q.2)
theorem ErrsAt.ext {K : PySem.W.Frag} {l : List (Addr × Obj)} {H H' : Hp} {rs : List V} {qs : List (Str × List (Str × V))} (e : Ex H H') (h : ErrsAt K l H rs qs) : ErrsAt K l H' rs qs :=
  by
  induction h with
  | nil => exact .nil
  | cons r _ ih =>
    obtain ⟨a, e1, e2⟩ := r
    exact .cons ⟨a, e1, e2.ext e⟩ ih
theorem ErrsAt.app {K : PySem.W.Frag} {l : List (Addr × Obj)} {H : Hp} {rs rs' : List V} {qs qs' : List (Str × List (Str × V))} (h : ErrsAt K l H rs qs) (h' : ErrsAt K l H rs' qs') : ErrsAt K l H (rs ++ rs') (qs ++ qs') := by
  induction h with
  | nil => exact h'
  | cons a _ ih => exact .cons a ih
/-- te makes the error q, whatever lies there; t makes these -/
def Mk1 (K : PySem.W.Frag) (l : List (Addr × Obj)) (σ : St) (te : TE) (q : Str × List (Str × V)) : Prop := ∀ (H : Hp) (Q : VK), (∀ (a : Addr) (H' : Hp), Ex H H' → Err l H' a (He.ga K q.1) (some q.2) → Q (.ref a) H') → te σ H Q
def MkL (K : PySem.W.Frag) (l : List (Addr × Obj)) (σ : St) (t : TA) (qs : List (Str × List (Str × V))) : Prop := ∀ (H : Hp) (Q : List V → Hp → Prop), (∀ (rs : List V) (H' : Hp), Ex H H' → ErrsAt K l H' rs qs → Q rs H') → t σ H Q
theorem mk_nil {K : PySem.W.Frag} {l : List (Addr × Obj)} {σ : St} : MkL K l σ tNil [] := fun H Q q => q [] H (Ex.refl H) .nil
theorem mk_cons {K : PySem.W.Frag} {l : List (Addr × Obj)} {σ : St} {te : TE} {t : TA} {q : Str × List (Str × V)} {qs : List (Str × List (Str × V))} (h : Mk1 K l σ te q) (hs : MkL K l σ t qs) : MkL K l σ (tCons te t) (q :: qs) := fun H Q k =>
  h H _ fun a H1 e1 r1 => hs H1 _ fun rs H2 e2 r2 => k _ H2 (e1.trans e2) (.cons ⟨a, rfl, r1.ext e2⟩ r2)
/-- arguments that are values told by the slots -/
def Vs (σ : St) (t : TA) (vs : List V) : Prop := ∀ (H : Hp) (Q : List V → Hp → Prop), Q vs H → t σ H Q
theorem vs_nil {σ : St} : Vs σ tNil [] := fun H Q q => q
theorem vs_var {σ : St} {i : Nat} {v : V} {t : TA} {vs : List V} (h : σ[i]? = some (some v)) (ht : Vs σ t vs) : Vs σ (tCons (tVar i) t) (v :: vs) := fun H Q q => ⟨v, h, ht H _ q⟩
theorem mk_new {K : PySem.W.Frag} {l : List (Addr × Obj)} {σ : St} {x : Str} {n m : Nat} {ns : List Str} {ix : List Nat} {t tk : TA} {vs zs us : List V} (h : Vs σ t vs) (hk : Vs σ tk zs) (hn : vs.length = n) (hm : zs.length = m) (hu : gPV ix vs zs = us) (hl : us.length = ns.length) :
    Mk1 K l σ (tNewE (He.ga K x) n m ns (gPV ix) t tk) (x, (ns.zip us).reverse) := fun H Q q =>
  h H _ (hk H _ ⟨hn, hm, us, fun y => by rw [← hu]; rfl, hl, fun a d H3 ha hd e e1 e2 => q a H3 e ⟨d, .inl e1, .inl e2⟩⟩)
end K9

namespace K9
open PySem PySem.Spec PyProof.Rows L2 L2H HotX Evl
/-! ### what a walk tells: n items, the heap stays -/
/-- all but D stands -/
def ExB (D : Addr) (H H' : Hp) : Prop := ∀ a o, a ≠ D → H a = some o → H' a = some o
theorem ExB.refl {D : Addr} {H : Hp} : ExB D H H := fun _ _ _ e => e
theorem ExB.trans {D : Addr} {H H1 H2 : Hp} (e : ExB D H H1) (e' : ExB D H1 H2) : ExB D H H2 := fun a o n h => e' a o n (e a o n h)
theorem Ex.but {D : Addr} {H H' : Hp} (e : Ex H H') : ExB D H H' := fun a o _ h => e a o h
theorem ExB.set {D : Addr} {H : Hp} {o : HO} : ExB D H (upd H D o) := fun a o' n h => by
  rw [upd_ne n]
  exact h
theorem ExB.new {D : Addr} {H H' : Hp} (e : ExB D H H') (h : H D = none) : Ex H H' := fun a o h1 => e a o (ne_of_none h1 h) h1
structure Walks (J : It) (n : Nat) (item : Nat → V) (H : Hp) : Prop where
  go : ∀ (i : Nat) (H1 : Hp), Ex H H1 → i < n → J.go i H1
  yld : ∀ (i : Nat) (H1 : Hp) (x : V) (H' : Hp), Ex H H1 → i < n → J.yld i H1 x H' → H' = H1 ∧ x = item i
  stop : ∀ (H1 : Hp), Ex H H1 → J.stop n H1
theorem walks_rng {lo : Int} {n : Nat} {H : Hp} : Walks (Itr lo n) n (fun i => .int (lo + (i : Int))) H :=
  ⟨fun _ _ _ h => h, fun _ _ _ _ _ _ h => h, fun _ _ => Nat.le_refl _⟩
theorem walks_rng0 {n : Nat} {H : Hp} : Walks (Itr 0 n) n (fun i => .int (i : Int)) H :=
  ⟨fun _ _ _ h => h, fun i _ _ _ _ _ h => ⟨h.1, by rw [h.2, Int.zero_add]⟩, fun _ _ => Nat.le_refl _⟩
theorem SqL.ext {K : PySem.W.Frag} {H H' : Hp} {a : Addr} {xs : List V} (e : Ex H H') (h : SqL K H a xs) : SqL K H' a xs := by
  rcases h with h | h
  · rcases h with h | ⟨o, h⟩
    · exact .inl (.inl (e _ _ h))
    · exact .inl (.inr ⟨o, e _ _ h⟩)
  · exact .inr h
theorem walks_list {K : PySem.W.Frag} {a : Addr} {xs : List V} {H : Hp} (h : SqL K H a xs) : Walks (Itl K a) xs.length (fun i => xs.getD i .non) H := by
  refine ⟨fun i H1 e hi => ⟨xs, xs[i], SqL.ext e h, List.getElem?_eq_getElem hi⟩, fun i H1 x H' e hi hy => ?_, fun H1 e => ⟨xs, SqL.ext e h, Nat.le_refl _⟩⟩
  refine ⟨hy.1, ?_⟩
  have z := hy.2 xs (SqL.ext e h)
  show x = xs.getD i .non
  rw [List.getD_eq_getElem?_getD, z]
  rfl
/-! ### a list comprehension, by an invariant of what is made so far -/
theorem lc_by {wi : TI} {i : Nat} {tt : TT} {te : TE} {σ : St} {H : Hp} {Q : VK} {J : It} {n : Nat} {item : Nat → V} (P : Addr → Nat → List V → Hp → Prop)
    (hn : n ≤ sizeLine) (hi : i < σ.length) (hw : ∀ R : It → Hp → Prop, R J H → wi σ H R) (wk : Walks J n item H)
    (mono : ∀ D j acc H1 H2, ExB D H1 H2 → P D j acc H1 → P D j acc H2) (h0 : ∀ D, H D = none → P D 0 [] H)
    (step : ∀ D j acc H1 (C : V → Hp → Prop) (Cf : Hp → Prop), j < n → H D = none → Ex H H1 → H1 D = some (.lst acc) → P D j acc H1 → (∀ H3, Ex H1 H3 → P D (j + 1) acc H3 → Cf H3) → (∀ y H4, Ex H1 H4 → P D (j + 1) (acc ++ [y]) H4 → C y H4) →
      tt ((wipe σ [i]).set i (some (item j))) H1 fun b H3 => if b = true then te ((wipe σ [i]).set i (some (item j))) H3 C else Cf H3)
    (fin : ∀ D acc H1, H D = none → Ex H H1 → H1 D = some (.lst acc) → P D n acc H1 → Q (.ref D) H1) : tLc wi (gName i) tt te [i] σ H Q := by
  refine hw _ fun D hD => ?_
  refine ⟨fun j m H1 => m = n - j ∧ j ≤ n ∧ Ex H H1 ∧ ∃ acc, H1 D = some (.lst acc) ∧ acc.length ≤ j ∧ P D j acc H1, ⟨n - 0, rfl, Nat.zero_le _, Ex.new hD, [], upd_same, Nat.le_refl _, mono _ _ _ _ _ ExB.set (h0 D hD)⟩, ?_⟩
  rintro j m H1 ⟨rfl, hj, e, acc, ha, hl, hp⟩
  by_cases hjn : j = n
  · subst hjn
    exact .inl ⟨wk.stop H1 e, fin D acc H1 hD e ha hp⟩
  · have hj2 : j < n := by omega
    refine .inr ⟨wk.go j H1 e hj2, fun H' => n - (j + 1) < n - j ∧ j + 1 ≤ n ∧ Ex H H' ∧ ∃ acc, H' D = some (.lst acc) ∧ acc.length ≤ j + 1 ∧ P D (j + 1) acc H', ?_, ?_⟩
    · rintro H' ⟨h1, h2, h3⟩
      exact ⟨n - (j + 1), h1, rfl, h2, h3⟩
    · intro x H' hy
      obtain ⟨rfl, rfl⟩ := wk.yld j H1 x H' e hj2 hy
      refine ⟨?_, ?_⟩
      · simp [wipe]
      · refine step D j acc H' _ _ hj2 hD e ha hp (fun H3 e3 p3 => ?_) (fun y H4 e4 p4 => ?_)
        · exact ⟨by omega, by omega, e.trans e3, acc, e3 _ _ ha, by omega, p3⟩
        · have hd := e4 _ _ ha
          refine ⟨acc, hd, by omega, by omega, by omega, ?_, acc ++ [y], upd_same, by simp; omega, mono _ _ _ _ _ ExB.set p4⟩
          exact ExB.new (fun a o na h => (by rw [upd_ne na]; exact (e.trans e4) a o h)) hD
/-- nothing is kept: the list is empty -/
theorem lc_none {wi : TI} {i : Nat} {tt : TT} {te : TE} {σ : St} {H : Hp} {Q : VK} {J : It} {n : Nat} {item : Nat → V} (hn : n ≤ sizeLine) (hi : i < σ.length) (hw : ∀ R : It → Hp → Prop, R J H → wi σ H R) (wk : Walks J n item H)
    (step : ∀ j H1 (R : Bool → Hp → Prop), j < n → Ex H H1 → (∀ H3, Ex H1 H3 → R false H3) → tt ((wipe σ [i]).set i (some (item j))) H1 R)
    (fin : ∀ D H1, H D = none → Ex H H1 → H1 D = some (.lst []) → Q (.ref D) H1) : tLc wi (gName i) tt te [i] σ H Q := by
  refine lc_by (fun _ _ acc _ => acc = []) hn hi hw wk (fun _ _ _ _ _ _ h => h) (fun _ _ => rfl) (fun D j acc H1 C Cf hj hD e ha hp kf kt => ?_) (fun D acc H1 hD e ha hp => ?_)
  · refine step j H1 _ hj e fun H3 e3 => ?_
    rw [if_neg (by decide)]
    exact kf H3 e3 hp
  · subst hp
    exact fin D H1 hD e ha
/-- what is kept is told ahead: the heap stays in the test -/
theorem lc_keep {wi : TI} {i : Nat} {tt : TT} {te : TE} {σ : St} {H : Hp} {Q : VK} {J : It} {n : Nat} {item : Nat → V} (keep : Nat → Bool) (val : Nat → V) (hn : n ≤ sizeLine) (hi : i < σ.length) (hw : ∀ R : It → Hp → Prop, R J H → wi σ H R) (wk : Walks J n item H)
    (test : ∀ j H1 (R : Bool → Hp → Prop), j < n → Ex H H1 → R (keep j) H1 → tt ((wipe σ [i]).set i (some (item j))) H1 R)
    (elem : ∀ j H1 (R : V → Hp → Prop), j < n → Ex H H1 → R (val j) H1 → te ((wipe σ [i]).set i (some (item j))) H1 R)
    (fin : ∀ D H1, H D = none → Ex H H1 → H1 D = some (.lst (((List.range n).filter keep).map val)) → Q (.ref D) H1) : tLc wi (gName i) tt te [i] σ H Q := by
  refine lc_by (fun _ j acc _ => acc = ((List.range j).filter keep).map val) hn hi hw wk (fun _ _ _ _ _ _ h => h) (fun _ _ => rfl) (fun D j acc H1 C Cf hj hD e ha hp kf kt => ?_) (fun D acc H1 hD e ha hp => ?_)
  · refine test j H1 _ hj e ?_
    cases hk : keep j with
    | true =>
      rw [if_pos rfl]
      refine elem j H1 _ hj e (kt _ _ (Ex.refl _) ?_)
      rw [hp, List.range_succ, List.filter_append, List.map_append]
      simp [hk]
    | false =>
      rw [if_neg (by decide)]
      refine kf _ (Ex.refl _) ?_
      rw [hp, List.range_succ, List.filter_append]
      simp [hk]
  · subst hp
    exact fin D H1 hD e ha
/-! ### found = found + [..] -/
theorem grow_step {σ : St} {H : Hp} {j : Nat} {q : Addr} {bs : List V} {t : TA} {R : VK} {n : Nat} {Pc : List V → Hp → Prop} (hv : σ[j]? = some (some (.ref q))) (hq : H q = some (.lst bs)) (ht : ∀ Q : List V → Hp → Prop, (∀ cs H', Ex H H' → Pc cs H' → Q cs H') → t σ H Q)
    (len : ∀ cs H', Pc cs H' → cs.length = n) (hs : bs.length + n ≤ sizeLine)
    (k : ∀ (p : Addr) (cs : List V) (H1 H' : Hp), Ex H H1 → Pc cs H1 → Ex H1 H' → H' p = some (.lst (bs ++ cs)) → R (.ref p) H') : tOp rCat (tVar j) (tLst t) σ H R := by
  refine ⟨_, hv, ht _ fun cs H1 e pc => ?_⟩
  have hl := len _ _ pc
  refine ⟨by omega, fun p hp => ⟨q, p, bs, cs, rfl, rfl, ?_, upd_same, by omega, fun r hr => ?_⟩⟩
  · exact (e.trans (Ex.new hp)) _ _ hq
  · exact k r cs H1 _ e pc ((Ex.new hp).trans (Ex.new hr)) upd_same
/-! ### isinstance of an error, again and again -/
def BlL (K : PySem.W.Frag) (l : List (Addr × Obj)) (σ : St) (a C : Addr) (o : Option (List (Str × V))) (t : TA) (bs : List V) : Prop := ∀ (H : Hp) (Q : List V → Hp → Prop), Err l H a C o → Q bs H → t σ H Q
theorem bl_nil {K : PySem.W.Frag} {l : List (Addr × Obj)} {σ : St} {a C : Addr} {o : Option (List (Str × V))} : BlL K l σ a C o tNil [] := fun H Q _ q => q
theorem bl_cons {K : PySem.W.Frag} {l : List (Addr × Obj)} {σ : St} {a : Addr} {o : Option (List (Str × V))} {cs ini fs : List Str} {tp x y : Str} {i : Nat} {t : TA} {bs : List V} (E : Errs K cs tp ini fs) (hv : σ[i]? = some (some (.ref a))) (hx : x ∈ cs) (hy : y ∈ cs) (ht : y ≠ tp)
    (h : BlL K l σ a (He.ga K x) o t bs) : BlL K l σ a (He.ga K x) o (tCons (tCB (rIsE1 K l) (tCons (tVar i) (tCons (tC (.ref (He.ga K y))) tNil))) t) (.bl (decide (x = y)) :: bs) := fun H Q he q => by
  refine ⟨_, hv, a, _, o, _, _, _, rfl, he, E.err x hx, .own _, E.kit x hx y hy, ?_⟩
  rw [decide_eq_false ht, Bool.or_false]
  exact h H _ he q
theorem seq_asg {te : TE} {j : Nat} {r : TS} {D} {σ : St} {H : Hp} (h : te σ H fun v H1 => r D (σ.set j (some v)) H1) : tSeq (tAsg te (gName j)) r D σ H := h
theorem op_l {r : R2} {ta tb : TE} {σ : St} {H : Hp} {Q : VK} (h : ta σ H fun x H1 => tb σ H1 fun y H2 => r x y H2 Q) : tOp r ta tb σ H Q := h
theorem ret_l {te : TE} {D} {σ : St} {H : Hp} (h : te σ H fun v H1 => D.rt v H1) : tRet te D σ H := h
theorem nx_l {nx bk ct : St → Hp → Prop} {rt : VK} {σ : St} {H : Hp} (h : nx σ H) : tNext { nx := nx, rt := rt, bk := bk, ct := ct } σ H := h
theorem BlL.use {K : PySem.W.Frag} {l : List (Addr × Obj)} {σ : St} {a C : Addr} {o : Option (List (Str × V))} {t : TA} {H : Hp} {Q : List V → Hp → Prop} (bs : List V) (h : BlL K l σ a C o t bs) (he : Err l H a C o) (q : Q bs H) : t σ H Q := h H Q he q
theorem BlL.tlst {K : PySem.W.Frag} {l : List (Addr × Obj)} {σ : St} {a C : Addr} {o : Option (List (Str × V))} {t : TA} {H : Hp} {Q : VK} (bs : List V) (h : BlL K l σ a C o t bs) (he : Err l H a C o) (q : bs.length ≤ sizeLine ∧ ∀ p, H p = none → Q (.ref p) (upd H p (.lst bs))) : tLst t σ H Q := h H _ he q
theorem BlL.lst {K : PySem.W.Frag} {l : List (Addr × Obj)} {σ : St} {a C : Addr} {o : Option (List (Str × V))} {t : TA} {bs : List V} (h : BlL K l σ a C o t bs) {H : Hp} (he : Err l H a C o) : ∀ Q : List V → Hp → Prop, (∀ cs H', Ex H H' → cs = bs → Q cs H') → t σ H Q :=
  fun Q q => h H Q he (q bs H (Ex.refl H) rfl)
end K9

namespace K9
open PySem PySem.Spec PyProof.Rows L2 L2H HotX Evl
theorem op_isB {X : Cx} {b : Bool} : OpR X (compareOp .Is) (fun x y H Q => y = .bl b ∧ (x = .non ∨ ∃ c, x = .bl c) ∧ Q (.bl (decide (x = .bl b))) H) := by
  rintro pins s σ H x y v u Q I rx ry ⟨rfl, hx, q⟩
  obtain rfl : u = Value.bool b := ry
  rcases hx with rfl | ⟨c, rfl⟩
  · obtain rfl : v = Value.none := rx
    refine wpAny_is_plain (by cases b <;> rfl) (Q := EP X pins σ Q) ⟨_, H, I, ?_, q⟩
    cases b <;> rfl
  · obtain rfl : v = Value.bool c := rx
    refine wpAny_is_plain (by cases b <;> cases c <;> rfl) (Q := EP X pins σ Q) ⟨.bl (decide (V.bl c = .bl b)), H, I, ?_, q⟩
    cases c <;> cases b <;> rfl
/-- len of a list, a tuple, a dict -/
def rLenA (K : PySem.W.Frag) : List V → Hp → VK → Prop := fun xs H Q => (∃ p ys, xs = [.ref p] ∧ (SqL K H p ys ∨ SqT K H p ys) ∧ Q (.int ((ys.length : Nat) : Int)) H) ∨ ∃ a kvs, xs = [V.ref a] ∧ H a = some (.dK kvs) ∧ Q (.int ((kvs.length : Nat) : Int)) H
theorem call_lenA {X : Cx} : CallR X (.builtin "len") (rLenA X.K) := by
  intro pins s σ H xs us Q I r h
  rcases h with h | h
  · exact call_len_seq pins s σ H xs us Q I r h
  · exact call_lenD pins s σ H xs us Q I r h
/-! ### two values of one shape: lists, tuples, dicts of equal ones, with their weight -/
mutual
inductive Lk (H : Hp) : V → V → Nat → Prop
  | non : Lk H .non .non 1
  | bl (b : Bool) : Lk H (.bl b) (.bl b) 1
  | int (i : Int) : Lk H (.int i) (.int i) 1
  | str (z : Str) : Lk H (.str z) (.str z) 1
  | lst {a b : Addr} {vs us : List V} {n : Nat} : H a = some (.lst vs) → H b = some (.lst us) → LkL H vs us n → Lk H (.ref a) (.ref b) (n + 1)
  | tup {a b : Addr} {vs us : List V} {n : Nat} : H a = some (.tup vs) → H b = some (.tup us) → LkL H vs us n → Lk H (.ref a) (.ref b) (n + 1)
  | dic {a b : Addr} {ks ls : List (Key × V)} {n : Nat} : H a = some (.dK ks) → H b = some (.dK ls) → ks.map (·.1) = ls.map (·.1) → (ls.map (·.1)).Nodup → LkL H (ks.map (·.2)) (ls.map (·.2)) n → Lk H (.ref a) (.ref b) (n + 1)
inductive LkL (H : Hp) : List V → List V → Nat → Prop
  | nil : LkL H [] [] 0
  | cons {v u : V} {vs us : List V} {n m : Nat} : Lk H v u n → LkL H vs us m → LkL H (v :: vs) (u :: us) (n + m)
end
theorem Lk.pos {H : Hp} {v u : V} {n : Nat} (h : Lk H v u n) : 1 ≤ n := by
  cases h <;> omega
mutual
theorem Lk.ext {H H' : Hp} (e : Ex H H') {v u : V} {n : Nat} (h : Lk H v u n) : Lk H' v u n :=
  match h with
  | .non => .non
  | .bl b => .bl b
  | .int i => .int i
  | .str z => .str z
  | .lst h1 h2 h3 => .lst (e _ _ h1) (e _ _ h2) (h3.ext e)
  | .tup h1 h2 h3 => .tup (e _ _ h1) (e _ _ h2) (h3.ext e)
  | .dic h1 h2 h4 h5 h3 => .dic (e _ _ h1) (e _ _ h2) h4 h5 (h3.ext e)
theorem LkL.ext {H H' : Hp} (e : Ex H H') {vs us : List V} {n : Nat} (h : LkL H vs us n) : LkL H' vs us n :=
  match h with
  | .nil => .nil
  | .cons h1 h2 => .cons (h1.ext e) (h2.ext e)
end
theorem LkL.get {H : Hp} {vs us : List V} {n : Nat} (h : LkL H vs us n) : ∃ ns : List Nat, vs.length = us.length ∧ ns.length = us.length ∧ ns.sum = n ∧ us.length ≤ n ∧ ∀ i, i < us.length → Lk H (vs.getD i .non) (us.getD i .non) (ns.getD i 0) := by
  induction vs generalizing us n with
  | nil =>
    cases h
    exact ⟨[], rfl, rfl, rfl, Nat.le_refl _, fun i hi => absurd hi (by simp)⟩
  | cons v vs ih =>
    cases h with
    | @cons _ u _ us k m h1 h2 =>
      obtain ⟨ns, e1, e2, e3, e4, h3⟩ := ih h2
      have p := h1.pos
      refine ⟨k :: ns, by simp [e1], by simp [e2], by simp [e3], by simp; omega, fun i hi => ?_⟩
      cases i with
      | zero => exact h1
      | succ i => exact h3 i (by simpa using hi)
/-! ### the stack of pairs that are still to be compared -/
structure It4 where
  r : Addr
  v : V
  u : V
  n : Nat
def refs (st : List It4) : List V := st.map fun q => .ref q.r
def wt (st : List It4) : Nat := (st.map fun q => q.n).sum
def StOk (H0 H' : Hp) (L : Addr) (st : List It4) : Prop := ∀ q ∈ st, q.r ≠ L ∧ H' q.r = some (.tup [q.v, q.u]) ∧ Lk H0 q.v q.u q.n
theorem StOk.ext {H0 H' H2 : Hp} {L : Addr} {st : List It4} (e : ExB L H' H2) (h : StOk H0 H' L st) : StOk H0 H2 L st := fun q hq => by
  obtain ⟨h1, h2, h3⟩ := h q hq
  exact ⟨h1, e _ _ h1 h2, h3⟩
theorem StOk.app {H0 H' : Hp} {L : Addr} {st st' : List It4} (h : StOk H0 H' L st) (h' : StOk H0 H' L st') : StOk H0 H' L (st ++ st') := fun q hq => by
  rcases List.mem_append.mp hq with z | z
  · exact h q z
  · exact h' q z
theorem wt_app {st st' : List It4} : wt (st ++ st') = wt st + wt st' := by simp [wt]
theorem wt_len {H0 H' : Hp} {L : Addr} {st : List It4} (h : StOk H0 H' L st) : st.length ≤ wt st := by
  induction st with
  | nil => exact Nat.le_refl _
  | cons q r ih =>
    have h1 := (h q List.mem_cons_self).2.2.pos
    have h2 := ih fun z hz => h z (List.mem_cons_of_mem _ hz)
    simp [wt] at h2 ⊢
    omega
/-! ### dicts -/
def itemK (ls : List (Key × V)) (i : Nat) : V := (ls.map fun q => kV q.1).getD i .non
theorem itemK_at {ls : List (Key × V)} {i : Nat} {k : Key} {v : V} (h : ls[i]? = some (k, v)) : itemK ls i = kV k := by
  unfold itemK
  rw [List.getD_eq_getElem?_getD, List.getElem?_map, h]
  rfl
theorem walks_key {d : Addr} {o : Obj} {ls : List (Key × V)} {H : Hp} (h : H d = some (.frz o (.dK ls))) : Walks (Itk d o ls) ls.length (itemK ls) H := by
  refine ⟨fun i H1 e hi => ⟨e _ _ h, hi⟩, fun i H1 x H' e hi hy => ?_, fun H1 e => ⟨e _ _ h, Nat.le_refl _⟩⟩
  obtain ⟨h1, k, v, h2, h3⟩ := hy
  exact ⟨h1, by rw [h3, itemK_at h2]⟩
theorem valV_at {ks : List (Key × V)} (hd : (ks.map (·.1)).Nodup) {i : Nat} {k : Key} {v : V} (h : ks[i]? = some (k, v)) : valV ks k = some v := by
  induction ks generalizing i with
  | nil => simp at h
  | cons q r ih =>
    rw [List.map_cons, List.nodup_cons] at hd
    cases i with
    | zero =>
      simp at h
      subst h
      simp [valV]
    | succ i =>
      have h2 : r[i]? = some (k, v) := by simpa using h
      have ne : q.1 ≠ k := fun z => hd.1 (by
        rw [z]
        exact List.mem_map.mpr ⟨(k, v), List.mem_of_getElem? h2, rfl⟩)
      have := ih hd.2 h2
      unfold valV at this ⊢
      rw [List.find?_cons_of_neg (by simpa using ne)]
      exact this
/-- the i-th key of two dicts of the same keys, its value in each -/
theorem dic_at {ks ls : List (Key × V)} (hk : ks.map (·.1) = ls.map (·.1)) (hd : (ls.map (·.1)).Nodup) {i : Nat} (hi : i < ls.length) :
    ∃ k, itemK ls i = kV k ∧ valV ks k = some ((ks.map (·.2)).getD i .non) ∧ valV ls k = some ((ls.map (·.2)).getD i .non) := by
  have hl : ks.length = ls.length := by
    have := congrArg List.length hk
    simpa using this
  have hi2 : i < ks.length := by omega
  have e : ks[i].1 = ls[i].1 := by
    have h1 : (ks.map (·.1))[i]? = some ks[i].1 := by rw [List.getElem?_map, List.getElem?_eq_getElem hi2]; rfl
    have h2 : (ls.map (·.1))[i]? = some ls[i].1 := by rw [List.getElem?_map, List.getElem?_eq_getElem hi]; rfl
    rw [hk, h2] at h1
    exact (Option.some.inj h1).symm
  refine ⟨ls[i].1, itemK_at (v := ls[i].2) (by rw [List.getElem?_eq_getElem hi]), ?_, ?_⟩
  · have h := valV_at (by rw [hk]; exact hd) (i := i) (k := ks[i].1) (v := ks[i].2) (by rw [List.getElem?_eq_getElem hi2])
    rw [← e, h, List.getD_eq_getElem?_getD, List.getElem?_map, List.getElem?_eq_getElem hi2]
    rfl
  · have h := valV_at hd (i := i) (k := ls[i].1) (v := ls[i].2) (by rw [List.getElem?_eq_getElem hi])
    rw [h, List.getD_eq_getElem?_getD, List.getElem?_map, List.getElem?_eq_getElem hi]
    rfl
/-- a dict is read also where it is locked -/
theorem rd_lock {H H' : Hp} {a b : Addr} {o : Obj} {ks ls : List (Key × V)} (ha : H a = some (.dK ks)) (hb : H b = some (.dK ls)) (e : Ex (upd H b (.frz o (.dK ls))) H') : Rd H' a (.dK ks) := by
  by_cases z : a = b
  · subst z
    rw [hb] at ha
    cases ha
    exact .inr ⟨o, e _ _ upd_same⟩
  · exact .inl (e _ _ (by rw [upd_ne z]; exact ha))
theorem ex_lock {H H' : Hp} {b : Addr} {o : Obj} {u : HO} (hb : H b = some u) (e : Ex (upd H b (.frz o u)) H') : Ex H (upd H' b u) := fun a w h => by
  by_cases z : a = b
  · subst z
    rw [hb] at h
    cases h
    exact upd_same
  · rw [upd_ne z]
    exact e _ _ (by rw [upd_ne z]; exact h)
/-! ### the pairs that a list comprehension makes -/
def Made (H0 : Hp) (L : Addr) (vs us : List V) (ns : List Nat) (D : Addr) (j : Nat) (acc : List V) (H' : Hp) : Prop :=
  ∃ its : List It4, acc = refs its ∧ its.map (·.n) = (List.range j).map (fun i => ns.getD i 0) ∧ ∀ q ∈ its, q.r ≠ D ∧ q.r ≠ L ∧ H' q.r = some (.tup [q.v, q.u]) ∧ Lk H0 q.v q.u q.n
theorem Made.nil {H0 : Hp} {L : Addr} {vs us : List V} {ns : List Nat} {D : Addr} {H' : Hp} : Made H0 L vs us ns D 0 [] H' := ⟨[], rfl, rfl, fun q hq => absurd hq (by simp)⟩
theorem Made.mono {H0 : Hp} {L : Addr} {vs us : List V} {ns : List Nat} {D : Addr} {j : Nat} {acc : List V} {H1 H2 : Hp} (e : ExB D H1 H2) (h : Made H0 L vs us ns D j acc H1) : Made H0 L vs us ns D j acc H2 := by
  obtain ⟨its, h1, h2, h3⟩ := h
  refine ⟨its, h1, h2, fun q hq => ?_⟩
  obtain ⟨a, b, c, d⟩ := h3 q hq
  exact ⟨a, b, e _ _ a c, d⟩
theorem Made.next {H0 : Hp} {L : Addr} {vs us : List V} {ns : List Nat} {D : Addr} {j : Nat} {acc : List V} {H1 : Hp} {t : Addr} {o oL : HO} (h : Made H0 L vs us ns D j acc H1) (ht : H1 t = none) (hD : H1 D = some o) (hL : H1 L = some oL)
    (lk : Lk H0 (vs.getD j .non) (us.getD j .non) (ns.getD j 0)) : Made H0 L vs us ns D (j + 1) (acc ++ [.ref t]) (upd H1 t (.tup [vs.getD j .non, us.getD j .non])) := by
  obtain ⟨its, rfl, h2, h3⟩ := h
  refine ⟨its ++ [⟨t, vs.getD j .non, us.getD j .non, ns.getD j 0⟩], by simp [refs], by rw [List.range_succ]; simp [h2], fun q hq => ?_⟩
  rcases List.mem_append.mp hq with z | z
  · obtain ⟨a, b, c, d⟩ := h3 q z
    exact ⟨a, b, by rw [upd_ne (ne_of_none c ht)]; exact c, d⟩
  · obtain rfl := List.mem_singleton.mp z
    exact ⟨(ne_of_none hD ht).symm, (ne_of_none hL ht).symm, upd_same, lk⟩
theorem Made.wt {H0 : Hp} {L : Addr} {vs us : List V} {ns : List Nat} {D : Addr} {acc : List V} {H1 : Hp} (h : Made H0 L vs us ns D ns.length acc H1) : ∃ its : List It4, acc = refs its ∧ K9.wt its = ns.sum ∧ StOk H0 H1 L its := by
  obtain ⟨its, h1, h2, h3⟩ := h
  refine ⟨its, h1, ?_, fun q hq => (h3 q hq).2⟩
  unfold K9.wt
  rw [h2]
  congr 1
  refine List.ext_getElem (by simp) fun i h4 h5 => ?_
  simp [List.getD_eq_getElem?_getD, List.getElem?_eq_getElem h5]
theorem cons_l {te : TE} {t : TA} {σ : L2.St} {H : Hp} {Q : List V → Hp → Prop} (h : te σ H fun x H1 => t σ H1 fun xs H2 => Q (x :: xs) H2) : tCons te t σ H Q := h
theorem getD_at {vs : List V} {j : Nat} (h : j < vs.length) : vs[j]? = some (vs.getD j .non) := by
  rw [List.getD_eq_getElem?_getD, List.getElem?_eq_getElem h]
  rfl
theorem ite0 {c : Prop} [Decidable c] {A B : Prop} (h : ¬ c) (b : B) : if c then A else B := by
  rw [if_neg h]
  exact b
theorem ite1 {c : Prop} [Decidable c] {A B : Prop} (h : c) (b : A) : if c then A else B := by
  rw [if_pos h]
  exact b
end K9

namespace K9
open PySem PySem.Spec PyProof.Rows L2 L2H HotX Evl
/-! ### isinstance of an error or of another value -/
def rIsA (K : PySem.W.Frag) (l : List (Addr × Obj)) : List V → Hp → VK → Prop := fun xs H Q => rIsE1 K l xs H Q ∨ rIsi K xs H Q
theorem call_isA {X : Cx} : CallR X (.builtin "isinstance") (rIsA X.K X.pn) := by
  intro pins s σ H xs us Q I r h
  rcases h with h | h
  · exact call_isE1 pins s σ H xs us Q I r h
  · exact call_isi pins s σ H xs us Q I r h
theorem kit_ty {K : PySem.W.Frag} {C : Addr} {T : String} (E : ErrC K C) (h : PySem.W.subIn K (.type T) (.ref C) = some false) : PySem.W.kitOne K (.type T) (.ref C) = some false := by
  unfold PySem.W.kitOne PySem.W.kitCls
  rw [if_neg (by
    intro z
    have := eq_of_beq z
    cases this)]
  simp only [E.cl, E.ox.tyC, beq_self_eq_true, Bool.and_self, if_true]
  exact h
theorem Lk.ty1 {K : PySem.W.Frag} {H : Hp} {v u : V} {n : Nat} (h : Lk H v u n) (C : Addr) : ∃ T, TyX K H v (.type T) ∧ PySem.W.subIn K (.type T) (.ref C) = some false := by
  cases h with
  | non => exact ⟨_, .base .non, rfl⟩
  | bl b => exact ⟨_, .base (.bl _), rfl⟩
  | int i => exact ⟨_, .base (.int _), rfl⟩
  | str z => exact ⟨_, .base (.str _), rfl⟩
  | lst ha hb _ => exact ⟨_, .base (.lst ha), rfl⟩
  | tup ha hb _ => exact ⟨_, .base (.tup ha), rfl⟩
  | dic ha hb _ _ _ => exact ⟨_, .base (.dK ha), rfl⟩
theorem Lk.ty2 {K : PySem.W.Frag} {H : Hp} {v u : V} {n : Nat} (h : Lk H v u n) (C : Addr) : ∃ T, TyX K H u (.type T) ∧ PySem.W.subIn K (.type T) (.ref C) = some false := by
  cases h with
  | non => exact ⟨_, .base .non, rfl⟩
  | bl b => exact ⟨_, .base (.bl _), rfl⟩
  | int i => exact ⟨_, .base (.int _), rfl⟩
  | str z => exact ⟨_, .base (.str _), rfl⟩
  | lst ha hb _ => exact ⟨_, .base (.lst hb), rfl⟩
  | tup ha hb _ => exact ⟨_, .base (.tup hb), rfl⟩
  | dic ha hb _ _ _ => exact ⟨_, .base (.dK hb), rfl⟩
/-! ### what more pins change: nothing -/
theorem Err.more {l : List (Addr × Obj)} {H : Hp} {a C : Addr} {o : Option (List (Str × V))} (h : Err [] H a C o) : Err l H a C o := by
  have t : ∀ d, EAt [] H a C d → EAt l H a C d := fun d h => by
    rcases h with h | ⟨oe, hp, _⟩
    · exact .inl h
    · cases hp
  cases o with
  | none => exact t _ h
  | some fs =>
    obtain ⟨d, h1, h2⟩ := h
    exact ⟨d, t _ h1, h2⟩
/-! ### a list of four numbers that changes to another one -/
def Four (H : Hp) (b : Addr) : Prop := ∃ (g m c : Int) (w : Bool), H b = some (.lst [.int g, .bl w, .int m, .int c])
theorem same_at {H : Hp} {a1 a2 : Addr} {o1 o2 : HO} (hv : V.ref a1 = V.ref a2) (ha : H a1 = some o1) (hb : H a2 = some o2) : o1 = o2 := by
  cases hv
  rw [ha] at hb
  exact Option.some.inj hb
theorem four_n {g m c : Int} {w : Bool} {H : Hp} {n : Nat} {us : List V} (hs : LkL H [.int g, .bl w, .int m, .int c] us n) : n = 1 + (1 + (1 + (1 + 0))) := by
  cases hs with
  | cons h hs => cases h with
    | int => cases hs with
      | cons h hs => cases h with
        | bl => cases hs with
          | cons h hs => cases h with
            | int => cases hs with
              | cons h hs => cases h with
                | int => cases hs with
                  | nil => rfl
theorem four_lst {H H' : Hp} {b : Addr} (e : ExB b H H') (h0 : Four H b) (h1 : Four H' b) {a1 a2 : Addr} {vs us : List V} {n : Nat} (hv : V.ref a1 = V.ref a2) (ha : H a1 = some (.lst vs)) (hb : H a2 = some (.lst us)) (hs : LkL H vs us n) (ih : LkL H' vs us n) : Lk H' (.ref a1) (.ref a2) (n + 1) := by
  cases hv
  by_cases z : a1 = b
  · subst z
    obtain ⟨g, m, c, w, x⟩ := h0
    obtain ⟨g', m', c', w', x'⟩ := h1
    rw [x] at ha
    cases ha
    rw [four_n hs]
    exact .lst x' x' (.cons (.int _) (.cons (.bl _) (.cons (.int _) (.cons (.int _) .nil))))
  · exact .lst (e _ _ z ha) (e _ _ z hb) ih
theorem not_four {H : Hp} {a b : Addr} {o : HO} (h0 : Four H b) (ha : H a = some o) (no : ∀ vs, o ≠ .lst vs) : a ≠ b := fun z => by
  obtain ⟨g, m, c, w, x⟩ := h0
  rw [z, x] at ha
  exact no _ (Option.some.inj ha).symm
mutual
theorem Lk.four {H H' : Hp} {b : Addr} (e : ExB b H H') (h0 : Four H b) (h1 : Four H' b) {v u : V} {n : Nat} (h : Lk H v u n) (hv : v = u) : Lk H' v u n :=
  match h with
  | .non => .non
  | .bl b => .bl b
  | .int i => .int i
  | .str z => .str z
  | .lst ha hb hs => four_lst e h0 h1 hv ha hb hs (hs.four e h0 h1 (HO.lst.inj (same_at hv ha hb)))
  | .tup ha hb hs => .tup (e _ _ (not_four h0 ha fun _ => nofun) ha) (e _ _ (not_four h0 hb fun _ => nofun) hb) (hs.four e h0 h1 (HO.tup.inj (same_at hv ha hb)))
  | .dic ha hb hk hd hs => .dic (e _ _ (not_four h0 ha fun _ => nofun) ha) (e _ _ (not_four h0 hb fun _ => nofun) hb) hk hd (hs.four e h0 h1 (congrArg (List.map (·.2)) (HO.dK.inj (same_at hv ha hb))))
theorem LkL.four {H H' : Hp} {b : Addr} (e : ExB b H H') (h0 : Four H b) (h1 : Four H' b) {vs us : List V} {n : Nat} (h : LkL H vs us n) (hv : vs = us) : LkL H' vs us n :=
  match h with
  | .nil => .nil
  | .cons h2 h3 => .cons (h2.four e h0 h1 (List.cons.inj hv).1) (h3.four e h0 h1 (List.cons.inj hv).2)
end
theorem Err.four {l : List (Addr × Obj)} {H H' : Hp} {b a C : Addr} {o : Option (List (Str × V))} (e : ExB b H H') (h0 : Four H b) (h : Err l H a C o) : Err l H' a C o := by
  obtain ⟨g, m, c, w, x⟩ := h0
  have t : ∀ d, EAt l H a C d → EAt l H' a C d := fun d h => by
    rcases h with h | h
    · refine .inl (e _ _ (fun z => ?_) h)
      rw [z, x] at h
      cases h
    · exact .inr h
  cases o with
  | none => exact t _ h
  | some fs =>
    obtain ⟨d, h1, h2⟩ := h
    refine ⟨d, t _ h1, ?_⟩
    rcases h2 with h2 | h2
    · refine .inl (e _ _ (fun z => ?_) h2)
      rw [z, x] at h2
      cases h2
    · refine .inr (e _ _ (fun z => ?_) h2)
      rw [z, x] at h2
      cases h2
end K9

namespace K9
open PySem PySem.Spec PyProof.Rows L2 L2H HotX Evl
/-! ### a for loop, by an invariant -/
theorem for_by {wi : TI} {i : Nat} {tb : TS} {D} {σ : L2.St} {H : Hp} {J : It} {n : Nat} {item : Nat → V} (P : Nat → L2.St → Hp → Prop) (hw : ∀ R : It → Hp → Prop, R J H → wi σ H R) (wk : Walks J n item H) (h0 : P 0 σ H)
    (step : ∀ (j : Nat) (σ1 : L2.St) (H1 : Hp) (N : L2.St → Hp → Prop), j < n → Ex H H1 → P j σ1 H1 → (∀ σ2 H2, Ex H1 H2 → P (j + 1) σ2 H2 → N σ2 H2) → tb { nx := N, rt := D.rt, bk := D.nx, ct := N } (σ1.set i (some (item j))) H1)
    (fin : ∀ σ1 H1, Ex H H1 → P n σ1 H1 → D.nx σ1 H1) : tFor wi (gName i) tb D σ H := by
  refine hw _ ⟨fun j m σ1 H1 => m = n - j ∧ j ≤ n ∧ Ex H H1 ∧ P j σ1 H1, ⟨n - 0, rfl, Nat.zero_le _, Ex.refl H, h0⟩, ?_⟩
  rintro j m σ1 H1 ⟨rfl, hj, e, hp⟩
  by_cases hjn : j = n
  · subst hjn
    exact .inl ⟨wk.stop H1 e, fin σ1 H1 e hp⟩
  · have hj2 : j < n := by omega
    refine .inr ⟨wk.go j H1 e hj2, fun σ' H' => n - (j + 1) < n - j ∧ j + 1 ≤ n ∧ Ex H H' ∧ P (j + 1) σ' H', ?_, ?_⟩
    · rintro σ' H' ⟨h1, h2, h3⟩
      exact ⟨n - (j + 1), h1, rfl, h2, h3⟩
    · intro x H' hy
      obtain ⟨rfl, rfl⟩ := wk.yld j H1 x H' e hj2 hy
      exact step j σ1 H' _ hj2 e hp fun σ2 H2 e2 p2 => ⟨by omega, by omega, e.trans e2, p2⟩
theorem paired_get {α β : Type} {R : α → β → Prop} {xs : List α} {ys : List β} (h : Paired R xs ys) {j : Nat} {y : β} (e : ys[j]? = some y) : ∃ x, xs[j]? = some x ∧ R x y := by
  induction h generalizing j with
  | nil => simp at e
  | cons r _ ih =>
    cases j with
    | zero =>
      simp at e
      subst e
      exact ⟨_, rfl, r⟩
    | succ j =>
      simp at e
      obtain ⟨x, h1, h2⟩ := ih e
      exact ⟨x, by simpa using h1, h2⟩
theorem ErrsAt.get {K : PySem.W.Frag} {l : List (Addr × Obj)} {H : Hp} {rs : List V} {qs : List (Str × List (Str × V))} (h : ErrsAt K l H rs qs) {j : Nat} {q : Str × List (Str × V)} (e : qs[j]? = some q) : ∃ a, rs[j]? = some (.ref a) ∧ Err l H a (He.ga K q.1) (some q.2) := by
  obtain ⟨x, h1, a, rfl, h2⟩ := paired_get h e
  exact ⟨a, h1, h2⟩
theorem nx_p {nx bk ct : L2.St → Hp → Prop} {rt : VK} {σ : L2.St} {H : Hp} (h : nx σ H) : ({ nx := nx, rt := rt, bk := bk, ct := ct } : Ends).nx σ H := h
theorem ifs_op {r : R2} {ta tb : TE} {t u : TS} {D : Ends} {σ : L2.St} {H : Hp} (h : ta σ H fun x H1 => tb σ H1 fun y H2 => r x y H2 fun z H3 => ∃ c, z = .bl c ∧ if c = true then t D σ H3 else u D σ H3) : tIfS (tTest (tOp r ta tb)) t u D σ H := h
/-! ### the suite of an except: whatever object was caught -/
theorem suite_all {X : Cx} {a : Addr} {cls : Value} {d : Option Addr} {b : List Stmt} {t : Obj → List (Addr × Obj) → TS} (h : ∀ (oe : Obj) (pn : List (Addr × Obj)), L2N.Zn cls d oe → (∃ vs, oe.data = .fields vs) → PSs (X.suite a ((a, oe) :: pn)) b (t oe pn))
    (oe : Obj) (pn : List (Addr × Obj)) (hz : L2N.Zn cls d oe) (hf : ∃ vs, oe.data = .fields vs) : PSs (X.suite a ((a, oe) :: pn)) b (fun D σ H => ∀ (oe : Obj) (pn : List (Addr × Obj)), L2N.Zn cls d oe → (∃ vs, oe.data = .fields vs) → t oe pn D σ H) :=
  ⟨fun pins s σ H D I g => (h oe pn hz hf).run pins s σ H D I (g oe pn hz hf)⟩
theorem markR {k : Nat} {A : Around} {o : Option Value} (hr : Room k A) : RoomH k (A.mark o) := ⟨hr.dp, hr.un⟩
theorem takes_never {X : Cx} : L2N.Takes X (fun _ _ _ _ => False) := fun u s' ⟨_, _, _, _, _, _, _, _, _, _, _, _, _, _, _, _, h⟩ => h.elim
/-- the caught error, with its fields -/
theorem caught_err {H : Hp} {a C d : Addr} {oe : Obj} {fs : List (Str × V)} (hz : L2N.Zn (.ref C) (some d) oe) (hf : ∃ vs, oe.data = .fields vs) (h : H d = some (.xd fs)) : Err [(a, oe)] H a C (some fs) :=
  ⟨d, .inr ⟨oe, List.mem_singleton.mpr rfl, ⟨hz.1, hz.2.1⟩, hf⟩, .inr h⟩
theorem caught_err0 {H : Hp} {a C : Addr} {oe : Obj} (hz : L2N.Zn (.ref C) none oe) (hf : ∃ vs, oe.data = .fields vs) : Err [(a, oe)] H a C none :=
  .inr ⟨oe, List.mem_singleton.mpr rfl, ⟨hz.1, hz.2.1⟩, hf⟩
section
variable {X : Cx} {W : WX} {n : Nat} {ns ks : List Str} {ix : List Nat} {ways : List (Nat × List Str × List Nat)} {x : Str} {p pos pos2 : Pos} {e : Expr} {es : List Expr} {kws : List Keyword} {t tk : TA}
theorem ps_raise_iniK {K0 : PySem.W.Frag} (hw : L2N.Takes X W) (hK : X.K = K0) (i : Ini X.prog X.w X.K X.mg X.base x ns ways) (hq : (n + 1, ks, ix) ∈ ways) (hr : RoomH 2 X.A) (hc : X.calm = true) (hg : Gl X x) (ha : PA X (e :: es) t) (hkw : PK X kws tk) (hn : n ≤ 1000 := by decide)
    (hall : (backToKw pos (keywordEach kws X.env)).all (·.1.isSome) = true := by rfl) (hks : (backToKw pos (keywordEach kws X.env)).filterMap (·.1) = ks := by rfl)
    (hdb : (x == ("__debug__" : Str)) = false := by decide) (he : starEach (e :: es) X.env = (false, eval e X.env) :: starEach es X.env := by rfl)
    (hpl : ((backTo pos (starEach (e :: es) X.env)).any (·.1) || (backToKw pos (keywordEach kws X.env)).any (·.1.isNone)) = false := by rfl) :
    PS X (.Raise (some (.Call (.Name x p) (e :: es) kws pos)) none pos2) (fun _ σ H => tMkE (He.ga K0 x) n ks.length ns (gPV ix) t tk σ H fun cls d H' => W cls d σ H') := by
  subst hK
  exact L2N.ps_raise hc hw (pmk_iniK i hq hr hc hg ha hkw hn hall hks hdb he hpl)
theorem ps_raise_ini0 {K0 : PySem.W.Frag} (hw : L2N.Takes X W) (hK : X.K = K0) (i : Ini X.prog X.w X.K X.mg X.base x ns ways) (hq : (1, ks, ix) ∈ ways) (hr : RoomH 2 X.A) (hc : X.calm = true) (hg : Gl X x) (hkw : PK X kws tk)
    (hall : (backToKw pos (keywordEach kws X.env)).all (·.1.isSome) = true := by rfl) (hks : (backToKw pos (keywordEach kws X.env)).filterMap (·.1) = ks := by rfl)
    (hdb : (x == ("__debug__" : Str)) = false := by decide)
    (hpl : ((backTo pos (starEach [] X.env)).any (·.1) || (backToKw pos (keywordEach kws X.env)).any (·.1.isNone)) = false := by rfl) :
    PS X (.Raise (some (.Call (.Name x p) [] kws pos)) none pos2) (fun _ σ H => tMkE (He.ga K0 x) 0 ks.length ns (gPV ix) tNil tk σ H fun cls d H' => W cls d σ H') := by
  subst hK
  exact L2N.ps_raise hc hw (pmk_ini0 i hq hr hc hg hkw hall hks hdb hpl)
theorem ps_raise_X {bmB : List Value} {B newId initId : String} {C : Addr} (hw : L2N.Takes X W) (hc : X.calm = true) (F : ExcBaseFacts B newId initId bmB) (q : PySem.W.excIn X.K C bmB newId = true) (gC : X.mg x = some (.ref C)) (kC : PySem.W.keepIn X.K (.ref C) = true) (r : Raises X (.ref C)) (hg : Gl X x)
    (hdb : (x == ("__debug__" : Str)) = false := by decide) : PS X (.Raise (some (.Call (.Name x p) [] [] pos)) none pos2) (fun _ σ H => W (.ref C) none σ H) :=
  L2N.ps_raise hc hw (pmk_X F q gC kC r hg hdb)
end
/-- a try statement's body, its suite -/
def tryBody (b : List Stmt) (i : Nat) : List Stmt := match b[i]? with
  | some (.Try body _ _ _ _) => body
  | _ => []
def trySuite (b : List Stmt) (i : Nat) : List Stmt := match b[i]? with
  | some (.Try _ [.ExceptHandler _ _ s _] _ _ _) => s
  | _ => []
end K9

namespace K9
open PySem PySem.Spec PyProof.Rows L2 L2H HotX Evl
/-! ### tables of code objects: tracked, whatever they hold -/
def TabF (P : Addr) (h : Heap) : Prop := ∃ ps : Array Value, h.get? P = some { cls := .none, data := .fields ps } ∧ TriplesOk ps.toList
def TabX (H : Hp) (P : Addr) : Prop := H P = some (.ext (TabF P))
theorem TabX.ext {H H' : Hp} {P : Addr} (e : Ex H H') (h : TabX H P) : TabX H' P := e _ _ h
theorem tabF_ok {Pg : Program} {w : World} {H : Hp} {h : Heap} {P : Addr} (x : TabF P h) : ObjOk Pg w H h P (.ext (TabF P)) := by
  refine ⟨x, ?_, fun h1 h2 ⟨ps, e, t⟩ k => ⟨ps, k _ e, t⟩⟩
  obtain ⟨ps, e, _⟩ := x
  exact ⟨_, e⟩
/-- the running def's code object at c, its table at P -/
structure TabK (base : Heap) (mg : Str → Option Value) (c P : Addr) : Prop where
  code : PySem.W.CodeHd base c P
  bm : ∃ (bm : Addr) (ob : Obj), mg "__builtins__" = some (.ref bm) ∧ bm ≠ builtinsNs ∧ base.get? bm = some ob ∧ ob.cls = .type "module" ∧ ob.dict = some builtinsNs ∧ ob.data = .plain
section
variable {X : Cx} {pins : List (Addr × Obj)} {σ : L2.St} {H : Hp} {s : Shared}
theorem inv_same {s' : Shared} (I : Inv X pins σ H s) (hh : s'.heap = s.heap) (ho : s'.os = s.os) (hg : AllBare s'.gens) : Inv X pins σ H s' := by
  obtain ⟨h', g', d', t', o'⟩ := s'
  have hh : h' = s.heap := hh
  have ho : o' = s.os := ho
  subst hh ho
  exact ⟨I.ok, I.os, hg, I.base, I.loc, I.cell, I.free, I.freeC, I.pin, I.hok, I.len⟩
/-- the table has grown; what stood is kept -/
theorem inv_tabX {P : Addr} {h' : Heap} {t' : Nat} (I : Inv X pins σ H s) (hP : TabX H P) (k : ∀ b o, b ≠ P → s.heap.get? b = some o → h'.get? b = some o) (hm : TabF P h') :
    Inv X pins σ H { s with heap := h', toks := t' } := by
  have nN : ∀ b, H b = none → b ≠ P := fun b e z => by
    rw [z, hP] at e
    cases e
  have nP : ∀ b u, H b = some u → u ≠ .ext (TabF P) → b ≠ P := fun b u e q z => by
    rw [z, hP] at e
    exact q (Option.some.inj e).symm
  refine I.step (g' := s.gens) (d' := s.drawn) (ch := []) (fun b hb => absurd hb (by simp)) (fun b o _ _ _ e n => k b o (nN b n) e) (fun b o _ _ _ e n => ⟨o.slots, k b o (nN b n) e⟩)
    (fun b o _ e n => n) (fun b o _ e => ?_) (fun b xs e => e) (fun b o u e => e) (fun b qs e => ⟨#[], by rw [e]; simp⟩) (fun m hn => ?_) (fun b u e => ?_) I.bare
  · by_cases hb : b = P
    · rw [hb]
      obtain ⟨ps, z, _⟩ := hm
      exact ⟨_, z⟩
    · exact ⟨o, k b o hb e⟩
  · obtain ⟨ob, es, ep, ho, r⟩ := hn
    exact ⟨ob, es, ep, k _ ob (nN _ I.free) ho, r⟩
  · by_cases hb2 : b = P
    · rw [hb2, hP] at e
      cases e
      rw [hb2]
      exact tabF_ok hm
    · refine (I.hok b u e).stay (fun d v hd q => k d v ?_ q) (fun d q => q) fun d xs q => q
      rcases hd with z | z
      · rw [z]
        exact hb2
      · exact nP d _ z (by intro z; cases z)
end
/-! ### a generator expression: its frame's context -/
/-- the context of a generator's frame, made at s, its iterator's objects at fp, pinned: the generator's own object -/
abbrev gX (X : Cx) (A : Around) (s : Shared) (H : Hp) (scope : Scope) (C : Addr) (code : Value) (fp : List Addr) (pn : List (Addr × Obj)) : Cx :=
  { X with A := A, s_0 := s, H_0 := H, env := genEnv scope (cloFrom X.env.cells scope.names []) C code builtinsNs X.env, outer := X.stack, stack := genEnv scope (cloFrom X.env.cells scope.names []) C code builtinsNs X.env :: X.stack, ex := fp, fn := fun _ => false, calm := true, pn := pn, xe := fun _ _ => False }
section
variable {X : Cx} {pins : List (Addr × Obj)} {σ : L2.St} {H : Hp} {s s' : Shared}
theorem gen_start {scope : Scope} {own : List (Str × Nat)} {fp : List Addr} {A : Around} {C a : Addr} {code : Value} {go : Obj} {m : Str → Option Value} (I : Inv X pins σ H s) (ok : BlkOk X.N X.env.scope scope own) (hcell : ∀ y ∈ scope.names, y.2 ≠ .cell)
    (hN : X.N.Nodup) (hfp : ∀ b ∈ fp, FpOk X pins H b ∧ b < s.heap.objs.size) (kp : ∀ b o, s.heap.get? b = some o → s'.heap.get? b = some o) (hC : s.heap.objs.size ≤ C) (hns : s'.heap.Ns C m)
    (hfr : A.frames = some (genEnv scope (cloFrom X.env.cells scope.names []) C code builtinsNs X.env :: X.stack)) (hh : A.handled = none) (hos : s'.os = s.os) (hg : AllBare s'.gens)
    (ha : s'.heap.get? a = some go) (haz : s.heap.objs.size ≤ a) (haC : a ≠ C) (hgo : ∀ v, go.data ≠ .cell v) :
    Inv (gX X A s H scope C code fp [(a, go)]) [] (wipe σ (own.map (·.2))) H s' := by
  have hfree : ∀ y ∈ scope.names, y.2 = .free → ∃ c, X.env.cells.lookup y.1 = some c := fun y hy e => by
    rcases ok.free y hy e with k | k
    · exact I.ok.has _ (.inl k)
    · exact I.ok.has _ (.inr k)
  generalize hcenv : genEnv scope (cloFrom X.env.cells scope.names []) C code builtinsNs X.env = cenv at hfr
  have hL : cenv.locals = C := by rw [← hcenv]; rfl
  have hcl : cenv.cells = cloFrom X.env.cells scope.names [] := by rw [← hcenv]; rfl
  have hsc : cenv.scope = scope := by rw [← hcenv]; rfl
  have cm : ∀ {y c}, cenv.cells.lookup y = some c → X.env.cells.lookup y = some c ∧ c < s.heap.objs.size := fun {y c} hm => by
    rw [hcl] at hm
    rcases cloFrom_mem (PySem.mem_of_lookup hm) with hm | ⟨h1, rfl⟩
    · cases hm
    · obtain ⟨c, hc⟩ := hfree _ h1 rfl
      rw [hc]
      obtain ⟨w, z⟩ := I.cell _ _ hc
      exact ⟨rfl, z.lt⟩
  have look : ∀ {y}, scope.names.lookup y = some .free → ∃ c, cenv.cells.lookup y = some c ∧ X.env.cells.lookup y = some c := fun {y} hl => by
    have hy : (y, NameKind.free) ∈ scope.names := PySem.mem_of_lookup hl
    obtain ⟨c', e'⟩ := mem_lookup (cloFrom_has (cells := X.env.cells) (acc := []) hy)
    rw [← hcl] at e'
    exact ⟨c', e', (cm e').1⟩
  have old : ∀ {b : Addr}, s.heap.objs.size ≤ b → b ∉ frs X.stack := fun {b} hb z => by
    rcases List.mem_cons.mp (I.stkSub b z) with z | z
    · exact Nat.ne_of_gt (Nat.lt_of_lt_of_le I.lt hb) z
    · exact I.nofs hb z
  have okB : (gX X A s H scope C code fp [(a, go)]).Ok := by
    refine ⟨I.ok.mod, ok.kind, I.ok.glob, rfl, hC, fun y z c e1 e2 => ?_, fun y hy => ?_, fun y c z e => absurd (show (false : Bool) = true from z) (by decide), fun _ => hh, by show A.frames = some (genEnv scope (cloFrom X.env.cells scope.names []) C code builtinsNs X.env :: X.stack); rw [hcenv]; exact hfr, .inr ⟨rfl, rfl⟩, fun b hb => ⟨?_, fun y c e z => ?_⟩, I.bs, Nat.le_trans I.ok.bsz I.sz, fun b o e hb => ?_, fun b hb z => ?_, I.stack, I.stkFree⟩
    · have e1 : (genEnv scope (cloFrom X.env.cells scope.names []) C code builtinsNs X.env).cells.lookup y = some c := e1
      have e2 : (genEnv scope (cloFrom X.env.cells scope.names []) C code builtinsNs X.env).cells.lookup z = some c := e2
      rw [hcenv] at e1 e2
      exact I.ok.inj y z c (cm e1).1 (cm e2).1
    · show ∃ c, (genEnv scope (cloFrom X.env.cells scope.names []) C code builtinsNs X.env).cells.lookup y = some c
      rw [hcenv]
      rcases hy with hy | hy
      · have hy : scope.names.lookup y = some .cell := hy
        exact absurd rfl (hcell _ (PySem.mem_of_lookup hy))
      · have hy : scope.names.lookup y = some .free := hy
        obtain ⟨c, h1, _⟩ := look hy
        exact ⟨c, h1⟩
    · exact Nat.ne_of_lt (Nat.lt_of_lt_of_le (hfp b hb).2 hC)
    · have e : (genEnv scope (cloFrom X.env.cells scope.names []) C code builtinsNs X.env).cells.lookup y = some c := e
      rw [hcenv] at e
      exact (hfp b hb).1.2.2.2.2.1 y c (cm e).1 z
    · rcases (hfp b hb).1.2.2.2.1 with z | z
      · exact I.ok.noex b o e z
      · exact absurd (Nat.lt_of_lt_of_le (Heap.lt_size e) (Nat.le_trans I.ok.bsz z)) (Nat.lt_irrefl _)
    · rcases List.mem_cons.mp (I.stkSub b z) with z | z
      · exact (hfp b hb).1.2.1 z
      · exact (hfp b hb).1.2.2.1 z
  refine ⟨okB, hos, hg, Un.kept kp, ⟨m, hns, fun i y av e1 e2 e3 => ?_⟩, fun y c e => ?_, I.hok.fresh hC, fun y c e => ?_, fun p hp => ?_, I.hok.kept kp, by rw [wipe_length]; exact I.len⟩
  · obtain ⟨e2, hne⟩ := wipe_some e2
    have hfr : scope.names.lookup y = some .free := by
      have no : ∀ k, scope.names.lookup y = some k → ¬ (k = .local ∨ k = .cell) := fun k e hk => by
        rcases ok.own _ (PySem.mem_of_lookup e) hk with e' | e'
        · obtain ⟨p, hp, hpy⟩ := List.mem_map.mp e'
          have e3 := ok.ix p hp
          have : p.1 = y := hpy
          rw [this] at e3
          exact hne (List.mem_map.mpr ⟨p, hp, nodup_ix hN e3 e1⟩)
        · exact e' (List.mem_of_getElem? e1)
      have e3 : Vis scope y := e3
      rcases e3 with e3 | e3 | e3
      · exact absurd (.inl rfl) (no _ e3)
      · exact absurd (.inr rfl) (no _ e3)
      · exact e3
    obtain ⟨m0, hn, hl⟩ := I.loc
    have hvis : Vis X.env.scope y := (ok.free _ (PySem.mem_of_lookup hfr) rfl).elim (fun k => .inr (.inl k)) (fun k => .inr (.inr k))
    obtain ⟨w, r, q⟩ := hl i y av e1 e2 hvis
    refine ⟨w, r, .inr ⟨.inr hfr, ?_⟩⟩
    obtain ⟨c, h1, h2⟩ := look hfr
    rw [← hcenv] at h1
    rcases q with ⟨k, _⟩ | ⟨_, c', e', z⟩
    · have k : X.env.scope.names.lookup y = some .local := k
      rcases ok.free _ (PySem.mem_of_lookup hfr) rfl with k' | k' <;> rw [show X.env.scope.names.lookup y = _ from k'] at k <;> cases k
    · rw [h2] at e'; cases e'
      exact ⟨c, h1, z.keeps kp⟩
  · have e : (genEnv scope (cloFrom X.env.cells scope.names []) C code builtinsNs X.env).cells.lookup y = some c := e
    rw [hcenv] at e
    obtain ⟨w, z⟩ := I.cell y c (cm e).1
    exact ⟨w, z.keeps kp⟩
  · have e : (genEnv scope (cloFrom X.env.cells scope.names []) C code builtinsNs X.env).cells.lookup y = some c := e
    rw [hcenv] at e
    exact I.freeC y c (cm e).1
  · obtain rfl : p = (a, go) := by simpa using hp
    exact ⟨ha, I.hok.fresh haz, haC, old haz, hgo⟩
end
end K9

namespace PySem
theorem compTurn_genD (elt target iter : Expr) (scope : Scope) (pos : Pos) (it acc : Value) (env : Env) :
    compTurn (.GeneratorExp elt [⟨target, iter, [], 0⟩] scope pos) 0 it acc env = (do
      standAt iter.pos
      match ← pyNext it with
      | none => pure (.done .next)
      | some v =>
        letOwnedTupleGo target it v
        assign target env v
        (do let v ← eval elt env; standAt elt.pos; let _ ← yieldOut env v)
        again (.compLoop (.GeneratorExp elt [⟨target, iter, [], 0⟩] scope pos) 0 it acc env)) := by rfl
end PySem
namespace K9
open PySem PySem.Spec PyProof.Rows L2 L2H HotX Evl
/-- what stands between two draws -/
def Alive (a : Addr) (gn : Nat) (s : Shared) : Prop := s.heap.IsGen a gn ∧ s.heap.NoLimit ∧ AllBare s.gens
abbrev GEnd (X : Cx) (pins : List (Addr × Obj)) (σ : L2.St) (Q : VK) (z : Bool) : GenEnd := fun n s₀ r s₁ => r = .ok .next ∧ (fun (_ : Nat) (_ : Shared) (s₁ : Shared) => ∃ H', Inv X pins σ H' s₁ ∧ Q (.bl (!z)) H') n s₀ s₁
def GPro (X : Cx) (pins : List (Addr × Obj)) (σ : L2.St) (Q : VK) (z : Bool) (a : Addr) (gn : Nat) : Protocol := fun _ _ v s kap =>
  ∃ b, v = .bool b ∧ Alive a gn s ∧ s.os = X.s_0.os ∧ if b = z then ∃ H', Inv X pins σ H' s ∧ Q (.bl z) H' else ∀ s'', s''.heap = s.heap → s''.os = s.os → AllBare s''.gens → kap (.send .none) s''
/-- all, any (z: what ends it early) of a generator's items -/
def tAllG (P : Addr) (z : Bool) (wi : TI) (g : TG) (te : TE) (own : List Nat) : TE := fun σ H Q => wi σ H fun J H1 => TabX H1 P ∧ ∃ W : Nat → Nat → Hp → Prop, (∃ m, W 0 m H1) ∧ ∀ i m H', W i m H' →
  (J.stop i H' ∧ Q (.bl (!z)) H') ∨ (J.go i H' ∧ ∃ (m' : Nat) (N : Hp → Prop), m = m' + 1 ∧ (∀ H'', N H'' → W (i + 1) m' H'') ∧ ∀ x H'', J.yld i H' x H'' → g x (wipe σ own) H'' fun σ8 H8 => wipe σ8 own = wipe σ own ∧
    te σ8 H8 fun v H9 => ∃ c, v = .bl c ∧ if c = z then Q (.bl z) H9 else N H9)
section
variable {X : Cx} {pins : List (Addr × Obj)} {σ : L2.St} {elt tg iter : Expr} {scope : Scope} {own : List (Str × Nat)} {gpos : Pos} {g : TG} {te : TE}
variable {z : Bool} {A Ai : Around} {s3 : Shared} {H3 : Hp} {C a it : Addr} {code : Value} {fp : List Addr} {go : Obj} {gn : Nat} {tn : Nat → Heap → Prop} {J : It} {Q : VK} {W : Nat → Nat → Hp → Prop}
theorem seg_loopG (I3 : Inv X pins σ H3 s3) (T : Turn X.prog X.w X.K tg J fp it tn) (f3 : ∀ b ∈ fp, FpOk X pins H3 b ∧ b < s3.heap.objs.size) (haz : s3.heap.objs.size ≤ a) (hgen : ∀ h : Heap, h.get? a = some go → h.IsGen a gn)
    (hco : scope.isCoroutine = false)
    (hA : A.over (.compLoop (.GeneratorExp elt [⟨tg, iter, [], 0⟩] scope gpos) 0 (.ref it) .none (genEnv scope (cloFrom X.env.cells scope.names []) C code builtinsNs X.env)) [] = Ai)
    (pg : PG (gX X Ai s3 H3 scope C code fp [(a, go)]) tg g) (pe : PE (gX X Ai s3 H3 scope C code fp [(a, go)]) elt te)
    (turn : ∀ i m H', W i m H' → (J.stop i H' ∧ Q (.bl (!z)) H') ∨ (J.go i H' ∧ ∃ (m' : Nat) (N : Hp → Prop), m = m' + 1 ∧ (∀ H'', N H'' → W (i + 1) m' H'') ∧ ∀ x H'', J.yld i H' x H'' → g x (wipe σ (own.map (·.2))) H'' fun σ8 H8 => wipe σ8 (own.map (·.2)) = wipe σ (own.map (·.2)) ∧
      te σ8 H8 fun v H9 => ∃ c, v = .bl c ∧ if c = z then Q (.bl z) H9 else N H9)) :
    ∀ (m i : Nat) (s : Shared) (H' : Hp) (s₀ : Shared), Inv (gX X Ai s3 H3 scope C code fp [(a, go)]) [] (wipe σ (own.map (·.2))) H' s → tn i s.heap → (∀ b ∈ fp, H' b = none) → W i m H' →
      Seg (model X.prog X.w) A (GEnd X pins σ Q z) (GPro X pins σ Q z a gn) m s₀
        (.compLoop (.GeneratorExp elt [⟨tg, iter, [], 0⟩] scope gpos) 0 (.ref it) .none (genEnv scope (cloFrom X.env.cells scope.names []) C code builtinsNs X.env))
        ((model X.prog X.w).den (.compLoop (.GeneratorExp elt [⟨tg, iter, [], 0⟩] scope gpos) 0 (.ref it) .none (genEnv scope (cloFrom X.env.cells scope.names []) C code builtinsNs X.env))) [] s := by
  have stat : ∀ {σ' : L2.St} {H' : Hp} {s' : Shared}, Inv (gX X Ai s3 H3 scope C code fp [(a, go)]) [] σ' H' s' → (∀ b ∈ fp, H' b = none) → ∀ b ∈ fp, FpOk (gX X Ai s3 H3 scope C code fp [(a, go)]) [] H' b := fun {σ' H' s'} I' hn b hb =>
    ⟨hn b hb, (I'.ok.exf b hb).1, I'.ok.exfs b hb, .inl hb, fun x c e => (I'.ok.exf b hb).2 x c e, fun p hp => by
      obtain rfl : p = (a, go) := by simpa using hp
      exact Nat.ne_of_gt (Nat.lt_of_lt_of_le (f3 b hb).2 haz)⟩
  have outer : ∀ {pl : List (Addr × Obj)} {σ' : L2.St} {H' : Hp} {s' : Shared}, Inv (gX X Ai s3 H3 scope C code fp [(a, go)]) pl σ' H' s' → Inv X pins σ H' s' := fun {pl σ' H' s'} I' =>
    I3.call' (ch := fp) I'.os I'.base I'.hok I'.bare fun b hb => ⟨(f3 b hb).1.2.2.2.1, (f3 b hb).1.2.1, (f3 b hb).1.2.2.2.2.1, (f3 b hb).1.2.2.2.2.2⟩
  have nox : ∀ {α : Type} {t : Sem α} {Q1 : α → Shared → Prop} {E : Value → Shared → Prop} {s : Shared}, wpAny (model X.prog X.w) Ai t Q1 (fun _ _ => False) s → wpAny (model X.prog X.w) Ai t Q1 E s := fun h => wpAny_mono h (fun _ _ q => q) fun _ _ q => q.elim
  intro m
  induction m with
  | zero =>
    intro i s H' s₀ I st hn hw
    rcases turn i 0 H' hw with ⟨stop, q⟩ | ⟨_, m', N, e, _⟩
    · show Seg _ A _ _ _ s₀ _ ((compTurn (.GeneratorExp elt [⟨tg, iter, [], 0⟩] scope gpos) 0 (.ref it) .none (genEnv scope (cloFrom X.env.cells scope.names []) C code builtinsNs X.env)).onRaise (leaving (genEnv scope (cloFrom X.env.cells scope.names []) C code builtinsNs X.env))) [] s
      rw [compTurn_genD, Sem.onRaise_eq_wrap]
      refine seg_bind_wrap (wpAny_standAt ?_)
      refine seg_bind_wrap ?_
      rw [hA]
      refine nox (thnF (T.done (gX X Ai s3 H3 scope C code fp [(a, go)]) rfl rfl rfl rfl i [] s _ H' (fun _ _ => False) I (stat I hn) st stop) fun r s1 ⟨hr, I1⟩ => ?_)
      subst hr
      exact seg_end (.ok .next) ⟨rfl, H', outer I1, q⟩
    · cases e
  | succ m ih =>
    intro i s H' s₀ I st hn hw
    show Seg _ A _ _ _ s₀ _ ((compTurn (.GeneratorExp elt [⟨tg, iter, [], 0⟩] scope gpos) 0 (.ref it) .none (genEnv scope (cloFrom X.env.cells scope.names []) C code builtinsNs X.env)).onRaise (leaving (genEnv scope (cloFrom X.env.cells scope.names []) C code builtinsNs X.env))) [] s
    rw [compTurn_genD, Sem.onRaise_eq_wrap]
    refine seg_bind_wrap (wpAny_standAt ?_)
    refine seg_bind_wrap ?_
    rw [hA]
    rcases turn i (m + 1) H' hw with ⟨stop, q⟩ | ⟨goes, m', N, e, hN, step⟩
    · refine nox (thnF (T.done (gX X Ai s3 H3 scope C code fp [(a, go)]) rfl rfl rfl rfl i [] s _ H' (fun _ _ => False) I (stat I hn) st stop) fun r s1 ⟨hr, I1⟩ => ?_)
      subst hr
      exact seg_end (.ok .next) ⟨rfl, H', outer I1, q⟩
    · obtain rfl : m = m' := Nat.succ.inj e
      refine nox (thnF (T.item (gX X Ai s3 H3 scope C code fp [(a, go)]) rfl rfl rfl rfl i [] s _ H' (fun _ _ => False) I (stat I hn) st goes) fun r s6 ⟨u, hr, h6⟩ => ?_)
      subst hr
      refine seg_bind_wrap ?_
      rw [hA]
      refine nox (thnF h6 fun _ s7 ⟨x, H7, I7, r7, y7, st7, n7⟩ => ?_)
      have I7' := I7.pinned (stat I7 n7) (T.obj _ _ st7)
      refine seg_bind_wrap ?_
      rw [hA]
      refine nox (thnF (pg.run _ s7 _ H7 x u _ I7' r7 (step x H7 y7)) fun _ s8 ⟨σ8, H8, I8, hw8, q8⟩ => ?_)
      have hy : ∀ v, yieldOut (genEnv scope (cloFrom X.env.cells scope.names []) C code builtinsNs X.env) v = yieldValue v := fun v => by
        show (if scope.isCoroutine = true then _ else _) = _
        rw [hco]
        rfl
      simp only [hy]
      rw [Sem.bind_eq_wrap', Sem.bind_eq_wrap', Sem.wrap_wrap, Sem.wrap_wrap]
      refine seg_wrap ?_
      rw [hA]
      refine nox (thnF (pe.run _ s8 σ8 H8 _ I8 q8) fun y s9 ⟨yv, H9, I9, r9, c, ec, q9⟩ => ?_)
      subst ec
      obtain rfl : y = Value.bool c := r9
      have pinA := I9.pin (a, go) (List.mem_append_left _ (List.mem_singleton.mpr rfl))
      refine seg_at (seg_yield rfl rfl rfl ⟨c, rfl, ⟨hgen _ pinA.1, I9.nolimit, I9.bare⟩, I9.os.trans I3.os, ?_⟩)
      by_cases hz : c = z
      · rw [if_pos hz] at q9 ⊢
        exact ⟨H9, outer I9, q9⟩
      · rw [if_neg hz] at q9 ⊢
        intro s'' h1 h2 h3
        have I10 := inv_same I9 h1 h2 h3
        have w' := hN H9 q9
        have still : ∀ b ∈ fp, ∀ o, s7.heap.get? b = some o → s''.heap.get? b = some o ∧ H9 b = none := fun b hb o e =>
          let zz := I10.pin (b, o) (List.mem_append_right _ (List.mem_append_right _ (mem_pinsAt hb e)))
          ⟨zz.1, zz.2.1⟩
        have hl : (wipe σ (own.map (·.2))).length = σ8.length := by rw [← hw8, wipe_length]
        refine seg_again rfl (ih (i + 1) s'' H9 s'' ((I10.unpinned (pins := [])).weak hl (fun j v e => ?_)) (T.keep _ _ _ st7 fun b hb o e => (still b hb o e).1) (fun b hb => ?_) w')
        · rw [← hw8] at e
          exact (wipe_some e).1
        · obtain ⟨o, e, _⟩ := T.obj _ _ st7 b hb
          exact (still b hb o e).2
theorem seg_startG {m : Nat} {s₀ s : Shared} (T : Turn X.prog X.w X.K tg J fp it tn) (st : tn 0 s.heap)
    (loop : Seg (model X.prog X.w) A (GEnd X pins σ Q z) (GPro X pins σ Q z a gn) m s₀
        (.compLoop (.GeneratorExp elt [⟨tg, iter, [], 0⟩] scope gpos) 0 (.ref it) .none (genEnv scope (cloFrom X.env.cells scope.names []) C code builtinsNs X.env))
        ((model X.prog X.w).den (.compLoop (.GeneratorExp elt [⟨tg, iter, [], 0⟩] scope gpos) 0 (.ref it) .none (genEnv scope (cloFrom X.env.cells scope.names []) C code builtinsNs X.env))) [] s) :
    Seg (model X.prog X.w) A (GEnd X pins σ Q z) (GPro X pins σ Q z a gn) m s₀
        (.compStart (.GeneratorExp elt [⟨tg, iter, [], 0⟩] scope gpos) 0 (.ref it) .none (genEnv scope (cloFrom X.env.cells scope.names []) C code builtinsNs X.env))
        ((model X.prog X.w).den (.compStart (.GeneratorExp elt [⟨tg, iter, [], 0⟩] scope gpos) 0 (.ref it) .none (genEnv scope (cloFrom X.env.cells scope.names []) C code builtinsNs X.env))) [] s := by
  show Seg _ A _ _ _ s₀ _ ((compStart (.GeneratorExp elt [⟨tg, iter, [], 0⟩] scope gpos) 0 (.ref it) .none (genEnv scope (cloFrom X.env.cells scope.names []) C code builtinsNs X.env)).onRaise (leaving (genEnv scope (cloFrom X.env.cells scope.names []) C code builtinsNs X.env))) [] s
  unfold compStart
  rw [Sem.onRaise_eq_wrap]
  show Seg _ A _ _ _ s₀ _ ((ask >>= _).wrap _ _ _ _) [] s
  refine seg_bind_wrap (wpAny_askSetting ?_)
  split
  · exact seg_again rfl loop
  · first
      | exact seg_bind_wrap (wpAny_rule (seg_bind_wrap (wpAny_standAt (seg_bind_wrap (T.self _ 0 s _ _ st (seg_again rfl loop))))))
      | (refine seg_bind_wrap (wpAny_rule ?_); show Seg _ A _ _ _ s₀ _ ((standAt iter.pos >>= _).wrap _ _ _ _) [] s; exact seg_bind_wrap (wpAny_standAt (seg_bind_wrap (T.self _ 0 s _ _ st (seg_again rfl loop)))))
end
/-! ### the consumers -/
section
variable {X : Cx} {pins : List (Addr × Obj)} {σ : L2.St} {Q : VK} {a : Addr} {gn : Nat}
theorem AllBare.setGen {s : Shared} {x : GenState} {g : Nat} (h : AllBare s.gens) (hx : x.bare = true) : AllBare (s.setGen g x).gens := by
  intro y hy
  have hy : y ∈ s.gens.setIfInBounds g x := hy
  rcases Array.mem_or_eq_of_mem_setIfInBounds hy with h1 | h1
  · exact h y h1
  · rw [h1]; exact hx
theorem all_loop (hh : X.A.handled = none) (hd : X.A.depth < recursionLimit) : ∀ (m : Nat) (s : Shared) (gs : GenState), Alive a gn s → s.os = X.s_0.os → s.gens[gn]? = some gs →
    gs.Goes (model X.prog X.w) X.A.in1.in1 (GEnd X pins σ Q false) (GPro X pins σ Q false a gn) m (.send .none) (s.setGen gn .running) →
    codeAny (model X.prog X.w) X.A (.builtin "all.loop" ⟨[.ref a], []⟩) (fun r s' => match r with
      | .ok (.ret u) => EP X pins σ Q u s'
      | _ => False) s := by
  intro m
  induction m with
  | zero =>
    intro s gs al os hgs hgo
    refine codeAny_builtin F.entry_all_loop ?_
    rw [Around.under_plainId F.plain_all_loop _]
    show wpAny _ X.A.in1 (pyNext (.ref a) >>= _) _ _ s
    refine wpAny_bind (GenW.wpAny_gsz (Nat.le_refl _) (wpAny_pyNext_genexpQ (A := X.A.in1) (P := fun _ _ s₁ => ∃ H', Inv X pins σ H' s₁ ∧ Q (.bl (!false)) H') hh al.2.1 hd al.1 hgs hgo (fun v s₁ gs' hb hv hsz => ?_) (fun s₁ hp h' hk hsz => ?_)))
    · obtain ⟨b, rfl, al1, os1, q⟩ := hv
      refine wpAny_bind (wpAny_holding (wpAny_truthy_bool ?_))
      refine wpAny_bind (wpAny_letGo ?_)
      cases b with
      | true =>
        rw [if_neg (by decide)] at q
        exact (q s₁ rfl rfl al1.2.2).elim
      | false =>
        rw [if_pos rfl] at q
        obtain ⟨H', I, q⟩ := q
        simp only [Bool.false_eq_true, if_false]
        exact wpAny_bind (wpAny_rule (wpAny_pure ⟨.bl false, H', inv_same I rfl rfl (AllBare.setGen I.bare hb), rfl, q⟩))
    · obtain ⟨H', I, q⟩ := hp
      exact wpAny_bind (wpAny_rule (wpAny_pure ⟨.bl true, H', inv_same (s' := { s₁.setGen gn .finished with heap := h' }) (I.kept (t' := s₁.toks) hk) rfl rfl (AllBare.setGen I.bare rfl), rfl, q⟩))
  | succ m ih =>
    intro s gs al os hgs hgo
    refine codeAny_builtin F.entry_all_loop ?_
    rw [Around.under_plainId F.plain_all_loop _]
    show wpAny _ X.A.in1 (pyNext (.ref a) >>= _) _ _ s
    refine wpAny_bind (GenW.wpAny_gsz (Nat.le_refl _) (wpAny_pyNext_genexpQ (A := X.A.in1) (P := fun _ _ s₁ => ∃ H', Inv X pins σ H' s₁ ∧ Q (.bl (!false)) H') hh al.2.1 hd al.1 hgs hgo (fun v s₁ gs' hb hv hsz => ?_) (fun s₁ hp h' hk hsz => ?_)))
    · obtain ⟨b, rfl, al1, os1, q⟩ := hv
      refine wpAny_bind (wpAny_holding (wpAny_truthy_bool ?_))
      refine wpAny_bind (wpAny_letGo ?_)
      cases b with
      | true =>
        rw [if_neg (by decide)] at q
        simp only [if_true]
        have lt : gn < s₁.gens.size := by
          rw [GenW.setGen_size] at hsz
          rcases Nat.lt_or_ge gn s.gens.size with z | z
          · exact Nat.lt_of_lt_of_le z hsz
          · rw [Array.getElem?_eq_none z] at hgs; cases hgs
        have g1 : (s₁.setGen gn gs').gens[gn]? = some gs' := by
          simp [Shared.setGen, lt]
        refine wpAny_pure ⟨plainId_quiet F.plain_all_loop _, ih (s₁.setGen gn gs') gs' ⟨al1.1, al1.2.1, AllBare.setGen al1.2.2 hb⟩ os1 g1 ?_⟩
        exact q ((s₁.setGen gn gs').setGen gn .running) rfl rfl (AllBare.setGen (AllBare.setGen al1.2.2 hb) rfl)
      | false =>
        rw [if_pos rfl] at q
        obtain ⟨H', I, q⟩ := q
        simp only [Bool.false_eq_true, if_false]
        exact wpAny_bind (wpAny_rule (wpAny_pure ⟨.bl false, H', inv_same I rfl rfl (AllBare.setGen I.bare hb), rfl, q⟩))
    · obtain ⟨H', I, q⟩ := hp
      exact wpAny_bind (wpAny_rule (wpAny_pure ⟨.bl true, H', inv_same (s' := { s₁.setGen gn .finished with heap := h' }) (I.kept (t' := s₁.toks) hk) rfl rfl (AllBare.setGen I.bare rfl), rfl, q⟩))
theorem call_allG {s : Shared} {m : Nat} {gs : GenState} (hh : X.A.handled = none) (hd : X.A.depth < recursionLimit) (al : Alive a gn s) (os : s.os = X.s_0.os) (hgs : s.gens[gn]? = some gs)
    (hgo : gs.Goes (model X.prog X.w) X.A.in1.in1 (GEnd X pins σ Q false) (GPro X pins σ Q false a gn) m (.send .none) (s.setGen gn .running)) :
    wpAny (model X.prog X.w) X.A (call (.builtin "all") [.ref a]) (EP X pins σ Q) X.xe s := by
  refine call_function_tree F.kind_all F.plain_all F.entry_all (F.args_all1 _) ?_
  unfold Builtin.«all»
  refine wpAny_bind (m := oneArg "all" _) (wpAny_pure ?_)
  refine wpAny_bind (wpAny_pyIter_gen al.1 ?_)
  refine wpAny_pure ⟨plainId_quiet F.plain_all_loop _, codeAny_mono (all_loop hh hd m s gs al os hgs hgo) fun r s' z => ?_⟩
  rcases r with e | (v | _ | _ | _) <;> first
    | exact z
    | exact z.elim
end
end K9

namespace K9
open PySem PySem.Spec PyProof.Rows L2 L2H HotX Evl
section
variable {X : Cx} {k : Nat} {c P : Addr} {elt tg iter : Expr} {scope : Scope} {own : List (Str × Nat)} {p pos gpos : Pos} {wi : TI} {g : TG} {te : TE}
theorem pe_allG (hc : X.calm = true) (hr : RoomH (k + 1) X.A) (hg : Gl X "all") (hm : X.mg "all" = none) (TB : TabK X.base X.mg c P) (hcode : X.env.code = .ref c) (hN : X.N.Nodup) (ok : BlkOk X.N X.env.scope scope own)
    (hcell : ∀ y ∈ scope.names, y.2 ≠ .cell) (hco : scope.isCoroutine = false) (h0 : scope.names.lookup (".0" : Str) = some NameKind.local) (hi : PI X tg iter wi)
    (pg : ∀ (A : Around) (s : Shared) (H : Hp) (C : Addr) (code : Value) (fp : List Addr) (pn : List (Addr × Obj)), PG (gX X A s H scope C code fp pn) tg g)
    (pe : ∀ (A : Around) (s : Shared) (H : Hp) (C : Addr) (code : Value) (fp : List Addr) (pn : List (Addr × Obj)), Room k A → PE (gX X A s H scope C code fp pn) elt te)
    (hb : bootBuiltins "all" = some (.builtin "all") := by decide +kernel)
    (hs : ∀ v, genFold iter X.env v = pure v := by intro _; rfl)
    (he : starEach [.GeneratorExp elt [⟨tg, iter, [], 0⟩] scope gpos] X.env = (false, eval (.GeneratorExp elt [⟨tg, iter, [], 0⟩] scope gpos) X.env) :: starEach [] X.env := by rfl) :
    PE X (.Call (.Name "all" p) [.GeneratorExp elt [⟨tg, iter, [], 0⟩] scope gpos] [] pos) (tAllG P false wi g te (own.map (·.2))) := by
  refine ⟨fun pins s σ H Q I h => ?_⟩
  have hh := I.ok.hd hc
  have dp : X.A.depth < recursionLimit := by have := hr.dp; omega
  have caps : ∀ y ∈ scope.names, y.2 = .free → ∃ c, X.env.cells.lookup y.1 = some c := fun y hy e => by
    rcases ok.free y hy e with k | k
    · exact I.ok.has _ (.inl k)
    · exact I.ok.has _ (.inr k)
  refine wpAny_Call_Name_kw (ld_blt I hg hm hb ?_)
  refine PyProof.Rows.callWith_builtin1 ?_ he (by rfl)
  rw [he]
  show wpAny _ _ (spliced ((false, eval (.GeneratorExp elt [⟨tg, iter, [], 0⟩] scope gpos) X.env) :: backTo pos (starEach [] X.env))) _ _ s
  refine Calls.spliced_cons ?_
  refine wpAny_GeneratorExp_make hco (closure_ok caps) hcell h0 ok.kind dp ?_ hs
  refine thn (hi.run pins s σ H _ I h) fun xv s1 hx => thn hx fun itv s2 h2 => ?_
  obtain ⟨it, fp, tn, J, H2, e, I2, T, st2, f2, hT, W, ⟨m0, w0⟩, turn⟩ := h2
  subst e
  refine ⟨I2.nolimit, ?_⟩
  obtain ⟨⟨ps, hP, ht⟩, _⟩ := (show ObjOk X.prog X.w H2 s2.heap P (.ext (TabF P)) from I2.hok P _ hT)
  have cd : PySem.W.CodeHd s2.heap c P := TB.code.keeps I2.bk
  have cont : ∀ (cv : Value) (s3 : Shared), Inv X pins σ H2 s3 → tn 0 s3.heap → (∀ b ∈ fp, b < s3.heap.objs.size) → wpAny (model X.prog X.w) X.A (builtinsFor X.env.globals X.env.builtins) (fun bi s₄ =>
        ∀ h' : Heap, h'.Ns s₄.heap.objs.size (fun y => if y = ".0" then some (.ref it) else none) → Heap.SameBut s₄.heap.objs.size (s₄.heap.push { cls := .type "frame", data := .dict #[] }) h' →
          wpAny (model X.prog X.w) X.A (call (.builtin "all") [.ref h'.objs.size]) (EP X pins σ Q) X.xe { s₄ with
            gens := s₄.gens.push (.fresh (.compStart (.GeneratorExp elt [⟨tg, iter, [], 0⟩] scope gpos) 0 (.ref it) .none (genEnv scope (cloFrom X.env.cells scope.names []) s₄.heap.objs.size cv bi X.env))),
            toks := s₄.toks + 1 + 1 + 1,
            heap := h'.push { cls := .type "generator", data := .fields #[.int s₄.gens.size 0, .str "<genexpr>" (s₄.toks + 1), .str (X.env.qual ++ "<genexpr>") (s₄.toks + 1 + 1)] } }) X.xe s3 := by
    intro cv s3 I3 st3 lt3
    obtain ⟨bm, ob, e1, e2, e3, e4, e5, e6⟩ := TB.bm
    refine wpAny_builtinsFor (m := X.mg) (by rw [I3.ok.glob]; exact I3.mod.glob.keeps I3.bk) e1 e2 (I3.bk _ _ e3) e4 e5 e6 ?_
    intro h' hn' hs'
    have hsz : h'.objs.size = s3.heap.objs.size + 1 := by rw [hs'.1, Heap.size_push]
    have keep' : ∀ b o, s3.heap.get? b = some o → h'.get? b = some o := fun b o e => hs'.extBut b o (Nat.ne_of_lt (Heap.lt_size e)) (Heap.get?_push_of_some _ e)
    generalize hgo : ({ cls := .type "generator", data := .fields #[.int s3.gens.size 0, .str "<genexpr>" (s3.toks + 1), .str (X.env.qual ++ "<genexpr>") (s3.toks + 1 + 1)] } : Obj) = go
    have hpushed : (h'.push go).get? h'.objs.size = some go := by
      rw [← hgo]
      exact Heap.get?_push_size _ rfl
    have hgen : ∀ hx : Heap, hx.get? h'.objs.size = some go → hx.IsGen h'.objs.size s3.gens.size := fun hx e => by
      rw [← hgo] at e
      exact ⟨_, _, _, e, rfl, rfl, rfl⟩
    have hnc : ∀ v, go.data ≠ .cell v := fun v q => by
      rw [← hgo] at q
      cases q
    have keep5 : ∀ b o, s3.heap.get? b = some o → (h'.push go).get? b = some o := fun b o e => Heap.get?_push_of_some _ (keep' b o e)
    generalize hA : (X.A.in1.in1).over (.compLoop (.GeneratorExp elt [⟨tg, iter, [], 0⟩] scope gpos) 0 (.ref it) .none (genEnv scope (cloFrom X.env.cells scope.names []) s3.heap.objs.size cv builtinsNs X.env)) [] = Ai
    have hAh : Ai.handled = none := by
      rw [← hA]
      exact hh
    have hAf : Ai.frames = some (genEnv scope (cloFrom X.env.cells scope.names []) s3.heap.objs.size cv builtinsNs X.env :: X.stack) := by
      rw [← hA]
      show pushEnvs [genEnv scope (cloFrom X.env.cells scope.names []) s3.heap.objs.size cv builtinsNs X.env] (pushEnvs [] X.A.frames) = _
      rw [I3.ok.frames]
      rfl
    have hAr : Room k Ai := by
      refine ⟨hAh, ?_, ?_⟩
      · rw [← hA]
        show X.A.depth + 0 + 1 + 3 * k + 5 < _
        have := hr.dp
        omega
      · rw [← hA]
        show X.A.units + 1 + 1 + 0 + 3 + 16 * k + 200 < _
        have := hr.un
        omega
    refine call_allG (m := m0) hh dp ⟨hgen _ hpushed, I3.nolimit.keeps keep5, ?_⟩ I3.os (Array.getElem?_push_size ..) ⟨rfl, ?_⟩
    · exact AllBare.push I3.bare rfl
    · have f3 : ∀ b ∈ fp, FpOk X pins H2 b ∧ b < s3.heap.objs.size := fun b hb => ⟨f2 b hb, lt3 b hb⟩
      have nfp : ∀ b ∈ fp, H2 b = none := fun b hb => (f2 b hb).1
      have stG : tn 0 (h'.push go) := T.keep _ _ _ st3 fun b _ o e => keep5 b o e
      have haz : s3.heap.objs.size ≤ h'.objs.size := by omega
      refine seg_startG T stG (seg_loopG I3 T f3 haz hgen hco hA (pg Ai s3 H2 s3.heap.objs.size cv fp [(h'.objs.size, go)]) (pe Ai s3 H2 s3.heap.objs.size cv fp [(h'.objs.size, go)] hAr) turn m0 0 _ H2 _ ?_ stG nfp w0)
      exact gen_start (own := own) I3 ok hcell hN f3 keep5 (Nat.le_refl _) (hn'.push _) hAf hAh rfl (AllBare.setGen (AllBare.push I3.bare rfl) rfl) hpushed haz (by rw [hsz]; exact Nat.succ_ne_self _) hnc
  have lt2 : ∀ b ∈ fp, b < s2.heap.objs.size := fun b hb => by
    obtain ⟨o, e, _⟩ := T.obj _ _ st2 b hb
    exact Heap.lt_size e
  cases hf : codeAmong gpos ps.toList with
  | none =>
    refine wpAny_genexprCodeX hcode (cd.code hP ht) (cd.tab hP) hf fun c' h' tk hx hge hlt hco' _ htab' _ => ?_
    have htr : TriplesOk (ps ++ #[rawInt gpos.line, rawInt gpos.col, .ref c']).toList := by
      obtain ⟨o1, vs, f1, tf, fl, tg, inF, tx, tt, op, _, _, _, _, _, _, _, _, _, htr, _⟩ := hco'
      exact htr
    have neP : ∀ b, H2 b = none → b ≠ P := fun b e z => by
      rw [z, hT] at e
      cases e
    refine thn (cont (.ref c') _ (inv_tabX (t' := tk) I2 hT (fun b o hb e => hx b o hb e) ⟨_, htab'.2, htr⟩) (T.keep _ _ _ st2 fun b hb o e => hx b o (neP b (f2 b hb).1) e) (fun b hb => Nat.lt_of_lt_of_le (lt2 b hb) (Nat.le_trans hge (Nat.le_of_lt hlt)))) fun bi s4 z => ?_
    exact fun h' a b => Calls.spliced_nil (z h' a b)
  | some cv =>
    refine wpAny_genexprCode_hit hcode (cd.code hP ht) hf ?_
    refine thn (cont cv s2 I2 st2 lt2) fun bi s4 z => ?_
    exact fun h' a b => Calls.spliced_nil (z h' a b)
end
end K9

namespace K9
open PySem PySem.Spec PyProof.Rows L2 L2H HotX Evl
/-! ### a law's promise over tables that are tracked whatever they hold -/
def tabsX (cs : List (Addr × Addr)) (H : Hp) : Hp := fun b => if b ∈ cs.map (·.2) then some (.ext (TabF b)) else H b
def tabsT (cs : List (Addr × Addr)) (h : Heap) (H : Hp) : Hp := fun b => if b ∈ cs.map (·.2) then (match h.get? b with
  | some ⟨_, _, .fields ps, _⟩ => some (.tbl ps)
  | _ => some (.tbl #[])) else H b
def spT (cs : List (Addr × Addr)) (sp : Sp) : Sp := fun vs H Q E => (∀ p ∈ cs, H p.2 = some (.tbl #[])) ∧ sp vs (tabsX cs H) (fun v H' => (∀ p ∈ cs, TabX H' p.2) ∧ ∀ H'', Q v H'') E
theorem fn_tabs {P : Program} {w : World} {K : PySem.W.Frag} {mg : Str → Option Value} {base : Heap} {k : Nat} {f : Addr} {fd : FuncData} {ps : List Str} {sp : Sp} (cs : List (Addr × Addr))
    (F : FnOk P w K mg base CX0 k f fd ps sp) : FnOk P w K mg base CX0 k f fd ps (spT cs sp) := by
  refine ⟨fun vs H Q E h => F.len _ _ _ _ h.2, fun A outer s H args us vs Q E hr e0 hb r h => ?_⟩
  obtain ⟨ht, h⟩ := h
  have at_ : ∀ b, b ∈ cs.map (·.2) → H b = some (.tbl #[]) := fun b hm => by
    obtain ⟨p, hp, e⟩ := List.mem_map.mp hm
    rw [← e]
    exact ht p hp
  have out : ∀ b, H b = none → tabsX cs H b = none := fun b e => by
    unfold tabsX
    rw [if_neg (fun hm => by rw [at_ b hm] at e; cases e)]
    exact e
  have same : ∀ b u, H b = some u → (∀ qs, u ≠ .tbl qs) → tabsX cs H b = some u := fun b u e hu => by
    unfold tabsX
    rw [if_neg (fun hm => by rw [at_ b hm] at e; exact hu _ (Option.some.inj e).symm)]
    exact e
  have e1 : Env0 P w K mg base A outer s (tabsX cs H) := by
    refine ⟨e0.frames, e0.mod, fun b o e => ⟨(e0.bs b o e).1, out b (e0.bs b o e).2⟩, e0.bsz, e0.funs, fun b hb => out b (e0.frf b hb), fun b u e => ?_, e0.bare⟩
    by_cases hm : b ∈ cs.map (·.2)
    · have e2 : tabsX cs H b = some (.ext (TabF b)) := if_pos hm
      rw [e2] at e
      cases e
      exact tabF_ok ⟨#[], e0.hok b _ (at_ b hm), by trivial⟩
    · have e2 : tabsX cs H b = H b := if_neg hm
      rw [e2] at e
      exact (e0.hok b u e).stay (fun c v _ q => q) (fun c q => same c _ q fun _ z => by cases z) fun c xs q => same c _ q fun _ z => by cases z
  refine codeAny_mono (F.run A outer s (tabsX cs H) args us vs _ E hr e1 hb r h) fun r s' z => ?_
  rcases r with e | (u | _ | _ | _)
  · exact z.elim
  · exact z.elim
  · exact z.elim
  · exact z.elim
  · obtain ⟨v, H', os, bare, un, hok, rv, hT, q⟩ := z
    have tb : ∀ b, b ∈ cs.map (·.2) → ∃ ps : Array Value, s'.heap.get? b = some { cls := .none, data := .fields ps } ∧ tabsT cs s'.heap H' b = some (.tbl ps) := fun b hm => by
      obtain ⟨p, hp, e⟩ := List.mem_map.mp hm
      have hx := hT p hp
      rw [e] at hx
      obtain ⟨⟨ps, h1, _⟩, _⟩ := (show ObjOk P w H' s'.heap b (.ext (TabF b)) from hok b _ hx)
      refine ⟨ps, h1, ?_⟩
      unfold tabsT
      rw [if_pos hm, h1]
    have ow : ∀ b, b ∉ cs.map (·.2) → tabsT cs s'.heap H' b = H' b := fun b hm => if_neg hm
    have nt : ∀ b u, H b = some u → (∀ qs, u ≠ .tbl qs) → b ∉ cs.map (·.2) := fun b u e hu hm => by
      rw [at_ b hm] at e
      exact hu _ (Option.some.inj e).symm
    have n0 : ∀ b, H b = none → b ∉ cs.map (·.2) := fun b e hm => by
      rw [at_ b hm] at e
      cases e
    refine ⟨v, tabsT cs s'.heap H', os, bare, ⟨fun b o e n => un.keep b o e (out b n), fun b o e n => un.slot b o e (out b n), fun b o e n nx => ?_, un.there, fun b xs e => ?_, fun b o u e => ?_, fun b qs e => ?_⟩, fun b u e => ?_, rv, q _⟩
    · rw [ow b (n0 b n)]
      exact un.free b o e (out b n) nx
    · rw [ow b (nt b _ e fun _ z => by cases z)]
      exact un.tups b xs (same b _ e fun _ z => by cases z)
    · rw [ow b (nt b _ e fun _ z => by cases z)]
      exact un.frzs b o u (same b _ e fun _ z => by cases z)
    · by_cases hm : b ∈ cs.map (·.2)
      · rw [at_ b hm] at e
        cases e
        obtain ⟨ps, _, h2⟩ := tb b hm
        exact ⟨ps, by rw [h2, Array.empty_append]⟩
      · rw [ow b hm]
        have e2 : tabsX cs H b = H b := if_neg hm
        exact un.tbls b qs (by rw [e2]; exact e)
    · by_cases hm : b ∈ cs.map (·.2)
      · obtain ⟨ps, h1, h2⟩ := tb b hm
        rw [h2] at e
        cases e
        exact h1
      · rw [ow b hm] at e
        have st : ∀ c u, H' c = some u → (∀ φ, u ≠ .ext φ) → tabsT cs s'.heap H' c = some u := fun c u ec hu => by
          rw [ow c (fun hc => ?_)]
          · exact ec
          · obtain ⟨p, hp, ep⟩ := List.mem_map.mp hc
            have hx := hT p hp
            rw [ep] at hx
            rw [hx] at ec
            exact hu _ (Option.some.inj ec).symm
        exact (hok b u e).stay (fun c v _ q => q) (fun c q => st c _ q fun _ z => by cases z) fun c xs q => st c _ q fun _ z => by cases z
end K9

/-! ### pairs of a text and an int, in order -/
namespace PySem
namespace K9S
open PySem PySem.Spec PyProof.Rows SrtO
theorem str_ext {a b : Str} (h : a.cps.toList = b.cps.toList) : a = b := by
  obtain ⟨x⟩ := a
  obtain ⟨y⟩ := b
  have h : x.toList = y.toList := h
  have : x = y := Array.toList_inj.mp h
  rw [this]
def ltZ (a b : Str) : Prop := a.cps.toList < b.cps.toList
theorem ltZ_tri {a b : Str} (h : ¬ ltZ a b) (n : a ≠ b) : ltZ b a := by
  by_cases h2 : ltZ b a
  · exact h2
  · exact absurd (str_ext (List.le_antisymm (List.not_lt.mp h2) (List.not_lt.mp h))) n
theorem ltZ_trans {a b c : Str} (h : ltZ a b) (h2 : ltZ b c) : ltZ a c := List.lt_trans h h2
theorem ltZ_irr (a : Str) : ¬ ltZ a a := List.lt_irrefl _
def lexS (p q : Str × Int) : Bool := if p.1 = q.1 then decide (p.2 < q.2) else decide (p.1.cps.toList < q.1.cps.toList)
theorem lexS_yes {p q : Str × Int} : lexS p q = true ↔ ltZ p.1 q.1 ∨ (p.1 = q.1 ∧ p.2 < q.2) := by
  unfold lexS
  by_cases e : p.1 = q.1
  · rw [if_pos e, decide_eq_true_eq]
    constructor
    · exact fun h => .inr ⟨e, h⟩
    · rintro (h | h)
      · rw [e] at h
        exact absurd h (ltZ_irr _)
      · exact h.2
  · rw [if_neg e, decide_eq_true_eq]
    constructor
    · exact fun h => .inl h
    · rintro (h | h)
      · exact h
      · exact absurd h.1 e
theorem lexS_no {p q : Str × Int} : lexS p q = false ↔ ltZ q.1 p.1 ∨ (q.1 = p.1 ∧ q.2 ≤ p.2) := by
  have : lexS p q = false ↔ ¬ (lexS p q = true) := by cases lexS p q <;> simp
  rw [this, lexS_yes]
  constructor
  · intro h
    by_cases e : p.1 = q.1
    · exact .inr ⟨e.symm, by
        by_cases h2 : p.2 < q.2
        · exact absurd (.inr ⟨e, h2⟩) h
        · omega⟩
    · exact .inl (ltZ_tri (fun z => h (.inl z)) e)
  · rintro (h | ⟨h1, h2⟩) (k | ⟨k1, k2⟩)
    · exact ltZ_irr _ (ltZ_trans h k)
    · rw [k1] at h
      exact ltZ_irr _ h
    · rw [h1] at k
      exact ltZ_irr _ k
    · omega
theorem swo_lexS {α : Type} (k : α → Str × Int) : Swo fun v u => lexS (k v) (k u) := by
  refine ⟨fun x y h => ?_, fun x y z h1 h2 => ?_⟩
  · rw [lexS_yes] at h
    rw [lexS_no]
    rcases h with h | ⟨h1, h2⟩
    · exact .inl h
    · exact .inr ⟨h1, by omega⟩
  · rw [lexS_no] at h1 h2 ⊢
    rcases h1 with h1 | ⟨a1, b1⟩ <;> rcases h2 with h2 | ⟨a2, b2⟩
    · exact .inl (ltZ_trans h1 h2)
    · exact .inl (by rw [← a2]; exact h1)
    · exact .inl (by rw [a1]; exact h2)
    · exact .inr ⟨a1.trans a2, by omega⟩
def IsPairZ (h : Heap) (v : Value) (p : Str × Int) : Prop := ∃ a o t u n, v = .ref a ∧ h.get? a = some o ∧ o.cls = .type "tuple" ∧ o.data = .seq #[.str p.1 t, .int p.2 u] n
theorem IsPairZ.keeps {h h' : Heap} {v : Value} {p : Str × Int} (x : IsPairZ h v p) (k : ∀ b o, h.get? b = some o → o.cls = .type "tuple" → h'.get? b = some o) : IsPairZ h' v p := by
  obtain ⟨a, o, t, u, n, e, ho, hc, hd⟩ := x
  exact ⟨a, o, t, u, n, e, k _ _ ho hc, hc, hd⟩
theorem heads_of {h : Heap} : ∀ {vs : List Value}, (∀ v ∈ vs, ∃ p, IsPairZ h v p) → ∃ fs : List Value, PySem.W.KatTups h vs fs ∧ fs.length = vs.length ∧ ∀ f ∈ fs, ∃ x t, f = Value.str x t
  | [], _ => ⟨[], PySem.W.KatTups.nil, rfl, fun _ hm => by simp at hm⟩
  | v :: vs, hp => by
    obtain ⟨fs, h1, h2, h3⟩ := heads_of (vs := vs) fun v' hm => hp v' (List.mem_cons_of_mem _ hm)
    obtain ⟨p, a, o, t, u, n, e, ho, hc, hd⟩ := hp v (List.mem_cons_self ..)
    subst e
    refine ⟨.str p.1 t :: fs, PySem.W.KatTups.cons ho hc hd rfl h1, by simp [h2], fun f hm => ?_⟩
    rcases List.mem_cons.mp hm with rfl | hm
    · exact ⟨_, t, rfl⟩
    · exact h3 f hm
section
variable {prog : Program} {w : World} {A : Around} {E : Value → Shared → Prop} {s : Shared}
theorem pairZ_cmp {vs : List Value} {k : Value → Str × Int} (hp : ∀ v ∈ vs, IsPairZ s.heap v (k v)) : Cmp prog w A s (tuples' true) (fun p => p.1 ∈ vs) (lt2 fun v u => lexS (k v) (k u)) := by
  intro p q hm hm'
  have h1 := hp _ hm
  have h2 := hp _ hm'
  show wpAny (model prog w) A (keyLt' (tuples' true) p.1 q.1) (fun r s' => s' = s ∧ r = lexS (k p.1) (k q.1)) (fun _ _ => False) s
  generalize k p.1 = x at h1 ⊢
  generalize k q.1 = y at h2 ⊢
  obtain ⟨x1, x2⟩ := x
  obtain ⟨y1, y2⟩ := y
  obtain ⟨a, o, t, u, n, e, ho, hc, hd⟩ := h1
  obtain ⟨a', o', t', u', n', e', ho', hc', hd'⟩ := h2
  rw [e, e']
  refine PySem.W.kat_lt ho hd ho' hd' ?_
  show PySem.W.KatLex prog w A true (decide (2 < 2)) _ [(.str x1 t, .str y1 t'), (.int x2 u, .int y2 u')] 0 s
  refine PySem.W.kat_cons (SeqAt.EqAt.str_str x1 t y1 t' prog w _ _ ?_)
  refine PySem.W.kat_go (fun e1 => ?_) (fun e1 => ?_)
  · have ex : x1 = y1 := by simpa using e1
    have e3 : lexS (x1, x2) (y1, y2) = decide (x2 < y2) := if_pos ex
    refine PySem.W.kat_yes (PySem.W.kat_cons (SeqAt.EqAt.int_int x2 u y2 u' prog w _ _ ?_))
    refine PySem.W.kat_go (fun e2 => ?_) (fun e2 => ?_)
    · have ey : x2 = y2 := by simpa using e2
      have e4 : lexS (x1, x2) (y1, y2) = false := by
        rw [e3, ey]
        exact decide_eq_false (Int.lt_irrefl _)
      exact PySem.W.kat_yes (PySem.W.kat_nil ⟨rfl, e4.symm⟩)
    · refine PySem.W.kat_no (PySem.W.kat_one _ _ (PyProof.Rows.lt_int ?_))
      exact (show s = s ∧ decide (x2 < y2) = lexS (x1, x2) (y1, y2) from ⟨rfl, e3.symm⟩)
  · have ex : ¬ x1 = y1 := by simpa using e1
    have e3 : lexS (x1, x2) (y1, y2) = decide (x1.cps.toList < y1.cps.toList) := if_neg ex
    exact PySem.W.kat_no (oneLt_str ⟨rfl, e3.symm⟩)
theorem pairZ_sortable {a : Addr} {vs : List Value} {k : Value → Str × Int} (h0 : 0 < vs.length) (hp : ∀ v ∈ vs, IsPairZ s.heap v (k v)) (ha : ∀ o, s.heap.get? a = some o → o.cls ≠ .type "tuple") : SortableO prog w A s a vs fun v u => lexS (k v) (k u) := by
  intro h' keep
  have hp' : ∀ v ∈ vs, IsPairZ h' v (k v) := fun v hm => (hp v hm).keeps fun b o e c => keep b o (fun z => by subst z; exact ha o e c) e
  obtain ⟨fs, h1, h2, h3⟩ := heads_of fun v hm => ⟨_, hp' v hm⟩
  refine ⟨tuples' true, fun Q E hq => ?_, pairZ_cmp hp'⟩
  refine PySem.W.kat_kind (T := .type "str") h1 (by omega) (fun f hm => ?_) (by rfl) ?_
  · obtain ⟨x, t, rfl⟩ := h3 f hm
    exact PySem.W.Looks.now
  · have e : (Value.type "str" != Value.type "tuple") = true := by first | decide +kernel | rfl | decide
    rw [e]
    exact hq
/-- the items of a list or of a tuple, collected -/
theorem gather {l : Addr} {vs : List Value} {T : String} {Q : List Value → Shared → Prop} (hT : T = "list" ∨ T = "tuple") (hl : ∃ o n, s.heap.get? l = some o ∧ o.cls = .type T ∧ o.data = .seq vs.toArray n)
    (h : Q vs { s with heap := (s.heap.push (seqObj "list" #[] 0)).update s.heap.objs.size (Obj.mapSeq (· ++ vs.toArray)) }) (hz : vs.length ≤ sizeLine) : wpAny (model prog w) A (collect (.ref l)) Q E s := by
  obtain ⟨o, n, ho, hc, hd⟩ := hl
  unfold collect
  refine wpAny_bind (wpAny_runValue (codeAny_builtin entry_proto_collect' ?_))
  show wpAny _ _ (do again (.builtin "list.__iadd__" ⟨[← newList [], .ref l], []⟩)) _ _ s
  refine wpAny_bind (wpAny_newList (wpAny_pure ⟨Code.quiet_builtin _ (by decide +kernel), codeAny_builtin entry_list_iadd' ?_⟩))
  show wpAny _ _ (Builtin.List.listExtendWith (.ref s.heap.objs.size) (.ref l) (.ref s.heap.objs.size)) _ _ { s with heap := s.heap.push (seqObj "list" #[] 0) }
  unfold Builtin.List.listExtendWith
  have ho' : (s.heap.push (seqObj "list" #[] 0)).get? l = some o := Heap.get?_push_of_some _ ho
  refine wpAny_bind (wpAny_typeOf (T := T) ⟨o, ho', hc⟩ ?_)
  have t1 : (Value.type "list" == Value.type "list") = true := by rfl
  have t2 : (Value.type "tuple" == Value.type "tuple") = true := by rfl
  rw [if_pos (by
    rcases hT with rfl | rfl
    · rw [t1, Bool.or_true, Bool.true_or]
    · rw [t2, Bool.or_true])]
  refine wpAny_bind (listItems_at ho' hd ?_)
  refine wpAny_bind (listItems_at (xs := #[]) (n := 0) (Heap.get?_push_size _ rfl) rfl ?_)
  rw [if_neg (by simp)]
  refine wpAny_bind (listUpdate_at (xs := #[]) (n := 0) (Heap.get?_push_size _ rfl) rfl ?_ (Nat.zero_le _) (by show (#[] ++ vs.toArray).size ≤ sizeLine + 1; simp only [Array.size_append, List.size_toArray, List.length_nil]; omega))
  refine wpAny_pure ?_
  show wpAny (model prog w) A (do
      let o ← load s.heap.objs.size
      match o.data with
      | .seq xs _ => pure xs.toList
      | _ => unsupported "internal:collect") Q E { s with heap := (s.heap.push (seqObj "list" #[] 0)).update s.heap.objs.size (Obj.mapSeq (· ++ vs.toArray)) }
  refine wpAny_bind (wpAny_load (get?_update_seq (Heap.get?_push_size _ rfl) _) ?_)
  show wpAny _ _ (pure ((#[] : Array Value) ++ vs.toArray).toList) Q E _
  rw [show ((#[] : Array Value) ++ vs.toArray).toList = vs by simp]
  exact wpAny_pure h
/-- sorted of a list or of a tuple of such pairs -/
theorem sortedZ {l : Addr} {vs : List Value} {T : String} {k : Value → Str × Int} {Q : Value → Shared → Prop} (hT : T = "list" ∨ T = "tuple") (hl : ∃ o n, s.heap.get? l = some o ∧ o.cls = .type T ∧ o.data = .seq vs.toArray n) (hz : vs.length ≤ sizeLine) (hp : ∀ v ∈ vs, IsPairZ s.heap v (k v))
    (h : ∀ (h' : Heap) (d : Addr) (out : List Value), Srtd (fun v u => lexS (k v) (k u)) out → Stb (fun v u => lexS (k v) (k u)) out vs → (∀ b o, s.heap.get? b = some o → h'.get? b = some o) → s.heap.objs.size ≤ d → (∃ n, h'.get? d = some (seqObj "list" out.toArray n)) → Q (.ref d) { s with heap := h' }) :
    wpAny (model prog w) A (call (.builtin "sorted") [.ref l]) Q E s := by
  have O : Swo fun v u => lexS (k v) (k u) := swo_lexS k
  refine Calls.call_function_entry kind_sorted plain_sorted entry_sorted (args_sorted1 _) ?_
  unfold Builtin.«sorted»
  refine wpAny_bind (m := checkCount "sorted" 1 1 _) (wpAny_pure ?_)
  refine wpAny_bind (gather hT hl ?_ hz)
  refine wpAny_bind (wpAny_newList ?_ hz)
  have sz : ((s.heap.push (seqObj "list" #[] 0)).update s.heap.objs.size (Obj.mapSeq (· ++ vs.toArray))).objs.size = s.heap.objs.size + 1 := by
    rw [Heap.size_update, size_push']
  have new : (((s.heap.push (seqObj "list" #[] 0)).update s.heap.objs.size (Obj.mapSeq (· ++ vs.toArray))).push (seqObj "list" vs.toArray 0)).get? (s.heap.objs.size + 1) = some (seqObj "list" vs.toArray 0) := by
    rw [← sz]
    exact Heap.get?_push_size _ rfl
  have keep : ∀ b o, s.heap.get? b = some o → (((s.heap.push (seqObj "list" #[] 0)).update s.heap.objs.size (Obj.mapSeq (· ++ vs.toArray))).push (seqObj "list" vs.toArray 0)).get? b = some o := fun b o q => by
    refine Heap.get?_push_of_some _ ?_
    rw [Heap.get?_update_ne _ _ _ _ (Nat.ne_of_lt (Heap.lt_size q))]
    exact Heap.get?_push_of_some _ q
  show wpAny _ _ _ _ _ { s with heap := ((s.heap.push (seqObj "list" #[] 0)).update s.heap.objs.size (Obj.mapSeq (· ++ vs.toArray))).push (seqObj "list" vs.toArray 0) }
  rw [sz]
  refine wpAny_bind (wpAny_holding (wpAny_call_entry slot_list_sort ⟨_, new, rfl⟩ entry_list_sort (list_sort_ord O new hz (fun h2 => ?_) fun out hs hb => ⟨_, rfl, ?_⟩) (args_list_sort _)))
  · refine pairZ_sortable (by omega) (fun v hm => (hp v hm).keeps fun b o e _ => keep b o e) fun o e c => ?_
    have e' : some o = some (seqObj "list" vs.toArray 0) := e.symm.trans new
    cases e'
    exact absurd (Value.type.inj c) (by decide)
  · exact wpAny_pure ⟨_, rfl, h _ _ out hs hb (fun b o e => sortedAll_old e) (Nat.le_succ _) (sortedAll_at s.heap vs out.toArray)⟩
end
end K9S
end PySem
namespace K9
open PySem PySem.Spec PyProof.Rows L2 L2H HotX Evl
abbrev ltN (k : V → Str × Int) (x y : V) : Bool := PySem.K9S.lexS (k x) (k y)
theorem ltN_swo (k : V → Str × Int) : SrtO.Swo (ltN k) := PySem.K9S.swo_lexS k
/-- sorted(xs), xs a list or a tuple of pairs of a text and an int -/
def rSortedN (K : PySem.W.Frag) : List V → Hp → VK → Prop := fun vs H Q => ∃ (a : Addr) (xs : List V) (k : V → Str × Int), vs = [V.ref a] ∧ (SqL K H a xs ∨ SqT K H a xs) ∧ (∀ x ∈ xs, ∃ t, x = V.ref t ∧ H t = some (.tup [.str (k x).1, .int (k x).2])) ∧
  ∀ ys p, SrtO.Srtd (ltN k) ys → SrtO.Stb (ltN k) ys xs → H p = none → Q (.ref p) (upd H p (.lst ys))
section
variable {X : Cx}
theorem cr_sortedN : CallR X (.builtin "sorted") (rSortedN X.K) := by
  intro pins s σ H vs us Q I r h
  obtain ⟨a, xs, k, rfl, hs, hx, q⟩ := h
  obtain ⟨u, rfl, ru⟩ := vals1 r
  obtain rfl : u = Value.ref a := ru
  have got : ∃ (its : List Value) (T : String), (T = "list" ∨ T = "tuple") ∧ Vals xs its ∧ (∃ o n, s.heap.get? a = some o ∧ o.cls = .type T ∧ o.data = .seq its.toArray n) ∧ xs.length ≤ sizeLine := by
    rcases hs with hs | hs
    · obtain ⟨its, rv, hl, hz⟩ := I.list hs
      obtain ⟨o, ho, hc, n, hd⟩ := hl.isList
      exact ⟨its, "list", .inl rfl, rv, ⟨o, n, ho, hc, hd⟩, hz⟩
    · obtain ⟨its, rv, ht, hz⟩ := I.tuple hs
      obtain ⟨o, ho, hc, n, hd⟩ := ht
      exact ⟨its, "tuple", .inr rfl, rv, ⟨o, n, ho, hc, hd⟩, hz⟩
  obtain ⟨its, T, hT, rv, hl, hz⟩ := got
  obtain ⟨e1, e2⟩ := refs_back rv fun x m => by
    obtain ⟨t, e, _⟩ := hx x m
    exact ⟨t, e⟩
  refine PySem.K9S.sortedZ (k := fun u => k (backV u)) hT hl (by rw [← rv.length]; exact hz) (fun v hv => ?_) fun h' d out h1 h2 kp hd hn => ?_
  · obtain ⟨t, rfl⟩ := e2 v hv
    have hm : V.ref t ∈ xs := by rw [e1]; exact List.mem_map.mpr ⟨_, hv, rfl⟩
    obtain ⟨t', e, ht⟩ := hx _ hm
    cases e
    obtain ⟨_, its2, r2, o, ho, hc, n, hd⟩ := I.hok _ _ ht
    obtain ⟨u1, u2, rfl, ri, rj⟩ := vals2 r2
    obtain ⟨t1, rfl⟩ := ri
    obtain ⟨t2, rfl⟩ := rj
    exact ⟨t, o, t1, t2, n, rfl, ho, hc, hd⟩
  · have h3 : ∀ u ∈ out, ∃ a, u = Value.ref a := fun u hu => e2 u (h2.perm.mem_iff.mp hu)
    obtain ⟨n, hn⟩ := hn
    have hb : SrtO.Stb (ltN k) (out.map backV) xs := by
      rw [e1]
      exact SrtO.Stb.map (ltN_swo k) backV h2
    refine ⟨.ref d, upd H d (.lst (out.map backV)), I.laid (t' := s.toks) kp hd ⟨?_, out, n, vals_back h3, hn⟩, rfl, q _ d (SrtO.srtd_map h1) hb (I.hok.fresh hd)⟩
    rw [hb.len]
    exact hz
end
end K9

namespace K9
open PySem PySem.Spec PyProof.Rows L2 L2H HotX Evl
/-! ### sets of texts and ints, made by a comprehension -/
section
variable {X : Cx}
theorem addK_ok {pins : List (Addr × Obj)} {σ : St} {H : Hp} {s : Shared} {E : Value → Shared → Prop} {D : Addr} {S : Key → Bool} {n : Nat} {k : Key} {u : Value} {Q : Value → Shared → Prop} (I : Inv X pins σ H s) (hD : H D = some (SetK X.prog X.w D S n)) (room : n + 1 < scanBound) (r : RelV (kV k) u)
    (h : ∀ s', Inv X pins σ (upd H D (SetK X.prog X.w D (fun j => S j || decide (j = k)) (if S k = true then n else n + 1))) s' → Q .none s') : wpAny (model X.prog X.w) X.A (call (.builtin "set.add") [.ref D, u]) Q E s := by
  refine call_set_add (kV_is r) (key_scan r) (setK_get I hD) room fun h' sb new => ?_
  have he : ∃ u, h'.get? D = some u := by
    have ⟨o, _, _, _, ho, _⟩ := new
    exact ⟨o, ho⟩
  exact h _ (I.write (e := D) (t' := s.toks + 1) (by rw [hD]; trivial) (.inl rfl) (fun b u hb hu => (sb.2 b hb).trans hu) he (setK_new new))
/-- len of such a set -/
def rLenK (P : Program) (w : World) : List V → Hp → VK → Prop := fun xs H Q => ∃ (a : Addr) (S : Key → Bool) (n : Nat), xs = [V.ref a] ∧ H a = some (SetK P w a S n) ∧ Q (.int (n : Int)) H
theorem call_lenK : CallR X (.builtin "len") (rLenK X.prog X.w) := by
  intro pins s σ H xs us Q I r h
  obtain ⟨a, S, n, rfl, ha, q⟩ := h
  obtain ⟨u, rfl, ru⟩ := vals1 r
  obtain rfl : u = Value.ref a := ru
  have R := setK_get I ha
  obtain ⟨o, es, ep, t, ho, hex, hd, hi, hS, hb, hf, hn⟩ := R
  have lt : es.size < 4096 := hb
  have sz : es.size = n := hn
  refine call_len_set ho hex hd hf (by omega) ⟨.int (n : Int), H, I.tok _, ?_, q⟩
  rw [sz]
  exact ⟨_, rfl⟩
end
/-- {e for x in xs if ..}: D the new set -/
def tScK (P : Program) (w : World) (wi : TI) (g : TG) (tt : TT) (te : TE) (vs : List Nat) : TE := fun σ H Q => wi σ H fun J H1 => ∀ D, H1 D = none → ∃ W : Nat → Nat → Hp → Prop, (∃ m, W 0 m (upd H1 D (SetK P w D (fun _ => false) 0))) ∧ ∀ i m H, W i m H →
  (J.stop i H ∧ Q (.ref D) H) ∨ (J.go i H ∧ ∃ Nx : Hp → Prop, (∀ H', Nx H' → ∃ m', m' < m ∧ W (i + 1) m' H') ∧ ∀ x H', J.yld i H x H' → g x (wipe σ vs) H' fun σ2 H2 => wipe σ2 vs = wipe σ vs ∧ tt σ2 H2 fun b H3 =>
    if b = true then te σ2 H3 fun y H4 => ∃ (k : Key) (S : Key → Bool) (n : Nat), y = kV k ∧ H4 D = some (SetK P w D S n) ∧ n + 1 < scanBound ∧ Nx (upd H4 D (SetK P w D (fun j => S j || decide (j = k)) (if S k = true then n else n + 1))) else Nx H3)
section
variable {X : Cx} {elt tg iter : Expr} {ifs : List Expr} {scope : Scope} {own : List (Str × Nat)} {pos : Pos} {wi : TI} {g : TG} {tt : TT} {te : TE}
theorem pe_scK (hc : X.calm = true) (hN : X.N.Nodup) (hi : PI X tg iter wi) (ok : BlkOk X.N X.env.scope scope own)
    (hg : ∀ (s : Shared) (H : Hp) (C : Addr) (cl : List (Str × Addr)) (fp : List Addr), PG (X.blk s H scope (compEnvC scope cl C X.env) fp) tg g)
    (ht : ∀ (s : Shared) (H : Hp) (C : Addr) (cl : List (Str × Addr)) (fp : List Addr), PTs (X.blk s H scope (compEnvC scope cl C X.env) fp) ifs tt)
    (he : ∀ (s : Shared) (H : Hp) (C : Addr) (cl : List (Str × Addr)) (fp : List Addr), PE (X.blk s H scope (compEnvC scope cl C X.env) fp) elt te)
    (hs : ∀ x, foldedSetIterable iter X.env x = pure x := by intro _; rfl) :
    PE X (.SetComp elt [⟨tg, iter, ifs, 0⟩] scope pos) (tScK X.prog X.w wi g tt te (own.map (·.2))) := by
  refine ⟨fun pins s σ H Q I h => ?_⟩
  rw [PpSet.eval_SetComp]
  have caps : ∀ y ∈ scope.names, y.2 = .free → ∃ c, X.env.cells.lookup y.1 = some c := fun y hy e => by
    rcases ok.free y hy e with k | k
    · exact I.ok.has _ (.inl k)
    · exact I.ok.has _ (.inr k)
  refine wpAny_comprehension_free (use := none) rfl hs (closure_ok caps) ok.kind (fun y hy e => by rw [ok.uniq y hy, e])
    (thn (hi.run pins s σ H _ I h) fun xv s1 hx => thn hx fun itv s2 h2 => ?_)
  obtain ⟨it, fp, tn, J, H2, e, I2, T, st2, f2, q⟩ := h2
  subst e
  refine PpSet.newSet_ok (newEnv_comp ?_)
  generalize hD : s2.heap.objs.size = D
  have freeD : H2 D = none := I2.hok.fresh (Nat.le_of_eq hD)
  obtain ⟨W, ⟨m0, w0⟩, turn⟩ := q D freeD
  generalize hs3 : ({ s2 with heap := s2.heap.push { cls := .type "set", dict := none, data := .set #[] 0 (.fresh 0 0 (!X.w.params.followText "set-order")) } } : Shared) = s3
  have h3 : s3.heap = s2.heap.push { cls := .type "set", dict := none, data := .set #[] 0 (.fresh 0 0 (!X.w.params.followText "set-order")) } := by rw [← hs3]
  have I3 : Inv X pins σ (upd H2 D (SetK X.prog X.w D (fun _ => false) 0)) s3 := by
    rw [← hs3]
    refine I2.laid (t' := s2.toks) (fun b o e => Heap.get?_push_of_some _ e) (Nat.le_of_eq hD) ?_
    rw [← hD]
    exact setK_new ⟨_, #[], 0, _, Heap.get?_push_size _ rfl, ⟨rfl, rfl, rfl⟩, rfl, (fun e he => by simp at he), (fun k => by simp), (by decide), (by rfl), rfl⟩
  have below : ∀ b ∈ fp, b < s2.heap.objs.size := fun b hb => by
    obtain ⟨o, e, _⟩ := T.obj _ _ st2 b hb
    exact Heap.lt_size e
  have f3 : ∀ b ∈ fp, FpOk X pins (upd H2 D (SetK X.prog X.w D (fun _ => false) 0)) b ∧ b < s3.heap.objs.size := fun b hb => by
    have lt := below b hb
    constructor
    · refine ⟨?_, (f2 b hb).2⟩
      rw [upd_ne (by rw [← hD]; exact Nat.ne_of_lt lt)]
      exact (f2 b hb).1
    · rw [h3, Heap.size_push]
      exact Nat.lt_succ_of_lt lt
  have st3 : tn 0 s3.heap := T.keep _ _ _ st2 fun b _ o e => by
    rw [h3]
    exact Heap.get?_push_of_some _ e
  have I4 := block_start I3 ok hN f3
  have pg := hg s3 (upd H2 D (SetK X.prog X.w D (fun _ => false) 0)) s3.heap.objs.size (cellsFrom (s3.heap.objs.size + 1) scope.names (cloFrom X.env.cells scope.names [])) fp
  have pt := ht s3 (upd H2 D (SetK X.prog X.w D (fun _ => false) 0)) s3.heap.objs.size (cellsFrom (s3.heap.objs.size + 1) scope.names (cloFrom X.env.cells scope.names [])) fp
  have pe := he s3 (upd H2 D (SetK X.prog X.w D (fun _ => false) 0)) s3.heap.objs.size (cellsFrom (s3.heap.objs.size + 1) scope.names (cloFrom X.env.cells scope.names [])) fp
  show codeAny _ _ (.compStart (.SetComp elt [⟨tg, iter, ifs, 0⟩] scope pos) 0 (.ref it) (.ref D) (compEnvC scope (cellsFrom (s3.heap.objs.size + 1) scope.names (cloFrom X.env.cells scope.names [])) s3.heap.objs.size X.env)) _ { s3 with heap := pushCells (s3.heap.push { cls := .type "dict", data := .dict #[] }) scope.names }
  have nfp : ∀ b ∈ fp, (upd H2 D (SetK X.prog X.w D (fun _ => false) 0)) b = none := fun b hb => (f3 b hb).1.1
  generalize hce : compEnvC scope (cellsFrom (s3.heap.objs.size + 1) scope.names (cloFrom X.env.cells scope.names [])) s3.heap.objs.size X.env = ce at I4 pg pt pe ⊢
  have cL : ce.locals = s3.heap.objs.size := by
    subst hce
    rfl
  generalize hH3 : upd H2 D (SetK X.prog X.w D (fun _ => false) 0) = H3 at I3 I4 pg pt pe w0 nfp f3
  generalize hs4 : ({ s3 with heap := pushCells (s3.heap.push { cls := .type "dict", data := .dict #[] }) scope.names } : Shared) = s4 at I4 ⊢
  have st4 : tn 0 s4.heap := T.keep _ _ _ st3 fun b _ o e => by
    rw [← hs4]
    exact pushCells_keeps _ _ _ _ (Heap.get?_push_of_some _ e)
  have stat : ∀ {σ' : St} {H' : Hp} {s' : Shared}, Inv (X.blk s3 H3 scope ce fp) [] σ' H' s' → (∀ b ∈ fp, H' b = none) → ∀ b ∈ fp, FpOk (X.blk s3 H3 scope ce fp) [] H' b := fun {σ' H' s'} I' hn b hb =>
    ⟨hn b hb, (I'.ok.exf b hb).1, I'.ok.exfs b hb, .inl hb, fun x c e => (I'.ok.exf b hb).2 x c e, fun p hp => absurd (show p ∈ ([] : List (Addr × Obj)) ++ [] from hp) (by simp)⟩
  have loop : codeAny (model X.prog X.w) X.A (.compLoop (.SetComp elt [⟨tg, iter, ifs, 0⟩] scope pos) 0 (.ref it) (.ref D) ce) (compPost (model X.prog X.w) X.A X.xe none (EP X pins σ Q) (.ref D) s3.heap.objs.size) s4 := by
    refine PpSet.compLoopS_any (fun n s' => ∃ i H', Inv (X.blk s3 H3 scope ce fp) [] (wipe σ (own.map (·.2))) H' s' ∧ tn i s'.heap ∧ (∀ b ∈ fp, H' b = none) ∧ W i n H') ?_ m0 ⟨0, H3, I4, st4, nfp, w0⟩
    rintro n s5 ⟨i, H5, I5, st5, n5, w5⟩
    rcases turn i n H5 w5 with ⟨stop, qq⟩ | ⟨go, Nx, hNx, step⟩
    · refine thnF (T.done (X.blk s3 H3 scope ce fp) rfl rfl rfl hc i [] s5 _ H5 (fun _ _ => False) I5 (stat I5 n5) st5 stop) fun r s6 ⟨hr, I6⟩ => ?_
      subst hr
      have I7 : Inv X pins σ H5 s6 := I3.call' (ch := fp) I6.os I6.base I6.hok I6.bare fun b hb =>
        ⟨(f3 b hb).1.2.2.2.1, (f3 b hb).1.2.1, (f3 b hb).1.2.2.2.2.1, (f3 b hb).1.2.2.2.2.2⟩
      have nC : H5 s3.heap.objs.size = none := by
        have z : H5 ce.locals = none := I6.free
        rw [cL] at z
        exact z
      obtain ⟨m, hn, _⟩ := I6.loc
      have hn : s6.heap.Ns ce.locals m := hn
      rw [cL] at hn
      refine ⟨m, hn, fun h'' sb => ?_⟩
      obtain ⟨y0, y1, y2, y3, y4, y5⟩ := I3.fpOk (Nat.le_refl _) nC
      exact ⟨.ref D, H5, I7.turned (t' := s6.toks) (fun b o hb e => (sb.2 b hb).trans e) y0 y1 y3 y4 y5, rfl, qq⟩
    · refine thnF (T.item (X.blk s3 H3 scope ce fp) rfl rfl rfl hc i [] s5 _ H5 (fun _ _ => False) I5 (stat I5 n5) st5 go) fun r s6 ⟨u, hr, h6⟩ => ?_
      subst hr
      refine thnF h6 fun _ s7 ⟨x, H7, I7, r7, y7, st7, n7⟩ => ?_
      have I7' := I7.pinned (stat I7 n7) (T.obj _ _ st7)
      refine thnF (pg.run _ s7 _ H7 x u _ I7' r7 (step x H7 y7)) fun _ s8 ⟨σ8, H8, I8, hw8, q8⟩ => ?_
      refine thnF (pt.run _ s8 σ8 H8 _ I8 q8) fun b s9 ⟨H9, I9, q9⟩ => ?_
      have next : ∀ {s' : Shared} {H' : Hp}, Inv (X.blk s3 H3 scope ce fp) ([] ++ pinsAt fp s7.heap) σ8 H' s' → Nx H' →
          ∃ m, m < n ∧ ∃ i H', Inv (X.blk s3 H3 scope ce fp) [] (wipe σ (own.map (·.2))) H' s' ∧ tn i s'.heap ∧ (∀ b ∈ fp, H' b = none) ∧ W i m H' := fun {s' H'} I' nx => by
        obtain ⟨m', hm, w'⟩ := hNx H' nx
        have still : ∀ b ∈ fp, ∀ o, s7.heap.get? b = some o → s'.heap.get? b = some o ∧ H' b = none := fun b hb o e =>
          let z := I'.pin (b, o) (List.mem_append_right _ (List.mem_append_right _ (mem_pinsAt hb e)))
          ⟨z.1, z.2.1⟩
        have hl : (wipe σ (own.map (·.2))).length = σ8.length := by rw [← hw8, wipe_length]
        refine ⟨m', hm, i + 1, H', (I'.unpinned (pins := [])).weak hl (fun j v e => ?_), T.keep _ _ _ st7 fun b hb o e => (still b hb o e).1, fun b hb => ?_, w'⟩
        · rw [← hw8] at e
          exact (wipe_some e).1
        · obtain ⟨o, e, _⟩ := T.obj _ _ st7 b hb
          exact (still b hb o e).2
      cases b with
      | false =>
        simp only [Bool.false_eq_true, if_false] at q9 ⊢
        exact next I9 q9
      | true =>
        simp only [if_true] at q9 ⊢
        refine thnF (pe.run _ s9 σ8 H9 _ I9 q9) fun z s10 ⟨yv, H10, I10, r10, kk, S0, n0, ey, hD10, hz10, nx⟩ => ?_
        subst ey
        exact addK_ok (X := X.blk s3 H3 scope ce fp) I10 hD10 hz10 r10 fun s11 I11 => next I11 nx
  exact PpSet.codeAny_compStart_set loop (T.self X.A 0 _ _ _ st4 loop)
end
end K9

namespace K9
open PySem PySem.Spec PyProof.Rows L2 L2H HotX Evl
/-! ### a def whose code object is known -/
theorem okT_of {P : Program} {w : World} {K : PySem.W.Frag} {mg : Str → Option Value} {base : Heap} {k : Nat} {x : Str} {params : Arguments} {body : List Stmt} {scope : Scope} {f c : Addr} {fd : FuncData} {N ps : List Str} {sp : Sp}
    (F : FunD K x x params body scope [] [] f fd) (hm : mg x = some (.ref f)) (hc : fd.code = .ref c) (S : FnScope N ps scope)
    (hb : ∀ (kV doc pm : Value) (an : Option Addr) (cdv ct : Value) (us : List Value), us.length = ps.length → bindArgs (PySem.W.fnOf x x params body scope .none kV doc pm an cdv ct) ⟨us, []⟩ = pure (ps.zip us))
    (len : ∀ vs H Q E, sp vs H Q E → vs.length = ps.length)
    (hbody : ∀ (cdv : Value), cdv = .ref c → ∀ (A : Around) (outer : List Env) (s : Shared) (H : Hp) (vs : List V) (Q : VK) (E : XK), Room k (A.deeper (envOfC x scope s.heap.objs.size f cdv)) → sp vs H Q E →
      ∃ t, PSs (cxOf CX0 P w K mg base N x scope f cdv A outer s H E) body t ∧ t { nx := fun _ H' => Q .non H', rt := Q } (start N vs) H) :
    OkC P w K mg base (k + 1) x ps sp := by
  have bn := F.bindsN (ps := ps) hb
  obtain ⟨oc, od, dV, kV, doc, pm, an, cdv, ct, osl, rfl, lk, hcd, _, _⟩ := F.ex
  exact ⟨f, _, fn_of lk hcd S len fun A outer s H vs Q E hr hsp => hbody cdv hc A outer s H vs Q E hr hsp, hm, F.kp, bn⟩
/-! ### all over items that are told ahead -/
theorem allG_by {P : Addr} {wi : TI} {i : Nat} {te : TE} {σ : L2.St} {H : Hp} {Q : VK} {J : It} {n : Nat} {item : Nat → V} (pb : Nat → Bool) (hi : i < σ.length) (hw : ∀ R : It → Hp → Prop, R J H → wi σ H R) (hT : TabX H P) (wk : Walks J n item H)
    (step : ∀ j H1 (R : VK), j < n → Ex H H1 → (∀ H2, Ex H1 H2 → R (.bl (pb j)) H2) → te ((wipe σ [i]).set i (some (item j))) H1 R) (fin : ∀ H1, Ex H H1 → Q (.bl ((List.range n).all pb)) H1) : tAllG P false wi (gName i) te [i] σ H Q := by
  refine hw _ ⟨hT, fun j m H1 => m = n - j ∧ j ≤ n ∧ Ex H H1 ∧ ∀ t, t < j → pb t = true, ⟨n - 0, rfl, Nat.zero_le _, Ex.refl H, fun t ht => absurd ht (Nat.not_lt_zero t)⟩, ?_⟩
  rintro j m H1 ⟨rfl, hj, e, hp⟩
  by_cases hjn : j = n
  · subst hjn
    refine .inl ⟨wk.stop H1 e, ?_⟩
    have z : (List.range j).all pb = true := List.all_eq_true.mpr fun t ht => hp t (List.mem_range.mp ht)
    have y := fin H1 e
    rw [z] at y
    exact y
  · have hj2 : j < n := by omega
    refine .inr ⟨wk.go j H1 e hj2, n - (j + 1), fun H' => Ex H H' ∧ ∀ t, t < j + 1 → pb t = true, by omega, fun H' h => ⟨rfl, by omega, h.1, h.2⟩, fun x H' hy => ?_⟩
    obtain ⟨rfl, rfl⟩ := wk.yld j H1 x H' e hj2 hy
    refine ⟨?_, step j H' _ hj2 e fun H2 e2 => ⟨pb j, rfl, ?_⟩⟩
    · simp [wipe]
    · cases hb : pb j with
      | true =>
        rw [if_neg (by decide)]
        refine ⟨e.trans e2, fun t ht => ?_⟩
        by_cases htj : t = j
        · rw [htj]; exact hb
        · exact hp t (by omega)
      | false =>
        rw [if_pos rfl]
        have z : (List.range n).all pb = false := by
          rw [Bool.eq_false_iff]
          intro hz
          have y := List.all_eq_true.mp hz j (List.mem_range.mpr hj2)
          rw [hb] at y
          cases y
        have y := fin H2 (e.trans e2)
        rw [z] at y
        exact y
theorem walks_str {x : Str} {H : Hp} : Walks (Its x) x.cps.size (fun i => .str ⟨#[x.cps.getD i 0]⟩) H := by
  refine ⟨fun i H1 _ h => h, fun i H1 y H' _ hi hy => ?_, fun _ _ => Nat.le_refl _⟩
  obtain ⟨h1, c, h2, rfl⟩ := hy
  refine ⟨h1, ?_⟩
  have h2 : x.cps[i]? = some c := h2
  show V.str _ = V.str _
  congr 2
  simp [Array.getD_eq_getD_getElem?, h2]
/-- the same over the signs -/
theorem all_signs (a : Str) (pb : Nat → Bool) : (List.range a.cps.size).all (fun j => pb (a.cps.getD j 0)) = a.cps.toList.all pb := by
  rw [Bool.eq_iff_iff, List.all_eq_true, List.all_eq_true]
  constructor
  · intro h b hb
    obtain ⟨j, hj, e⟩ := List.getElem_of_mem hb
    have hj2 : j < a.cps.size := by simpa using hj
    have q := h j (List.mem_range.mpr hj2)
    have e2 : a.cps.getD j 0 = b := by
      rw [← e]
      simp [Array.getD_eq_getD_getElem?, hj2]
    rw [e2] at q
    exact q
  · intro h j hj
    have hj2 := List.mem_range.mp hj
    have e2 : a.cps.getD j 0 = a.cps[j] := by simp [Array.getD_eq_getD_getElem?, hj2]
    rw [e2]
    exact h _ (by simp)
/-- what is a text and what is none, by isinstance -/
def NoStr (K : PySem.W.Frag) (H : Hp) (v : V) : Prop := ∀ (H' : Hp) (Q : VK), Ex H H' → Q (.bl false) H' → rIsA K [] [v, .ty "str"] H' Q
theorem NoStr.ext {K : PySem.W.Frag} {H H' : Hp} {v : V} (e : Ex H H') (h : NoStr K H v) : NoStr K H' v := fun H2 Q e2 q => h H2 Q (e.trans e2) q
theorem is_str {K : PySem.W.Frag} {H : Hp} {z : Str} {Q : VK} (q : Q (.bl true) H) : rIsA K [] [.str z, .ty "str"] H Q := .inr ⟨_, _, _, _, _, rfl, .ty _, .base (.str _), rfl, q⟩
/-- a value that may be a text -/
inductive MayStr (K : PySem.W.Frag) (H : Hp) : V → Option Str → Prop
  | str (z : Str) (h : z.length ≤ 1000) : MayStr K H (.str z) (some z)
  | no {v : V} (h : NoStr K H v) : MayStr K H v none
theorem MayStr.ext {K : PySem.W.Frag} {H H' : Hp} {v : V} {o : Option Str} (e : Ex H H') (h : MayStr K H v o) : MayStr K H' v o := by
  cases h with
  | str z h => exact .str z h
  | no h => exact .no (h.ext e)
end K9

namespace K9
open PySem PySem.Spec PyProof.Rows L2 L2H HotX Evl
/-! ### values by their built-in type -/
inductive Bas (H : Hp) : V → String → Prop
  | non : Bas H .non "NoneType"
  | bl (b : Bool) : Bas H (.bl b) "bool"
  | int (i : Int) : Bas H (.int i) "int"
  | str (z : Str) : Bas H (.str z) "str"
  | lst {a : Addr} {xs : List V} (h : H a = some (.lst xs)) : Bas H (.ref a) "list"
  | tup {a : Addr} {xs : List V} (h : H a = some (.tup xs)) : Bas H (.ref a) "tuple"
  | dK {a : Addr} {ks : List (Key × V)} (h : H a = some (.dK ks)) : Bas H (.ref a) "dict"
theorem Bas.ext {H H' : Hp} {v : V} {s : String} (e : Ex H H') (h : Bas H v s) : Bas H' v s := by
  cases h with
  | non => exact .non
  | bl b => exact .bl b
  | int i => exact .int i
  | str z => exact .str z
  | lst h => exact .lst (e _ _ h)
  | tup h => exact .tup (e _ _ h)
  | dK h => exact .dK (e _ _ h)
theorem Bas.ty {K : PySem.W.Frag} {H : Hp} {v : V} {s : String} (h : Bas H v s) : TyX K H v (.type s) := by
  cases h with
  | non => exact .base .non
  | bl b => exact .base (.bl b)
  | int i => exact .base (.int i)
  | str z => exact .base (.str z)
  | lst h => exact .base (.lst h)
  | tup h => exact .base (.tup h)
  | dK h => exact .base (.dK h)
theorem Bas.is {K : PySem.W.Frag} {H : Hp} {v : V} {s T : String} {r : Bool} {Q : VK} (h : Bas H v s) (k : PySem.W.kitOne K (.type s) (.type T) = some r) (q : Q (.bl r) H) : rIsA K [] [v, .ty T] H Q :=
  .inr ⟨_, _, _, _, _, rfl, .ty _, h.ty, k, q⟩
theorem Bas.isi {K : PySem.W.Frag} {H : Hp} {v : V} {s T : String} {r : Bool} {Q : VK} (h : Bas H v s) (k : PySem.W.kitOne K (.type s) (.type T) = some r) (q : Q (.bl r) H) : rIsi K [v, .ty T] H Q :=
  ⟨_, _, _, _, _, rfl, .ty _, h.ty, k, q⟩
theorem Bas.isT {K : PySem.W.Frag} {H : Hp} {v : V} {s T1 T2 : String} {r : Bool} {t : Addr} {Q : VK} (h : Bas H v s) (ht : H t = some (.tup [.ty T1, .ty T2])) (k : PySem.W.kitAny K (.type s) [.type T1, .type T2] = some r) (q : Q (.bl r) H) : rIsiT K [v, .ref t] H Q :=
  ⟨_, t, _, _, _, _, rfl, ht, .cons (.ty _) (.cons (.ty _) .nil), h.ty, k, q⟩
theorem Bas.noStr {K : PySem.W.Frag} {H : Hp} {v : V} {s : String} (h : Bas H v s) (n : s ≠ "str") : NoStr K H v := fun H' Q e q => by
  have h' := h.ext e
  cases h' with
  | str z => exact absurd rfl n
  | non => exact Bas.is .non rfl q
  | bl b => exact Bas.is (.bl b) rfl q
  | int i => exact Bas.is (.int i) rfl q
  | lst h2 => exact Bas.is (.lst h2) rfl q
  | tup h2 => exact Bas.is (.tup h2) rfl q
  | dK h2 => exact Bas.is (.dK h2) rfl q
theorem May_of {K : PySem.W.Frag} {H : Hp} {v : V} {s : String} (h : Bas H v s) (hz : ∀ z, v = .str z → z.length ≤ 1000) : ∃ o, MayStr K H v o := by
  cases h with
  | str z => exact ⟨_, .str z (hz z rfl)⟩
  | non => exact ⟨_, .no (Bas.noStr .non (by decide))⟩
  | bl b => exact ⟨_, .no (Bas.noStr (.bl b) (by decide))⟩
  | int i => exact ⟨_, .no (Bas.noStr (.int i) (by decide))⟩
  | lst h => exact ⟨_, .no (Bas.noStr (.lst h) (by decide))⟩
  | tup h => exact ⟨_, .no (Bas.noStr (.tup h) (by decide))⟩
  | dK h => exact ⟨_, .no (Bas.noStr (.dK h) (by decide))⟩
/-! ### whole numbers, rows of a name and a count -/
/-- a count's place: a number, or something flat -/
inductive MayInt : V → Option Int → Prop
  | int (i : Int) : MayInt (.int i) (some i)
  | bl (b : Bool) : MayInt (.bl b) none
  | non : MayInt .non none
  | str (z : Str) : MayInt (.str z) none
def onInt : Option Int → Bool
  | some i => decide (0 ≤ i) && decide (i ≤ 3)
  | none => false
section
variable (nameB : Str → Bool)
def rowB : Option Str → Option Int → Bool
  | some z, o => nameB z && onInt o
  | none, _ => false
/-- an item of a list of names: what it tells, if it is a row as it may be -/
inductive RowQ (K : PySem.W.Frag) (H : Hp) : V → Option (Str × Int) → Prop
  | other {v : V} {s : String} (h : Bas H v s) (n : s ≠ "tuple") : RowQ K H v none
  | len {t : Addr} {xs : List V} (h : H t = some (.tup xs)) (n : xs.length ≠ 2) (m : xs.length ≤ 1000) : RowQ K H (.ref t) none
  | bad {t : Addr} {a b : V} {o : Option Str} {p : Option Int} (h : H t = some (.tup [a, b])) (ha : MayStr K H a o) (hb : MayInt b p) (n : rowB nameB o p = false) : RowQ K H (.ref t) none
  | good {t : Addr} {z : Str} {i : Int} (h : H t = some (.tup [.str z, .int i])) (hz : z.length ≤ 1000) (n : rowB nameB (some z) (some i) = true) : RowQ K H (.ref t) (some (z, i))
variable {nameB}
theorem RowQ.ext {K : PySem.W.Frag} {H H' : Hp} {v : V} {r : Option (Str × Int)} (e : Ex H H') (h : RowQ nameB K H v r) : RowQ nameB K H' v r := by
  cases h with
  | other h n => exact .other (h.ext e) n
  | len h n m => exact .len (e _ _ h) n m
  | bad h ha hb n => exact .bad (e _ _ h) (ha.ext e) hb n
  | good h hz n => exact .good (e _ _ h) hz n
/-- the rows of a pair, whichever they are -/
theorem row_of {K : PySem.W.Frag} {H : Hp} {t : Addr} {a b : V} {o : Option Str} {p : Option Int} (h : H t = some (.tup [a, b])) (ha : MayStr K H a o) (hb : MayInt b p) : ∃ r, RowQ nameB K H (.ref t) r := by
  cases hr : rowB nameB o p with
  | false => exact ⟨_, .bad h ha hb hr⟩
  | true =>
    cases ha with
    | no hn => cases hr
    | str z hz =>
      cases hb with
      | int i => exact ⟨_, .good h hz hr⟩
      | bl b => simp [rowB, onInt] at hr
      | non => simp [rowB, onInt] at hr
      | str y => simp [rowB, onInt] at hr
end
theorem Paired.ext {α β : Type} {R S : α → β → Prop} {xs : List α} {ys : List β} (f : ∀ x y, R x y → S x y) (h : Paired R xs ys) : Paired S xs ys := by
  induction h with
  | nil => exact .nil
  | cons a _ ih => exact .cons (f _ _ a) ih
theorem paired_at {α β : Type} {R : α → β → Prop} {xs : List α} {ys : List β} (h : Paired R xs ys) {j : Nat} (hj : j < xs.length) : ∃ (x : α) (y : β), xs[j]? = some x ∧ ys[j]? = some y ∧ R x y := by
  induction h generalizing j with
  | nil => exact absurd hj (Nat.not_lt_zero j)
  | cons a _ ih =>
    cases j with
    | zero => exact ⟨_, _, rfl, rfl, a⟩
    | succ j => exact ih (Nat.lt_of_succ_lt_succ hj)
/-! ### a list or a tuple, walked -/
def iSeq (K : PySem.W.Frag) (tl : TE) : TI := fun σ H R => tl σ H fun x H1 => ∃ a, x = .ref a ∧ (((∃ xs, SqL K H1 a xs) ∧ R (Itl K a) H1) ∨ ((∃ xs, SqT K H1 a xs) ∧ R (Itt K a) H1))
theorem pi_seq {X : Cx} {tg l : Expr} {tl : TE} (hl : PE X l tl) : PI X tg l (iSeq X.K tl) := by
  refine ⟨fun pins s σ H R I h => ?_⟩
  refine thn (hl.run pins s σ H _ I h) fun v s1 ⟨x, H1, I1, r1, a, e, z⟩ => ?_
  subst e
  cases r1
  rcases z with ⟨⟨xs, hq⟩, q⟩ | ⟨⟨xs, hq⟩, q⟩
  · obtain ⟨its, rv, p, hz⟩ := I1.list hq
    exact wpAny_pyIter_list p.isList (pi_one (tk := s1.toks) I1 _ (turn_list a _) ⟨_, Heap.get?_push_size _ rfl, rfl, rfl⟩ q)
  · obtain ⟨its, rv, p, hz⟩ := I1.tuple hq
    exact wpAny_pyIter_tuple (show s1.heap.IsTuple a its.toArray from p) (pi_one (tk := s1.toks) I1 _ (turn_tuple a _) ⟨_, Heap.get?_push_size _ rfl, rfl, rfl⟩ q)
theorem walks_tup {K : PySem.W.Frag} {a : Addr} {xs : List V} {H : Hp} (h : H a = some (.tup xs)) : Walks (Itt K a) xs.length (fun i => xs.getD i .non) H := by
  refine ⟨fun i H1 e hi => ⟨xs, xs[i], SqT.of (e _ _ h), List.getElem?_eq_getElem hi⟩, fun i H1 x H' e hi hy => ?_, fun H1 e => ⟨xs, SqT.of (e _ _ h), Nat.le_refl _⟩⟩
  refine ⟨hy.1, ?_⟩
  have z := hy.2 xs (SqT.of (e _ _ h))
  show x = xs.getD i .non
  rw [List.getD_eq_getElem?_getD, z]
  rfl
/-- a list or a tuple at a, of these items -/
def SeqAt (H : Hp) (a : Addr) (xs : List V) : Prop := H a = some (.lst xs) ∨ H a = some (.tup xs)
theorem SeqAt.ext {H H' : Hp} {a : Addr} {xs : List V} (e : Ex H H') (h : SeqAt H a xs) : SeqAt H' a xs := h.elim (fun h => .inl (e _ _ h)) fun h => .inr (e _ _ h)
theorem SeqAt.len {K : PySem.W.Frag} {H : Hp} {a : Addr} {xs : List V} (h : SeqAt H a xs) : SqL K H a xs ∨ SqT K H a xs := h.elim (fun h => .inl (SqL.of h)) fun h => .inr (SqT.of h)
theorem SeqAt.bas {H : Hp} {a : Addr} {xs : List V} (h : SeqAt H a xs) : ∃ s, (s = "list" ∨ s = "tuple") ∧ Bas H (.ref a) s := h.elim (fun h => ⟨_, .inl rfl, .lst h⟩) fun h => ⟨_, .inr rfl, .tup h⟩
/-- how it is walked -/
theorem SeqAt.walk {K : PySem.W.Frag} {H : Hp} {a : Addr} {xs : List V} (h : SeqAt H a xs) : ∃ J : It, Walks J xs.length (fun i => xs.getD i .non) H ∧ ∀ R : It → Hp → Prop, R J H → ((∃ xs, SqL K H a xs) ∧ R (Itl K a) H) ∨ ((∃ xs, SqT K H a xs) ∧ R (Itt K a) H) := by
  rcases h with h | h
  · exact ⟨Itl K a, walks_list (SqL.of h), fun R q => .inl ⟨⟨_, SqL.of h⟩, q⟩⟩
  · exact ⟨Itt K a, walks_tup h, fun R q => .inr ⟨⟨_, SqT.of h⟩, q⟩⟩
/-! ### a set comprehension, by an invariant of the keys -/
theorem scK_by {P : Program} {w : World} {wi : TI} {i : Nat} {te : TE} {σ : L2.St} {H : Hp} {Q : VK} {J : It} {n : Nat} {item : Nat → V} (key : Nat → Key) (hn : n + 1 < scanBound) (hi : i < σ.length) (hw : ∀ R : It → Hp → Prop, R J H → wi σ H R) (wk : Walks J n item H)
    (step : ∀ j H1 (R : VK), j < n → Ex H H1 → R (kV (key j)) H1 → te ((wipe σ [i]).set i (some (item j))) H1 R)
    (fin : ∀ D H1 S m, H D = none → Ex H H1 → H1 D = some (SetK P w D S m) → (m = n ↔ ((List.range n).map key).Nodup) → m ≤ n → Q (.ref D) H1) : tScK P w wi (gName i) tYes te [i] σ H Q := by
  refine hw _ fun D hD => ?_
  refine ⟨fun j m H1 => m = n - j ∧ j ≤ n ∧ Ex H H1 ∧ ∃ S c, H1 D = some (SetK P w D S c) ∧ (c = j ↔ ((List.range j).map key).Nodup) ∧ c ≤ j ∧ ∀ k, S k = true ↔ k ∈ (List.range j).map key, ⟨n - 0, rfl, Nat.zero_le _, Ex.new hD, _, 0, upd_same, by simp, Nat.le_refl _, fun k => by simp⟩, ?_⟩
  rintro j m H1 ⟨rfl, hj, e, S, c, hS, hc, hl, hm⟩
  by_cases hjn : j = n
  · subst hjn
    exact .inl ⟨wk.stop H1 e, fin D H1 S c hD e hS hc hl⟩
  · have hj2 : j < n := by omega
    refine .inr ⟨wk.go j H1 e hj2, fun H' => n - (j + 1) < n - j ∧ j + 1 ≤ n ∧ Ex H H' ∧ ∃ S c, H' D = some (SetK P w D S c) ∧ (c = j + 1 ↔ ((List.range (j + 1)).map key).Nodup) ∧ c ≤ j + 1 ∧ ∀ k, S k = true ↔ k ∈ (List.range (j + 1)).map key, ?_, ?_⟩
    · rintro H' ⟨h1, h2, h3⟩
      exact ⟨n - (j + 1), h1, rfl, h2, h3⟩
    · intro x H' hy
      obtain ⟨rfl, rfl⟩ := wk.yld j H1 x H' e hj2 hy
      refine ⟨by simp [wipe], ?_⟩
      unfold tYes
      dsimp only
      rw [if_pos rfl]
      refine step j H' _ hj2 e ⟨key j, S, c, rfl, hS, by omega, ?_⟩
      refine ⟨by omega, by omega, ExB.new (fun a o na h => (by rw [upd_ne na]; exact e a o h)) hD, _, _, upd_same, ?_, ?_, fun k => ?_⟩
      · rw [List.range_succ, List.map_append, List.map_cons, List.map_nil]
        have nd : (List.map key (List.range j) ++ [key j]).Nodup ↔ (List.map key (List.range j)).Nodup ∧ key j ∉ List.map key (List.range j) := by
          rw [List.nodup_append]
          constructor
          · rintro ⟨h1, _, h3⟩
            exact ⟨h1, fun hk => h3 _ hk _ (List.mem_singleton.mpr rfl) rfl⟩
          · rintro ⟨h1, h2⟩
            refine ⟨h1, by simp, fun a ha b hb hab => ?_⟩
            rw [List.mem_singleton.mp hb] at hab
            rw [hab] at ha
            exact h2 ha
        rw [nd]
        by_cases hk : S (key j) = true
        · rw [if_pos hk]
          constructor
          · intro z
            omega
          · rintro ⟨_, h2⟩
            exact absurd ((hm _).mp hk) h2
        · rw [if_neg hk]
          constructor
          · intro z
            exact ⟨hc.mp (by omega), fun h => hk ((hm _).mpr h)⟩
          · rintro ⟨h1, _⟩
            have := hc.mpr h1
            omega
      · split <;> omega
      · rw [List.range_succ, List.map_append, List.map_cons, List.map_nil]
        simp only [Bool.or_eq_true, decide_eq_true_eq, List.mem_append, List.mem_singleton]
        rw [hm]
end K9

namespace K9
open PySem PySem.Spec PyProof.Rows L2 L2H HotX Evl
/-! ### rows in front of others -/
theorem seq_l {t u : TS} {D : Ends} {σ : L2.St} {H : Hp} (h : t { nx := u D, rt := D.rt, bk := D.bk, ct := D.ct } σ H) : tSeq t u D σ H := h
theorem ifNotB_l {te : TE} {t u : TS} {D : Ends} {σ : L2.St} {H : Hp} (h : te σ H fun v H1 => ∃ c, v = .bl c ∧ if (!c) = true then t D σ H1 else u D σ H1) : tIfS (tNot (tB te)) t u D σ H := h
theorem ifB_l {te : TE} {t u : TS} {D : Ends} {σ : L2.St} {H : Hp} (h : te σ H fun v H1 => ∃ c, v = .bl c ∧ if c = true then t D σ H1 else u D σ H1) : tIfS (tB te) t u D σ H := h
theorem call1_l {r : List V → Hp → VK → Prop} {te : TE} {σ : L2.St} {H : Hp} {Q : VK} (h : te σ H fun v H1 => r [v] H1 Q) : tCB r (tCons te tNil) σ H Q := h
theorem callB0_l {sp : Sp} {σ : L2.St} {H : Hp} {Q : VK} (h : sp [] H Q E0) : tCallB sp tNil σ H Q := h
theorem callB1_l {sp : Sp} {te : TE} {σ : L2.St} {H : Hp} {Q : VK} (h : te σ H fun v H1 => sp [v] H1 Q E0) : tCallB sp (tCons te tNil) σ H Q := h
theorem nil_l {σ : L2.St} {H : Hp} {Q : List V → Hp → Prop} (h : Q [] H) : tNil σ H Q := h
theorem tup_l {ta : TA} {σ : L2.St} {H : Hp} {Q : VK} (h : ta σ H fun xs H1 => xs.length ≤ sizeLine ∧ ∀ p, H1 p = none → Q (.ref p) (upd H1 p (.tup xs))) : tTup ta σ H Q := h
theorem lst_l {ta : TA} {σ : L2.St} {H : Hp} {Q : VK} (h : ta σ H fun xs H1 => xs.length ≤ sizeLine ∧ ∀ p, H1 p = none → Q (.ref p) (upd H1 p (.lst xs))) : tLst ta σ H Q := h
theorem c_l {v : V} {σ : L2.St} {H : Hp} {Q : VK} (h : Q v H) : tC v σ H Q := h
theorem v_l {v : V} {i : Nat} {σ : L2.St} {H : Hp} {Q : VK} (e : σ[i]? = some (some v)) (h : Q v H) : tVar i σ H Q := ⟨v, e, h⟩
theorem fld_l {K : PySem.W.Frag} {ta tv : TE} {f : Str} {D : Ends} {σ : L2.St} {H : Hp} (h : tv σ H fun y H1 => ta σ H1 fun x H2 => ∃ a C dx fs, x = .ref a ∧ H2 a = some (.ins C dx fs) ∧ Cls K C ∧ NoAttr K C f ∧ fs.length < 1000 ∧ D.nx σ (upd H2 a (.ins C dx (putF f y fs)))) : sFld K ta tv f D σ H := h
theorem ne_ins {H : Hp} {a x C dx : Addr} {o : HO} {fs : List (Str × V)} (hx : H x = some (.ins C dx fs)) (h : H a = some o) (n : ∀ C dx fs, o ≠ .ins C dx fs) : a ≠ x := fun z => by
  rw [z, hx] at h
  cases h
  exact n _ _ _ rfl
/-! ### the items of a list by their places -/
theorem range_map {α β : Type} (l : List α) (d : α) (f : α → β) : (List.range l.length).map (fun j => f (l.getD j d)) = l.map f := by
  refine List.ext_getElem (by simp) fun i h1 h2 => ?_
  have hi : i < l.length := by simpa using h1
  simp [List.getD_eq_getElem?_getD, hi]
theorem range_all {α : Type} (l : List α) (d : α) (p : α → Bool) : (List.range l.length).all (fun j => p (l.getD j d)) = l.all p := by
  have h : ∀ xs : List Nat, (xs.all fun j => p (l.getD j d)) = ((xs.map fun j => p (l.getD j d)).all id) := by
    intro xs
    induction xs with
    | nil => rfl
    | cons a r ih => simp
  have h2 : ∀ xs : List α, xs.all p = (xs.map p).all id := by
    intro xs
    induction xs with
    | nil => rfl
    | cons a r ih => simp
  rw [h, range_map l d p, ← h2]
theorem nodup_map {α β : Type} {f : α → β} {l : List α} (inj : ∀ a b, f a = f b → a = b) : (l.map f).Nodup ↔ l.Nodup := by
  induction l with
  | nil => simp
  | cons a r ih =>
    rw [List.map_cons, List.nodup_cons, List.nodup_cons, ih]
    refine ⟨fun ⟨h1, h2⟩ => ⟨fun h => h1 (List.mem_map_of_mem h), h2⟩, fun ⟨h1, h2⟩ => ⟨fun h => ?_, h2⟩⟩
    obtain ⟨b, hb, e⟩ := List.mem_map.mp h
    rw [inj _ _ e] at hb
    exact h1 hb
end K9

namespace K9
open PySem PySem.Spec PyProof.Rows L2 L2H HotX Evl
/-! ### a def called by position and by keywords alone -/
def OkK (P : Program) (w : World) (K : PySem.W.Frag) (mg : Str → Option Value) (base : Heap) (k : Nat) (x : Str) (ps ks : List Str) (sp : Sp) : Prop :=
  ∃ f fd, FnOk P w K mg base CX0 k f fd ps sp ∧ mg x = some (.ref f) ∧ PySem.W.keepIn K (.ref f) = true ∧ Binds K fd ps [] ∧ KBn K fd ps 0 ks (gP (List.range ks.length)) (gPV (List.range ks.length))
theorem OkK.c {P : Program} {w : World} {K : PySem.W.Frag} {mg : Str → Option Value} {base : Heap} {k : Nat} {x : Str} {ps ks : List Str} {sp : Sp} (o : OkK P w K mg base k x ps ks sp) : OkC P w K mg base k x ps sp := by
  obtain ⟨f, fd, F, h1, h2, h3, _⟩ := o
  exact ⟨f, fd, F, h1, h2, h3⟩
theorem OkK.mono {P : Program} {w : World} {K : PySem.W.Frag} {mg : Str → Option Value} {base : Heap} {j k : Nat} {x : Str} {ps ks : List Str} {sp : Sp} (o : OkK P w K mg base j x ps ks sp) (h : j ≤ k) : OkK P w K mg base k x ps ks sp := by
  obtain ⟨f, fd, F, r⟩ := o
  exact ⟨f, fd, F.mono h, r⟩
theorem okK_of {P : Program} {w : World} {K : PySem.W.Frag} {mg : Str → Option Value} {base : Heap} {k : Nat} {x : Str} {params : Arguments} {body : List Stmt} {scope : Scope} {f : Addr} {fd : FuncData} {N ps ks : List Str} {sp : Sp}
    (F : FunD K x x params body scope [] [] f fd) (hm : mg x = some (.ref f)) (S : FnScope N ps scope)
    (hb : ∀ (kV doc pm : Value) (an : Option Addr) (cdv ct : Value) (us : List Value), us.length = ps.length → bindArgs (PySem.W.fnOf x x params body scope .none kV doc pm an cdv ct) ⟨us, []⟩ = pure (ps.zip us))
    (hk : ∀ (kV doc pm : Value) (an : Option Addr) (cdv ct : Value) (us ws : List Value), us.length = 0 → ws.length = ks.length → bindArgs (PySem.W.fnOf x x params body scope .none kV doc pm an cdv ct) ⟨us, ks.zip ws⟩ = pure (ps.zip (gP (List.range ks.length) us ws)))
    (len : ∀ vs H Q E, sp vs H Q E → vs.length = ps.length)
    (hbody : ∀ (cdv : Value) (A : Around) (outer : List Env) (s : Shared) (H : Hp) (vs : List V) (Q : VK) (E : XK), Room k (A.deeper (envOfC x scope s.heap.objs.size f cdv)) → sp vs H Q E →
      ∃ t, PSs (cxOf CX0 P w K mg base N x scope f cdv A outer s H E) body t ∧ t { nx := fun _ H' => Q .non H', rt := Q } (start N vs) H) :
    OkK P w K mg base (k + 1) x ps ks sp := by
  refine ⟨f, fd, F.ok S len fun cdv A outer s H vs Q E hr h => ?_, hm, F.kp, F.bindsN (ps := ps) hb, kbn_of F hk⟩
  exact hbody cdv A outer s H vs Q E hr h
/-- f(k = v, ..) -/
def tCallKB (sp : Sp) (m : Nat) (tk : TA) : TE := fun σ H Q => tk σ H fun zs H1 => zs.length = m ∧ sp (gPV (List.range m) [] zs) H1 Q E0
section
variable {X : Cx} {k : Nat} {x : Str} {ps ks : List Str} {sp : Sp} {p pos : Pos} {kws : List Keyword} {tk : TA}
theorem pe_callKw (o : OkK X.prog X.w X.K X.mg X.base k x ps ks sp) (hr : Room k X.A) (hg : Gl X x) (hkw : PK X kws tk)
    (hall : (backToKw pos (keywordEach kws X.env)).all (·.1.isSome) = true := by rfl) (hks : (backToKw pos (keywordEach kws X.env)).filterMap (·.1) = ks := by rfl) (hdb : (x == ("__debug__" : Str)) = false := by decide)
    (hpl : ((backTo pos (starEach [] X.env)).any (·.1) || (backToKw pos (keywordEach kws X.env)).any (·.1.isNone)) = false := by rfl) :
    PE X (.Call (.Name x p) [] kws pos) (tCallKB sp ks.length tk) := by
  obtain ⟨f, fd, F, hm, hk, _, hb⟩ := o
  refine ⟨fun pins s σ H Q I h => ?_⟩
  refine wpAny_Call_Name_kw (ld_glob I hg hm ?_ hdb)
  refine PySem.W.callWith_KW0 (h₀ := X.base) I.ok.mod.kin hk hall ?_ hpl
  refine thn (hkw.run pos pins s σ H _ I h) fun ws s2 ⟨zs, H2, I2, rz, l1, q2⟩ => ⟨I2.kIn, ?_⟩
  rw [hks]
  exact run_fnN (us := []) (vs := []) F hr hb pass0 I2 .nil rz rfl l1 q2
end
/-! ### a method, called by position and by keywords alone -/
structure MOk (P : Program) (w : World) (K : PySem.W.Frag) (mg : Str → Option Value) (base : Heap) (k : Nat) (C : Addr) (m : Str) (ps ks : List Str) (sp : Sp) : Prop where
  cls : Cls K C
  ok : ∃ f fd, Meth K C m f ∧ FnOk P w K mg base CX0 k f fd ps sp ∧ Binds K fd ps [] ∧ KBn K fd ps 1 ks (gP (List.range ks.length)) (gPV (List.range ks.length))
/-- o.m(e) or o.m(k = e): one argument -/
def tMeth1 (C : Addr) (m : Str) (sp : Sp) (ta : TE) (t : TA) : TE := fun σ H Q => ta σ H fun x H1 => ∃ a dx fs, x = .ref a ∧ H1 a = some (.ins C dx fs) ∧ fs.lookup m = none ∧ t σ H1 fun vs H2 => ∃ v, vs = [v] ∧ sp [x, v] H2 Q E0
section
variable {X : Cx} {k : Nat} {C : Addr} {m : Str} {ps ks : List Str} {sp : Sp} {p pos apos : Pos} {o e : Expr} {kws : List Keyword} {ta : TE} {t : TA}
theorem pe_methM {pl : Sem Bool} (M : MOk X.prog X.w X.K X.mg X.base k C m ps ks sp) (hr : Room k X.A) (he : PE X o ta) (ha : PA X [e] t)
    (hst : starEach [e] X.env = (false, eval e X.env) :: starEach [] X.env := by rfl) (hpl : (backTo pos (starEach [] X.env)).any (·.1) = false := by rfl)
    (ht : eval (.Call (.Attribute o m apos) [e] [] pos) X.env = (do
      let ov ← eval o X.env
      standAt apos.atName
      let (f, first) ← holding [ov] (getMethod ov m pl)
      callWith pos f first (backTo pos (starEach [e] X.env)) (backToKw pos (keywordEach [] X.env))) := by rfl) :
    PE X (.Call (.Attribute o m apos) [e] [] pos) (tMeth1 C m sp ta t) := by
  obtain ⟨f, fd, hm, F, hb, _⟩ := M.ok
  refine ⟨fun pins s σ H Q I h => ?_⟩
  refine PySem.W.methodCall_KW (pl := pl) (thn (he.run pins s σ H _ I h) fun u s1 ⟨x, H1, I1, rx, a, dx, fs, ex, ea, l, q⟩ => ?_) ht
  subst ex
  obtain rfl : u = Value.ref a := rx
  refine getmeth_ok I1 ea M.cls hm l ?_
  refine PySem.W.callWith_K (first := [.ref a]) (h₀ := X.base) I.ok.mod.kin hm.kp (thn (ha.run pos pins s1 σ H1 _ I1 q) fun us s2 ⟨vs, H2, I2, r, v, ev, q2⟩ => ⟨I2.kIn, ?_⟩) hst hpl
  subst ev
  exact run_fn (us := .ref a :: us) (vs := .ref a :: [v]) F hr hb .nil pass0 I2 (.cons rfl r) (by rw [List.append_nil]; exact q2)
theorem pe_methK {pl : Sem Bool} (M : MOk X.prog X.w X.K X.mg X.base k C m ps ks sp) (hr : Room k X.A) (h1 : ks.length = 1) (he : PE X o ta) (hkw : PK X kws t)
    (hall : (backToKw pos (keywordEach kws X.env)).all (·.1.isSome) = true := by rfl) (hks : (backToKw pos (keywordEach kws X.env)).filterMap (·.1) = ks := by rfl)
    (hpl : ((backTo pos (starEach [] X.env)).any (·.1) || (backToKw pos (keywordEach kws X.env)).any (·.1.isNone)) = false := by rfl)
    (ht : eval (.Call (.Attribute o m apos) [] kws pos) X.env = (do
      let ov ← eval o X.env
      standAt apos.atName
      let (f, first) ← holding [ov] (getMethod ov m pl)
      callWith pos f first (backTo pos (starEach [] X.env)) (backToKw pos (keywordEach kws X.env))) := by rfl) :
    PE X (.Call (.Attribute o m apos) [] kws pos) (tMeth1 C m sp ta t) := by
  obtain ⟨f, fd, hm, F, _, hb⟩ := M.ok
  refine ⟨fun pins s σ H Q I h => ?_⟩
  refine PySem.W.methodCall_KW (pl := pl) (thn (he.run pins s σ H _ I h) fun u s1 ⟨x, H1, I1, rx, a, dx, fs, ex, ea, l, q⟩ => ?_) ht
  subst ex
  obtain rfl : u = Value.ref a := rx
  refine getmeth_ok I1 ea M.cls hm l ?_
  refine PySem.W.callWith_KW0 (first := [.ref a]) (h₀ := X.base) I.ok.mod.kin hm.kp hall ?_ hpl
  refine thn (hkw.run pos pins s1 σ H1 _ I1 q) fun ws s2 ⟨zs, H2, I2, rz, v, ev, q2⟩ => ⟨I2.kIn, ?_⟩
  subst ev
  rw [hks]
  refine run_fnN (us := [.ref a]) (vs := [.ref a]) F hr hb pass0 I2 (.cons rfl .nil) rz rfl h1.symm ?_
  rw [h1]
  exact q2
end
/-! ### an instance whose __init__ may raise: made by position or by keywords, in a try body -/
structure NOk (P : Program) (w : World) (K : PySem.W.Frag) (mg : Str → Option Value) (base : Heap) (k : Nat) (x : Str) (C : Addr) (ps ks : List Str) (sp : Sp) : Prop where
  gl : mg x = some (.ref C)
  ok : ∃ f fd, Mk K C f ∧ FnOk P w K mg base (L2N.CX P w) k f fd ps sp ∧ KBn K fd ps 2 [] (gP []) (gPV []) ∧ KBn K fd ps 1 ks (gP (List.range ks.length)) (gPV (List.range ks.length))
/-- C(v) or C(k = v) -/
def tMake1 (C : Addr) (sp : Sp) (W : WX) (t : TA) : TE := fun σ H Q => t σ H fun vs H1 => ∃ v, vs = [v] ∧ ∀ x dx, H1 x = none → H1 dx = none → dx ≠ x → sp [.ref x, v] (upd (upd H1 dx (.own x)) x (.ins C dx [])) (fun r H3 => r = .non ∧ Q (.ref x) H3) (WE W σ)
section
variable {X : Cx} {W : WX} {k n : Nat} {C : Addr} {ps ks : List Str} {sp : Sp} {x : Str} {p pos : Pos} {e : Expr} {kws : List Keyword} {t : TA} {f : Addr} {fd : FuncData} {g : List Value → List Value → List Value} {gV : List V → List V → List V}
theorem run_makeS {pins : List (Addr × Obj)} {σ : L2.St} {H : Hp} {s : Shared} {Q : VK} {us ws : List Value} {vs zs : List V} (tk : L2N.Takes X W) (M : Mk X.K C f) (F : FnOk X.prog X.w X.K X.mg X.base (L2N.CX X.prog X.w) k f fd ps sp) (hr : Room (k + 1) X.A) (hb : KBn X.K fd ps (n + 1) ks g gV)
    (I : Inv X pins σ H s) (r : Vals vs us) (rz : Vals zs ws) (l1 : vs.length = n) (l2 : zs.length = ks.length)
    (h : ∀ x dx, H x = none → H dx = none → dx ≠ x → sp (gV (.ref x :: vs) zs) (upd (upd H dx (.own x)) x (.ins C dx [])) (fun v H2 => v = .non ∧ Q (.ref x) H2) (WE W σ)) :
    wpAny (model X.prog X.w) X.A (call (.ref C) us (ks.zip ws)) (EP X pins σ Q) X.xe s := by
  have hq := h (s.heap.objs.size + 1) s.heap.objs.size (I.hok.fresh (Nat.le_succ _)) (I.hok.fresh (Nat.le_refl _)) (Nat.ne_of_lt (Nat.lt_succ_self _))
  have I2 := Inv.made (C := C) I
  have r1 : Vals (V.ref (s.heap.objs.size + 1) :: vs) (Value.ref (s.heap.objs.size + 1) :: us) := .cons rfl r
  have n1 : (Value.ref (s.heap.objs.size + 1) :: us).length = n + 1 := by rw [List.length_cons, ← r.length, l1]
  have run := F.run _ X.stack _ _ ⟨Value.ref (s.heap.objs.size + 1) :: us, ks.zip ws⟩ _ _ _ (WE W σ) (hr.make C us (ks.zip ws)) (I2.env0.make C us (ks.zip ws)) (hb.to _ _ ws I2.kIn n1 (rz.length.symm.trans l2)) (hb.rel r1 rz) hq
  refine wpAny_call (make_map (f := f) I.kIn M.makes M.init (beq_iff_eq.mp M.fn) (codeAny_mono run fun r s' hq' => ?_))
  cases r with
  | error e => exact tk e s' (L2N.XE.of_call I2 (fun _ _ _ z => z) hq')
  | ok fl =>
    cases fl with
    | ret u =>
      obtain ⟨v, H', I3, rv, ev, q3⟩ := I2.after hq'
      subst ev
      exact ⟨rv, ⟨V.ref (s.heap.objs.size + 1), H', I3, rfl, q3⟩⟩
    | next => exact False.elim hq'
    | brk => exact False.elim hq'
    | cont => exact False.elim hq'
theorem pe_makeP (tk : L2N.Takes X W) (N : NOk X.prog X.w X.K X.mg X.base k x C ps ks sp) (hr : Room (k + 1) X.A) (hg : Gl X x) (ha : PA X [e] t) (hdb : (x == ("__debug__" : Str)) = false := by decide)
    (he : starEach [e] X.env = (false, eval e X.env) :: starEach [] X.env := by rfl) (hpl : (backTo pos (starEach [] X.env)).any (·.1) = false := by rfl) :
    PE X (.Call (.Name x p) [e] [] pos) (tMake1 C sp W t) := by
  obtain ⟨f, fd, M, F, hb, _⟩ := N.ok
  refine ⟨fun pins s σ H Q I h => ?_⟩
  refine wpAny_Call_Name_kw (ld_glob I hg N.gl ?_ hdb)
  refine PySem.W.callWith_K (h₀ := X.base) I.ok.mod.kin M.kp (thn (ha.run pos pins s σ H _ I h) fun us s1 ⟨vs, H1, I1, r, v, ev, q⟩ => ⟨I1.kIn, ?_⟩) he hpl
  subst ev
  exact run_makeS (ks := []) (zs := []) (ws := []) tk M F hr hb I1 r .nil rfl rfl q
theorem pe_makeKw (tk : L2N.Takes X W) (N : NOk X.prog X.w X.K X.mg X.base k x C ps ks sp) (h1 : ks.length = 1) (hr : Room (k + 1) X.A) (hg : Gl X x) (hkw : PK X kws t)
    (hall : (backToKw pos (keywordEach kws X.env)).all (·.1.isSome) = true := by rfl) (hks : (backToKw pos (keywordEach kws X.env)).filterMap (·.1) = ks := by rfl) (hdb : (x == ("__debug__" : Str)) = false := by decide)
    (hpl : ((backTo pos (starEach [] X.env)).any (·.1) || (backToKw pos (keywordEach kws X.env)).any (·.1.isNone)) = false := by rfl) :
    PE X (.Call (.Name x p) [] kws pos) (tMake1 C sp W t) := by
  obtain ⟨f, fd, M, F, _, hb⟩ := N.ok
  refine ⟨fun pins s σ H Q I h => ?_⟩
  refine wpAny_Call_Name_kw (ld_glob I hg N.gl ?_ hdb)
  refine PySem.W.callWith_KW0 (h₀ := X.base) I.ok.mod.kin M.kp hall ?_ hpl
  refine thn (hkw.run pos pins s σ H _ I h) fun ws s2 ⟨zs, H2, I2, rz, v, ev, q2⟩ => ⟨I2.kIn, ?_⟩
  subst ev
  rw [hks]
  refine run_makeS (us := []) (vs := []) (n := 0) tk M F hr hb I2 .nil rz rfl h1.symm ?_
  rw [h1]
  exact q2
end
/-! ### a dict comprehension, by an invariant -/
def putAll (key : Nat → Key) (val : Nat → V) : Nat → List (Key × V)
  | 0 => []
  | n + 1 => putK (putAll key val n) (key n) (val n)
theorem putAll_len (key : Nat → Key) (val : Nat → V) (n : Nat) : (putAll key val n).length ≤ n := by
  induction n with
  | zero => exact Nat.le_refl _
  | succ n ih =>
    have := length_putK (putAll key val n) (key n) (val n)
    show (putK (putAll key val n) (key n) (val n)).length ≤ n + 1
    omega
theorem putAll_eq {key : Nat → Key} {val : Nat → V} {n : Nat} (nd : ((List.range n).map key).Nodup) : putAll key val n = (List.range n).map fun j => (key j, val j) := by
  induction n with
  | zero => rfl
  | succ n ih =>
    rw [List.range_succ, List.map_append, List.map_cons, List.map_nil, List.nodup_append] at nd
    rw [List.range_succ, List.map_append, List.map_cons, List.map_nil, ← ih nd.1]
    show putK _ _ _ = _
    unfold putK
    rw [if_neg]
    intro h
    obtain ⟨kv, h1, h2⟩ := List.any_eq_true.mp h
    rw [ih nd.1] at h1
    obtain ⟨j, h3, rfl⟩ := List.mem_map.mp h1
    exact nd.2.2 (key j) (List.mem_map_of_mem h3) (key n) (List.mem_singleton.mpr rfl) (of_decide_eq_true h2)
theorem dc_by {wi : TI} {g : TG} {own : List Nat} {tk tv : TE} {σ : L2.St} {H : Hp} {Q : VK} {J : It} {n : Nat} {item : Nat → V} (key : Nat → Key) (val : Nat → V) (hn : n ≤ sizeLine) (hw : ∀ R : It → Hp → Prop, R J H → wi σ H R) (wk : Walks J n item H)
    (step : ∀ j H1 (R : L2.St → Hp → Prop), j < n → Ex H H1 → (∀ σ2, wipe σ2 own = wipe σ own → (∀ H2 (R2 : VK), R2 (kV (key j)) H2 → tk σ2 H2 R2) → (∀ H2 (R2 : VK), R2 (val j) H2 → tv σ2 H2 R2) → R σ2 H1) → g (item j) (wipe σ own) H1 R)
    (fin : ∀ D H1, H D = none → Ex H H1 → H1 D = some (.dK (putAll key val n)) → Q (.ref D) H1) : tDc wi g tYes tk tv own σ H Q := by
  refine hw _ fun D hD => ?_
  refine ⟨fun j m H1 => m = n - j ∧ j ≤ n ∧ Ex H H1 ∧ H1 D = some (.dK (putAll key val j)), ⟨n - 0, rfl, Nat.zero_le _, Ex.new hD, upd_same⟩, ?_⟩
  rintro j m H1 ⟨rfl, hj, e, hS⟩
  by_cases hjn : j = n
  · subst hjn
    exact .inl ⟨wk.stop H1 e, fin D H1 hD e hS⟩
  · have hj2 : j < n := by omega
    refine .inr ⟨wk.go j H1 e hj2, fun H' => n - (j + 1) < n - j ∧ j + 1 ≤ n ∧ Ex H H' ∧ H' D = some (.dK (putAll key val (j + 1))), ?_, ?_⟩
    · rintro H' ⟨h1, h2, h3⟩
      exact ⟨n - (j + 1), h1, rfl, h2, h3⟩
    · intro x H' hy
      obtain ⟨rfl, rfl⟩ := wk.yld j H1 x H' e hj2 hy
      refine step j H' _ hj2 e fun σ2 hs hk hv => ⟨hs, ?_⟩
      unfold tYes
      dsimp only
      rw [if_pos rfl]
      refine hk _ _ (hv _ _ ⟨_, _, rfl, hS, ?_, by omega, by omega, ?_, upd_same⟩)
      · have := putAll_len key val j
        omega
      · exact ExB.new (fun a o na h => (by rw [upd_ne na]; exact e a o h)) hD
end K9

namespace K9
open PySem PySem.Spec PyProof.Rows L2 L2H HotX Evl
/-- f() -/
theorem pe_callK00 {X : Cx} {k : Nat} {x : Str} {ps : List Str} {sp : Sp} {q pos : Pos} (o : OkC X.prog X.w X.K X.mg X.base k x ps sp) (hr : Room k X.A) (hg : Gl X x) (hdb : (x == ("__debug__" : Str)) = false := by decide) :
    PE X (.Call (.Name x q) [] [] pos) (tCallB sp tNil) := by
  obtain ⟨f, fd, F, hm, hk, hb⟩ := o
  exact pe_call0 F hr hg hm hk hb .nil pass0 hdb
/-! ### an element that is told, with a slot that changes (a box): all but b stands -/
/-- a walk that the writing of b leaves alone -/
structure WalksB (b : Addr) (J : It) (n : Nat) (item : Nat → V) (H : Hp) : Prop where
  go : ∀ (i : Nat) (H1 : Hp), ExB b H H1 → i < n → J.go i H1
  yld : ∀ (i : Nat) (H1 : Hp) (x : V) (H' : Hp), ExB b H H1 → i < n → J.yld i H1 x H' → H' = H1 ∧ x = item i
  stop : ∀ (H1 : Hp), ExB b H H1 → J.stop n H1
theorem walksB_rng0 {b : Addr} {n : Nat} {H : Hp} : WalksB b (Itr 0 n) n (fun i => .int (i : Int)) H :=
  ⟨fun _ _ _ h => h, fun i _ _ _ _ _ h => ⟨h.1, by rw [h.2, Int.zero_add]⟩, fun _ _ => Nat.le_refl _⟩
theorem walksB_list {K : PySem.W.Frag} {a b : Addr} {xs : List V} {H : Hp} (h : H a = some (.lst xs)) (n : a ≠ b) : WalksB b (Itl K a) xs.length (fun i => xs.getD i .non) H := by
  refine ⟨fun i H1 e hi => ⟨xs, xs[i], SqL.of (e _ _ n h), List.getElem?_eq_getElem hi⟩, fun i H1 x H' e hi hy => ?_, fun H1 e => ⟨xs, SqL.of (e _ _ n h), Nat.le_refl _⟩⟩
  refine ⟨hy.1, ?_⟩
  have z := hy.2 xs (SqL.of (e _ _ n h))
  show x = xs.getD i .non
  rw [List.getD_eq_getElem?_getD, z]
  rfl
/-- [e for x in ..], b is written on the way; no test -/
theorem lcB_by {b : Addr} {wi : TI} {i : Nat} {te : TE} {σ : L2.St} {H : Hp} {Q : VK} {J : It} {n : Nat} {item : Nat → V} {ob : HO} (P : Nat → List V → Hp → Prop)
    (hn : n ≤ sizeLine) (hi : i < σ.length) (hb : H b = some ob) (hw : ∀ R : It → Hp → Prop, R J H → wi σ H R) (wk : WalksB b J n item H)
    (mono : ∀ (D : Addr) j acc H1 o, H D = none → P j acc H1 → P j acc (upd H1 D o)) (h0 : P 0 [] H)
    (step : ∀ j acc H1 (C : V → Hp → Prop), j < n → ExB b H H1 → P j acc H1 → (∀ y H4, ExB b H1 H4 → P (j + 1) (acc ++ [y]) H4 → C y H4) → te ((wipe σ [i]).set i (some (item j))) H1 C)
    (fin : ∀ D acc H1, H D = none → ExB b H H1 → H1 D = some (.lst acc) → P n acc H1 → acc.length = n → Q (.ref D) H1) : tLc wi (gName i) tYes te [i] σ H Q := by
  refine hw _ fun D hD => ?_
  have nb : D ≠ b := fun z => by rw [z, hb] at hD; cases hD
  have nu : ∀ {H1 : Hp} {o : HO}, ExB b H H1 → ExB b H (upd H1 D o) := fun e a o na h => by
    rw [upd_ne (ne_of_none h hD)]
    exact e a o na h
  refine ⟨fun j m H1 => m = n - j ∧ j ≤ n ∧ ExB b H H1 ∧ ∃ acc, H1 D = some (.lst acc) ∧ acc.length = j ∧ P j acc H1, ⟨n - 0, rfl, Nat.zero_le _, nu ExB.refl, [], upd_same, rfl, mono _ _ _ _ _ hD h0⟩, ?_⟩
  rintro j m H1 ⟨rfl, hj, e, acc, ha, hl, hp⟩
  by_cases hjn : j = n
  · subst hjn
    exact .inl ⟨wk.stop H1 e, fin D acc H1 hD e ha hp hl⟩
  · have hj2 : j < n := by omega
    refine .inr ⟨wk.go j H1 e hj2, fun H' => n - (j + 1) < n - j ∧ j + 1 ≤ n ∧ ExB b H H' ∧ ∃ acc, H' D = some (.lst acc) ∧ acc.length = j + 1 ∧ P (j + 1) acc H', ?_, ?_⟩
    · rintro H' ⟨h1, h2, h3⟩
      exact ⟨n - (j + 1), h1, rfl, h2, h3⟩
    · intro x H' hy
      obtain ⟨rfl, rfl⟩ := wk.yld j H1 x H' e hj2 hy
      refine ⟨by simp [wipe], ?_⟩
      unfold tYes
      dsimp only
      rw [if_pos rfl]
      refine step j acc H' _ hj2 e hp fun y H4 e4 p4 => ?_
      have hd := e4 _ _ nb ha
      exact ⟨acc, hd, by omega, by omega, by omega, nu (e.trans e4), acc ++ [y], upd_same, by simp [hl], mono _ _ _ _ _ hD p4⟩
end K9

namespace K9
open PySem PySem.Spec PyProof.Rows L2 L2H HotX Evl
/-! ### lemmas of k01 that speak of no law -/
theorem asg_l {te : TE} {j : Nat} {D : Ends} {σ : L2.St} {H : Hp} (h : te σ H fun v H1 => D.nx (σ.set j (some v)) H1) : tAsg te (gName j) D σ H := h
theorem kw1_l {sp : Sp} {te : TE} {σ : L2.St} {H : Hp} {Q : VK} (h : te σ H fun v H1 => sp [v] H1 Q E0) : tCallKB sp 1 (tCons te tNil) σ H Q := by
  unfold tCallKB
  show te σ H fun v H1 => ([v].length = 1 ∧ sp (gPV (List.range 1) [] [v]) H1 Q E0)
  have e : (fun v H1 => ([v].length = 1 ∧ sp (gPV (List.range 1) [] [v]) H1 Q E0)) = fun v H1 => sp [v] H1 Q E0 := by
    funext v H1
    have e2 : gPV (List.range 1) [] [v] = [v] := rfl
    rw [e2]
    exact propext ⟨fun h => h.2, fun h => ⟨rfl, h⟩⟩
  rw [e]
  exact h
theorem cutS_len_le (z : Str) (lo hi : Option Int) : (cutS z lo hi).length ≤ z.length := by
  show (((z.cps.toList.drop _).take _).toArray).size ≤ z.cps.size
  simp
  omega
theorem len_app (x y : Str) : (x ++ y).length = x.length + y.length := by
  show (x.cps ++ y.cps).size = _
  rw [Array.size_append]
  rfl
theorem pick {α : Type} (l : List α) (f : α → V) {d n : Nat} (h : d < n) (e : l.length = n) (p : α → Prop) (a : ∀ x ∈ l, p x) : ∃ x, p x ∧ atI (l.map f) (d : Int) = some (f x) := by
  have h2 : d < l.length := by omega
  exact ⟨l[d], a _ (List.getElem_mem h2), atI_nat (j := d) (by rw [List.getElem?_map, List.getElem?_eq_getElem h2]; rfl)⟩
theorem map_erase {α β : Type} (f : α → β) (l : List α) (i : Nat) : (l.map f).eraseIdx i = (l.eraseIdx i).map f := by
  induction l generalizing i with
  | nil => rfl
  | cons a r ih =>
    cases i with
    | zero => rfl
    | succ i => simp [ih]
theorem seqIndex_nat {d n : Nat} (h : d < n) : seqIndex? (d : Int) n = some d := by
  unfold seqIndex?
  simp
  omega
theorem asgG_l {te : TE} {g : TG} {D : Ends} {σ : L2.St} {H : Hp} (h : te σ H fun v H1 => g v σ H1 D.nx) : tAsg te g D σ H := h
theorem join_l {t : TS} {D : Ends} {σ : L2.St} {H : Hp} {α : Type} {S : α → L2.St} {R : α → Hp → Prop} (main : ∀ a H5, R a H5 → D.nx (S a) H5) (h : (∀ a H5, R a H5 → D.nx (S a) H5) → t D σ H) : t D σ H := h main
theorem lcB2_by {b : Addr} {wi : TI} {i : Nat} {te : TE} {σ : L2.St} {H H0 : Hp} {Q : VK} {J : It} {n : Nat} {item : Nat → V} {ob : HO} (P : Nat → List V → Hp → Prop)
    (hn : n ≤ sizeLine) (hi : i < σ.length) (hb : H b = some ob) (hw : ∀ R : It → Hp → Prop, R J H → wi σ H0 R) (wk : WalksB b J n item H)
    (mono : ∀ (D : Addr) j acc H1 xs o, D ≠ b → H1 D = some (.lst xs) → P j acc H1 → P j acc (upd H1 D o)) (h0 : ∀ D, H D = none → P 0 [] (upd H D (.lst [])))
    (step : ∀ j acc H1 (C : V → Hp → Prop), j < n → ExB b H H1 → P j acc H1 → (∀ y H4, ExB b H1 H4 → P (j + 1) (acc ++ [y]) H4 → C y H4) → te ((wipe σ [i]).set i (some (item j))) H1 C)
    (fin : ∀ D acc H1, H D = none → ExB b H H1 → H1 D = some (.lst acc) → P n acc H1 → acc.length = n → Q (.ref D) H1) : tLc wi (gName i) tYes te [i] σ H0 Q := by
  refine hw _ fun D hD => ?_
  have nb : D ≠ b := fun z => by rw [z, hb] at hD; cases hD
  have nu : ∀ {H1 : Hp} {o : HO}, ExB b H H1 → ExB b H (upd H1 D o) := fun e a o na h => by
    rw [upd_ne (ne_of_none h hD)]
    exact e a o na h
  refine ⟨fun j m H1 => m = n - j ∧ j ≤ n ∧ ExB b H H1 ∧ ∃ acc, H1 D = some (.lst acc) ∧ acc.length = j ∧ P j acc H1, ⟨n - 0, rfl, Nat.zero_le _, nu ExB.refl, [], upd_same, rfl, h0 D hD⟩, ?_⟩
  rintro j m H1 ⟨rfl, hj, e, acc, ha, hl, hp⟩
  by_cases hjn : j = n
  · subst hjn
    exact .inl ⟨wk.stop H1 e, fin D acc H1 hD e ha hp hl⟩
  · have hj2 : j < n := by omega
    refine .inr ⟨wk.go j H1 e hj2, fun H' => n - (j + 1) < n - j ∧ j + 1 ≤ n ∧ ExB b H H' ∧ ∃ acc, H' D = some (.lst acc) ∧ acc.length = j + 1 ∧ P (j + 1) acc H', ?_, ?_⟩
    · rintro H' ⟨h1, h2, h3⟩
      exact ⟨n - (j + 1), h1, rfl, h2, h3⟩
    · intro x H' hy
      obtain ⟨rfl, rfl⟩ := wk.yld j H1 x H' e hj2 hy
      refine ⟨by simp [wipe], ?_⟩
      unfold tYes
      dsimp only
      rw [if_pos rfl]
      refine step j acc H' _ hj2 e hp fun y H4 e4 p4 => ?_
      have hd := e4 _ _ nb ha
      exact ⟨acc, hd, by omega, by omega, by omega, nu (e.trans e4), acc ++ [y], upd_same, by simp [hl], mono _ _ _ _ _ _ nb hd p4⟩
theorem lcS_by {b : Addr} {wi : TI} {i : Nat} {te : TE} {σ : L2.St} {H0 : Hp} {Q : VK} {n : Nat} {item : Nat → V} (Pre : It → Hp → Prop) (P : Nat → List V → Hp → Prop)
    (hn : n ≤ sizeLine) (hi : i < σ.length) (hw : ∀ R : It → Hp → Prop, (∀ J H3, Pre J H3 → R J H3) → wi σ H0 R) (hb : ∀ J H3, Pre J H3 → ∃ ob, H3 b = some ob) (wk : ∀ J H3, Pre J H3 → WalksB b J n item H3)
    (mono : ∀ (D : Addr) j acc H1 xs o, D ≠ b → H1 D = some (.lst xs) → P j acc H1 → P j acc (upd H1 D o)) (h0 : ∀ J H3 D, Pre J H3 → H3 D = none → P 0 [] (upd H3 D (.lst [])))
    (step : ∀ j acc H1 (C : V → Hp → Prop), j < n → P j acc H1 → (∀ y H4, ExB b H1 H4 → P (j + 1) (acc ++ [y]) H4 → C y H4) → te ((wipe σ [i]).set i (some (item j))) H1 C)
    (fin : ∀ J H3 D acc H1, Pre J H3 → H3 D = none → ExB b H3 H1 → H1 D = some (.lst acc) → P n acc H1 → acc.length = n → Q (.ref D) H1) : tLc wi (gName i) tYes te [i] σ H0 Q := by
  refine hw _ fun J H3 hp => ?_
  obtain ⟨ob, ho⟩ := hb J H3 hp
  exact lcB2_by (b := b) (wi := fun _ _ R => R J H3) (i := i) (te := te) (σ := σ) (H := H3) (H0 := H0) (Q := Q) (J := J) P hn hi ho (fun R r => r) (wk J H3 hp) mono (fun D hD => h0 J H3 D hp hD) (fun j acc H1 C hj _ hp2 kk => step j acc H1 C hj hp2 kk) (fun D acc H1 hD e ha hP hl => fin J H3 D acc H1 hp hD e ha hP hl)
theorem forB_by {b : Addr} {wi : TI} {i : Nat} {tb : TS} {D : Ends} {σ : L2.St} {H : Hp} {J : It} {n : Nat} {item : Nat → V} (P : Nat → L2.St → Hp → Prop) (hw : ∀ R : It → Hp → Prop, R J H → wi σ H R) (wk : WalksB b J n item H) (h0 : P 0 σ H)
    (step : ∀ (j : Nat) (σ1 : L2.St) (H1 : Hp) (N : L2.St → Hp → Prop), j < n → ExB b H H1 → P j σ1 H1 → (∀ σ2 H2, ExB b H1 H2 → P (j + 1) σ2 H2 → N σ2 H2) → tb { nx := N, rt := D.rt, bk := D.nx, ct := N } (σ1.set i (some (item j))) H1)
    (fin : ∀ σ1 H1, ExB b H H1 → P n σ1 H1 → D.nx σ1 H1) : tFor wi (gName i) tb D σ H := by
  refine hw _ ⟨fun j m σ1 H1 => m = n - j ∧ j ≤ n ∧ ExB b H H1 ∧ P j σ1 H1, ⟨n - 0, rfl, Nat.zero_le _, ExB.refl, h0⟩, ?_⟩
  rintro j m σ1 H1 ⟨rfl, hj, e, hp⟩
  by_cases hjn : j = n
  · subst hjn
    exact .inl ⟨wk.stop H1 e, fin σ1 H1 e hp⟩
  · have hj2 : j < n := by omega
    refine .inr ⟨wk.go j H1 e hj2, fun σ' H' => n - (j + 1) < n - j ∧ j + 1 ≤ n ∧ ExB b H H' ∧ P (j + 1) σ' H', ?_, ?_⟩
    · rintro σ' H' ⟨h1, h2, h3⟩
      exact ⟨n - (j + 1), h1, rfl, h2, h3⟩
    · intro x H' hy
      obtain ⟨rfl, rfl⟩ := wk.yld j H1 x H' e hj2 hy
      exact step j σ1 H' _ hj2 e hp fun σ2 H2 e2 p2 => ⟨by omega, by omega, e.trans e2, p2⟩
theorem cutV_mem {xs : List V} {lo hi : Option Int} {x : V} (h : x ∈ cutV xs lo hi) : x ∈ xs := List.mem_of_mem_drop (List.mem_of_mem_take h)
theorem sIx_nat (n d k : Nat) : HT.sIx n d (some (k : Int)) = min k n := by
  unfold HT.sIx
  dsimp only
  rw [if_neg (by omega)]
  rfl
theorem cutV_pre (xs : List V) (n : Nat) : (cutV xs none (some (n : Int))).length = min n xs.length := by
  unfold cutV
  rw [sIx_nat]
  unfold HT.sIx
  simp
theorem cutV_suf (xs : List V) (n : Nat) : (cutV xs (some (n : Int)) none).length = xs.length - n := by
  unfold cutV
  rw [sIx_nat]
  unfold HT.sIx
  simp
  omega
theorem cutV_mid (xs : List V) (n m : Nat) : (cutV xs (some (n : Int)) (some (m : Int))).length = min m xs.length - n := by
  unfold cutV
  rw [sIx_nat, sIx_nat]
  simp
  omega
theorem cutV_last (xs : List V) : cutV xs none (some (-1)) = xs.dropLast := by
  unfold cutV HT.sIx
  rw [List.dropLast_eq_take]
  simp
  congr 1
  omega
theorem fresh_back {b p : Addr} {H H' : Hp} (x : ExB b H H') (h : H' p = none) (nb : p ≠ b) : H p = none := by
  cases hh : H p with
  | none => rfl
  | some o => rw [x _ _ nb hh] at h; cases h
def Alloc (H : Hp) : Addr → Prop := fun a => ∃ o, H a = some o
theorem not_alloc {H : Hp} {a : Addr} (h : H a = none) : ¬ Alloc H a := fun ⟨o, ho⟩ => by rw [h] at ho; cases ho
theorem grow_fresh {σ : L2.St} {H : Hp} {j : Nat} {q : Addr} {bs : List V} {t : TA} {R : VK} {n : Nat} {Pc : List V → Hp → Prop} (hv : σ[j]? = some (some (.ref q))) (hq : H q = some (.lst bs)) (ht : ∀ Q : List V → Hp → Prop, (∀ cs H', Ex H H' → Pc cs H' → Q cs H') → t σ H Q)
    (len : ∀ cs H', Pc cs H' → cs.length = n) (hs : bs.length + n ≤ sizeLine)
    (k : ∀ (p : Addr) (cs : List V) (H1 H2 H' : Hp), Ex H H1 → Pc cs H1 → Ex H1 H2 → H2 p = none → Ex H2 H' → H' p = some (.lst (bs ++ cs)) → R (.ref p) H') : tOp rCat (tVar j) (tLst t) σ H R := by
  refine ⟨_, hv, ht _ fun cs H1 e pc => ?_⟩
  have hl := len _ _ pc
  refine ⟨by omega, fun p hp => ⟨q, p, bs, cs, rfl, rfl, ?_, upd_same, by omega, fun r hr => ?_⟩⟩
  · exact (e.trans (Ex.new hp)) _ _ hq
  · exact k r cs H1 _ _ e pc (Ex.new hp) hr (Ex.new hr) upd_same
theorem nodup_filter (ys : List Str) (f : Nat → V) : (((List.range ys.length).filter fun k => decide (ys.getD k "" ∈ ys.take k)).map f).isEmpty = decide ys.Nodup := by
  have e : (((List.range ys.length).filter fun k => decide (ys.getD k "" ∈ ys.take k)).map f).isEmpty = ((List.range ys.length).filter fun k => decide (ys.getD k "" ∈ ys.take k)).isEmpty := by
    cases ((List.range ys.length).filter fun k => decide (ys.getD k "" ∈ ys.take k)) <;> rfl
  rw [e, Bool.eq_iff_iff, List.isEmpty_iff, decide_eq_true_eq, List.filter_eq_nil_iff]
  constructor
  · intro h
    refine List.pairwise_iff_getElem.mpr fun i j hi hj hij he => ?_
    refine h j (List.mem_range.mpr hj) (decide_eq_true ?_)
    rw [List.getD_eq_getElem?_getD, List.getElem?_eq_getElem hj, Option.getD_some, ← he]
    exact List.mem_take_iff_getElem.mpr ⟨i, by omega, rfl⟩
  · intro h k hk hm
    have hk := List.mem_range.mp hk
    have hm := of_decide_eq_true hm
    rw [List.getD_eq_getElem?_getD, List.getElem?_eq_getElem hk, Option.getD_some] at hm
    obtain ⟨i, hi, he⟩ := List.mem_take_iff_getElem.mp hm
    exact (List.pairwise_iff_getElem.mp h) i k (by omega) hk (by omega) he
theorem cutV_take (xs : List V) (n : Nat) : cutV xs none (some (n : Int)) = xs.take n := by
  unfold cutV
  rw [sIx_nat]
  unfold HT.sIx
  simp only [Nat.sub_zero, List.drop_zero]
  by_cases h : n ≤ xs.length
  · rw [Nat.min_eq_left h]
  · rw [Nat.min_eq_right (by omega), List.take_of_length_le (Nat.le_refl _), List.take_of_length_le (by omega)]
theorem ite_same {c : Prop} [Decidable c] {A : Prop} (h : A) : if c then A else A := by
  split <;> exact h
def ExM (v : V) (H H' : Hp) : Prop := ∀ a o, (∀ xs, o = .lst xs → v ≠ .ref a) → H a = some o → H' a = some o
theorem Ex.exm {v : V} {H H' : Hp} (e : Ex H H') : ExM v H H' := fun a o _ h => e a o h
theorem Err.exb {l : List (Addr × Obj)} {H H' : Hp} {a b C : Addr} {fs : List (Str × V)} {us : List V} (e : ExB b H H') (h0 : H b = some (.lst us)) (h : Err l H a C (some fs)) : Err l H' a C (some fs) := by
  obtain ⟨d, h1, h2⟩ := h
  refine ⟨d, h1.elim (fun h => .inl (e _ _ (fun z => by rw [z, h0] at h; cases h) h)) .inr, ?_⟩
  rcases h2 with h | h
  · exact .inl (e _ _ (fun z => by rw [z, h0] at h; cases h) h)
  · exact .inr (e _ _ (fun z => by rw [z, h0] at h; cases h) h)
theorem forG_by {wi : TI} {g : TG} {tb : TS} {D : Ends} {σ : L2.St} {H : Hp} {J : It} {n : Nat} {item : Nat → V} (P : Nat → L2.St → Hp → Prop) (hw : ∀ R : It → Hp → Prop, R J H → wi σ H R) (wk : Walks J n item H) (h0 : P 0 σ H)
    (step : ∀ (j : Nat) (σ1 : L2.St) (H1 : Hp) (N : L2.St → Hp → Prop), j < n → Ex H H1 → P j σ1 H1 → (∀ σ2 H2, Ex H1 H2 → P (j + 1) σ2 H2 → N σ2 H2) → g (item j) σ1 H1 fun σ2 H2 => tb { nx := N, rt := D.rt, bk := D.nx, ct := N } σ2 H2)
    (fin : ∀ σ1 H1, Ex H H1 → P n σ1 H1 → D.nx σ1 H1) : tFor wi g tb D σ H := by
  refine hw _ ⟨fun j m σ1 H1 => m = n - j ∧ j ≤ n ∧ Ex H H1 ∧ P j σ1 H1, ⟨n - 0, rfl, Nat.zero_le _, Ex.refl H, h0⟩, ?_⟩
  rintro j m σ1 H1 ⟨rfl, hj, e, hp⟩
  by_cases hjn : j = n
  · subst hjn
    exact .inl ⟨wk.stop H1 e, fin σ1 H1 e hp⟩
  · have hj2 : j < n := by omega
    refine .inr ⟨wk.go j H1 e hj2, fun σ' H' => n - (j + 1) < n - j ∧ j + 1 ≤ n ∧ Ex H H' ∧ P (j + 1) σ' H', ?_, ?_⟩
    · rintro σ' H' ⟨h1, h2, h3⟩
      exact ⟨n - (j + 1), h1, rfl, h2, h3⟩
    · intro x H' hy
      obtain ⟨rfl, rfl⟩ := wk.yld j H1 x H' e hj2 hy
      exact step j σ1 H' _ hj2 e hp fun σ2 H2 e2 p2 => ⟨by omega, by omega, e.trans e2, p2⟩
theorem lcT_by {K : PySem.W.Frag} {wi : TI} {i j : Nat} {te : TE} {σ : L2.St} {H : Hp} {Q : VK} {J : It} {n : Nat} {item : Nat → V} (val : Nat → V) (hn : n ≤ sizeLine) (hw : ∀ R : It → Hp → Prop, R J H → wi σ H R) (wk : Walks J n item H)
    (hwipe : ∀ u v : V, wipe (((wipe σ [i, j]).set i (some u)).set j (some v)) [i, j] = wipe σ [i, j])
    (elem : ∀ k H1 (R : VK), k < n → Ex H H1 → R (val k) H1 → ∃ (a : Addr) (u v : V), item k = .ref a ∧ SqT K H1 a [u, v] ∧ te (((wipe σ [i, j]).set i (some u)).set j (some v)) H1 R)
    (fin : ∀ D H1, H D = none → Ex H H1 → H1 D = some (.lst ((List.range n).map val)) → Q (.ref D) H1) : tLc wi (gTup K 2 (gCons (gName i) (gCons (gName j) gNil))) tYes te [i, j] σ H Q := by
  refine hw _ fun D hD => ?_
  refine ⟨fun k m H1 => m = n - k ∧ k ≤ n ∧ Ex H H1 ∧ H1 D = some (.lst ((List.range k).map val)), ⟨n - 0, rfl, Nat.zero_le _, Ex.new hD, upd_same⟩, ?_⟩
  rintro k m H1 ⟨rfl, hj, e, ha⟩
  by_cases hjn : k = n
  · subst hjn
    exact .inl ⟨wk.stop H1 e, fin D H1 hD e ha⟩
  · have hj2 : k < n := by omega
    refine .inr ⟨wk.go k H1 e hj2, fun H' => n - (k + 1) < n - k ∧ k + 1 ≤ n ∧ Ex H H' ∧ H' D = some (.lst ((List.range (k + 1)).map val)), ?_, ?_⟩
    · rintro H' ⟨h1, h2, h3⟩
      exact ⟨n - (k + 1), h1, rfl, h2, h3⟩
    · intro x H' hy
      obtain ⟨rfl, rfl⟩ := wk.yld k H1 x H' e hj2 hy
      obtain ⟨a, u, v, h1, h2, h3⟩ := elem k H' (fun y H4 => ∃ acc, H4 D = some (.lst acc) ∧ acc.length < sizeLine ∧ (fun H' => n - (k + 1) < n - k ∧ k + 1 ≤ n ∧ Ex H H' ∧ H' D = some (.lst ((List.range (k + 1)).map val))) (upd H4 D (.lst (acc ++ [y])))) hj2 e ⟨_, ha, by rw [List.length_map, List.length_range]; omega, by omega, by omega, ExB.new (fun a o na h => (by rw [upd_ne na]; exact e a o h)) hD, by rw [List.range_succ, List.map_append]; exact upd_same⟩
      refine ⟨a, _, h1, h2, rfl, u, _, rfl, v, _, rfl, rfl, hwipe u v, ?_⟩
      unfold tYes
      dsimp only
      rw [if_pos rfl]
      exact h3
theorem op_isBR {X : Cx} {b : Bool} : OpR X (compareOp .Is) (fun x y H Q => y = .bl b ∧ (x = .non ∨ ∃ a, x = .ref a) ∧ Q (.bl false) H) := by
  rintro pins s σ H x y v u Q I rx ry ⟨rfl, hx, q⟩
  obtain rfl : u = Value.bool b := ry
  rcases hx with rfl | ⟨c, rfl⟩
  · obtain rfl : v = Value.none := rx
    exact wpAny_pure ⟨.bl false, _, I, by cases b <;> rfl, q⟩
  · obtain rfl : v = Value.ref c := rx
    exact wpAny_pure ⟨.bl false, _, I, by cases b <;> rfl, q⟩
theorem TabX.exb {H H' : Hp} {P c : Addr} {us : List V} (e : ExB c H H') (hc : H c = some (.lst us)) (h : TabX H P) : TabX H' P := by
  exact e _ _ (fun z => by
    have h : H P = some (.ext (TabF P)) := h
    rw [z, hc] at h
    cases h) h
theorem forR_by {wi : TI} {i n : Nat} {tb : TS} {D : Ends} {σ : L2.St} {H : Hp} (P : Nat → L2.St → Hp → Prop) (hw : ∀ R : It → Hp → Prop, R (Itr 0 n) H → wi σ H R) (h0 : P 0 σ H)
    (step : ∀ (j : Nat) (σ1 : L2.St) (H1 : Hp) (N : L2.St → Hp → Prop), j < n → P j σ1 H1 → (∀ σ2 H2, P (j + 1) σ2 H2 → N σ2 H2) → tb { nx := N, rt := D.rt, bk := D.nx, ct := N } (σ1.set i (some (.int (j : Int)))) H1)
    (fin : ∀ σ1 H1, P n σ1 H1 → D.nx σ1 H1) : tFor wi (gName i) tb D σ H := by
  refine hw _ ⟨fun j m σ1 H1 => m = n - j ∧ j ≤ n ∧ P j σ1 H1, ⟨n - 0, rfl, Nat.zero_le _, h0⟩, ?_⟩
  rintro j m σ1 H1 ⟨rfl, hj, hp⟩
  by_cases hjn : j = n
  · subst hjn
    exact .inl ⟨Nat.le_refl _, fin σ1 H1 hp⟩
  · have hj2 : j < n := by omega
    refine .inr ⟨hj2, fun σ' H' => n - (j + 1) < n - j ∧ j + 1 ≤ n ∧ P (j + 1) σ' H', ?_, ?_⟩
    · rintro σ' H' ⟨h1, h2, h3⟩
      exact ⟨n - (j + 1), h1, rfl, h2, h3⟩
    · intro x H' hy
      have hx : x = .int (j : Int) := by rw [hy.2, Int.zero_add]
      have hH : H' = H1 := hy.1
      subst hx hH
      exact step j σ1 H' _ hj2 hp fun σ2 H2 p2 => ⟨by omega, by omega, p2⟩
end K9

namespace PySem.SeqAt
open AutoSeq1 (wpAny_loadPart')
open MeetsSeq
/-! ### a dict and a text -/
theorem dict_eq_declines_str (l : Addr) (o : Obj) (b : Str) (u : Tok) :
    Meets (Builtin.«dict.__eq__» ⟨[.ref l, .str b u], []⟩) (fun _ R s => s.heap.get? l = some o ∧ o.cls = .type "dict" ∧ o.dict = none ∧ R (.ok (.ret .notImplemented)) s) :=
  .of_wp fun prog w A R s h => by obtain ⟨hp, g, d, tk, os⟩ := s; obtain ⟨hl, hc, hd, h⟩ := h; obtain ⟨cls, dd, data, sl⟩ := o; simp only at hc hd; subst hc hd; have f1 := F.sub_str_dict; wp_walk using wpAny_loadPart' hl, wpAny_load hl; exact ⟨_, rfl, h⟩
theorem str_eq_declines_dict (b : Str) (u : Tok) (l : Addr) (o : Obj) :
    Meets (Builtin.«str.__eq__» ⟨[.str b u, .ref l], []⟩) (fun _ R s => s.heap.get? l = some o ∧ (∃ es ep, o.data = .dict es ep) ∧ R (.ok (.ret .notImplemented)) s) :=
  .of_wp fun prog w A R s h => by obtain ⟨hp, g, d, tk, os⟩ := s; obtain ⟨hl, ⟨es, ep, hd⟩, h⟩ := h; obtain ⟨cls, dd, data, sl⟩ := o; simp only at hd; subst hd; wp_walk using wpAny_loadPart' hl, wpAny_load hl; exact ⟨_, rfl, h⟩
theorem dict_ne_declines_str (l : Addr) (o : Obj) (b : Str) (u : Tok) :
    Meets (Builtin.«dict.__ne__» ⟨[.ref l, .str b u], []⟩) (fun _ R s => s.heap.get? l = some o ∧ o.cls = .type "dict" ∧ o.dict = none ∧ R (.ok (.ret .notImplemented)) s) :=
  .of_wp fun prog w A R s h => by obtain ⟨hp, g, d, tk, os⟩ := s; obtain ⟨hl, hc, hd, h⟩ := h; obtain ⟨cls, dd, data, sl⟩ := o; simp only at hc hd; subst hc hd; have f1 := F.sub_str_dict; wp_walk using wpAny_loadPart' hl, wpAny_load hl; exact ⟨_, rfl, h⟩
theorem str_ne_declines_dict (b : Str) (u : Tok) (l : Addr) (o : Obj) :
    Meets (Builtin.«str.__ne__» ⟨[.str b u, .ref l], []⟩) (fun _ R s => s.heap.get? l = some o ∧ (∃ es ep, o.data = .dict es ep) ∧ R (.ok (.ret .notImplemented)) s) :=
  .of_wp fun prog w A R s h => by obtain ⟨hp, g, d, tk, os⟩ := s; obtain ⟨hl, ⟨es, ep, hd⟩, h⟩ := h; obtain ⟨cls, dd, data, sl⟩ := o; simp only at hd; subst hd; wp_walk using wpAny_loadPart' hl, wpAny_load hl; exact ⟨_, rfl, h⟩
end PySem.SeqAt
namespace PySem.SeqAt
section
variable {A : Around} {s : Shared}
theorem RcAt.dict_str {l : Addr} {o : Obj} (b : Str) (u : Tok) (hl : s.heap.get? l = some o) (x : o.ExactDict) (hd : ∃ es ep, o.data = .dict es ep) (hu : A.units < cLine) : RcAt A s (.ref l) (.str b u) false := fun prog w E Q h =>
  rc_eq_decline_or (k := false) ⟨_, hl, x.1⟩ (typeIs_str s b u) (by decide) F.sub_str_dict F.slot_dict_eq F.slot_str_eq_refl
    (fun _ hq => call_meets F.slot_dict_eq ⟨_, hl, x.1⟩ F.entry_dict_eq (F.args_dict_eq_2 _ _) (dict_eq_declines_str l o b u) ⟨hl, x.1, x.2.1, hq⟩)
    (fun _ hq => call_meets F.slot_str_eq_refl (typeIs_str s b u) F.entry_str_eq (F.args_str_eq_2 _ _) (str_eq_declines_dict b u l o) ⟨hl, hd, hq⟩)
    (fun _ hq => wpAny_of_eq (rfl : isSame (.ref l) (.str b u) = pure false) hq) (.inr hu) h
theorem RcAt.str_dict {l : Addr} {o : Obj} (b : Str) (u : Tok) (hl : s.heap.get? l = some o) (x : o.ExactDict) (hd : ∃ es ep, o.data = .dict es ep) (hu : A.units < cLine) : RcAt A s (.str b u) (.ref l) false := fun prog w E Q h =>
  rc_eq_decline_or (k := false) (typeIs_str s b u) ⟨_, hl, x.1⟩ (by decide) F.sub_dict_str F.slot_str_eq F.slot_dict_eq_refl
    (fun _ hq => call_meets F.slot_str_eq (typeIs_str s b u) F.entry_str_eq (F.args_str_eq_2 _ _) (str_eq_declines_dict b u l o) ⟨hl, hd, hq⟩)
    (fun _ hq => call_meets F.slot_dict_eq_refl ⟨_, hl, x.1⟩ F.entry_dict_eq (F.args_dict_eq_2 _ _) (dict_eq_declines_str l o b u) ⟨hl, x.1, x.2.1, hq⟩)
    (fun _ hq => wpAny_of_eq (rfl : isSame (.str b u) (.ref l) = pure false) hq) (.inr hu) h
theorem EqAt.str_dict {l : Addr} {o : Obj} (b : Str) (u : Tok) (hl : s.heap.get? l = some o) (x : o.ExactDict) (hd : ∃ es ep, o.data = .dict es ep) (hu : A.units < cLine) : EqAt A s (.str b u) (.ref l) false := fun prog w E Q h => by
  unfold eqBool
  refine wpAny_holding ?_
  refine wpAny_ite_split (fun hab => absurd (eq_of_beq hab) nofun) (fun _ => ?_)
  exact wpAny_bind (RcAt.str_dict b u hl x hd hu prog w E _ (wpAny_truthy_bool h))
theorem RcNeAt.dict_str {l : Addr} {o : Obj} (b : Str) (u : Tok) (hl : s.heap.get? l = some o) (x : o.ExactDict) (hd : ∃ es ep, o.data = .dict es ep) (hu : A.units < cLine) : RcNeAt A s (.ref l) (.str b u) true := fun prog w E Q h =>
  rc_ne_decline_or (k := false) ⟨_, hl, x.1⟩ (typeIs_str s b u) (by decide) F.sub_str_dict F.slot_dict_ne F.slot_str_ne_refl
    (fun _ hq => call_meets F.slot_dict_ne ⟨_, hl, x.1⟩ F.entry_dict_ne (F.args_dict_ne_2 _ _) (dict_ne_declines_str l o b u) ⟨hl, x.1, x.2.1, hq⟩)
    (fun _ hq => call_meets F.slot_str_ne_refl (typeIs_str s b u) F.entry_str_ne (F.args_str_ne_2 _ _) (str_ne_declines_dict b u l o) ⟨hl, hd, hq⟩)
    (fun _ hq => wpAny_of_eq (rfl : isSame (.ref l) (.str b u) = pure false) hq) (.inr hu) h
end
end PySem.SeqAt
namespace K9
open PySem PySem.Spec PyProof.Rows L2 L2H HotX Evl
/-! ### any plain value against a text -/
def eqS (x : V) (z : Str) : Bool := decide (x = .str z)
def rEqS : R2 := fun x y H Q => ∃ s z, Bas H x s ∧ y = .str z ∧ Q (.bl (eqS x z)) H
def rNeS : R2 := fun x y H Q => ∃ s z, Bas H x s ∧ y = .str z ∧ Q (.bl (!eqS x z)) H
section
variable {X : Cx}
theorem op_eqS (hu : X.A.units < cLine) : OpR X (compareOp .Eq) rEqS := by
  intro pins s σ H x y v u Q I rx ry h
  obtain ⟨n, z, hb, rfl, q⟩ := h
  cases hb with
  | non => exact op_eq pins s σ H _ _ v u Q I rx ry ⟨rfl, q⟩
  | bl b => exact op_eq pins s σ H _ _ v u Q I rx ry ⟨rfl, q⟩
  | int i => exact op_eq pins s σ H _ _ v u Q I rx ry ⟨rfl, q⟩
  | str i => exact op_eq pins s σ H _ _ v u Q I rx ry ⟨rfl, q⟩
  | @lst a xs h =>
    obtain ⟨t, rfl⟩ := ry
    cases rx
    obtain ⟨its, r, pl, hz⟩ := I.list (SqL.of h)
    exact SeqAt.RcAt.list_str z t pl.isList hu _ _ _ _ ⟨.bl false, H, I, rfl, q⟩
  | @tup a xs h =>
    obtain ⟨t, rfl⟩ := ry
    cases rx
    obtain ⟨its, r, pl, hz⟩ := I.tuple (SqT.of h)
    exact SeqAt.RcAt.tuple_str z t pl hu _ _ _ _ ⟨.bl false, H, I, rfl, q⟩
  | @dK a ks h =>
    obtain ⟨t, rfl⟩ := ry
    cases rx
    obtain ⟨_, hd, vs, _, ⟨o, es, ep, ho, hx, hdt, _⟩⟩ := dk_of I.hok h
    exact SeqAt.RcAt.dict_str z t ho hx ⟨es, ep, hdt⟩ hu _ _ _ _ ⟨.bl false, H, I, rfl, q⟩
theorem op_neS (hu : X.A.units < cLine) : OpR X (compareOp .NotEq) rNeS := by
  intro pins s σ H x y v u Q I rx ry h
  obtain ⟨n, z, hb, rfl, q⟩ := h
  cases hb with
  | non => exact op_ne pins s σ H _ _ v u Q I rx ry ⟨rfl, q⟩
  | bl b => exact op_ne pins s σ H _ _ v u Q I rx ry ⟨rfl, q⟩
  | int i => exact op_ne pins s σ H _ _ v u Q I rx ry ⟨rfl, q⟩
  | str i => exact op_ne pins s σ H _ _ v u Q I rx ry ⟨rfl, q⟩
  | @lst a xs h =>
    obtain ⟨t, rfl⟩ := ry
    cases rx
    obtain ⟨its, r, pl, hz⟩ := I.list (SqL.of h)
    exact SeqAt.RcNeAt.list_str z t pl.isList hu _ _ _ _ ⟨.bl true, H, I, rfl, q⟩
  | @tup a xs h =>
    obtain ⟨t, rfl⟩ := ry
    cases rx
    obtain ⟨its, r, pl, hz⟩ := I.tuple (SqT.of h)
    exact SeqAt.RcNeAt.tuple_str z t pl hu _ _ _ _ ⟨.bl true, H, I, rfl, q⟩
  | @dK a ks h =>
    obtain ⟨t, rfl⟩ := ry
    cases rx
    obtain ⟨_, hd, vs, _, ⟨o, es, ep, ho, hx, hdt, _⟩⟩ := dk_of I.hok h
    exact SeqAt.RcNeAt.dict_str z t ho hx ⟨es, ep, hdt⟩ hu _ _ _ _ ⟨.bl true, H, I, rfl, q⟩
/-- any plain value, not in a tuple of texts -/
def rNotInT (K : PySem.W.Frag) : R2 := fun x y H Q => ∃ (n : String) (p : Addr) (ys : List Str), Bas H x n ∧ y = .ref p ∧ SqT K H p (ys.map V.str) ∧ Q (.bl (!ys.any (eqS x))) H
theorem strs_at {x : V} {H : Hp} {ys : List Str} {us : List Value} {A : Around} {s : Shared} {v : Value} (r : Vals (ys.map V.str) us) (h : ∀ z t, SeqAt.EqAt A s (.str z t) v (eqS x z)) (e : Value → Bool) (he : ∀ z t, e (.str z t) = eqS x z) : (∀ w ∈ us, SeqAt.EqAt A s w v (e w)) ∧ us.any e = ys.any (eqS x) := by
  induction ys generalizing us with
  | nil =>
    cases r
    exact ⟨fun w hw => absurd hw (by simp), rfl⟩
  | cons y ys ih =>
    cases r with
    | cons r1 r2 =>
      obtain ⟨t, rfl⟩ := r1
      obtain ⟨i1, i2⟩ := ih r2
      refine ⟨fun w hw => ?_, by rw [List.any_cons, List.any_cons, i2, he]⟩
      rcases List.mem_cons.mp hw with rfl | hw
      · rw [he]
        exact h y t
      · exact i1 w hw
def eqSU (x : V) : Value → Bool
  | .str z _ => eqS x z
  | _ => false
theorem op_notInT (hu : X.A.units + 1 < cLine) : OpR X (compareOp .NotIn) (rNotInT X.K) := by
  intro pins s σ H x y v u Q I rx ry h
  obtain ⟨n, p, ys, hb, rfl, hp, q⟩ := h
  cases ry
  obtain ⟨its, r, pl, hz⟩ := I.tuple hp
  have key : ∀ z t, SeqAt.EqAt X.A.in1 s (.str z t) v (eqS x z) := by
    intro z t
    have sw : ∀ i : Str, (z == i) = eqS (.str i) z := fun i => by
      unfold eqS
      rw [Bool.eq_iff_iff]
      simp
      exact ⟨fun e => e.symm, fun e => e.symm⟩
    have hu1 : X.A.in1.units < cLine := hu
    cases hb with
    | non =>
      cases rx
      exact SeqAt.EqAt.str_none z t
    | bl b =>
      cases rx
      exact SeqAt.EqAt.str_bool z t b
    | int i =>
      obtain ⟨t', rfl⟩ := rx
      exact SeqAt.EqAt.str_int z t i t'
    | str i =>
      obtain ⟨t', rfl⟩ := rx
      have y := SeqAt.EqAt.str_str (A := X.A.in1) (s := s) z t i t'
      rw [sw] at y
      exact y
    | @lst a xs h =>
      cases rx
      obtain ⟨its, r, pl, hz⟩ := I.list (SqL.of h)
      exact SeqAt.EqAt.str_list z t pl.isList hu1
    | @tup a xs h =>
      cases rx
      obtain ⟨its, r, pl, hz⟩ := I.tuple (SqT.of h)
      exact SeqAt.EqAt.str_tuple z t pl hu1
    | @dK a ks h =>
      cases rx
      obtain ⟨_, hd, vs, _, ⟨o, es, ep, ho, hx, hdt, _⟩⟩ := dk_of I.hok h
      exact SeqAt.EqAt.str_dict z t ho hx ⟨es, ep, hdt⟩ hu1
  obtain ⟨k1, k2⟩ := strs_at (x := x) (H := H) r key (eqSU x) (fun _ _ => rfl)
  refine SeqAt.notIn_tupleAt (eqSU x) pl (fun w hw => k1 w (by simpa using hw)) ⟨.bl _, H, I, rfl, ?_⟩
  rw [show its.toArray.any (eqSU x) = its.any (eqSU x) by simp, k2]
  exact q
end
end K9

namespace K9
open PySem PySem.Spec PyProof.Rows L2 L2H HotX Evl
/-! ### plain values as trees: what stands in lists and dicts is not told -/
inductive Tr
  | non
  | bl (b : Bool)
  | int (i : Int)
  | str (z : Str)
  | oth (s : String)
  | tup (ts : List Tr)
mutual
def Tr.sz : Tr → Nat
  | .tup ts => 1 + Tr.szL ts
  | .non => 1
  | .bl _ => 1
  | .int _ => 1
  | .str _ => 1
  | .oth _ => 1
def Tr.szL : List Tr → Nat
  | [] => 0
  | t :: ts => t.sz + Tr.szL ts
end
theorem Tr.pos (t : Tr) : 1 ≤ t.sz := by
  cases t <;> simp [Tr.sz]
theorem szL_app (a b : List Tr) : Tr.szL (a ++ b) = Tr.szL a + Tr.szL b := by
  induction a with
  | nil => simp [Tr.szL]
  | cons x r ih => simp [Tr.szL, ih]; omega
theorem szL_len (a : List Tr) : a.length ≤ Tr.szL a := by
  induction a with
  | nil => simp [Tr.szL]
  | cons x r ih =>
    have := x.pos
    simp [Tr.szL]
    omega
mutual
inductive Rd (H : Hp) : V → Tr → Prop
  | non : Rd H .non .non
  | bl (b : Bool) : Rd H (.bl b) (.bl b)
  | int (i : Int) : Rd H (.int i) (.int i)
  | str (z : Str) : z.length ≤ 1000 → Rd H (.str z) (.str z)
  | lst {a : Addr} {xs : List V} : H a = some (.lst xs) → Rd H (.ref a) (.oth "list")
  | dic {a : Addr} {ks : List (Key × V)} : H a = some (.dK ks) → Rd H (.ref a) (.oth "dict")
  | tup {a : Addr} {vs : List V} {ts : List Tr} : H a = some (.tup vs) → RdL H vs ts → Rd H (.ref a) (.tup ts)
inductive RdL (H : Hp) : List V → List Tr → Prop
  | nil : RdL H [] []
  | cons {v : V} {vs : List V} {t : Tr} {ts : List Tr} : Rd H v t → RdL H vs ts → RdL H (v :: vs) (t :: ts)
end
mutual
theorem Rd.ext {H H' : Hp} (e : Ex H H') {v : V} {t : Tr} (h : Rd H v t) : Rd H' v t :=
  match h with
  | .non => .non
  | .bl b => .bl b
  | .int i => .int i
  | .str z l => .str z l
  | .lst h => .lst (e _ _ h)
  | .dic h => .dic (e _ _ h)
  | .tup h r => .tup (e _ _ h) (r.ext e)
theorem RdL.ext {H H' : Hp} (e : Ex H H') {vs : List V} {ts : List Tr} (h : RdL H vs ts) : RdL H' vs ts :=
  match h with
  | .nil => .nil
  | .cons h r => .cons (h.ext e) (r.ext e)
end
mutual
/-- a list is written -/
theorem Rd.exb {b : Addr} {H H' : Hp} {us ws : List V} (e : ExB b H H') (h0 : H b = some (.lst us)) (h1 : H' b = some (.lst ws)) {v : V} {t : Tr} (h : Rd H v t) : Rd H' v t :=
  match h with
  | .non => .non
  | .bl b => .bl b
  | .int i => .int i
  | .str z l => .str z l
  | .lst (a := a) h => (Classical.em (a = b)).elim (fun z => by subst z; exact .lst h1) fun z => .lst (e _ _ z h)
  | .dic h => .dic (e _ _ (fun z => by rw [z, h0] at h; cases h) h)
  | .tup h r => .tup (e _ _ (fun z => by rw [z, h0] at h; cases h) h) (r.exb e h0 h1)
theorem RdL.exb {b : Addr} {H H' : Hp} {us ws : List V} (e : ExB b H H') (h0 : H b = some (.lst us)) (h1 : H' b = some (.lst ws)) {vs : List V} {ts : List Tr} (h : RdL H vs ts) : RdL H' vs ts :=
  match h with
  | .nil => .nil
  | .cons h r => .cons (h.exb e h0 h1) (r.exb e h0 h1)
end
def Tr.ty : Tr → String
  | .non => "NoneType"
  | .bl _ => "bool"
  | .int _ => "int"
  | .str _ => "str"
  | .oth s => s
  | .tup _ => "tuple"
theorem Rd.bas {H : Hp} {v : V} {t : Tr} (h : Rd H v t) : Bas H v t.ty := by
  cases h with
  | non => exact .non
  | bl b => exact .bl b
  | int i => exact .int i
  | str z l => exact .str z
  | lst h => exact .lst h
  | dic h => exact .dK h
  | tup h r => exact .tup h
def Tr.str? : Tr → Option Str
  | .str z => some z
  | _ => none
theorem Rd.may {K : PySem.W.Frag} {H : Hp} {v : V} {t : Tr} (h : Rd H v t) : MayStr K H v t.str? := by
  cases h with
  | non => exact .no (Bas.noStr .non (by decide))
  | bl b => exact .no (Bas.noStr (.bl b) (by decide))
  | int i => exact .no (Bas.noStr (.int i) (by decide))
  | str z l => exact .str z l
  | lst h => exact .no (Bas.noStr (.lst h) (by decide))
  | dic h => exact .no (Bas.noStr (.dK h) (by decide))
  | tup h r => exact .no (Bas.noStr (.tup h) (by decide))
def Tr.isS (z : Str) : Tr → Bool
  | .str y => decide (y = z)
  | _ => false
theorem Rd.eqS {H : Hp} {v : V} {t : Tr} (h : Rd H v t) (z : Str) : K9.eqS v z = t.isS z := by
  cases h <;> simp [K9.eqS, Tr.isS]
theorem RdL.len {H : Hp} {vs : List V} {ts : List Tr} (h : RdL H vs ts) : vs.length = ts.length := by
  induction vs generalizing ts with
  | nil => cases h; rfl
  | cons v vs ih =>
    cases h with
    | cons _ r => simp [ih r]
theorem RdL.at_ {H : Hp} {vs : List V} {ts : List Tr} (h : RdL H vs ts) {j : Nat} (hj : j < vs.length) : Rd H (vs.getD j .non) (ts.getD j .non) := by
  induction vs generalizing ts j with
  | nil => exact absurd hj (Nat.not_lt_zero j)
  | cons v vs ih =>
    cases h with
    | cons a r =>
      cases j with
      | zero => exact a
      | succ j => exact ih r (by simpa using hj)
theorem RdL.app {H : Hp} {vs us : List V} {ts ss : List Tr} (h : RdL H vs ts) (h' : RdL H us ss) : RdL H (vs ++ us) (ts ++ ss) := by
  induction vs generalizing ts with
  | nil => cases h; exact h'
  | cons v vs ih =>
    cases h with
    | cons a r => exact .cons a (ih r)
/-- a tree's type tells its form -/
theorem Rd.tup_of {H : Hp} {v : V} {t : Tr} (h : Rd H v t) (e : t.ty = "tuple") : ∃ a vs ts, v = .ref a ∧ t = .tup ts ∧ H a = some (.tup vs) ∧ RdL H vs ts := by
  cases h with
  | tup h r => exact ⟨_, _, _, rfl, rfl, h, r⟩
  | _ => simp [Tr.ty] at e
theorem Rd.tup_inv {H : Hp} {v : V} {ts : List Tr} (h : Rd H v (.tup ts)) : ∃ a vs, v = .ref a ∧ H a = some (.tup vs) ∧ RdL H vs ts := by
  cases h with
  | tup h r => exact ⟨_, _, rfl, h, r⟩
/-- v == () for a tuple v -/
theorem op_eqE {X : Cx} (hu : X.A.units < cLine) : OpR X (compareOp .Eq) (fun x y H Q => ∃ a b xs, x = .ref a ∧ y = .ref b ∧ H a = some (.tup xs) ∧ H b = some (.tup []) ∧ Q (.bl xs.isEmpty) H) := by
  intro pins s σ H x y v u Q I rx ry h
  obtain ⟨a, b, xs, rfl, rfl, ha, hb, q⟩ := h
  cases rx
  cases ry
  obtain ⟨its, r, pl, hz⟩ := I.tuple (SqT.of ha)
  obtain ⟨its2, r2, pl2, hz2⟩ := I.tuple (SqT.of hb)
  cases r2
  refine SeqAt.RcAt.tuples (e := fun _ => true) pl pl2 hu (fun j h1 h2 => absurd h2 (by simp)) _ _ _ _ ⟨.bl xs.isEmpty, H, I, ?_, q⟩
  cases r with
  | nil => rfl
  | cons a b => simp [L2.RelV]
end K9

namespace K9
open PySem PySem.Spec PyProof.Rows L2 L2H HotX Evl
/-! ### a def that may raise, called by position and by keywords -/
def OkR (P : Program) (w : World) (K : PySem.W.Frag) (mg : Str → Option Value) (base : Heap) (k : Nat) (x : Str) (ps : List Str) (ways : List (Nat × List Str × List Nat)) (sp : Sp) : Prop :=
  ∃ f fd, FnOk P w K mg base (L2N.CX P w) k f fd ps sp ∧ mg x = some (.ref f) ∧ PySem.W.keepIn K (.ref f) = true ∧ Binds K fd ps [] ∧ ∀ q ∈ ways, KBn K fd ps q.1 q.2.1 (gP q.2.2) (gPV q.2.2)
theorem OkR.mono {P : Program} {w : World} {K : PySem.W.Frag} {mg : Str → Option Value} {base : Heap} {j k : Nat} {x : Str} {ps : List Str} {ways : List (Nat × List Str × List Nat)} {sp : Sp} (o : OkR P w K mg base j x ps ways sp) (h : j ≤ k) : OkR P w K mg base k x ps ways sp := by
  obtain ⟨f, fd, F, r⟩ := o
  exact ⟨f, fd, F.mono h, r⟩
theorem okR_of {P : Program} {w : World} {K : PySem.W.Frag} {mg : Str → Option Value} {base : Heap} {k : Nat} {x : Str} {params : Arguments} {body : List Stmt} {scope : Scope} {f : Addr} {fd : FuncData} {N ps : List Str} {ways : List (Nat × List Str × List Nat)} {sp : Sp}
    (F : FunD K x x params body scope [] [] f fd) (hm : mg x = some (.ref f)) (S : FnScope N ps scope)
    (hb : ∀ (kV doc pm : Value) (an : Option Addr) (cdv ct : Value) (us : List Value), us.length = ps.length → bindArgs (PySem.W.fnOf x x params body scope .none kV doc pm an cdv ct) ⟨us, []⟩ = pure (ps.zip us))
    (hk : ∀ q ∈ ways, KBn K fd ps q.1 q.2.1 (gP q.2.2) (gPV q.2.2))
    (len : ∀ vs H Q E, sp vs H Q E → vs.length = ps.length)
    (hbody : ∀ (cdv : Value) (A : Around) (outer : List Env) (s : Shared) (H : Hp) (vs : List V) (Q : VK) (E : XK), Room k (A.deeper (envOfC x scope s.heap.objs.size f cdv)) → sp vs H Q E →
      L2N.Takes (cxOf (L2N.CX P w) P w K mg base N x scope f cdv A outer s H E) (fun cls d _ H => E cls d H) →
      ∃ t, PSs (cxOf (L2N.CX P w) P w K mg base N x scope f cdv A outer s H E) body t ∧ t { nx := fun _ H' => Q .non H', rt := Q } (start N vs) H) :
    OkR P w K mg base (k + 1) x ps ways sp := by
  refine ⟨f, fd, F.ok S len fun cdv A outer s H vs Q E hr h => ?_, hm, F.kp, F.bindsN (ps := ps) hb, hk⟩
  exact hbody cdv A outer s H vs Q E hr h (L2N.takes_of rfl rfl rfl rfl)
def tCallR (sp : Sp) (W : WX) (t : TA) : TE := fun σ H Q => t σ H fun vs H1 => sp vs H1 Q (WE W σ)
def tCallRK (n m : Nat) (ix : List Nat) (sp : Sp) (W : WX) (t tk : TA) : TE := fun σ H Q => t σ H fun vs H1 => tk σ H1 fun zs H2 => vs.length = n ∧ zs.length = m ∧ sp (gPV ix vs zs) H2 Q (WE W σ)
section
variable {X : Cx} {W : WX} {k n : Nat} {ps ks : List Str} {ways : List (Nat × List Str × List Nat)} {ix : List Nat} {sp : Sp} {x : Str} {p pos : Pos} {e : Expr} {es : List Expr} {kws : List Keyword} {t tk : TA}
theorem pe_callR (hw : L2N.Takes X W) (o : OkR X.prog X.w X.K X.mg X.base k x ps ways sp) (hr : Room k X.A) (hg : Gl X x) (ha : PA X (e :: es) t) (hdb : (x == ("__debug__" : Str)) = false := by decide)
    (he : starEach (e :: es) X.env = (false, eval e X.env) :: starEach es X.env := by rfl) (hpl : (backTo pos (starEach es X.env)).any (·.1) = false := by rfl) :
    PE X (.Call (.Name x p) (e :: es) [] pos) (tCallR sp W t) := by
  obtain ⟨f, fd, F, hm, hk, hb, _⟩ := o
  exact L2.pe_callS (E := WE W) F hr hg hm hk hb (fun σ => L2N.passAt hw σ) ha hdb he hpl
theorem run_fnNS {CX : CXT} {f : Addr} {fd : FuncData} {E : XK} {g : List Value → List Value → List Value} {gV : List V → List V → List V} {pins : List (Addr × Obj)} {σ : L2.St} {H : Hp} {s : Shared} {Q : VK} {us ws : List Value} {vs zs : List V} (F : FnOk X.prog X.w X.K X.mg X.base CX k f fd ps sp) (hr : Room k X.A) (hb : KBn X.K fd ps n ks g gV) (hx : PassesAt CX X σ E)
    (I : Inv X pins σ H s) (r : Vals vs us) (rz : Vals zs ws) (l1 : vs.length = n) (l2 : zs.length = ks.length) (h : sp (gV vs zs) H Q E) : wpAny (model X.prog X.w) X.A (call (.ref f) us (ks.zip ws)) (EP X pins σ Q) X.xe s := by
  have r2 := hb.rel r rz
  refine wpAny_call (codeAny_mono (F.run X.A X.stack s H ⟨us, ks.zip ws⟩ (g us ws) (gV vs zs) Q E hr I.env0 (hb.to s us ws I.kIn (r.length.symm.trans l1) (rz.length.symm.trans l2)) r2 h) fun r s' hq => ?_)
  cases r with
  | error e => exact hx pins H s e s' I hq
  | ok fl =>
    cases fl with
    | ret u => exact I.after hq
    | next => exact False.elim hq
    | brk => exact False.elim hq
    | cont => exact False.elim hq
theorem pe_callRK (hw : L2N.Takes X W) (o : OkR X.prog X.w X.K X.mg X.base k x ps ways sp) (hq : (n, ks, ix) ∈ ways) (hr : Room k X.A) (hg : Gl X x) (ha : PA X (e :: es) t) (hkw : PK X kws tk)
    (hall : (backToKw pos (keywordEach kws X.env)).all (·.1.isSome) = true := by rfl) (hks : (backToKw pos (keywordEach kws X.env)).filterMap (·.1) = ks := by rfl)
    (hdb : (x == ("__debug__" : Str)) = false := by decide) (he : starEach (e :: es) X.env = (false, eval e X.env) :: starEach es X.env := by rfl)
    (hpl : ((backTo pos (starEach (e :: es) X.env)).any (·.1) || (backToKw pos (keywordEach kws X.env)).any (·.1.isNone)) = false := by rfl) :
    PE X (.Call (.Name x p) (e :: es) kws pos) (tCallRK n ks.length ix sp W t tk) := by
  obtain ⟨f, fd, F, hm, hk, _, hb⟩ := o
  refine ⟨fun pins s σ H Q I h => ?_⟩
  refine wpAny_Call_Name_kw (ld_glob I hg hm ?_ hdb)
  refine PySem.W.callWith_KW (h₀ := X.base) I.ok.mod.kin hk hall (thn (ha.run pos pins s σ H _ I h) fun us s1 ⟨vs, H1, I1, r, q⟩ => ?_) hpl he
  refine thn (hkw.run pos pins s1 σ H1 _ I1 q) fun ws s2 ⟨zs, H2, I2, rz, l1, l2, q2⟩ => ⟨I2.kIn, ?_⟩
  rw [hks]
  exact run_fnNS F hr (hb _ hq) (L2N.passAt hw σ) I2 r rz l1 l2 q2
theorem pe_callRK0 (hw : L2N.Takes X W) (o : OkR X.prog X.w X.K X.mg X.base k x ps ways sp) (hq : (0, ks, ix) ∈ ways) (hr : Room k X.A) (hg : Gl X x) (hkw : PK X kws tk)
    (hall : (backToKw pos (keywordEach kws X.env)).all (·.1.isSome) = true := by rfl) (hks : (backToKw pos (keywordEach kws X.env)).filterMap (·.1) = ks := by rfl)
    (hdb : (x == ("__debug__" : Str)) = false := by decide)
    (hpl : ((backTo pos (starEach [] X.env)).any (·.1) || (backToKw pos (keywordEach kws X.env)).any (·.1.isNone)) = false := by rfl) :
    PE X (.Call (.Name x p) [] kws pos) (tCallRK 0 ks.length ix sp W tNil tk) := by
  obtain ⟨f, fd, F, hm, hk, _, hb⟩ := o
  refine ⟨fun pins s σ H Q I h => ?_⟩
  refine wpAny_Call_Name_kw (ld_glob I hg hm ?_ hdb)
  refine PySem.W.callWith_KW0 (h₀ := X.base) I.ok.mod.kin hk hall ?_ hpl
  refine thn (hkw.run pos pins s σ H _ I h) fun ws s2 ⟨zs, H2, I2, rz, l1, l2, q2⟩ => ⟨I2.kIn, ?_⟩
  rw [hks]
  exact run_fnNS (us := []) (vs := []) F hr (hb _ hq) (L2N.passAt hw σ) I2 .nil rz rfl l2 q2
end
end K9

namespace KM
open PySem PySem.Spec PyProof.Rows L2 L2H HotX Evl K9
theorem rdl_take {H : Hp} {xs : List V} {ts : List Tr} (h : RdL H xs ts) (j : Nat) : RdL H (xs.take j) (ts.take j) := by
  induction xs generalizing ts j with
  | nil => cases h; simp; exact .nil
  | cons x xs ih =>
    cases h with
    | cons a r =>
      cases j with
      | zero => exact .nil
      | succ j => exact .cons a (ih r j)
/-! ### plain values that are made by displays: trees of a bounded size -/
def RdN (n : Nat) (H : Hp) (v : V) : Prop := ∃ t, Rd H v t ∧ t.sz ≤ n
theorem RdN.ext {n : Nat} {H H' : Hp} {v : V} (e : Ex H H') (h : RdN n H v) : RdN n H' v := by
  obtain ⟨t, h, l⟩ := h
  exact ⟨t, h.ext e, l⟩
theorem RdN.up {n m : Nat} {H : Hp} {v : V} (h : RdN n H v) (l : n ≤ m) : RdN m H v := by
  obtain ⟨t, h, l2⟩ := h
  exact ⟨t, h, Nat.le_trans l2 l⟩
theorem RdN.exb {n : Nat} {b : Addr} {H H' : Hp} {us ws : List V} (e : ExB b H H') (h0 : H b = some (.lst us)) (h1 : H' b = some (.lst ws)) {v : V} (h : RdN n H v) : RdN n H' v := by
  obtain ⟨t, h, l⟩ := h
  exact ⟨t, h.exb e h0 h1, l⟩
theorem RdN.non {n : Nat} {H : Hp} (h : 1 ≤ n) : RdN n H .non := ⟨_, .non, h⟩
theorem RdN.bl {n : Nat} {H : Hp} {b : Bool} (h : 1 ≤ n) : RdN n H (.bl b) := ⟨_, .bl b, h⟩
theorem RdN.int {n : Nat} {H : Hp} {i : Int} (h : 1 ≤ n) : RdN n H (.int i) := ⟨_, .int i, h⟩
theorem RdN.str {n : Nat} {H : Hp} {z : Str} (h : 1 ≤ n) (l : z.length ≤ 1000) : RdN n H (.str z) := ⟨_, .str z l, h⟩
theorem rds_tup {n : Nat} {H : Hp} {vs : List V} (h : ∀ v ∈ vs, RdN n H v) : ∃ ts, RdL H vs ts ∧ Tr.szL ts ≤ vs.length * n := by
  induction vs with
  | nil => exact ⟨[], .nil, by simp [Tr.szL]⟩
  | cons v vs ih =>
    obtain ⟨t, h1, l1⟩ := h v (List.mem_cons_self ..)
    obtain ⟨ts, h2, l2⟩ := ih fun u hu => h u (List.mem_cons_of_mem _ hu)
    refine ⟨t :: ts, .cons h1 h2, ?_⟩
    simp only [Tr.szL, List.length_cons, Nat.add_mul, Nat.one_mul]
    omega
theorem rds_of {H : Hp} {vs : List V} {ts : List Tr} (h : RdL H vs ts) {n : Nat} (l : Tr.szL ts ≤ n) : ∀ v ∈ vs, RdN n H v := by
  induction vs generalizing ts with
  | nil => exact fun v hv => absurd hv (by simp)
  | cons v vs ih =>
    cases h with
    | cons a r =>
      simp only [Tr.szL] at l
      intro u hu
      rcases List.mem_cons.mp hu with rfl | hu
      · exact ⟨_, a, by omega⟩
      · exact ih r (by omega) u hu
def Mk (σ : L2.St) (H0 : Hp) (n : Nat) (te : TE) : Prop := ∀ (H : Hp) (Q : VK), Ex H0 H → (∀ v H', Ex H H' → RdN n H' v → Q v H') → te σ H Q
def MkL (σ : L2.St) (H0 : Hp) (n k : Nat) (ta : TA) : Prop := ∀ (H : Hp) (Q : List V → Hp → Prop), Ex H0 H → (∀ vs H', Ex H H' → vs.length = k → (∀ v ∈ vs, RdN n H' v) → Q vs H') → ta σ H Q
section
variable {K : PySem.W.Frag} {σ : L2.St} {H0 : Hp} {n m k i : Nat} {te ti : TE} {ta : TA}
theorem mk_non (h : 1 ≤ n) : Mk σ H0 n (tC .non) := fun H Q _ q => q _ H (Ex.refl H) (.non h)
theorem mk_bl {b : Bool} (h : 1 ≤ n) : Mk σ H0 n (tC (.bl b)) := fun H Q _ q => q _ H (Ex.refl H) (.bl h)
theorem mk_int {j : Int} (h : 1 ≤ n) : Mk σ H0 n (tC (.int j)) := fun H Q _ q => q _ H (Ex.refl H) (.int h)
theorem mk_str {z : Str} (h : 1 ≤ n) (l : z.length ≤ 1000) : Mk σ H0 n (tC (.str z)) := fun H Q _ q => q _ H (Ex.refl H) (.str h l)
theorem mk_neg {j : Int} (h : 1 ≤ n) : Mk σ H0 n (tUn (rU fun i => .int (-i)) (tC (.int j))) := fun H Q _ q => ⟨j, rfl, q _ H (Ex.refl H) (.int h)⟩
theorem mk_v {v : V} (hv : σ[i]? = some (some v)) (h : RdN n H0 v) : Mk σ H0 n (tVar i) := fun H Q e q => ⟨v, hv, q v H (Ex.refl H) (h.ext e)⟩
theorem mk_addI {x j : Int} (hv : σ[i]? = some (some (.int x))) (h : 1 ≤ n) : Mk σ H0 n (tOp (rI0 fun a b => .int (a + b)) (tVar i) (tC (.int j))) := fun H Q e q => ⟨_, hv, _, _, rfl, rfl, q _ H (Ex.refl H) (.int h)⟩
theorem mk_addSv {x z : Str} (hv : σ[i]? = some (some (.str x))) (h : 1 ≤ n) (l : x.length + z.length ≤ 1000) : Mk σ H0 n (tOp (fun x y H Q => ∃ i j : Str, x = V.str i ∧ y = V.str j ∧ i.length + j.length ≤ sizeLine ∧ Q (V.str (i ++ j)) H) (tVar i) (tC (.str z))) := fun H Q e q => ⟨_, hv, _, _, rfl, rfl, Nat.le_trans l (by decide), q _ H (Ex.refl H) (.str h (by rw [len_app]; exact l))⟩
theorem mk_addSc {x z : Str} (hv : σ[i]? = some (some (.str x))) (h : 1 ≤ n) (l : z.length + x.length ≤ 1000) : Mk σ H0 n (tOp (fun x y H Q => ∃ i j : Str, x = V.str i ∧ y = V.str j ∧ i.length + j.length ≤ sizeLine ∧ Q (V.str (i ++ j)) H) (tC (.str z)) (tVar i)) := fun H Q e q => ⟨_, hv, _, _, rfl, rfl, Nat.le_trans l (by decide), q _ H (Ex.refl H) (.str h (by rw [len_app]; exact l))⟩
/-- an item of a list of texts -/
theorem mk_ix {p : Addr} {zs : List Str} {j : Nat} (hv : σ[i]? = some (some (.ref p))) (hp : H0 p = some (.lst (zs.map V.str))) (hj : j < zs.length) (h : 1 ≤ n) (l : ∀ z ∈ zs, z.length ≤ 1000) : Mk σ H0 n (tOp (rIxL K) (tVar i) (tC (.int (j : Int)))) := fun H Q e q =>
  ⟨_, hv, p, _, (j : Int), .str zs[j], rfl, rfl, SqL.of (e _ _ hp), atI_nat (j := j) (by rw [List.getElem?_map, List.getElem?_eq_getElem hj]; rfl), q _ H (Ex.refl H) (.str h (l _ (List.getElem_mem hj)))⟩
theorem mk_nil : MkL σ H0 n 0 tNil := fun H Q _ q => q [] H (Ex.refl H) rfl (fun v hv => absurd hv (by simp))
theorem mk_cons (h1 : Mk σ H0 n te) (h2 : MkL σ H0 n k ta) : MkL σ H0 n (k + 1) (tCons te ta) := fun H Q e q =>
  h1 H _ e fun v H1 e1 hv => h2 H1 _ (e.trans e1) fun vs H2 e2 hl hvs => q (v :: vs) H2 (e1.trans e2) (by rw [List.length_cons, hl]) fun u hu => by
    rcases List.mem_cons.mp hu with rfl | hu
    · exact hv.ext e2
    · exact hvs u hu
theorem mk_tup (h : MkL σ H0 n k ta) (hk : k ≤ 1000) (hm : 1 + k * n ≤ m) : Mk σ H0 m (tTup ta) := fun H Q e q =>
  h H _ e fun vs H1 e1 hl hvs => ⟨by rw [hl]; exact Nat.le_trans hk (by decide), fun p hp => by
    obtain ⟨ts, h1, l1⟩ := rds_tup hvs
    rw [hl] at l1
    refine q _ _ (e1.trans (Ex.new hp)) ⟨.tup ts, .tup upd_same (h1.ext (Ex.new hp)), ?_⟩
    simp only [Tr.sz]
    omega⟩
theorem mk_lst (h : MkL σ H0 n k ta) (hk : k ≤ 1000) (hm : 1 ≤ m) : Mk σ H0 m (tLst ta) := fun H Q e q =>
  h H _ e fun vs H1 e1 hl hvs => ⟨by rw [hl]; exact Nat.le_trans hk (by decide), fun p hp => q _ _ (e1.trans (Ex.new hp)) ⟨.oth "list", .lst upd_same, hm⟩⟩
theorem mk_dic0 (hm : 1 ≤ m) : Mk σ H0 m tDNewK := fun H Q e q p hp => q _ _ (Ex.new hp) ⟨.oth "dict", .dic upd_same, hm⟩
theorem mk_dic1 {z : Str} {j : Int} (hm : 1 ≤ m) : Mk σ H0 m (tDisp [(tC (.str z), tC (.int j))]) := fun H Q e q p hp => by
  refine ⟨upd_same, [(.inr z, .int j)], rfl, by show 1 ≤ 15; decide, q _ _ ?_ ⟨.oth "dict", .dic upd_same, hm⟩⟩
  exact fun a o ha => by rw [upd_ne (ne_of_none ha hp), upd_ne (ne_of_none ha hp)]; exact ha
/-- t + (..) for a tuple t -/
theorem mk_cat {p : Addr} {xs : List V} (hv : σ[i]? = some (some (.ref p))) (hp : H0 p = some (.tup xs)) {s : Nat} {ts : List Tr} (hx : RdL H0 xs ts) (hs : Tr.szL ts ≤ s) (h : MkL σ H0 n k ta) (hk : k ≤ 1000) (hl : xs.length ≤ 1000000) (hm : 1 + s + k * n ≤ m) : Mk σ H0 m (tOp (rCatA K) (tVar i) (tTup ta)) := fun H Q e q =>
  ⟨_, hv, h H _ e fun vs H1 e1 hl2 hvs => ⟨by rw [hl2]; exact Nat.le_trans hk (by decide), fun r hr => by
    obtain ⟨us, h1, l1⟩ := rds_tup hvs
    rw [hl2] at l1
    have e2 := e1.trans (Ex.new (o := .tup vs) hr)
    have sz := sizeLine_eq
    refine ⟨p, r, xs, vs, rfl, rfl, SqT.of ((e.trans e2) _ _ hp), SqT.of upd_same, by omega, fun hx0 => ?_, fun _ hv0 => ?_, fun _ _ s hs2 => ?_⟩
    · refine q _ _ e2 ⟨.tup us, .tup upd_same (h1.ext (Ex.new hr)), ?_⟩
      simp only [Tr.sz]
      omega
    · refine q _ _ e2 ⟨.tup ts, .tup ((e.trans e2) _ _ hp) (hx.ext (e.trans e2)), ?_⟩
      simp only [Tr.sz]
      omega
    · refine q _ _ (e2.trans (Ex.new hs2)) ⟨.tup (ts ++ us), .tup upd_same ((hx.ext (e.trans (e2.trans (Ex.new hs2)))).app (h1.ext ((Ex.new hr).trans (Ex.new hs2)))), ?_⟩
      simp only [Tr.sz, szL_app]
      omega⟩⟩
/-- t[:-1] -/
theorem mk_cut {p : Addr} {xs : List V} (hv : σ[i]? = some (some (.ref p))) (hp : H0 p = some (.tup xs)) {ts : List Tr} (hx : RdL H0 xs ts) (hm : 1 + Tr.szL ts ≤ m) : Mk σ H0 m (tSl (rSlA K) (tVar i) tNoPart (tPart (tUn (rU fun i => .int (-i)) (tC (.int 1))))) := fun H Q e q => by
  refine ⟨_, hv, 1, rfl, _, rfl, p, xs, rfl, SqT.of (e _ _ hp), fun _ => ?_, fun _ r hr => ?_⟩
  · refine q _ _ (Ex.refl H) ⟨.tup ts, .tup (e _ _ hp) (hx.ext e), ?_⟩
    simp only [Tr.sz]
    omega
  · refine q _ _ (Ex.new hr) ⟨.tup (ts.take xs.dropLast.length), .tup upd_same ?_, ?_⟩
    · rw [cutV_last]
      have hx2 := hx.ext (e.trans (Ex.new (o := .tup (cutV xs none (some (-1)))) hr))
      rw [cutV_last] at hx2
      have z := rdl_take hx2 xs.dropLast.length
      rw [show xs.take xs.dropLast.length = xs.dropLast from by rw [List.dropLast_eq_take]; simp] at z
      exact z
    · have z : ∀ (l : List Tr) (j : Nat), Tr.szL (l.take j) ≤ Tr.szL l := by
        intro l
        induction l with
        | nil => intro j; simp [Tr.szL]
        | cons a l ih =>
          intro j
          cases j with
          | zero => simp [Tr.szL]
          | succ j =>
            have := ih j
            simp only [List.take_succ_cons, Tr.szL]
            omega
      have := z ts xs.dropLast.length
      simp only [Tr.sz]
      omega
theorem mk_listOf {p : Addr} {xs : List V} (hv : σ[i]? = some (some (.ref p))) (hp : H0 p = some (.tup xs)) (hm : 1 ≤ m) : Mk σ H0 m (tCB (fun xs H Q => ∃ p ys, xs = [.ref p] ∧ (SqL K H p ys ∨ SqT K H p ys) ∧ ∀ l, H l = none → Q (.ref l) (upd H l (.lst ys))) (tCons (tVar i) tNil)) := fun H Q e q =>
  ⟨_, hv, p, xs, rfl, .inr (SqT.of (e _ _ hp)), fun l hl => q _ _ (Ex.new hl) ⟨.oth "list", .lst upd_same, hm⟩⟩
/-- found = found + [..] -/
theorem grow_mk {p : Addr} {bs : List V} {R : VK} {H : Hp} (hv : σ[i]? = some (some (.ref p))) (hp : H p = some (.lst bs)) (hb : ∀ v ∈ bs, RdN n H v) (h : MkL σ H0 n k ta) (e : Ex H0 H) (hl : bs.length + k ≤ 1000)
    (q : ∀ r cs H', Ex H H' → H' r = some (.lst cs) → H r = none → cs.length = bs.length + k → (∀ v ∈ cs, RdN n H' v) → R (.ref r) H') : tOp rCat (tVar i) (tLst ta) σ H R :=
  ⟨_, hv, h H _ e fun vs H1 e1 hl2 hvs => ⟨by rw [hl2]; exact Nat.le_trans (Nat.le_trans (Nat.le_add_left _ _) hl) (by decide), fun s hs => by
    have sz := sizeLine_eq
    have e2 := e1.trans (Ex.new (o := .lst vs) hs)
    refine ⟨p, s, bs, vs, rfl, rfl, e2 _ _ hp, upd_same, by omega, fun r hr => q r (bs ++ vs) _ (e2.trans (Ex.new hr)) upd_same ?_ (by rw [List.length_append, hl2]) fun v hv => ?_⟩
    · cases hh : H r with
      | none => rfl
      | some o => rw [e2 _ _ hh] at hr; cases hr
    · rcases List.mem_append.mp hv with z | z
      · exact (hb v z).ext (e2.trans (Ex.new hr))
      · exact (hvs v z).ext ((Ex.new hs).trans (Ex.new hr))⟩⟩
/-- found = [..] -/
theorem list_mk {R : VK} {H : Hp} (h : MkL σ H0 n k ta) (e : Ex H0 H) (hl : k ≤ 1000) (q : ∀ r cs H', Ex H H' → H' r = some (.lst cs) → H r = none → cs.length = k → (∀ v ∈ cs, RdN n H' v) → R (.ref r) H') : tLst ta σ H R :=
  h H _ e fun vs H1 e1 hl2 hvs => ⟨by rw [hl2]; exact Nat.le_trans hl (by decide), fun s hs => q s vs _ (e1.trans (Ex.new hs)) upd_same (by
    cases hh : H s with
    | none => rfl
    | some o => rw [e1 _ _ hh] at hs; cases hs) hl2 fun v hv => (hvs v hv).ext (Ex.new hs)⟩
end
end KM

namespace KM
open PySem PySem.Spec PyProof.Rows L2 L2H HotX Evl K9
/-! ### sizes that are added -/
def MkZ (σ : L2.St) (H0 : Hp) (s : Nat) (ta : TA) : Prop := ∀ (H : Hp) (Q : List V → Hp → Prop), Ex H0 H → (∀ vs ts H', Ex H H' → RdL H' vs ts → Tr.szL ts ≤ s → Q vs H') → ta σ H Q
/-- what G tells of a value stands as the heap grows -/
def MkG (σ : L2.St) (H0 : Hp) (G : Hp → V → Prop) (te : TE) : Prop := ∀ (H : Hp) (Q : VK), Ex H0 H → (∀ v H', Ex H H' → G H' v → Q v H') → te σ H Q
def MkGL (σ : L2.St) (H0 : Hp) (G : Hp → V → Prop) (k : Nat) (ta : TA) : Prop := ∀ (H : Hp) (Q : List V → Hp → Prop), Ex H0 H → (∀ vs H', Ex H H' → vs.length = k → (∀ v ∈ vs, G H' v) → Q vs H') → ta σ H Q
section
variable {K : PySem.W.Frag} {σ : L2.St} {H0 : Hp} {G : Hp → V → Prop} {n m k i s : Nat} {te tf : TE} {ta : TA}
theorem mkz_nil : MkZ σ H0 0 tNil := fun H Q _ q => q [] [] H (Ex.refl H) .nil (Nat.le_refl _)
theorem mkz_cons (h1 : Mk σ H0 n te) (h2 : MkZ σ H0 s ta) : MkZ σ H0 (n + s) (tCons te ta) := fun H Q e q =>
  h1 H _ e fun v H1 e1 ⟨t, hv, ht⟩ => h2 H1 _ (e.trans e1) fun vs ts H2 e2 hvs hts => q (v :: vs) (t :: ts) H2 (e1.trans e2) (.cons (hv.ext e2) hvs) (by simp only [Tr.szL]; omega)
theorem mkz_tup (h : MkZ σ H0 s ta) (hs : s ≤ 10000000) (hm : 1 + s ≤ m) : Mk σ H0 m (tTup ta) := fun H Q e q =>
  h H _ e fun vs ts H1 e1 hvs hts => ⟨by
    have h1 := hvs.len
    have h2 := szL_len ts
    have sz := sizeLine_eq
    omega, fun p hp => q _ _ (e1.trans (Ex.new hp)) ⟨.tup ts, .tup upd_same (hvs.ext (Ex.new hp)), by simp only [Tr.sz]; omega⟩⟩
theorem mk_ifeq {x j : Int} (hv : σ[i]? = some (some (.int x))) (h1 : Mk σ H0 n te) (h2 : Mk σ H0 n tf) : Mk σ H0 n (tIf (tTest (tOp rEq (tVar i) (tC (.int j)))) te tf) := fun H Q e q => by
  refine ⟨_, hv, rfl, _, rfl, ?_⟩
  dsimp only
  split
  · exact h1 H Q e q
  · exact h2 H Q e q
theorem mkg_nil : MkGL σ H0 G 0 tNil := fun H Q _ q => q [] H (Ex.refl H) rfl (fun v hv => absurd hv (by simp))
theorem mkg_cons (mono : ∀ H H' v, Ex H H' → G H v → G H' v) (h1 : MkG σ H0 G te) (h2 : MkGL σ H0 G k ta) : MkGL σ H0 G (k + 1) (tCons te ta) := fun H Q e q =>
  h1 H _ e fun v H1 e1 hv => h2 H1 _ (e.trans e1) fun vs H2 e2 hl hvs => q (v :: vs) H2 (e1.trans e2) (by rw [List.length_cons, hl]) fun u hu => by
    rcases List.mem_cons.mp hu with rfl | hu
    · exact mono _ _ _ e2 hv
    · exact hvs u hu
theorem grow_mkg (mono : ∀ H H' v, Ex H H' → G H v → G H' v) {p : Addr} {bs : List V} {R : VK} {H : Hp} (hv : σ[i]? = some (some (.ref p))) (hp : H p = some (.lst bs)) (hb : ∀ v ∈ bs, G H v) (h : MkGL σ H0 G k ta) (e : Ex H0 H) (hl : bs.length + k ≤ 1000)
    (q : ∀ r cs H', Ex H H' → H' r = some (.lst cs) → H r = none → cs.length = bs.length + k → (∀ v ∈ cs, G H' v) → R (.ref r) H') : tOp rCat (tVar i) (tLst ta) σ H R :=
  ⟨_, hv, h H _ e fun vs H1 e1 hl2 hvs => ⟨by rw [hl2]; exact Nat.le_trans (Nat.le_trans (Nat.le_add_left _ _) hl) (by decide), fun s hs => by
    have sz := sizeLine_eq
    have e2 := e1.trans (Ex.new (o := .lst vs) hs)
    refine ⟨p, s, bs, vs, rfl, rfl, e2 _ _ hp, upd_same, by omega, fun r hr => q r (bs ++ vs) _ (e2.trans (Ex.new hr)) upd_same ?_ (by rw [List.length_append, hl2]) fun v hv => ?_⟩
    · cases hh : H r with
      | none => rfl
      | some o => rw [e2 _ _ hh] at hr; cases hr
    · rcases List.mem_append.mp hv with z | z
      · exact mono _ _ _ (e2.trans (Ex.new hr)) (hb v z)
      · exact mono _ _ _ ((Ex.new hs).trans (Ex.new hr)) (hvs v z)⟩⟩
theorem list_mkg (mono : ∀ H H' v, Ex H H' → G H v → G H' v) {R : VK} {H : Hp} (h : MkGL σ H0 G k ta) (e : Ex H0 H) (hl : k ≤ 1000) (q : ∀ r cs H', Ex H H' → H' r = some (.lst cs) → H r = none → cs.length = k → (∀ v ∈ cs, G H' v) → R (.ref r) H') : tLst ta σ H R :=
  h H _ e fun vs H1 e1 hl2 hvs => ⟨by rw [hl2]; exact Nat.le_trans hl (by decide), fun s hs => q s vs _ (e1.trans (Ex.new hs)) upd_same (by
    cases hh : H s with
    | none => rfl
    | some o => rw [e1 _ _ hh] at hs; cases hs) hl2 fun v hv => mono _ _ _ (Ex.new hs) (hvs v hv)⟩
end
end KM

/-! ### dict() of a tuple of pairs; a tuple that is told as it is -/
namespace K9
open PySem PySem.Spec PyProof.Rows L2 L2H HotX Evl
section
variable {X : Cx}
/-- tuple(xs) of a list: the new object is told (it has no attributes) -/
theorem call_tuple_frz : CallR X (.type "tuple") (fun xs H Q => ∃ p ys, xs = [.ref p] ∧ SqL X.K H p ys ∧ ∀ (l : Addr) (o : Obj), H l = none → o.dict = none → Q (.ref l) (upd H l (.frz o (.tup ys)))) := by
  intro pins s σ H xs us Q I r h
  obtain ⟨p, ys, rfl, hq, q⟩ := h
  obtain ⟨u, rfl, rx⟩ := vals1 r
  cases rx
  obtain ⟨its, r', pl, hz⟩ := I.list hq
  have hlen := r'.length
  refine call_tuple_list pl.isList (fun h' kp => ?_) (by simp only [List.size_toArray] <;> omega)
  have I1 : Inv X pins σ H { s with heap := h' } := I.kept (t' := s.toks) kp
  have I2 : Inv X pins σ (upd H h'.objs.size (.frz { cls := .type "tuple", data := .seq its.toArray } (.tup ys))) { s with heap := h'.push { cls := .type "tuple", data := .seq its.toArray } } :=
    I1.laid (t' := s.toks) (fun b o e => Heap.get?_push_of_some _ e) (Nat.le_refl _) (show ObjOk X.prog X.w _ _ _ (.frz _ (.tup ys)) from ⟨Heap.get?_push_size _ rfl, hz, its, r', IsTup.new _ _⟩)
  exact ⟨.ref h'.objs.size, _, I2, rfl, q _ _ (I1.hok.fresh (Nat.le_refl _)) rfl⟩
def rDictQ (K : PySem.W.Frag) : List V → Hp → VK → Prop := fun xs H Q => ∃ (a : Addr) (ps : List Addr) (kvs : List (Key × V)), xs = [.ref a] ∧ (SqL K H a (ps.map V.ref) ∨ ∃ o : Obj, o.dict = none ∧ H a = some (.frz o (.tup (ps.map V.ref)))) ∧
  Paired (fun p kv => SqT K H p [kV kv.1, kv.2]) ps kvs ∧ ∀ p, H p = none → Q (.ref p) (upd H p (.dK (mergeK [] kvs)))
theorem call_dictQ (hcalm : X.calm = true) : CallR X (.type "dict") (rDictQ X.K) := by
  intro pins s σ H xs us Q I r q
  obtain ⟨a, ps, kvs, ex, hq, hp, q⟩ := q
  rcases hq with hq | ⟨o, hdn, hq⟩
  · exact call_dictP hcalm pins s σ H xs us Q I r ⟨a, ps, kvs, ex, hq, hp, q⟩
  subst ex
  obtain ⟨u, eu, rx⟩ := vals1 r
  subst eu
  cases rx
  obtain ⟨ho, hz, its, rv, hit⟩ := (show ObjOk X.prog X.w H s.heap a (.frz o (.tup (ps.map V.ref))) from I.hok a _ hq)
  have ei := refs_at rv
  subst ei
  rw [List.length_map] at hz
  obtain ⟨prs, rel, hl, hpr⟩ := pairs_of I hp
  obtain ⟨o', ho', hc, n, hdat⟩ := hit
  rw [ho] at ho'
  cases ho'
  have key : ∀ (j : Nat) (q : Key × Value), prs[j]? = some q → ∃ (b : Addr) (u : Value), ps[j]? = some b ∧ IsTup s.heap b #[u, q.2] ∧ (mixKind X.prog X.w).is q.1 u = true := hpr
  let kv : List (Value × Value) := (List.range prs.length).map fun j => match ps[j]? with
    | some b => (match s.heap.get? b with
      | some ob => (match ob.data with
        | .seq xs _ => (xs[0]?.getD .none, xs[1]?.getD .none)
        | _ => (.none, .none))
      | none => (.none, .none))
    | none => (.none, .none)
  have kvl : kv.length = prs.length := by simp [kv]
  have hkv : ∀ (j : Nat) (q : Key × Value) (b : Addr) (u : Value), prs[j]? = some q → ps[j]? = some b → IsTup s.heap b #[u, q.2] → kv[j]? = some (u, q.2) := fun j q b u e1 e2 e3 => by
    obtain ⟨ob, hob, _, m, hm⟩ := e3
    have hj : j < prs.length := (List.getElem?_eq_some_iff.mp e1).1
    show ((List.range prs.length).map _)[j]? = _
    rw [List.getElem?_map, List.getElem?_range hj]
    simp only [Option.map_some, e2, hob, hm]
    rfl
  have items : PairItems s.heap (ps.map Value.ref).toArray (fun j => ps.getD j 0) kv := by
    refine ⟨by simp [kvl, hl], fun j k v hj => ?_⟩
    have hjl : j < prs.length := kvl ▸ (List.getElem?_eq_some_iff.mp hj).1
    obtain ⟨b, u, e1, e2, e3⟩ := key j prs[j] (List.getElem?_eq_getElem hjl)
    have z := hkv j _ b u (List.getElem?_eq_getElem hjl) e1 e2
    rw [hj] at z
    cases z
    have eb : ps.getD j 0 = b := by rw [List.getD_eq_getElem?_getD, e1]; rfl
    refine ⟨by simp [e1, eb], ?_⟩
    show PairAt s.heap (ps.getD j 0) k prs[j].2
    rw [eb]
    obtain ⟨ob, h1, h2, m, h3⟩ := e2
    exact .inl ⟨ob, h1, h2, m, h3⟩
  have have_ : PairsHave (mixKind X.prog X.w) kv.length (PairRel kv) prs := by
    refine ⟨kvl.symm, fun i k v hi => ?_⟩
    have hjl : i < prs.length := kvl ▸ (List.getElem?_eq_some_iff.mp hi).1
    obtain ⟨b, u, e1, e2, e3⟩ := key i prs[i] (List.getElem?_eq_getElem hjl)
    have z := hkv i _ b u (List.getElem?_eq_getElem hjl) e1 e2
    have hi' : kv[i]? = some (k, v) := hi
    rw [hi'] at z
    cases z
    exact ⟨prs[i].1, List.getElem?_eq_getElem hjl, e3⟩
  refine PySem.call_dict_pairs (PairArg.tuple a (ps.map Value.ref).toArray (fun j => ps.getD j 0) kv) (I.ok.hd hcalm) ⟨⟨o, n, ho, hc, hdn, hdat⟩, items⟩ have_ (by rw [kvl, hl]; exact hz) fun h' tk hd' k => ?_
  have hm : (s.heap.objs.size == sysModules) = false := beq_eq_false_iff_ne.mpr (Nat.ne_of_gt I.big)
  have hlen : (mergeK [] kvs).length ≤ sizeLine := by
    refine Nat.le_trans (length_mergeK kvs []) ?_
    rw [List.length_nil, Nat.zero_add, rel.length, hl]
    exact hz
  exact ⟨.ref s.heap.objs.size, upd H s.heap.objs.size (.dK (mergeK [] kvs)), I.laid (t' := tk) (fun b o e => k b o (by simp) e) (Nat.le_refl _) (show ObjOk X.prog X.w _ _ _ (.dK (mergeK [] kvs)) from ⟨hlen, hm, merged [] prs, KV.merge rel .nil, hd'⟩), rfl, q _ (I.hok.fresh (Nat.le_refl _))⟩
end
/-! ### a list or a tuple at a, of these items; the tuple may be told as it is -/
def SeqF (H : Hp) (a : Addr) (xs : List V) : Prop := SeqAt H a xs ∨ ∃ o, H a = some (.frz o (.tup xs))
theorem SeqF.ext {H H' : Hp} {a : Addr} {xs : List V} (e : Ex H H') (h : SeqF H a xs) : SeqF H' a xs := h.elim (fun h => .inl (h.ext e)) fun ⟨o, h⟩ => .inr ⟨o, e _ _ h⟩
theorem SeqF.exb {b : Addr} {H H' : Hp} {a : Addr} {xs : List V} (e : ExB b H H') (n : a ≠ b) (h : SeqF H a xs) : SeqF H' a xs := h.elim (fun h => .inl (h.elim (fun h => .inl (e _ _ n h)) fun h => .inr (e _ _ n h))) fun ⟨o, h⟩ => .inr ⟨o, e _ _ n h⟩
theorem SeqF.len {K : PySem.W.Frag} {H : Hp} {a : Addr} {xs : List V} (h : SeqF H a xs) : SqL K H a xs ∨ SqT K H a xs := h.elim (fun h => h.len) fun ⟨o, h⟩ => .inr (.inl (.inr ⟨o, h⟩))
theorem walks_frz {K : PySem.W.Frag} {a : Addr} {o : Obj} {xs : List V} {H : Hp} (h : H a = some (.frz o (.tup xs))) : Walks (Itt K a) xs.length (fun i => xs.getD i .non) H := by
  have sq : ∀ {H1 : Hp}, Ex H H1 → SqT K H1 a xs := fun e => .inl (.inr ⟨o, e _ _ h⟩)
  refine ⟨fun i H1 e hi => ⟨xs, xs[i], sq e, List.getElem?_eq_getElem hi⟩, fun i H1 x H' e hi hy => ?_, fun H1 e => ⟨xs, sq e, Nat.le_refl _⟩⟩
  refine ⟨hy.1, ?_⟩
  have z := hy.2 xs (sq e)
  show x = xs.getD i .non
  rw [List.getD_eq_getElem?_getD, z]
  rfl
theorem SeqF.walk {K : PySem.W.Frag} {H : Hp} {a : Addr} {xs : List V} (h : SeqF H a xs) : ∃ J : It, Walks J xs.length (fun i => xs.getD i .non) H ∧ ∀ R : It → Hp → Prop, R J H → ((∃ xs, SqL K H a xs) ∧ R (Itl K a) H) ∨ ((∃ xs, SqT K H a xs) ∧ R (Itt K a) H) := by
  rcases h with h | ⟨o, h⟩
  · exact h.walk
  · exact ⟨Itt K a, walks_frz h, fun R q => .inr ⟨⟨_, .inl (.inr ⟨o, h⟩)⟩, q⟩⟩
theorem SeqF.isT {K : PySem.W.Frag} {H : Hp} {a : Addr} {xs : List V} {t : Addr} {Q : VK} (h : SeqF H a xs) (ht : H t = some (.tup [.ty "list", .ty "tuple"])) (q : Q (.bl true) H) : rIsiT K [.ref a, .ref t] H Q := by
  rcases h with h | ⟨o, h⟩
  · obtain ⟨s, hs, hb⟩ := h.bas
    refine Bas.isT hb ht ?_ q
    rcases hs with rfl | rfl <;> rfl
  · exact ⟨_, t, _, _, _, _, rfl, ht, .cons (.ty _) (.cons (.ty _) .nil), .fTuple h, rfl, q⟩
end K9

namespace Hd
open PySem PySem.Spec PyProof.Rows L2
def top (i : Nat) : Stmt := PySem.Challenge.pw_mostspecial_k02_terms_judged.main.body.getD i (.Pass ⟨0, 0, 0, 0⟩)
def d_has_only : He.DefD := ⟨("has_only", none), "has_only", "has_only", defArgs (top 15), defBody (top 15), defScope (top 15), [], []⟩
def d_is_type_name : He.DefD := ⟨("is_type_name", none), "is_type_name", "is_type_name", defArgs (top 16), defBody (top 16), defScope (top 16), [], []⟩
def d_is_variable : He.DefD := ⟨("is_variable", none), "is_variable", "is_variable", defArgs (top 17), defBody (top 17), defScope (top 17), [], []⟩
def d_is_whole : He.DefD := ⟨("is_whole", none), "is_whole", "is_whole", defArgs (top 18), defBody (top 18), defScope (top 18), [], []⟩
def d_is_number : He.DefD := ⟨("is_number", none), "is_number", "is_number", defArgs (top 19), defBody (top 19), defScope (top 19), [], []⟩
def d_is_name_row : He.DefD := ⟨("is_name_row", none), "is_name_row", "is_name_row", defArgs (top 20), defBody (top 20), defScope (top 20), [], []⟩
def d_are_name_rows : He.DefD := ⟨("are_name_rows", none), "are_name_rows", "are_name_rows", defArgs (top 21), defBody (top 21), defScope (top 21), [], []⟩
def d_type_parts : He.DefD := ⟨("type_parts", none), "type_parts", "type_parts", defArgs (top 23), defBody (top 23), defScope (top 23), [], []⟩
def d_form_parts : He.DefD := ⟨("form_parts", none), "form_parts", "form_parts", defArgs (top 24), defBody (top 24), defScope (top 24), [], []⟩
def d_list_parts : He.DefD := ⟨("list_parts", none), "list_parts", "list_parts", defArgs (top 25), defBody (top 25), defScope (top 25), [], []⟩
def d_parts_of : He.DefD := ⟨("parts_of", none), "parts_of", "parts_of", defArgs (top 26), defBody (top 26), defScope (top 26), [], []⟩
def d_scan : He.DefD := ⟨("scan", none), "scan", "scan", defArgs (top 27), defBody (top 27), defScope (top 27), [], []⟩
def d_check_kind : He.DefD := ⟨("check_kind", none), "check_kind", "check_kind", defArgs (top 28), defBody (top 28), defScope (top 28), [], []⟩
def d_is_term : He.DefD := ⟨("is_term", none), "is_term", "is_term", defArgs (top 29), defBody (top 29), defScope (top 29), [], []⟩
def d__law_cell : He.DefD := ⟨("_law_cell", none), "_law_cell", "_law_cell", defArgs (top 31), defBody (top 31), defScope (top 31), [], []⟩
def d__law_box : He.DefD := ⟨("_law_box", none), "_law_box", "_law_box", defArgs (top 32), defBody (top 32), defScope (top 32), [], []⟩
def d__law_take : He.DefD := ⟨("_law_take", none), "_law_take", "_law_take", defArgs (top 33), defBody (top 33), defScope (top 33), [], []⟩
def d__law_like : He.DefD := ⟨("_law_like", none), "_law_like", "_law_like", defArgs (top 34), defBody (top 34), defScope (top 34), [], []⟩
def d__law_signs : He.DefD := ⟨("_law_signs", none), "_law_signs", "_law_signs", defArgs (top 35), defBody (top 35), defScope (top 35), [], []⟩
def d__law_names : He.DefD := ⟨("_law_names", none), "_law_names", "_law_names", defArgs (top 36), defBody (top 36), defScope (top 36), [], []⟩
def d__law_words : He.DefD := ⟨("_law_words", none), "_law_words", "_law_words", defArgs (top 37), defBody (top 37), defScope (top 37), [], []⟩
def d__law_type : He.DefD := ⟨("_law_type", none), "_law_type", "_law_type", defArgs (top 38), defBody (top 38), defScope (top 38), [], []⟩
def d__law_list : He.DefD := ⟨("_law_list", none), "_law_list", "_law_list", defArgs (top 39), defBody (top 39), defScope (top 39), [], []⟩
def d__law_num : He.DefD := ⟨("_law_num", none), "_law_num", "_law_num", defArgs (top 40), defBody (top 40), defScope (top 40), [], []⟩
def d__law_term : He.DefD := ⟨("_law_term", none), "_law_term", "_law_term", defArgs (top 41), defBody (top 41), defScope (top 41), [], []⟩
def d__law_name_due : He.DefD := ⟨("_law_name_due", none), "_law_name_due", "_law_name_due", defArgs (top 42), defBody (top 42), defScope (top 42), [], []⟩
def d__law_variable_due : He.DefD := ⟨("_law_variable_due", none), "_law_variable_due", "_law_variable_due", defArgs (top 43), defBody (top 43), defScope (top 43), [], []⟩
def d__law_integer_due : He.DefD := ⟨("_law_integer_due", none), "_law_integer_due", "_law_integer_due", defArgs (top 44), defBody (top 44), defScope (top 44), [], []⟩
def d__law_node : He.DefD := ⟨("_law_node", none), "_law_node", "_law_node", defArgs (top 45), defBody (top 45), defScope (top 45), [], []⟩
def d__law_due : He.DefD := ⟨("_law_due", none), "_law_due", "_law_due", defArgs (top 46), defBody (top 46), defScope (top 46), [], []⟩
def d__law_inner : He.DefD := ⟨("_law_inner", none), "_law_inner", "_law_inner", defArgs (top 47), defBody (top 47), defScope (top 47), [], []⟩
def d__law_nodes : He.DefD := ⟨("_law_nodes", none), "_law_nodes", "_law_nodes", defArgs (top 48), defBody (top 48), defScope (top 48), [], []⟩
def d__law_swapped : He.DefD := ⟨("_law_swapped", none), "_law_swapped", "_law_swapped", defArgs (top 49), defBody (top 49), defScope (top 49), [], []⟩
def d__law_other : He.DefD := ⟨("_law_other", none), "_law_other", "_law_other", defArgs (top 50), defBody (top 50), defScope (top 50), [], []⟩
def d__law_great : He.DefD := ⟨("_law_great", none), "_law_great", "_law_great", defArgs (top 51), defBody (top 51), defScope (top 51), [], []⟩
def d__law_asked_right : He.DefD := ⟨("_law_asked_right", none), "_law_asked_right", "_law_asked_right", defArgs (top 52), defBody (top 52), defScope (top 52), [], []⟩
def d__law_kind_refused : He.DefD := ⟨("_law_kind_refused", none), "_law_kind_refused", "_law_kind_refused", defArgs (top 53), defBody (top 53), defScope (top 53), [], []⟩
def d__law_kinds_right : He.DefD := ⟨("_law_kinds_right", none), "_law_kinds_right", "_law_kinds_right", defArgs (top 54), defBody (top 54), defScope (top 54), [], []⟩
def d__law_cell_right : He.DefD := ⟨("_law_cell_right", none), "_law_cell_right", "_law_cell_right", defArgs (top 55), defBody (top 55), defScope (top 55), [], []⟩
def d_law : He.DefD := ⟨("law", none), "law", "law", defArgs (top 56), defBody (top 56), defScope (top 56), [], []⟩
def d_InvalidNames___init__ : He.DefD := ⟨("InvalidNames", some "__init__"), "__init__", "InvalidNames.__init__", defArgs (inClass (top 2) 0), defBody (inClass (top 2) 0), defScope (inClass (top 2) 0), [], []⟩
def d_InvalidKind___init__ : He.DefD := ⟨("InvalidKind", some "__init__"), "__init__", "InvalidKind.__init__", defArgs (inClass (top 3) 0), defBody (inClass (top 3) 0), defScope (inClass (top 3) 0), [], []⟩
def d_Names___init__ : He.DefD := ⟨("Names", some "__init__"), "__init__", "Names.__init__", defArgs (inClass (top 22) 0), defBody (inClass (top 22) 0), defScope (inClass (top 22) 0), [], []⟩
def d_Names_count_of : He.DefD := ⟨("Names", some "count_of"), "count_of", "Names.count_of", defArgs (inClass (top 22) 1), defBody (inClass (top 22) 1), defScope (inClass (top 22) 1), [], []⟩
def fn0 : List He.DefD := [d_has_only, d_is_type_name, d_is_variable, d_is_whole, d_is_number, d_is_name_row, d_are_name_rows, d_type_parts, d_form_parts, d_list_parts, d_parts_of, d_scan, d_check_kind, d_is_term, d__law_cell, d__law_box, d__law_take, d__law_like, d__law_signs, d__law_names, d__law_words, d__law_type, d__law_list, d__law_num, d__law_term, d__law_name_due, d__law_variable_due, d__law_integer_due, d__law_node, d__law_due]
def fn1 : List He.DefD := [d__law_inner, d__law_nodes, d__law_swapped, d__law_other, d__law_great, d__law_asked_right, d__law_kind_refused, d__law_kinds_right, d__law_cell_right, d_law, d_InvalidNames___init__, d_InvalidKind___init__, d_Names___init__, d_Names_count_of]
def fn : List He.DefD := fn0 ++ fn1
def fa0 : List He.Fa := [.str "SMALL_LETTERS" "abcdefghijklmnopqrstuvwxyz", .str "GREAT_LETTERS" "ABCDEFGHIJKLMNOPQRSTUVWXYZ", .str "LETTERS" "ABCDEFGHIJKLMNOPQRSTUVWXYZabcdefghijklmnopqrstuvwxyz", .str "VARIABLE_SIGNS" "abcdefghijklmnopqrstuvwxyz0123456789", .glo "TERM_KINDS", .int "MOST_NAMES" 24, .int "MOST_ARGS" 3, .int "MOST_SIGNS" 4000, .int "MOST_DEEP" 200, .int "GREATEST" 1000000000000000000000000, .cls "Names", .mkr "Names", .meth "Names" "count_of", .noat "Names" "told", .noat "Names" "_counts", .keep "Names", .glo "has_only", .glo "is_type_name", .glo "is_variable", .glo "is_whole", .glo "is_number", .glo "is_name_row", .glo "are_name_rows", .glo "type_parts", .glo "form_parts", .glo "list_parts", .glo "parts_of", .glo "scan", .glo "check_kind", .glo "is_term"]
def fa1 : List He.Fa := [.glo "_law_cell", .glo "_law_box", .glo "_law_take", .glo "_law_like", .glo "_law_signs", .glo "_law_names", .glo "_law_words", .glo "_law_type", .glo "_law_list", .glo "_law_num", .glo "_law_term", .glo "_law_name_due", .glo "_law_variable_due", .glo "_law_integer_due", .glo "_law_node", .glo "_law_due", .glo "_law_inner", .glo "_law_nodes", .glo "_law_swapped", .glo "_law_other", .glo "_law_great", .glo "_law_asked_right", .glo "_law_kind_refused", .glo "_law_kinds_right", .glo "_law_cell_right", .glo "law", .glo "ChoiceError", .glo "InvalidNames", .glo "InvalidKind", .glo "Names"]
def fa2 : List He.Fa := [.free "ValueError", .free "abs", .free "all", .free "bool", .free "dict", .free "int", .free "isinstance", .free "len", .free "list", .free "max", .free "min", .free "ord", .free "range", .free "sorted", .free "str", .free "sum", .free "tuple", .free "zip"]
def fa : List He.Fa := fa0 ++ fa1 ++ fa2
def lo0 : List PySem.Str := ["__name__", "ChoiceError", "InvalidNames", "InvalidKind", "SMALL_LETTERS", "GREAT_LETTERS", "LETTERS", "VARIABLE_SIGNS", "TERM_KINDS", "MOST_NAMES", "MOST_ARGS", "MOST_SIGNS", "MOST_DEEP", "GREATEST", "has_only", "is_type_name", "is_variable", "is_whole", "is_number", "is_name_row", "are_name_rows", "Names", "type_parts", "form_parts", "list_parts", "parts_of", "scan", "check_kind", "is_term", "_law_cell"]
def lo1 : List PySem.Str := ["_law_box", "_law_take", "_law_like", "_law_signs", "_law_names", "_law_words", "_law_type", "_law_list", "_law_num", "_law_term", "_law_name_due", "_law_variable_due", "_law_integer_due", "_law_node", "_law_due", "_law_inner", "_law_nodes", "_law_swapped", "_law_other", "_law_great", "_law_asked_right", "_law_kind_refused", "_law_kinds_right", "_law_cell_right"]
def lo : List PySem.Str := lo0 ++ lo1
def errs : List Str := ["ChoiceError", "InvalidNames", "InvalidKind"]
def ini : List Str := ["InvalidNames", "InvalidKind"]
def flds : List Str := ["given"]
def kinds : List Str := ["type", "num", "types"]
def ex (K : PySem.W.Frag) : Bool := K9.errsB errs "ChoiceError" ini flds K && He.tupB K "TERM_KINDS" (kinds.map He.Dv.str) && (PySem.W.exmOne K (.ref (He.ga K "InvalidKind")) (.ref (He.ga K "InvalidKind")) == some true)

def tf : List He.Defn := [("has_only", none), ("are_name_rows", none)]
abbrev R : PySem.W.OpenRow := PySem.W.OpenLaw.row PySem.Challenge.rw_mostspecial_k02_terms_judged
abbrev hk : PySem.W.Hook := He.hookX 4 fa fn [] tf ex
def ob (s : PySem.W.SharedT) : He.AlX := He.obsX 4 fa fn [] tf ex (HandSHeadRun.getT s)
theorem ob_eq (s : PySem.W.SharedT) : ob s = hk.obs s.abs := He.obsX_eq (HandSHeadRun.getT_eq s)
theorem run (w : World) : HandSHeadRun.RunEq R (PySem.W.view R.prog [56]) hk ob 20000 lo w := by
  intro os
  kernel_rfl
end Hd

namespace D0
open PySem PySem.Spec PyProof.Rows L2 L2H HotX Evl K9
abbrev top := Hd.top
abbrev errs := Hd.errs
/-- what the module's names are: the free ones, the classes -/
structure Txt (K : PySem.W.Frag) (mg : Str → Option Value) : Prop where
  f_abs : mg "abs" = none
  f_int : mg "int" = none
  f_bool : mg "bool" = none
  f_str : mg "str" = none
  f_list : mg "list" = none
  f_tuple : mg "tuple" = none
  f_dict : mg "dict" = none
  f_len : mg "len" = none
  f_sum : mg "sum" = none
  f_max : mg "max" = none
  f_min : mg "min" = none
  f_range : mg "range" = none
  f_isinstance : mg "isinstance" = none
  f_ValueError : mg "ValueError" = none
  g_cls : ∀ x ∈ errs, mg x = some (.ref (He.ga K x))
section
variable {P : Program} {w : World} {K : PySem.W.Frag} {mg : Str → Option Value} {base : Heap} {f : Addr} {fd : FuncData} {k : Nat}
/-! ### the drawing of numbers -/
def spCellD (K : PySem.W.Frag) : Sp := fun vs H Q _ => ∃ (a : Addr) (ns : List Int) (k : Nat), vs = [.ref a, .int (k : Int)] ∧ SqL K H a (ns.map V.int) ∧ ∀ (i : Int) (H' : Hp), Ex H H' → Q (.int i) H'
abbrev s_cell : Stmt := top 31
abbrev N_cell : List Str := ["script", "k"]
theorem sc_cell : FnScope N_cell ["script", "k"] (defScope s_cell) := ⟨rfl, rfl, rfl, by decide +kernel, rfl, by decide +kernel, by decide +kernel⟩
theorem ok_cell (T : Txt K mg) (F : FunD K "_law_cell" "_law_cell" (defArgs s_cell) (defBody s_cell) (defScope s_cell) [] [] f fd) (hm : mg "_law_cell" = some (.ref f)) : OkC P w K mg base (k + 1) "_law_cell" ["script", "k"] (spCellD K) := by
  refine okC_of F hm sc_cell (fun _ _ _ _ _ _ us hl => match us, hl with | [_, _], _ => rfl) (fun vs H Q E h => ?_) (fun cdv A outer s H vs Q E hr h => ?_)
  · obtain ⟨a, ns, k, rfl, _⟩ := h
    rfl
  · obtain ⟨a, ns, k, rfl, hS, q⟩ := h
    refine ⟨_, (pss_one (ps_ret (pe_ifExp (pt_cmpR op_lt (pv 1) (pe_callB call_len_seq (by rfl) T.f_len (by decide +kernel) (pa_cons (pv 0) pa_nil)) (nomark _)) (pe_ix ix_list (pv 0) (pv 1) fun _ _ => rfl) (pe_op op_add (pe_op op_mul pe_int (pv 1)) (pe_op op_mod (pe_callB (cr_sum rfl) (by rfl) T.f_sum (by decide +kernel) (pa_cons (pe_slice sl_list (pv 0) po_none (po_some pe_int)) pa_nil)) pe_int))))), ?_⟩
    refine ⟨_, rfl, _, rfl, a, _, rfl, .inl hS, _, _, rfl, rfl, _, rfl, ?_⟩
    refine ite2 (fun h => ?_) (fun h => ?_)
    · have hk2 : k < ns.length := by
        have z := of_decide_eq_true h
        rw [List.length_map] at z
        omega
      refine ⟨_, rfl, _, rfl, a, _, _, _, rfl, rfl, hS, atI_nat (v := V.int (ns[k]'hk2)) (by rw [List.getElem?_map, List.getElem?_eq_getElem hk2]; rfl), ?_⟩
      exact q _ _ (Ex.refl H)
    · refine ⟨_, rfl, _, _, rfl, rfl, ⟨.inl ⟨by decide, by decide⟩, ?_⟩⟩
      refine ⟨_, rfl, _, rfl, a, _, rfl, hS, fun p hp => ?_⟩
      refine ⟨p, ns.take 1, rfl, .inl (.inl ?_), _, _, rfl, rfl, (by show (0 : Int) < 1000033; decide), ?_⟩
      · rw [upd_same]
        have e : cutV (ns.map V.int) none (some 1) = (ns.take 1).map V.int := by
          unfold cutV
          rw [HT.sIx_none, show (some (1 : Int)) = some ((1 : Nat) : Int) from rfl, HT.sIx_nat, List.drop_zero, List.map_take, List.length_map]
          cases ns with
          | nil => rfl
          | cons x r => simp
        rw [e]
      · exact ⟨_, _, rfl, rfl, q _ _ (Ex.new hp)⟩
/-! the box: the great number that is left, whether it is great, its rest, how often the mixer ran -/
def BoxAt (H : Hp) (b : Addr) (n : Nat) : Prop := ∃ (g m c : Int) (w : Bool), H b = some (.lst [.int g, .bl w, .int m, .int c]) ∧ 0 ≤ g ∧ 0 ≤ m ∧ m < 2147483629 ∧ 0 ≤ c ∧ c ≤ n
def spBox : Sp := fun vs H Q _ => ∃ (i : Int), vs = [.int i] ∧ ∀ (b : Addr) (H' : Hp), H b = none → Ex H H' → BoxAt H' b 0 → Q (.ref b) H'
abbrev s_box : Stmt := top 32
abbrev N_box : List Str := ["great"]
theorem sc_box : FnScope N_box ["great"] (defScope s_box) := ⟨rfl, rfl, rfl, by decide +kernel, rfl, by decide +kernel, by decide +kernel⟩
theorem ok_box (T : Txt K mg) (F : FunD K "_law_box" "_law_box" (defArgs s_box) (defBody s_box) (defScope s_box) [] [] f fd) (hm : mg "_law_box" = some (.ref f)) : OkC P w K mg base (k + 1) "_law_box" ["great"] spBox := by
  refine okC_of F hm sc_box (fun _ _ _ _ _ _ us hl => match us, hl with | [_], _ => rfl) (fun vs H Q E h => ?_) (fun cdv A outer s H vs Q E hr h => ?_)
  · obtain ⟨i, rfl, _⟩ := h
    rfl
  · obtain ⟨i, rfl, q⟩ := h
    refine ⟨_, (pss_one (ps_ret (pe_lst (pa_cons (pe_callB call_abs (by rfl) T.f_abs (by decide +kernel) (pa_cons (pv 0) pa_nil)) (pa_cons (pe_cmpR op_ge (pe_callB call_abs (by rfl) T.f_abs (by decide +kernel) (pa_cons (pv 0) pa_nil)) (pe_op op_pow pe_int pe_int) (nomark _)) (pa_cons (pe_op op_mod (pe_callTy call_int1 (by rfl) T.f_int (by decide +kernel) (pa_cons (pe_callB call_abs (by rfl) T.f_abs (by decide +kernel) (pa_cons (pv 0) pa_nil)) pa_nil)) pe_int) (pa_cons pe_int pa_nil))))))), ?_⟩
    refine ⟨_, rfl, i, rfl, ?_⟩
    refine ⟨_, rfl, i, rfl, _, _, rfl, rfl, ⟨by decide, by decide, by decide⟩, _, _, rfl, rfl, ?_⟩
    refine ⟨_, rfl, i, rfl, .inl ⟨_, rfl, _, _, rfl, rfl, (by show (0 : Int) < 2147483629; decide), ?_⟩⟩
    refine ⟨by show 4 ≤ sizeLine; decide, fun b hb => ?_⟩
    refine q b _ hb (Ex.new hb) ⟨_, _, _, _, upd_same, ?_, Int.emod_nonneg _ (by decide), Int.emod_lt_of_pos _ (by decide), by decide, by decide⟩
    split <;> omega
def spTake : Sp := fun vs H Q _ => ∃ (b : Addr) (n m : Nat), vs = [.ref b, .int (n : Int)] ∧ 1 ≤ n ∧ n ≤ 1000000 ∧ m ≤ 1000 ∧ BoxAt H b m ∧
  ∀ (d : Nat) (H' : Hp), d < n → ExB b H H' → BoxAt H' b (m + 1) → Q (.int (d : Int)) H'
abbrev s_take : Stmt := top 33
abbrev N_take : List Str := ["box", "many", "digit", "mixed"]
theorem sc_take : FnScope N_take ["box", "many"] (defScope s_take) := ⟨rfl, rfl, rfl, by decide +kernel, rfl, by decide +kernel, by decide +kernel⟩
theorem ok_take (T : Txt K mg) (F : FunD K "_law_take" "_law_take" (defArgs s_take) (defBody s_take) (defScope s_take) [] [] f fd) (hm : mg "_law_take" = some (.ref f)) : OkC P w K mg base (k + 1) "_law_take" ["box", "many"] spTake := by
  refine okC_of F hm sc_take (fun _ _ _ _ _ _ us hl => match us, hl with | [_, _], _ => rfl) (fun vs H Q E h => ?_) (fun cdv A outer s H vs Q E hr h => ?_)
  · obtain ⟨b, n, m, rfl, _⟩ := h
    rfl
  · obtain ⟨b, n, m, rfl, h1, hn, hm, ⟨g, r, c, w, hb, g0, r0, r1, c0, c1⟩, q⟩ := h
    refine ⟨_, (Evl.pss_cut (ps_if (pw_and (pt_val (pe_ix ix_list (pv 0) pe_int fun _ _ => rfl)) (pw_and1 (pt_cmpR op_gt (pe_ix ix_list (pv 0) pe_int fun _ _ => rfl) pe_int (nomark _)))).pt (pss_cons (ps_set (i := 2) sc_take.nd rfl (Or.inl rfl) (pe_op op_mod (pe_callTy call_int1 (by rfl) T.f_int (by decide +kernel) (pa_cons (pe_ix ix_list (pv 0) pe_int fun _ _ => rfl) pa_nil)) (pv 1))) (pss_cons (ps_asg (pe_op op_fdivW (pe_ix ix_list (pv 0) pe_int fun _ _ => rfl) (pv 1)) (pg_sub (pv 0) pe_int set_list)) (pss_one (ps_ret (pv 2))))) pss_nil) (pss_cons (ps_asg (pe_op op_add (pe_ix ix_list (pv 0) pe_int fun _ _ => rfl) pe_int) (pg_sub (pv 0) pe_int set_list)) (pss_cons (ps_set (i := 3) sc_take.nd rfl (Or.inl rfl) (pe_op op_mod (pe_callTy call_int1 (by rfl) T.f_int (by decide +kernel) (pa_cons (pe_op op_pow (pe_op op_add (pe_op op_add (pe_ix ix_list (pv 0) pe_int fun _ _ => rfl) (pe_op op_mul pe_int (pe_ix ix_list (pv 0) pe_int fun _ _ => rfl))) pe_int) pe_int) pa_nil)) pe_int)) (pss_one (ps_ret (pe_op op_mod (pe_op op_fdivW (pe_op op_mod (pe_callTy call_int1 (by rfl) T.f_int (by decide +kernel) (pa_cons (pe_op op_pow (pe_op op_add (pe_op op_mul (pv 3) pe_int) (pe_op op_mul pe_int (pe_ix ix_list (pv 0) pe_int fun _ _ => rfl))) pe_int) pa_nil)) pe_int) pe_int) (pv 1))))))), ?_⟩
    have np : (0 : Int) < (n : Int) := by omega
    have dw : CDivW g (n : Int) := wide_div (b := 20) np (by omega) (by decide) (by decide)
    refine ⟨fun σ' H' => σ' = start N_take [.ref b, .int (n : Int)] ∧ H' = H, ?_, ?_⟩
    · refine ⟨_, rfl, b, _, _, _, rfl, rfl, SqL.of hb, (rfl : _ = some (V.bl w)), w, rfl, ?_⟩
      refine ite2 (fun _ => ?_) (fun _ => ⟨rfl, rfl⟩)
      refine ⟨_, rfl, b, _, _, _, rfl, rfl, SqL.of hb, (rfl : _ = some (V.int g)), _, _, rfl, rfl, _, rfl, ?_⟩
      refine ite2 (fun _ => ?_) (fun _ => ⟨rfl, rfl⟩)
      refine ⟨_, rfl, b, _, _, _, rfl, rfl, SqL.of hb, (rfl : _ = some (V.int g)), .inl ⟨_, rfl, _, rfl, _, _, rfl, rfl, np, ?_⟩⟩
      refine ⟨_, rfl, b, _, _, _, rfl, rfl, SqL.of hb, (rfl : _ = some (V.int g)), _, rfl, _, _, rfl, rfl, dw, ?_⟩
      refine ⟨_, rfl, b, _, _, 0, rfl, rfl, hb, rfl, _, rfl, ?_⟩
      have e0 := Int.emod_nonneg g (b := (n : Int)) (by omega)
      have e1 := Int.emod_lt_of_pos g (b := (n : Int)) np
      have e2 : ((g % (n : Int)).toNat : Int) = g % (n : Int) := Int.toNat_of_nonneg e0
      have q2 := q (g % (n : Int)).toNat (upd H b (.lst ([V.int g, V.bl w, V.int r, V.int c].set 0 (.int (g / (n : Int)))))) (by omega) (fun a o na ha => by
        rw [upd_ne na]
        exact ha) ⟨g / (n : Int), r, c, w, upd_same, Int.ediv_nonneg g0 (by omega), r0, r1, c0, by omega⟩
      rw [e2] at q2
      exact q2
    · rintro σ' H' ⟨rfl, rfl⟩
      refine ⟨_, rfl, b, _, _, _, rfl, rfl, SqL.of hb, (rfl : _ = some (V.int c)), _, _, rfl, rfl, ?_⟩
      refine ⟨_, rfl, b, _, _, 3, rfl, rfl, hb, rfl, ?_⟩
      have hb2 : upd H' b (.lst ([V.int g, V.bl w, V.int r, V.int c].set 3 (.int (c + 1)))) b = some (.lst [V.int g, V.bl w, V.int r, V.int (c + 1)]) := upd_same
      have out : ExB b H' (upd H' b (.lst ([V.int g, V.bl w, V.int r, V.int c].set 3 (.int (c + 1))))) := fun a o na ha => by
        rw [upd_ne na]
        exact ha
      generalize upd H' b (.lst ([V.int g, V.bl w, V.int r, V.int c].set 3 (.int (c + 1)))) = H2 at hb2 out ⊢
      refine ⟨_, rfl, b, _, _, _, rfl, rfl, SqL.of hb2, (rfl : _ = some (V.int r)), _, rfl, b, _, _, _, rfl, rfl, SqL.of hb2, (rfl : _ = some (V.int (c + 1))), _, _, rfl, rfl, .inl ⟨by decide, by decide⟩, _, _, rfl, rfl, _, _, rfl, rfl, _, _, rfl, rfl, ⟨by decide, by decide, by omega⟩, ?_⟩
      refine .inl ⟨_, rfl, _, _, rfl, rfl, (by show (0 : Int) < 2147483647; decide), ?_⟩
      generalize hx : (r + 15486301 * (c + 1) + 179425003) ^ (5 : Int).toNat % 2147483647 = mixed
      have x0 : 0 ≤ mixed := by
        rw [← hx]
        exact Int.emod_nonneg _ (by decide)
      have x1 : mixed < 2147483647 := by
        rw [← hx]
        exact Int.emod_lt_of_pos _ (by decide)
      refine ⟨_, rfl, _, _, rfl, rfl, .inr ⟨by decide, by decide⟩, _, rfl, b, _, _, _, rfl, rfl, SqL.of hb2, (rfl : _ = some (V.int (c + 1))), _, _, rfl, rfl, .inl ⟨by decide, by decide⟩, _, _, rfl, rfl, _, _, rfl, rfl, ⟨by decide, by decide, by omega⟩, ?_⟩
      refine .inl ⟨_, rfl, _, _, rfl, rfl, (by show (0 : Int) < 2147483587; decide), _, _, rfl, rfl, ⟨by decide, by decide⟩, _, rfl, _, _, rfl, rfl, np, ?_⟩
      generalize hy : ((r + 15486301 * (c + 1) + 179425003) ^ (5 : Int).toNat % 2147483647 * 48271 + 104947 * (c + 1)) ^ (3 : Int).toNat % 2147483587 / 64 = y
      have e0 := Int.emod_nonneg y (b := (n : Int)) (by omega)
      have e1 := Int.emod_lt_of_pos y (b := (n : Int)) np
      have e2 : ((y % (n : Int)).toNat : Int) = y % (n : Int) := Int.toNat_of_nonneg e0
      have q2 := q (y % (n : Int)).toNat H2 (by omega) out ⟨g, r, c + 1, w, hb2, g0, r0, r1, by omega, by omega⟩
      rw [e2] at q2
      subst hy
      exact q2
theorem huC {k : Nat} {A : Around} (hr : RoomH k A) : A.units + 64 < cLine := by
  have := hr.un
  omega
theorem huD {k : Nat} {A : Around} (hr : RoomH k A) : A.units + 1 < cLine := by
  have := hr.un
  omega
def spLike : Pin → Sp := fun p vs H Q _ => ∃ (v u : V) (n : Nat), vs = [v, u] ∧ n ≤ 1000 ∧ Lk H v u n ∧ ∀ (H' : Hp), Ex H H' → Q (.bl true) H'
/-- the loop's invariant: the stack of pairs and its weight -/
def WLike (H : Hp) (L : Addr) (v u : V) (m : Nat) (σ : L2.St) (H' : Hp) : Prop := ∃ (st : List It4) (x3 x4 x5 x6 : Option V), σ = [some v, some u, some (.ref L), x3, x4, x5, x6] ∧ Ex H H' ∧ H' L = some (.lst (refs st)) ∧ StOk H H' L st ∧ wt st = m ∧ m ≤ 1000
abbrev s_like : Stmt := top 34
abbrev N_like : List Str := ["told", "due", "left", "one", "other", "k", "key"]
theorem sc_like : FnScope N_like ["told", "due"] (defScope s_like) := ⟨rfl, rfl, rfl, by decide +kernel, rfl, by decide +kernel, by decide +kernel⟩
theorem ok_like (T : Txt K mg) (F : FunD K "_law_like" "_law_like" (defArgs s_like) (defBody s_like) (defScope s_like) [] [] f fd) (hm : mg "_law_like" = some (.ref f)) : Ok P w K mg base (k + 1) "_law_like" ["told", "due"] spLike := by
  refine ok_of F hm sc_like (fun _ _ _ _ _ _ us hl => match us, hl with | [_, _], _ => rfl) (fun p vs H Q E h => ?_) (fun cdv A outer s H vs Q E' p c hM hC hr h => ?_)
  · obtain ⟨v, u, n, rfl, _⟩ := h
    rfl
  · obtain ⟨v, u, n, rfl, hn, hl, q⟩ := h
    have hM : Mood (cxB P w K mg base N_like "_law_like" (defScope s_like) f cdv A outer s H E' c p.toList).nox := hM
    refine ⟨_, PSs.nox (pss_cons (ps_set (i := 2) sc_like.nd rfl (Or.inl rfl) (pe_lst (pa_cons (pe_tup (pa_cons (pv 0) (pa_cons (pv 1) pa_nil))) pa_nil))) (pss_cons (ps_while PassesOwn.never (pt_cmpR (op_ne0 (huC hr)) (pv 2) (pe_lst pa_nil) (nomark _)) (pss_cons (ps_asg (pe_bm0 PySem.F.plainAttrs_list PySem.F.slot_list_pop PySem.F.type_list_pop mt_pop (pv 2)) (pg_tupC hM (pgs_cons (pg_name (i := 3) sc_like.nd rfl (Or.inr rfl)) (pgs_cons (pg_name (i := 4) sc_like.nd rfl (Or.inr rfl)) pgs_nil)))) (pss_one (ps_if (pt_val (pe_callB call_isiT (by rfl) T.f_isinstance (by decide +kernel) (pa_cons (pv 4) (pa_cons (pe_tup (pa_cons (pe_bltn (v := .ty "list") (by rfl) T.f_list (by decide +kernel) rfl) (pa_cons (pe_bltn (v := .ty "tuple") (by rfl) T.f_tuple (by decide +kernel) rfl) pa_nil))) pa_nil)))) (pss_cons (ps_if (pw_or (pt_cmpR op_ne (pe_callB call_isi (by rfl) T.f_isinstance (by decide +kernel) (pa_cons (pv 3) (pa_cons (pe_bltn (v := .ty "list") (by rfl) T.f_list (by decide +kernel) rfl) pa_nil))) (pe_callB call_isi (by rfl) T.f_isinstance (by decide +kernel) (pa_cons (pv 4) (pa_cons (pe_bltn (v := .ty "list") (by rfl) T.f_list (by decide +kernel) rfl) pa_nil))) (nomark _)) (pw_or1 (pt_cmpR op_ne (pe_callB call_isi (by rfl) T.f_isinstance (by decide +kernel) (pa_cons (pv 3) (pa_cons (pe_bltn (v := .ty "tuple") (by rfl) T.f_tuple (by decide +kernel) rfl) pa_nil))) (pe_callB call_isi (by rfl) T.f_isinstance (by decide +kernel) (pa_cons (pv 4) (pa_cons (pe_bltn (v := .ty "tuple") (by rfl) T.f_tuple (by decide +kernel) rfl) pa_nil))) (nomark _)))).pt (pss_one (ps_ret pe_bl)) pss_nil) (pss_cons (ps_if (pt_cmpR op_ne (pe_callB call_lenA (by rfl) T.f_len (by decide +kernel) (pa_cons (pv 3) pa_nil)) (pe_callB call_lenA (by rfl) T.f_len (by decide +kernel) (pa_cons (pv 4) pa_nil)) (nomark _)) (pss_one (ps_ret pe_bl)) pss_nil) (pss_one (ps_expr (pe_bm PySem.F.plainAttrs_list PySem.F.slot_list_extend PySem.F.type_list_extend mt_extend (pv 2) (pa_cons (pe_lcC (own := [("k", 5)]) (g := gName 5) hM sc_like.nd (fun _ => (pi_range1 (by rfl) T.f_range (pa_cons (pe_callB call_lenA (by rfl) T.f_len (by decide +kernel) (pa_cons (pv 4) pa_nil)) pa_nil))) (fun _ => (pi_range1H (by rfl) T.f_range (pa_cons (pe_callB call_lenA (by rfl) T.f_len (by decide +kernel) (pa_cons (pv 4) pa_nil)) pa_nil))) (blkOk_by (N := N_like) (sc := defScope s_like) (by decide +kernel)) (fun _ _ _ _ _ => pg_name (i := 5) sc_like.nd rfl (Or.inl rfl)) (fun _ _ _ _ _ => pts_nil) (fun _ _ _ _ _ => (pe_tup (pa_cons (pe_ix (show IxR _ (rIx K) from ix_seq) (pv 3) (pv 5) fun _ _ => rfl) (pa_cons (pe_ix (show IxR _ (rIx K) from ix_seq) (pv 4) (pv 5) fun _ _ => rfl) pa_nil))))) pa_nil)))))) (pss_one (ps_if (pt_val (pe_callB call_isi (by rfl) T.f_isinstance (by decide +kernel) (pa_cons (pv 4) (pa_cons (pe_bltn (v := .ty "dict") (by rfl) T.f_dict (by decide +kernel) rfl) pa_nil)))) (pss_cons (ps_if (pw_or (pt_not (pt_val (pe_callB call_isi (by rfl) T.f_isinstance (by decide +kernel) (pa_cons (pv 3) (pa_cons (pe_bltn (v := .ty "dict") (by rfl) T.f_dict (by decide +kernel) rfl) pa_nil))))) (pw_or (pt_cmpR op_ne (pe_callB call_lenA (by rfl) T.f_len (by decide +kernel) (pa_cons (pv 3) pa_nil)) (pe_callB call_lenA (by rfl) T.f_len (by decide +kernel) (pa_cons (pv 4) pa_nil)) (nomark _)) (pw_or1 (pt_cmpR (op_ne0 (huC hr)) (pe_lock (pe_lcC (own := [("key", 6)]) (g := gName 6) hM sc_like.nd (fun _ => (pi_keyK (pv 4))) (fun _ => (piH_keyK (pv 4))) (blkOk_by (N := N_like) (sc := defScope s_like) (by decide +kernel)) (fun _ _ _ _ _ => pg_name (i := 6) sc_like.nd rfl (Or.inl rfl)) (fun _ _ _ _ _ => (pts_one (pt_cmp (pc_dnotin (huD hr) (pv 6) (pv 3))))) (fun _ _ _ _ _ => (pv 6)))) (pe_lst pa_nil) (nomark _))))).pt (pss_one (ps_ret pe_bl)) pss_nil) (pss_one (ps_expr (pe_bm PySem.F.plainAttrs_list PySem.F.slot_list_extend PySem.F.type_list_extend mt_extend (pv 2) (pa_cons (pe_lock (pe_lcC (own := [("key", 6)]) (g := gName 6) hM sc_like.nd (fun _ => (pi_keyK (pv 4))) (fun _ => (piH_keyK (pv 4))) (blkOk_by (N := N_like) (sc := defScope s_like) (by decide +kernel)) (fun _ _ _ _ _ => pg_name (i := 6) sc_like.nd rfl (Or.inl rfl)) (fun _ _ _ _ _ => pts_nil) (fun _ _ _ _ _ => (pe_tup (pa_cons (pe_dget (huD hr) (pv 3) (pv 6) fun _ _ => rfl) (pa_cons (pe_dget (huD hr) (pv 4) (pv 6) fun _ _ => rfl) pa_nil)))))) pa_nil))))) (pss_one (ps_if (pw_and (pt_val (pe_callB call_isi (by rfl) T.f_isinstance (by decide +kernel) (pa_cons (pv 4) (pa_cons (pe_bltn (v := .ty "int") (by rfl) T.f_int (by decide +kernel) rfl) pa_nil)))) (pw_and1 (pt_not (pt_val (pe_callB call_isi (by rfl) T.f_isinstance (by decide +kernel) (pa_cons (pv 4) (pa_cons (pe_bltn (v := .ty "bool") (by rfl) T.f_bool (by decide +kernel) rfl) pa_nil))))))).pt (pss_one (ps_if (pw_or (pt_not (pt_val (pe_callB call_isi (by rfl) T.f_isinstance (by decide +kernel) (pa_cons (pv 3) (pa_cons (pe_bltn (v := .ty "int") (by rfl) T.f_int (by decide +kernel) rfl) pa_nil))))) (pw_or (pt_val (pe_callB call_isi (by rfl) T.f_isinstance (by decide +kernel) (pa_cons (pv 3) (pa_cons (pe_bltn (v := .ty "bool") (by rfl) T.f_bool (by decide +kernel) rfl) pa_nil)))) (pw_or1 (pt_cmpR op_ne (pv 3) (pv 4) (nomark _))))).pt (pss_one (ps_ret pe_bl)) pss_nil)) (pss_one (ps_if (pt_val (pe_callB call_isi (by rfl) T.f_isinstance (by decide +kernel) (pa_cons (pv 4) (pa_cons (pe_bltn (v := .ty "str") (by rfl) T.f_str (by decide +kernel) rfl) pa_nil)))) (pss_one (ps_if (pw_or (pt_not (pt_val (pe_callB call_isi (by rfl) T.f_isinstance (by decide +kernel) (pa_cons (pv 3) (pa_cons (pe_bltn (v := .ty "str") (by rfl) T.f_str (by decide +kernel) rfl) pa_nil))))) (pw_or1 (pt_cmpR op_ne (pv 3) (pv 4) (nomark _)))).pt (pss_one (ps_ret pe_bl)) pss_nil)) (pss_one (ps_if (pw_or (pt_cmpR op_ne (pe_cmpR op_isN (pv 4) pe_non (nomark _)) (pe_cmpR op_isN (pv 3) pe_non (nomark _)) (nomark _)) (pw_or (pt_cmpR op_ne (pe_cmpR (op_isB (b := true)) (pv 4) pe_bl (nomark _)) (pe_cmpR (op_isB (b := true)) (pv 3) pe_bl (nomark _)) (nomark _)) (pw_or1 (pt_cmpR op_ne (pe_cmpR (op_isB (b := false)) (pv 4) pe_bl (nomark _)) (pe_cmpR (op_isB (b := false)) (pv 3) pe_bl (nomark _)) (nomark _))))).pt (pss_one (ps_ret pe_bl)) pss_nil)))))))))))) (pss_one (ps_ret pe_bl)))), ?_⟩
    refine seq_asg ?_
    refine ⟨_, rfl, _, rfl, by show 2 ≤ sizeLine; decide, fun r hr => ⟨by show 1 ≤ sizeLine; decide, fun L hL => ?_⟩⟩
    have nLr : r ≠ L := fun z => by
      rw [← z, upd_same] at hL
      cases hL
    have hL0 : H L = none := by
      rw [upd_ne (Ne.symm nLr)] at hL
      exact hL
    refine ⟨WLike H L v u, ⟨n, [⟨r, v, u, n⟩], none, none, none, none, rfl, (Ex.new hr).trans (Ex.new hL), upd_same, fun q hq => ?_, by simp [wt], hn⟩, ?_⟩
    · obtain rfl := List.mem_singleton.mp hq
      exact ⟨nLr, by rw [upd_ne nLr, upd_same], hl⟩
    · rintro m σ' H' ⟨st, x3, x4, x5, x6, rfl, e, hL, ok, hw, hm⟩
      refine ⟨_, rfl, by show 0 ≤ sizeLine; decide, fun p1 hp1 => ⟨L, p1, refs st, rfl, rfl, SqL.of ((Ex.new hp1) _ _ hL), SqL.of upd_same, _, rfl, ?_⟩⟩
      have e1 := e.trans (Ex.new (o := .lst []) hp1)
      have hL1 := (Ex.new (o := .lst []) hp1) _ _ hL
      have ok1 := StOk.ext (Ex.but (Ex.new (o := .lst []) hp1)) ok
      generalize upd H' p1 (.lst []) = H1 at e1 hL1 ok1 ⊢
      rcases List.eq_nil_or_concat st with rfl | ⟨st0, q4, rfl⟩
      · refine ite2 (fun z => absurd z (by decide)) (fun _ => ?_)
        exact q _ e1
      · refine ite2 (fun _ => ?_) (fun z => absurd z (by simp [refs]))
        refine ⟨fun σ2 H2 => ∃ m', m' < m ∧ WLike H L v u m' σ2 H2, fun _ _ h => h, ?_⟩
        have hq4 := ok1 q4 (by simp)
        have hd : (refs (st0.concat q4)).dropLast = refs st0 := by simp [refs]
        refine ⟨_, rfl, .inl ⟨rfl, _, SqL.of hL1⟩, L, refs (st0.concat q4), .ref q4.r, rfl, rfl, hL1, by simp [refs], q4.r, [q4.v, q4.u], rfl, SqT.of (by rw [upd_ne hq4.1]; exact hq4.2.1), rfl, ?_⟩
        rw [hd]
        have e2 : Ex H (upd H1 L (.lst (refs st0))) := ExB.new (ExB.trans (Ex.but e1) ExB.set) hL0
        have hL2 : upd H1 L (.lst (refs st0)) L = some (.lst (refs st0)) := upd_same
        have ok2 : StOk H (upd H1 L (.lst (refs st0))) L st0 := StOk.ext ExB.set fun z hz => ok1 z (by simp [hz])
        have lk := hq4.2.2
        have hw2 : wt st0 + q4.n = m := by
          rw [← hw, List.concat_eq_append, wt_app]
          simp [wt]
        obtain ⟨r4, v4, u4, n4⟩ := q4
        simp only at lk hw2
        generalize upd H1 L (.lst (refs st0)) = G at e2 hL2 ok2 ⊢
        clear hq4 hd hL1 ok1 e1 hw ok hL
        have fin : ∀ (x5 x6 : Option V) (G2 : Hp), Ex G G2 → 1 ≤ n4 → ∃ m', m' < m ∧ WLike H L v u m' [some v, some u, some (.ref L), some v4, some u4, x5, x6] G2 := fun x5 x6 G2 e3 h1 =>
          ⟨wt st0, by omega, st0, _, _, _, _, rfl, e2.trans e3, e3 _ _ hL2, StOk.ext (Ex.but e3) ok2, rfl, by omega⟩
        refine ⟨_, _, rfl, _, _, rfl, rfl, _, rfl, by show 2 ≤ sizeLine; decide, fun t ht => ?_⟩
        cases lk with
        | non =>
          refine ⟨_, t, _, _, _, _, rfl, upd_same, .cons (.ty _) (.cons (.ty _) .nil), .base .non, rfl, _, rfl, ?_⟩
          have e3 : Ex G (upd G t (.tup [.ty "list", .ty "tuple"])) := Ex.new ht
          generalize upd G t (.tup [.ty "list", .ty "tuple"]) = G1 at e3 ⊢
          refine ite2 (fun z => absurd z (by decide)) (fun _ => ?_)
          refine ⟨_, rfl, _, _, _, _, _, rfl, .ty _, .base .non, rfl, _, rfl, ?_⟩
          refine ite2 (fun z => absurd z (by decide)) (fun _ => ?_)
          refine ⟨_, rfl, _, _, _, _, _, rfl, .ty _, .base .non, rfl, _, rfl, ?_⟩
          refine ite2 (fun z => absurd z (by decide)) (fun _ => ?_)
          refine ite2 (fun z => absurd z (by decide)) (fun _ => ?_)
          refine ⟨_, rfl, _, _, _, _, _, rfl, .ty _, .base .non, rfl, _, rfl, ?_⟩
          refine ite2 (fun z => absurd z (by decide)) (fun _ => ?_)
          refine ⟨_, rfl, rfl, _, rfl, rfl, rfl, _, rfl, ?_⟩
          refine ite2 (fun z => absurd z (by simp)) (fun _ => ?_)
          refine ⟨_, rfl, rfl, .inl rfl, _, rfl, rfl, .inl rfl, rfl, _, rfl, ?_⟩
          refine ite2 (fun z => absurd z (by simp)) (fun _ => ?_)
          refine ⟨_, rfl, rfl, .inl rfl, _, rfl, rfl, .inl rfl, rfl, _, rfl, ?_⟩
          refine ite2 (fun z => absurd z (by simp)) (fun _ => ?_)
          exact fin _ _ _ e3 (by omega)
        | bl b =>
          cases b
          · refine ⟨_, t, _, _, _, _, rfl, upd_same, .cons (.ty _) (.cons (.ty _) .nil), .base (.bl _), rfl, _, rfl, ?_⟩
            have e3 : Ex G (upd G t (.tup [.ty "list", .ty "tuple"])) := Ex.new ht
            generalize upd G t (.tup [.ty "list", .ty "tuple"]) = G1 at e3 ⊢
            refine ite2 (fun z => absurd z (by decide)) (fun _ => ?_)
            refine ⟨_, rfl, _, _, _, _, _, rfl, .ty _, .base (.bl _), rfl, _, rfl, ?_⟩
            refine ite2 (fun z => absurd z (by decide)) (fun _ => ?_)
            refine ⟨_, rfl, _, _, _, _, _, rfl, .ty _, .base (.bl _), rfl, _, rfl, ?_⟩
            refine ite2 (fun _ => ?_) (fun z => absurd rfl z)
            refine ⟨_, rfl, _, _, _, _, _, rfl, .ty _, .base (.bl _), rfl, _, rfl, ?_⟩
            refine ite2 (fun z => absurd z (by decide)) (fun _ => ?_)
            refine ⟨_, rfl, _, _, _, _, _, rfl, .ty _, .base (.bl _), rfl, _, rfl, ?_⟩
            refine ite2 (fun z => absurd z (by decide)) (fun _ => ?_)
            refine ⟨_, rfl, rfl, _, rfl, rfl, rfl, _, rfl, ?_⟩
            refine ite2 (fun z => absurd z (by simp)) (fun _ => ?_)
            refine ⟨_, rfl, rfl, .inr ⟨_, rfl⟩, _, rfl, rfl, .inr ⟨_, rfl⟩, rfl, _, rfl, ?_⟩
            refine ite2 (fun z => absurd z (by simp)) (fun _ => ?_)
            refine ⟨_, rfl, rfl, .inr ⟨_, rfl⟩, _, rfl, rfl, .inr ⟨_, rfl⟩, rfl, _, rfl, ?_⟩
            refine ite2 (fun z => absurd z (by simp)) (fun _ => ?_)
            exact fin _ _ _ e3 (by omega)
          · refine ⟨_, t, _, _, _, _, rfl, upd_same, .cons (.ty _) (.cons (.ty _) .nil), .base (.bl _), rfl, _, rfl, ?_⟩
            have e3 : Ex G (upd G t (.tup [.ty "list", .ty "tuple"])) := Ex.new ht
            generalize upd G t (.tup [.ty "list", .ty "tuple"]) = G1 at e3 ⊢
            refine ite2 (fun z => absurd z (by decide)) (fun _ => ?_)
            refine ⟨_, rfl, _, _, _, _, _, rfl, .ty _, .base (.bl _), rfl, _, rfl, ?_⟩
            refine ite2 (fun z => absurd z (by decide)) (fun _ => ?_)
            refine ⟨_, rfl, _, _, _, _, _, rfl, .ty _, .base (.bl _), rfl, _, rfl, ?_⟩
            refine ite2 (fun _ => ?_) (fun z => absurd rfl z)
            refine ⟨_, rfl, _, _, _, _, _, rfl, .ty _, .base (.bl _), rfl, _, rfl, ?_⟩
            refine ite2 (fun z => absurd z (by decide)) (fun _ => ?_)
            refine ⟨_, rfl, _, _, _, _, _, rfl, .ty _, .base (.bl _), rfl, _, rfl, ?_⟩
            refine ite2 (fun z => absurd z (by decide)) (fun _ => ?_)
            refine ⟨_, rfl, rfl, _, rfl, rfl, rfl, _, rfl, ?_⟩
            refine ite2 (fun z => absurd z (by simp)) (fun _ => ?_)
            refine ⟨_, rfl, rfl, .inr ⟨_, rfl⟩, _, rfl, rfl, .inr ⟨_, rfl⟩, rfl, _, rfl, ?_⟩
            refine ite2 (fun z => absurd z (by simp)) (fun _ => ?_)
            refine ⟨_, rfl, rfl, .inr ⟨_, rfl⟩, _, rfl, rfl, .inr ⟨_, rfl⟩, rfl, _, rfl, ?_⟩
            refine ite2 (fun z => absurd z (by simp)) (fun _ => ?_)
            exact fin _ _ _ e3 (by omega)
        | int i =>
          refine ⟨_, t, _, _, _, _, rfl, upd_same, .cons (.ty _) (.cons (.ty _) .nil), .base (.int _), rfl, _, rfl, ?_⟩
          have e3 : Ex G (upd G t (.tup [.ty "list", .ty "tuple"])) := Ex.new ht
          generalize upd G t (.tup [.ty "list", .ty "tuple"]) = G1 at e3 ⊢
          refine ite2 (fun z => absurd z (by decide)) (fun _ => ?_)
          refine ⟨_, rfl, _, _, _, _, _, rfl, .ty _, .base (.int _), rfl, _, rfl, ?_⟩
          refine ite2 (fun z => absurd z (by decide)) (fun _ => ?_)
          refine ⟨_, rfl, _, _, _, _, _, rfl, .ty _, .base (.int _), rfl, _, rfl, ?_⟩
          refine ite2 (fun _ => ?_) (fun z => absurd rfl z)
          refine ⟨_, rfl, _, _, _, _, _, rfl, .ty _, .base (.int _), rfl, _, rfl, ?_⟩
          refine ite2 (fun _ => ?_) (fun z => absurd rfl z)
          refine ⟨_, rfl, _, _, _, _, _, rfl, .ty _, .base (.int _), rfl, _, rfl, ?_⟩
          refine ite2 (fun z => absurd z (by decide)) (fun _ => ?_)
          refine ⟨_, rfl, _, _, _, _, _, rfl, .ty _, .base (.int _), rfl, _, rfl, ?_⟩
          refine ite2 (fun z => absurd z (by decide)) (fun _ => ?_)
          refine ⟨_, rfl, _, rfl, rfl, _, rfl, ?_⟩
          refine ite2 (fun z => absurd z (by simp)) (fun _ => ?_)
          exact fin _ _ _ e3 (by omega)
        | str z =>
          refine ⟨_, t, _, _, _, _, rfl, upd_same, .cons (.ty _) (.cons (.ty _) .nil), .base (.str _), rfl, _, rfl, ?_⟩
          have e3 : Ex G (upd G t (.tup [.ty "list", .ty "tuple"])) := Ex.new ht
          generalize upd G t (.tup [.ty "list", .ty "tuple"]) = G1 at e3 ⊢
          refine ite2 (fun z => absurd z (by decide)) (fun _ => ?_)
          refine ⟨_, rfl, _, _, _, _, _, rfl, .ty _, .base (.str _), rfl, _, rfl, ?_⟩
          refine ite2 (fun z => absurd z (by decide)) (fun _ => ?_)
          refine ⟨_, rfl, _, _, _, _, _, rfl, .ty _, .base (.str _), rfl, _, rfl, ?_⟩
          refine ite2 (fun z => absurd z (by decide)) (fun _ => ?_)
          refine ite2 (fun z => absurd z (by decide)) (fun _ => ?_)
          refine ⟨_, rfl, _, _, _, _, _, rfl, .ty _, .base (.str _), rfl, _, rfl, ?_⟩
          refine ite2 (fun _ => ?_) (fun z => absurd rfl z)
          refine ⟨_, rfl, _, _, _, _, _, rfl, .ty _, .base (.str _), rfl, _, rfl, ?_⟩
          refine ite2 (fun z => absurd z (by decide)) (fun _ => ?_)
          refine ⟨_, rfl, _, rfl, rfl, _, rfl, ?_⟩
          refine ite2 (fun z => absurd z (by simp)) (fun _ => ?_)
          exact fin _ _ _ e3 (by omega)
        | @lst a4 b4 vs us n0 ha hb hs =>
          have ha0 := e2 _ _ ha
          have hb0 := e2 _ _ hb
          refine ⟨_, t, _, _, _, _, rfl, upd_same, .cons (.ty _) (.cons (.ty _) .nil), .base (.lst ((Ex.new ht) _ _ hb0)), rfl, _, rfl, ?_⟩
          have e3 : Ex G (upd G t (.tup [.ty "list", .ty "tuple"])) := Ex.new ht
          generalize upd G t (.tup [.ty "list", .ty "tuple"]) = G1 at e3 ⊢
          refine ite2 (fun _ => ?_) (fun z => absurd rfl z)
          have ha1 := e3 _ _ ha0
          have hb1 := e3 _ _ hb0
          refine ⟨_, rfl, _, _, _, _, _, rfl, .ty _, .base (.lst ha1), rfl, _, rfl, _, _, _, _, _, rfl, .ty _, .base (.lst hb1), rfl, rfl, _, rfl, ?_⟩
          refine ite2 (fun z => absurd z (by decide)) (fun _ => ?_)
          refine ⟨_, rfl, _, _, _, _, _, rfl, .ty _, .base (.lst ha1), rfl, _, rfl, _, _, _, _, _, rfl, .ty _, .base (.lst hb1), rfl, rfl, _, rfl, ?_⟩
          refine ite2 (fun z => absurd z (by decide)) (fun _ => ?_)
          refine nx_l ?_
          obtain ⟨ns, l1, l2, l3, l4, hget⟩ := hs.get
          refine ⟨_, rfl, .inl ⟨_, vs, rfl, .inl (SqL.of ha1), _, rfl, .inl ⟨_, us, rfl, .inl (SqL.of hb1), rfl, _, rfl, ?_⟩⟩⟩
          refine ite0 (by rw [l1]; simp) (nx_l ?_)
          have hL3 := e3 _ _ hL2
          refine ⟨_, rfl, .inl ⟨rfl, _, SqL.of hL3⟩, cons_l ?_⟩
          have big : (1000 : Nat) ≤ sizeLine := by decide
          have z2 := wt_len ok2
          refine lc_by (J := Itr 0 us.length) (n := us.length) (item := fun i => .int (i : Int)) (Made H L vs us ns) (by omega) (by show (5 : Nat) < 7; decide) (fun R h => ?_) walks_rng0 (fun D j acc H1 H2 => Made.mono) (fun D hD => Made.nil) (fun D j acc H1 C Cf hj hD e4 ha4 hp kf kt => ?_) (fun D acc H1 hD e4 ha4 hp => ?_)
          · refine ⟨_, rfl, .inl ⟨_, us, rfl, .inl (SqL.of hb1), (us.length : Int), rfl, by omega, by omega, ?_⟩⟩
            rw [Int.toNat_natCast]
            exact h
          · have hj1 : j < vs.length := by omega
            refine ⟨_, rfl, _, rfl, .inl ⟨_, vs, _, _, rfl, rfl, SqL.of (e4 _ _ ha1), atI_nat (getD_at hj1), _, rfl, _, rfl, .inl ⟨_, us, _, _, rfl, rfl, SqL.of (e4 _ _ hb1), atI_nat (getD_at hj), by show 2 ≤ sizeLine; decide, fun t4 ht4 => ?_⟩⟩⟩
            exact kt _ _ (Ex.new ht4) (hp.next ht4 ha4 (e4 _ _ hL3) (hget j hj))
          · rw [← l2] at hp
            obtain ⟨its, rfl, w1, ok3⟩ := hp.wt
            have hL4 := e4 _ _ hL3
            have nD : D ≠ L := (ne_of_none hL3 hD).symm
            have z1 := wt_len ok3
            refine ⟨L, D, refs st0, refs its, rfl, rfl, hL4, ha4, by simp [refs]; omega, ?_⟩
            refine ⟨wt (st0 ++ its), by rw [wt_app]; omega, st0 ++ its, _, _, _, _, rfl, ExB.new (ExB.trans (Ex.but (e2.trans (e3.trans e4))) ExB.set) hL0, by rw [upd_same]; simp [refs], ?_, rfl, by rw [wt_app]; omega⟩
            exact StOk.ext ExB.set (StOk.app (StOk.ext (Ex.but (e3.trans e4)) ok2) ok3)
        | @tup a4 b4 vs us n0 ha hb hs =>
          have ha0 := e2 _ _ ha
          have hb0 := e2 _ _ hb
          refine ⟨_, t, _, _, _, _, rfl, upd_same, .cons (.ty _) (.cons (.ty _) .nil), .base (.tup ((Ex.new ht) _ _ hb0)), rfl, _, rfl, ?_⟩
          have e3 : Ex G (upd G t (.tup [.ty "list", .ty "tuple"])) := Ex.new ht
          generalize upd G t (.tup [.ty "list", .ty "tuple"]) = G1 at e3 ⊢
          refine ite2 (fun _ => ?_) (fun z => absurd rfl z)
          have ha1 := e3 _ _ ha0
          have hb1 := e3 _ _ hb0
          refine ⟨_, rfl, _, _, _, _, _, rfl, .ty _, .base (.tup ha1), rfl, _, rfl, _, _, _, _, _, rfl, .ty _, .base (.tup hb1), rfl, rfl, _, rfl, ?_⟩
          refine ite2 (fun z => absurd z (by decide)) (fun _ => ?_)
          refine ⟨_, rfl, _, _, _, _, _, rfl, .ty _, .base (.tup ha1), rfl, _, rfl, _, _, _, _, _, rfl, .ty _, .base (.tup hb1), rfl, rfl, _, rfl, ?_⟩
          refine ite2 (fun z => absurd z (by decide)) (fun _ => ?_)
          refine nx_l ?_
          obtain ⟨ns, l1, l2, l3, l4, hget⟩ := hs.get
          refine ⟨_, rfl, .inl ⟨_, vs, rfl, .inr (SqT.of ha1), _, rfl, .inl ⟨_, us, rfl, .inr (SqT.of hb1), rfl, _, rfl, ?_⟩⟩⟩
          refine ite0 (by rw [l1]; simp) (nx_l ?_)
          have hL3 := e3 _ _ hL2
          refine ⟨_, rfl, .inl ⟨rfl, _, SqL.of hL3⟩, cons_l ?_⟩
          have big : (1000 : Nat) ≤ sizeLine := by decide
          have z2 := wt_len ok2
          refine lc_by (J := Itr 0 us.length) (n := us.length) (item := fun i => .int (i : Int)) (Made H L vs us ns) (by omega) (by show (5 : Nat) < 7; decide) (fun R h => ?_) walks_rng0 (fun D j acc H1 H2 => Made.mono) (fun D hD => Made.nil) (fun D j acc H1 C Cf hj hD e4 ha4 hp kf kt => ?_) (fun D acc H1 hD e4 ha4 hp => ?_)
          · refine ⟨_, rfl, .inl ⟨_, us, rfl, .inr (SqT.of hb1), (us.length : Int), rfl, by omega, by omega, ?_⟩⟩
            rw [Int.toNat_natCast]
            exact h
          · have hj1 : j < vs.length := by omega
            refine ⟨_, rfl, _, rfl, .inr (.inl ⟨_, vs, _, _, rfl, rfl, SqT.of (e4 _ _ ha1), atI_nat (getD_at hj1), _, rfl, _, rfl, .inr (.inl ⟨_, us, _, _, rfl, rfl, SqT.of (e4 _ _ hb1), atI_nat (getD_at hj), by show 2 ≤ sizeLine; decide, fun t4 ht4 => ?_⟩)⟩)⟩
            exact kt _ _ (Ex.new ht4) (hp.next ht4 ha4 (e4 _ _ hL3) (hget j hj))
          · rw [← l2] at hp
            obtain ⟨its, rfl, w1, ok3⟩ := hp.wt
            have hL4 := e4 _ _ hL3
            have nD : D ≠ L := (ne_of_none hL3 hD).symm
            have z1 := wt_len ok3
            refine ⟨L, D, refs st0, refs its, rfl, rfl, hL4, ha4, by simp [refs]; omega, ?_⟩
            refine ⟨wt (st0 ++ its), by rw [wt_app]; omega, st0 ++ its, _, _, _, _, rfl, ExB.new (ExB.trans (Ex.but (e2.trans (e3.trans e4))) ExB.set) hL0, by rw [upd_same]; simp [refs], ?_, rfl, by rw [wt_app]; omega⟩
            exact StOk.ext ExB.set (StOk.app (StOk.ext (Ex.but (e3.trans e4)) ok2) ok3)
        | @dic a4 b4 ks ls n0 ha hb hk hd hs =>
          have ha0 := e2 _ _ ha
          have hb0 := e2 _ _ hb
          refine ⟨_, t, _, _, _, _, rfl, upd_same, .cons (.ty _) (.cons (.ty _) .nil), .base (.dK ((Ex.new ht) _ _ hb0)), rfl, _, rfl, ?_⟩
          have e3 : Ex G (upd G t (.tup [.ty "list", .ty "tuple"])) := Ex.new ht
          generalize upd G t (.tup [.ty "list", .ty "tuple"]) = G1 at e3 ⊢
          refine ite2 (fun z => absurd z (by decide)) (fun _ => ?_)
          have ha1 := e3 _ _ ha0
          have hb1 := e3 _ _ hb0
          refine ⟨_, rfl, _, _, _, _, _, rfl, .ty _, .base (.dK hb1), rfl, _, rfl, ?_⟩
          refine ite2 (fun _ => ?_) (fun z => absurd rfl z)
          refine ⟨_, rfl, _, _, _, _, _, rfl, .ty _, .base (.dK ha1), rfl, _, rfl, ?_⟩
          refine ite2 (fun z => absurd z (by decide)) (fun _ => ?_)
          have hkl : ks.length = ls.length := by simpa using congrArg List.length hk
          obtain ⟨ns, l1, l2, l3, l4, hget⟩ := hs.get
          have l5 : ns.length = ls.length := by simpa using l2
          have l6 : ls.length ≤ n0 := by simpa using l4
          have big : (1000 : Nat) ≤ sizeLine := by decide
          have z2 := wt_len ok2
          have nbL : b4 ≠ L := ne_of_none hb hL0
          refine ⟨_, rfl, .inr ⟨_, ks, rfl, ha1, _, rfl, .inr ⟨_, ls, rfl, hb1, rfl, _, rfl, ?_⟩⟩⟩
          refine ite0 (by rw [hkl]; simp) ?_
          refine ⟨b4, .dK ls, hb1, trivial, fun od => ?_⟩
          have hF : upd G1 b4 (.frz od (.dK ls)) b4 = some (.frz od (.dK ls)) := upd_same
          refine lc_none (J := Itk b4 od ls) (n := ls.length) (item := itemK ls) (by omega) (by show (6 : Nat) < 7; decide) (fun R h => ⟨_, rfl, b4, od, rfl, ls, hF, h⟩) (walks_key hF) (fun j H1 R hj e4 kf => ?_) (fun D H1 hD e4 hD1 => ?_)
          · obtain ⟨ky, hk1, hk2, hk3⟩ := dic_at hk hd hj
            refine ⟨_, rfl, _, rfl, a4, some _, rfl, .inl ⟨ks, ky, rd_lock ha1 hb1 e4, hk1, hk2.symm⟩, _, rfl, ?_⟩
            exact kf _ (Ex.refl _)
          refine ⟨e4 _ _ hF, by show 0 ≤ sizeLine; decide, fun p2 hp2 => ?_⟩
          have nDb : D ≠ b4 := (ne_of_none hF hD).symm
          have hD2 : upd (upd H1 b4 (.dK ls)) p2 (.lst []) D = some (.lst []) := (Ex.new hp2) _ _ (by rw [upd_ne nDb]; exact hD1)
          have e5 : Ex G1 (upd (upd H1 b4 (.dK ls)) p2 (.lst [])) := (ex_lock hb1 e4).trans (Ex.new hp2)
          refine ⟨D, p2, [], rfl, rfl, SqL.of hD2, SqL.of upd_same, _, rfl, ?_⟩
          refine ite0 (by simp) (nx_l ?_)
          generalize upd (upd H1 b4 (.dK ls)) p2 (.lst []) = G2 at e5 ⊢
          have ha2 := e5 _ _ ha1
          have hb2 := e5 _ _ hb1
          have hL3 := e5 _ _ (e3 _ _ hL2)
          refine ⟨_, rfl, .inl ⟨rfl, _, SqL.of hL3⟩, cons_l ⟨b4, .dK ls, hb2, trivial, fun od2 => ?_⟩⟩
          have hF2 : upd G2 b4 (.frz od2 (.dK ls)) b4 = some (.frz od2 (.dK ls)) := upd_same
          have hLF : upd G2 b4 (.frz od2 (.dK ls)) L = some (.lst (refs st0)) := by
            rw [upd_ne nbL.symm]
            exact hL3
          refine lc_by (J := Itk b4 od2 ls) (n := ls.length) (item := itemK ls) (Made H L (ks.map (·.2)) (ls.map (·.2)) ns) (by omega) (by show (6 : Nat) < 7; decide) (fun R h => ⟨_, rfl, b4, od2, rfl, ls, hF2, h⟩) (walks_key hF2) (fun D j acc H1 H2 => Made.mono) (fun D hD => Made.nil) (fun D j acc H1 C Cf hj hD e6 ha6 hp kf kt => ?_) (fun D acc H1 hD e6 ha6 hp => ?_)
          · obtain ⟨ky, hk1, hk2, hk3⟩ := dic_at hk hd hj
            refine ⟨_, rfl, _, rfl, a4, _, rfl, .inl ⟨ks, ky, rd_lock ha2 hb2 e6, hk1, hk2.symm⟩, _, rfl, _, rfl, b4, _, rfl, .inl ⟨ls, ky, rd_lock hb2 hb2 e6, hk1, hk3.symm⟩, by show 2 ≤ sizeLine; decide, fun t4 ht4 => ?_⟩
            exact kt _ _ (Ex.new ht4) (hp.next ht4 ha6 (e6 _ _ hLF) (hget j (by simpa using hj)))
          · refine ⟨e6 _ _ hF2, ?_⟩
            rw [← l5] at hp
            obtain ⟨its, rfl, w1, ok3⟩ := hp.wt
            have e7 := ex_lock hb2 e6
            have hL4 := e7 _ _ hL3
            have nDb2 : D ≠ b4 := (ne_of_none hF2 hD).symm
            have ok4 : StOk H (upd H1 b4 (.dK ls)) L its := fun q hq => by
              obtain ⟨x1, x2, x3⟩ := ok3 q hq
              have z : q.r ≠ b4 := fun z => by
                rw [z, e6 _ _ hF2] at x2
                cases x2
              exact ⟨x1, by rw [upd_ne z]; exact x2, x3⟩
            have z1 := wt_len ok4
            refine ⟨L, D, refs st0, refs its, rfl, rfl, hL4, by rw [upd_ne nDb2]; exact ha6, by simp [refs]; omega, ?_⟩
            refine ⟨wt (st0 ++ its), by rw [wt_app]; omega, st0 ++ its, _, _, _, _, rfl, ExB.new (ExB.trans (Ex.but (e2.trans (e3.trans (e5.trans e7)))) ExB.set) hL0, by rw [upd_same]; simp [refs], ?_, rfl, by rw [wt_app]; omega⟩
            exact StOk.ext ExB.set (StOk.app (StOk.ext (Ex.but (e3.trans (e5.trans e7))) ok2) ok4)
end
end D0

namespace D0
open PySem PySem.Spec PyProof.Rows L2 L2H HotX Evl K9
abbrev zSmall : Str := "abcdefghijklmnopqrstuvwxyz"
abbrev zGreat : Str := "ABCDEFGHIJKLMNOPQRSTUVWXYZ"
abbrev zLet : Str := "ABCDEFGHIJKLMNOPQRSTUVWXYZabcdefghijklmnopqrstuvwxyz"
abbrev zVar : Str := "abcdefghijklmnopqrstuvwxyz0123456789"
/-- what the program's names are -/
structure Txt2 (K : PySem.W.Frag) (mg : Str → Option Value) : Prop where
  f_all : mg "all" = none
  f_sorted : mg "sorted" = none
  small : ∃ t, mg "SMALL_LETTERS" = some (.str zSmall t)
  great : ∃ t, mg "GREAT_LETTERS" = some (.str zGreat t)
  lets : ∃ t, mg "LETTERS" = some (.str zLet t)
  vars : ∃ t, mg "VARIABLE_SIGNS" = some (.str zVar t)
  names : ∃ t, mg "MOST_NAMES" = some (.int 24 t)
  args : ∃ t, mg "MOST_ARGS" = some (.int 3 t)
section
variable {P : Program} {w : World} {K : PySem.W.Frag} {mg : Str → Option Value} {base : Heap} {f : Addr} {fd : FuncData} {k : Nat}
/-- all signs of a are among those of z -/
def allS (a z : Str) : Bool := a.cps.toList.all fun c => decide (c ∈ z.cps.toList)
def spHas (Pt : Addr) : Sp := fun vs H Q _ => ∃ a z : Str, vs = [.str a, .str z] ∧ TabX H Pt ∧ ∀ H', Ex H H' → Q (.bl (allS a z)) H'
abbrev s_has_only : Stmt := top 15
abbrev N_has_only : List Str := ["text", "signs", "sign"]
theorem sc_has_only : FnScope N_has_only ["text", "signs"] (defScope s_has_only) := ⟨rfl, rfl, rfl, by decide +kernel, rfl, by decide +kernel, by decide +kernel⟩
theorem ok_has_only {c Pt : Addr} (T2 : Txt2 K mg) (TB : TabK base mg c Pt) (hcode : fd.code = .ref c) (F : FunD K "has_only" "has_only" (defArgs s_has_only) (defBody s_has_only) (defScope s_has_only) [] [] f fd) (hm : mg "has_only" = some (.ref f)) : OkC P w K mg base (k + 2) "has_only" ["text", "signs"] (spHas Pt) := by
  refine okT_of F hm hcode sc_has_only (fun _ _ _ _ _ _ us hl => match us, hl with | [_, _], _ => rfl) (fun vs H Q E h => ?_) (fun cdv hcode A outer s H vs Q E hr h => ?_)
  · obtain ⟨a, z, rfl, _⟩ := h
    rfl
  · obtain ⟨a, z, rfl, hT, q⟩ := h
    refine ⟨_, (pss_one (ps_ret (pe_allG (own := [("sign", 2)]) (g := gName 2) rfl (roomH_of hr) (by rfl) T2.f_all TB hcode sc_has_only.nd (blkOk_by (N := N_has_only) (sc := defScope s_has_only) (by decide +kernel)) (by decide +kernel) rfl rfl (pi_str (pv 0)) (fun _ _ _ _ _ _ _ => pg_name (i := 2) sc_has_only.nd rfl (Or.inl rfl)) (fun _ _ _ _ _ _ _ hr => (pe_cmpR op_in_sign (pv 2) (pv 1) (by rfl)))))), ?_⟩
    refine ret_l (allG_by (J := Its a) (n := a.cps.size) (item := fun i => .str ⟨#[a.cps.getD i 0]⟩) (fun j => decide (a.cps.getD j 0 ∈ z.cps.toList)) (by show 2 < 3; decide) (fun R h => ⟨_, rfl, a, rfl, h⟩) hT walks_str (fun j H1 R hj e kR => ?_) (fun H1 e => ?_))
    · exact ⟨_, rfl, _, rfl, a.cps.getD j 0, z, rfl, rfl, kR H1 (Ex.refl _)⟩
    · have y := all_signs a fun c => decide (c ∈ z.cps.toList)
      show Q (.bl ((List.range a.cps.size).all fun j => decide (a.cps.getD j 0 ∈ z.cps.toList))) H1
      rw [y]
      exact q H1 e
def inLen (z : Str) (n : Nat) : Bool := decide (1 ≤ z.length) && decide (z.length ≤ n)
def nameB (z : Str) : Bool := inLen z 8 && (decide ((z.cps.getD 0 0) ∈ zGreat.cps.toList) && allS z zLet)
def varB (z : Str) : Bool := inLen z 4 && (decide ((z.cps.getD 0 0) ∈ zSmall.cps.toList) && allS z zVar)
def onStr (f : Str → Bool) : Option Str → Bool
  | some z => f z
  | none => false
def spJudge (Pt : Addr) (K : PySem.W.Frag) (g : Str → Bool) : Sp := fun vs H Q _ => ∃ (v : V) (o : Option Str), vs = [v] ∧ MayStr K H v o ∧ TabX H Pt ∧ ∀ H', Ex H H' → Q (.bl (onStr g o)) H'
theorem sz1000 : (1000 : Nat) ≤ sizeLine := by decide
theorem inV_strs (z : Str) (ys : List Str) : inV (.str z) (ys.map V.str) = decide (z ∈ ys) := by
  induction ys with
  | nil => rfl
  | cons y r ih =>
    rw [List.map_cons]
    unfold inV at ih ⊢
    simp only [List.any_cons, ih]
    have ey : eqV (V.str y) (V.str z) = (y == z) := rfl
    rw [ey]
    by_cases e : z = y
    · simp [e]
    · have e2 : ¬ y = z := fun h => e h.symm
      simp [e, e2]
theorem first_of {z : Str} (h : 1 ≤ z.length) : atI z.cps.toList (0 : Int) = some (z.cps.getD 0 0) := by
  have h : 1 ≤ z.cps.size := h
  refine atI_nat (j := 0) ?_
  rw [Array.getElem?_toList]
  simp [Array.getD_eq_getD_getElem?, Array.getElem?_eq_getElem h]
abbrev s_is_type_name : Stmt := top 16
abbrev N_is_type_name : List Str := ["value"]
theorem sc_is_type_name : FnScope N_is_type_name ["value"] (defScope s_is_type_name) := ⟨rfl, rfl, rfl, by decide +kernel, rfl, by decide +kernel, by decide +kernel⟩
theorem ok_is_type_name {Pt : Addr} (T : Txt K mg) (T2 : Txt2 K mg) (k_has_only : OkC P w K mg base k "has_only" ["text", "signs"] (spHas Pt)) (F : FunD K "is_type_name" "is_type_name" (defArgs s_is_type_name) (defBody s_is_type_name) (defScope s_is_type_name) [] [] f fd) (hm : mg "is_type_name" = some (.ref f)) : OkK P w K mg base (k + 1) "is_type_name" ["value"] ["value"] (spJudge Pt K nameB) := by
  refine okK_of F hm sc_is_type_name (fun _ _ _ _ _ _ us hl => match us, hl with | [_], _ => rfl) (fun _ _ _ _ _ _ us ws hu hw => match us, ws, hu, hw with | [], [_], _, _ => rfl) (fun vs H Q E h => ?_) (fun cdv A outer s H vs Q E hr h => ?_)
  · obtain ⟨v, o, rfl, _⟩ := h
    rfl
  · obtain ⟨v, o, rfl, hv, hT, q⟩ := h
    obtain ⟨t1, c_GREAT_LETTERS⟩ := T2.great
    obtain ⟨t2, c_LETTERS⟩ := T2.lets
    refine ⟨_, (pss_cons (ps_if (pw_or (pt_not (pt_val (pe_callB call_isA (by rfl) T.f_isinstance (by decide +kernel) (pa_cons (pv 0) (pa_cons (pe_bltn (v := .ty "str") (by rfl) T.f_str (by decide +kernel) rfl) pa_nil))))) (pw_or1 (pt_not (pt_chain op_le op_le pe_int (pe_callB call_len_str (by rfl) T.f_len (by decide +kernel) (pa_cons (pv 0) pa_nil)) pe_int)))).pt (pss_one (ps_ret pe_bl)) pss_nil) (pss_one (ps_ret (pe_and (pe_cmpR op_in_sign (pe_ix ix_str (pv 0) pe_int fun _ _ => rfl) (pe_glob (v := .str "ABCDEFGHIJKLMNOPQRSTUVWXYZ") (by rfl) c_GREAT_LETTERS ⟨_, rfl⟩) (by rfl)) (pe_one (pe_callK0 k_has_only hr (by rfl) (pa_cons (pv 0) (pa_cons (pe_glob (v := .str "ABCDEFGHIJKLMNOPQRSTUVWXYZabcdefghijklmnopqrstuvwxyz") (by rfl) c_LETTERS ⟨_, rfl⟩) pa_nil)))))))), ?_⟩
    cases hv with
    | no hn =>
      refine ⟨_, rfl, hn _ _ (Ex.refl _) ⟨_, rfl, ite1 (by decide) (ite1 rfl ?_)⟩⟩
      exact q _ (Ex.refl _)
    | str z hz =>
      refine ⟨_, rfl, is_str ⟨_, rfl, ite0 (by decide) ?_⟩⟩
      refine ⟨_, rfl, z, rfl, Nat.le_trans hz sz1000, _, _, rfl, rfl, _, rfl, ?_⟩
      by_cases h1 : 1 ≤ z.length
      · refine ite1 (decide_eq_true (by omega)) ⟨_, _, rfl, rfl, _, rfl, ?_⟩
        by_cases h2 : z.length ≤ 8
        · have hl : inLen z 8 = true := by simp [inLen, h1, h2]
          refine ite0 (by simp; omega) (nx_l ?_)
          refine ret_l ⟨_, rfl, z, 0, z.cps.getD 0 0, rfl, rfl, Nat.le_trans hz sz1000, first_of h1, z.cps.getD 0 0, zGreat, rfl, rfl, _, rfl, ?_⟩
          cases hs : decide (z.cps.getD 0 0 ∈ zGreat.cps.toList) with
          | true =>
            refine ite1 rfl ⟨_, rfl, z, zLet, rfl, hT, fun H1 e1 => ?_⟩
            have y := q _ e1
            rw [show onStr nameB (some z) = allS z zLet from by simp [onStr, nameB, hl] at hs ⊢; exact fun _ => hs] at y
            exact y
          | false =>
            refine ite0 (by decide) ?_
            have y := q _ (Ex.refl _)
            rw [show onStr nameB (some z) = false from by simp [onStr, nameB] at hs ⊢; exact fun _ z => absurd z hs] at y
            exact y
        · have hl : inLen z 8 = false := by simp [inLen, h2]
          refine ite1 (by simp; omega) ?_
          have y := q _ (Ex.refl _)
          rw [show onStr nameB (some z) = false from by simp [onStr, nameB, hl]] at y
          exact y
      · have hl : inLen z 8 = false := by simp [inLen, h1]
        refine ite0 (by simp; omega) ⟨_, rfl, ite1 (by decide) ?_⟩
        have y := q _ (Ex.refl _)
        rw [show onStr nameB (some z) = false from by simp [onStr, nameB, hl]] at y
        exact y
abbrev s_is_variable : Stmt := top 17
abbrev N_is_variable : List Str := ["value"]
theorem sc_is_variable : FnScope N_is_variable ["value"] (defScope s_is_variable) := ⟨rfl, rfl, rfl, by decide +kernel, rfl, by decide +kernel, by decide +kernel⟩
theorem ok_is_variable {Pt : Addr} (T : Txt K mg) (T2 : Txt2 K mg) (k_has_only : OkC P w K mg base k "has_only" ["text", "signs"] (spHas Pt)) (F : FunD K "is_variable" "is_variable" (defArgs s_is_variable) (defBody s_is_variable) (defScope s_is_variable) [] [] f fd) (hm : mg "is_variable" = some (.ref f)) : OkK P w K mg base (k + 1) "is_variable" ["value"] ["value"] (spJudge Pt K varB) := by
  refine okK_of F hm sc_is_variable (fun _ _ _ _ _ _ us hl => match us, hl with | [_], _ => rfl) (fun _ _ _ _ _ _ us ws hu hw => match us, ws, hu, hw with | [], [_], _, _ => rfl) (fun vs H Q E h => ?_) (fun cdv A outer s H vs Q E hr h => ?_)
  · obtain ⟨v, o, rfl, _⟩ := h
    rfl
  · obtain ⟨v, o, rfl, hv, hT, q⟩ := h
    obtain ⟨t1, c_SMALL_LETTERS⟩ := T2.small
    obtain ⟨t2, c_VARIABLE_SIGNS⟩ := T2.vars
    refine ⟨_, (pss_cons (ps_if (pw_or (pt_not (pt_val (pe_callB call_isA (by rfl) T.f_isinstance (by decide +kernel) (pa_cons (pv 0) (pa_cons (pe_bltn (v := .ty "str") (by rfl) T.f_str (by decide +kernel) rfl) pa_nil))))) (pw_or1 (pt_not (pt_chain op_le op_le pe_int (pe_callB call_len_str (by rfl) T.f_len (by decide +kernel) (pa_cons (pv 0) pa_nil)) pe_int)))).pt (pss_one (ps_ret pe_bl)) pss_nil) (pss_one (ps_ret (pe_and (pe_cmpR op_in_sign (pe_ix ix_str (pv 0) pe_int fun _ _ => rfl) (pe_glob (v := .str "abcdefghijklmnopqrstuvwxyz") (by rfl) c_SMALL_LETTERS ⟨_, rfl⟩) (by rfl)) (pe_one (pe_callK0 k_has_only hr (by rfl) (pa_cons (pv 0) (pa_cons (pe_glob (v := .str "abcdefghijklmnopqrstuvwxyz0123456789") (by rfl) c_VARIABLE_SIGNS ⟨_, rfl⟩) pa_nil)))))))), ?_⟩
    cases hv with
    | no hn =>
      refine ⟨_, rfl, hn _ _ (Ex.refl _) ⟨_, rfl, ite1 (by decide) (ite1 rfl ?_)⟩⟩
      exact q _ (Ex.refl _)
    | str z hz =>
      refine ⟨_, rfl, is_str ⟨_, rfl, ite0 (by decide) ?_⟩⟩
      refine ⟨_, rfl, z, rfl, Nat.le_trans hz sz1000, _, _, rfl, rfl, _, rfl, ?_⟩
      by_cases h1 : 1 ≤ z.length
      · refine ite1 (decide_eq_true (by omega)) ⟨_, _, rfl, rfl, _, rfl, ?_⟩
        by_cases h2 : z.length ≤ 4
        · have hl : inLen z 4 = true := by simp [inLen, h1, h2]
          refine ite0 (by simp; omega) (nx_l ?_)
          refine ret_l ⟨_, rfl, z, 0, z.cps.getD 0 0, rfl, rfl, Nat.le_trans hz sz1000, first_of h1, z.cps.getD 0 0, zSmall, rfl, rfl, _, rfl, ?_⟩
          cases hs : decide (z.cps.getD 0 0 ∈ zSmall.cps.toList) with
          | true =>
            refine ite1 rfl ⟨_, rfl, z, zVar, rfl, hT, fun H1 e1 => ?_⟩
            have y := q _ e1
            rw [show onStr varB (some z) = allS z zVar from by simp [onStr, varB, hl] at hs ⊢; exact fun _ => hs] at y
            exact y
          | false =>
            refine ite0 (by decide) ?_
            have y := q _ (Ex.refl _)
            rw [show onStr varB (some z) = false from by simp [onStr, varB] at hs ⊢; exact fun _ z => absurd z hs] at y
            exact y
        · have hl : inLen z 4 = false := by simp [inLen, h2]
          refine ite1 (by simp; omega) ?_
          have y := q _ (Ex.refl _)
          rw [show onStr varB (some z) = false from by simp [onStr, varB, hl]] at y
          exact y
      · have hl : inLen z 4 = false := by simp [inLen, h1]
        refine ite0 (by simp; omega) ⟨_, rfl, ite1 (by decide) ?_⟩
        have y := q _ (Ex.refl _)
        rw [show onStr varB (some z) = false from by simp [onStr, varB, hl]] at y
        exact y
end
end D0

namespace D0
open PySem PySem.Spec PyProof.Rows L2 L2H HotX Evl K9
section
variable {P : Program} {w : World} {K : PySem.W.Frag} {mg : Str → Option Value} {base : Heap} {f : Addr} {fd : FuncData} {k : Nat}
def spWhole : Sp := fun vs H Q _ => ∃ (v : V) (o : Option Int), vs = [v] ∧ MayInt v o ∧ ∀ H', Ex H H' → Q (.bl o.isSome) H'
abbrev s_is_whole : Stmt := top 18
abbrev N_is_whole : List Str := ["value"]
theorem sc_is_whole : FnScope N_is_whole ["value"] (defScope s_is_whole) := ⟨rfl, rfl, rfl, by decide +kernel, rfl, by decide +kernel, by decide +kernel⟩
theorem ok_is_whole (T : Txt K mg) (F : FunD K "is_whole" "is_whole" (defArgs s_is_whole) (defBody s_is_whole) (defScope s_is_whole) [] [] f fd) (hm : mg "is_whole" = some (.ref f)) : OkC P w K mg base (k + 1) "is_whole" ["value"] spWhole := by
  refine okC_of F hm sc_is_whole (fun _ _ _ _ _ _ us hl => match us, hl with | [_], _ => rfl) (fun vs H Q E h => ?_) (fun cdv A outer s H vs Q E hr h => ?_)
  · obtain ⟨v, o, rfl, _⟩ := h
    rfl
  · obtain ⟨v, o, rfl, hv, q⟩ := h
    refine ⟨_, (pss_one (ps_ret (pe_and (pe_callB call_isi (by rfl) T.f_isinstance (by decide +kernel) (pa_cons (pv 0) (pa_cons (pe_bltn (v := .ty "int") (by rfl) T.f_int (by decide +kernel) rfl) pa_nil))) (pe_one (pe_not (pe_callB call_isi (by rfl) T.f_isinstance (by decide +kernel) (pa_cons (pv 0) (pa_cons (pe_bltn (v := .ty "bool") (by rfl) T.f_bool (by decide +kernel) rfl) pa_nil)))))))), ?_⟩
    have q := q H (Ex.refl H)
    cases hv with
    | int i =>
      refine ⟨_, rfl, ?_⟩
      dsimp only [tCons, tC, tNil]
      refine Bas.isi (T := "int") (r := true) (.int i) rfl ?_
      refine ⟨_, rfl, ?_⟩
      refine ite1 rfl ?_
      refine ⟨_, rfl, ?_⟩
      dsimp only [tCons, tC, tNil]
      refine Bas.isi (T := "bool") (r := false) (.int i) rfl ?_
      refine ⟨_, rfl, ?_⟩
      exact q
    | bl b =>
      refine ⟨_, rfl, ?_⟩
      dsimp only [tCons, tC, tNil]
      refine Bas.isi (T := "int") (r := true) (.bl b) rfl ?_
      refine ⟨_, rfl, ?_⟩
      refine ite1 rfl ?_
      refine ⟨_, rfl, ?_⟩
      dsimp only [tCons, tC, tNil]
      refine Bas.isi (T := "bool") (r := true) (.bl b) rfl ?_
      refine ⟨_, rfl, ?_⟩
      exact q
    | non =>
      refine ⟨_, rfl, ?_⟩
      dsimp only [tCons, tC, tNil]
      refine Bas.isi (T := "int") (r := false) .non rfl ?_
      refine ⟨_, rfl, ?_⟩
      exact ite0 (by decide) q
    | str z =>
      refine ⟨_, rfl, ?_⟩
      dsimp only [tCons, tC, tNil]
      refine Bas.isi (T := "int") (r := false) (.str z) rfl ?_
      refine ⟨_, rfl, ?_⟩
      exact ite0 (by decide) q
def spRow (K : PySem.W.Frag) (Pt : Addr) : Sp := fun vs H Q _ => ∃ (v : V) (r : Option (Str × Int)), vs = [v] ∧ RowQ nameB K H v r ∧ TabX H Pt ∧ ∀ H', Ex H H' → Q (.bl r.isSome) H'
abbrev s_is_name_row : Stmt := top 20
abbrev N_is_name_row : List Str := ["value"]
theorem sc_is_name_row : FnScope N_is_name_row ["value"] (defScope s_is_name_row) := ⟨rfl, rfl, rfl, by decide +kernel, rfl, by decide +kernel, by decide +kernel⟩
theorem ok_is_name_row {Pt : Addr} (T : Txt K mg) (T2 : Txt2 K mg) (k_is_type_name : OkC P w K mg base k "is_type_name" ["value"] (spJudge Pt K nameB)) (k_is_whole : OkC P w K mg base k "is_whole" ["value"] spWhole) (F : FunD K "is_name_row" "is_name_row" (defArgs s_is_name_row) (defBody s_is_name_row) (defScope s_is_name_row) [] [] f fd) (hm : mg "is_name_row" = some (.ref f)) :
    OkC P w K mg base (k + 1) "is_name_row" ["value"] (spRow K Pt) := by
  refine okC_of F hm sc_is_name_row (fun _ _ _ _ _ _ us hl => match us, hl with | [_], _ => rfl) (fun vs H Q E h => ?_) (fun cdv A outer s H vs Q E hr h => ?_)
  · obtain ⟨v, o, rfl, _⟩ := h
    rfl
  · obtain ⟨v, r, rfl, hv, hT, q⟩ := h
    obtain ⟨t3, c_MOST_ARGS⟩ := T2.args
    have two : ∀ {t : Addr} {a b : V} (o : Option Str) (p : Option Int), v = .ref t → H t = some (.tup [a, b]) → MayStr K H a o → MayInt b p → (∀ H', Ex H H' → Q (.bl (rowB nameB o p)) H') →
        ∃ t', PSs (cxOf CX0 P w K mg base N_is_name_row "is_name_row" (defScope s_is_name_row) f cdv A outer s H E) (defBody s_is_name_row) t' ∧ t' { nx := fun _ H' => Q .non H', rt := Q } (start N_is_name_row [v]) H := by
      intro t a b o p e ht ha hb q
      subst e
      refine ⟨_, (pss_cons (ps_if (pw_or (pt_not (pt_val (pe_callB call_isi (by rfl) T.f_isinstance (by decide +kernel) (pa_cons (pv 0) (pa_cons (pe_bltn (v := .ty "tuple") (by rfl) T.f_tuple (by decide +kernel) rfl) pa_nil))))) (pw_or1 (pt_cmpR op_ne (pe_callB call_len_seq (by rfl) T.f_len (by decide +kernel) (pa_cons (pv 0) pa_nil)) pe_int (nomark _)))).pt (pss_one (ps_ret pe_bl)) pss_nil) (pss_one (ps_ret (pe_and (pe_callK0 k_is_type_name hr (by rfl) (pa_cons (pe_ix ix_tup (pv 0) pe_int fun _ _ => rfl) pa_nil)) (pe_and (pe_callK0 k_is_whole hr (by rfl) (pa_cons (pe_ix ix_tup (pv 0) pe_int fun _ _ => rfl) pa_nil)) (pe_one (pe_chain op_le op_le pe_int (pe_ix ix_tup (pv 0) pe_int fun _ _ => rfl) (pe_glob (v := .int 3) (by rfl) c_MOST_ARGS ⟨_, rfl⟩)))))))), ?_⟩
      refine ⟨_, rfl, ?_⟩
      dsimp only [tCons, tC, tNil]
      refine Bas.isi (T := "tuple") (r := true) (.tup ht) rfl ?_
      refine ⟨_, rfl, ?_⟩
      refine ite0 (by decide) ?_
      refine ⟨_, rfl, t, _, rfl, .inr (SqT.of ht), rfl, _, rfl, ite0 (by simp) (nx_l ?_)⟩
      refine ret_l ?_
      refine ⟨_, rfl, t, [a, b], 0, a, rfl, rfl, SqT.of ht, atI_nat (j := 0) rfl, a, o, rfl, ha, hT, fun H1 e1 => ⟨_, rfl, ?_⟩⟩
      have ht1 := e1 _ _ ht
      cases hs : onStr nameB o with
      | false =>
        refine ite0 (by decide) ?_
        have y := q _ e1
        rw [show rowB nameB o p = false from by
          cases o with
          | none => rfl
          | some z => simp [rowB]; exact fun h => absurd h (by rw [show nameB z = false from hs]; decide)] at y
        exact y
      | true =>
        refine ite1 rfl ?_
        refine ⟨_, rfl, t, [a, b], 1, b, rfl, rfl, SqT.of ht1, atI_nat (j := 1) rfl, b, p, rfl, hb, fun H2 e2 => ⟨_, rfl, ?_⟩⟩
        have e12 := e1.trans e2
        have ht2 := e12 _ _ ht
        have y := q _ e12
        have ho : ∃ z, o = some z ∧ nameB z = true := by
          cases o with
          | none => cases hs
          | some z => exact ⟨z, rfl, hs⟩
        obtain ⟨z, rfl, hz⟩ := ho
        cases hb with
        | int i =>
          refine ite1 rfl ?_
          refine ⟨_, rfl, t, [a, .int i], 1, .int i, rfl, rfl, SqT.of ht2, atI_nat (j := 1) rfl, _, _, rfl, rfl, _, rfl, ?_⟩
          by_cases h0 : 0 ≤ i
          · refine ite1 (decide_eq_true h0) ⟨_, _, rfl, rfl, ?_⟩
            rw [show rowB nameB (some z) (some i) = decide (i ≤ 3) from by simp [rowB, onInt, hz, h0]] at y
            exact y
          · refine ite0 (by simp; omega) ?_
            rw [show rowB nameB (some z) (some i) = false from by simp [rowB, onInt, hz, h0]] at y
            exact y
        | bl c =>
          refine ite0 (by decide) ?_
          rw [show rowB nameB (some z) none = false from by simp [rowB, onInt]] at y
          exact y
        | non =>
          refine ite0 (by decide) ?_
          rw [show rowB nameB (some z) none = false from by simp [rowB, onInt]] at y
          exact y
        | str c =>
          refine ite0 (by decide) ?_
          rw [show rowB nameB (some z) none = false from by simp [rowB, onInt]] at y
          exact y
    cases hv with
    | other h n =>
      refine ⟨_, (pss_cons (ps_if (pw_or (pt_not (pt_val (pe_callB call_isi (by rfl) T.f_isinstance (by decide +kernel) (pa_cons (pv 0) (pa_cons (pe_bltn (v := .ty "tuple") (by rfl) T.f_tuple (by decide +kernel) rfl) pa_nil))))) (pw_or1 (pt_cmpR op_ne (pe_callB call_len_seq (by rfl) T.f_len (by decide +kernel) (pa_cons (pv 0) pa_nil)) pe_int (nomark _)))).pt (pss_one (ps_ret pe_bl)) pss_nil) (pss_one (ps_ret (pe_and (pe_callK0 k_is_type_name hr (by rfl) (pa_cons (pe_ix ix_tup (pv 0) pe_int fun _ _ => rfl) pa_nil)) (pe_and (pe_callK0 k_is_whole hr (by rfl) (pa_cons (pe_ix ix_tup (pv 0) pe_int fun _ _ => rfl) pa_nil)) (pe_one (pe_chain op_le op_le pe_int (pe_ix ix_tup (pv 0) pe_int fun _ _ => rfl) (pe_glob (v := .int 3) (by rfl) c_MOST_ARGS ⟨_, rfl⟩)))))))), ?_⟩
      refine ⟨_, rfl, ?_⟩
      dsimp only [tCons, tC, tNil]
      refine Bas.isi (T := "tuple") (r := false) h ?_ ?_
      · cases h <;> first
          | rfl
          | exact absurd rfl n
      refine ⟨_, rfl, ite1 (by decide) (ite1 rfl ?_)⟩
      exact q _ (Ex.refl _)
    | @len t xs h n m =>
      refine ⟨_, (pss_cons (ps_if (pw_or (pt_not (pt_val (pe_callB call_isi (by rfl) T.f_isinstance (by decide +kernel) (pa_cons (pv 0) (pa_cons (pe_bltn (v := .ty "tuple") (by rfl) T.f_tuple (by decide +kernel) rfl) pa_nil))))) (pw_or1 (pt_cmpR op_ne (pe_callB call_len_seq (by rfl) T.f_len (by decide +kernel) (pa_cons (pv 0) pa_nil)) pe_int (nomark _)))).pt (pss_one (ps_ret pe_bl)) pss_nil) (pss_one (ps_ret (pe_and (pe_callK0 k_is_type_name hr (by rfl) (pa_cons (pe_ix ix_tup (pv 0) pe_int fun _ _ => rfl) pa_nil)) (pe_and (pe_callK0 k_is_whole hr (by rfl) (pa_cons (pe_ix ix_tup (pv 0) pe_int fun _ _ => rfl) pa_nil)) (pe_one (pe_chain op_le op_le pe_int (pe_ix ix_tup (pv 0) pe_int fun _ _ => rfl) (pe_glob (v := .int 3) (by rfl) c_MOST_ARGS ⟨_, rfl⟩)))))))), ?_⟩
      refine ⟨_, rfl, ?_⟩
      dsimp only [tCons, tC, tNil]
      refine Bas.isi (T := "tuple") (r := true) (.tup h) rfl ?_
      refine ⟨_, rfl, ?_⟩
      refine ite0 (by decide) ?_
      refine ⟨_, rfl, t, _, rfl, .inr (SqT.of h), rfl, _, rfl, ite1 ?_ ?_⟩
      · simp
        omega
      · exact q _ (Ex.refl _)
    | @bad t a b o p h ha hb n => exact two o p rfl h ha hb (by rw [n]; exact q)
    | @good t z i h hz n => exact two (some z) (some i) rfl h (.str z hz) (.int i) (by rw [n]; exact q)
abbrev s_are_name_rows : Stmt := top 21
abbrev N_are_name_rows : List Str := ["value", "row"]
theorem sc_are_name_rows : FnScope N_are_name_rows ["value"] (defScope s_are_name_rows) := ⟨rfl, rfl, rfl, by decide +kernel, rfl, by decide +kernel, by decide +kernel⟩
def goodL (rs : List (Option (Str × Int))) : Bool := decide (rs.length ≤ 24) && (rs.all (·.isSome) && decide ((rs.map fun r => (r.getD ("", 0)).1)).Nodup)
/-- a value that may be a list of names: its items' rows -/
inductive ListQ (K : PySem.W.Frag) (H : Hp) : V → Option (List (Option (Str × Int))) → Prop
  | other {v : V} {s : String} (h : Bas H v s) (n : s ≠ "list") (m : s ≠ "tuple") : ListQ K H v none
  | seq {a : Addr} {xs : List V} {rs : List (Option (Str × Int))} (h : SeqF H a xs) (m : xs.length ≤ 1000) (r : Paired (RowQ nameB K H) xs rs) : ListQ K H (.ref a) (some rs)
def onList : Option (List (Option (Str × Int))) → Bool
  | some rs => goodL rs
  | none => false
theorem ListQ.ext {H H' : Hp} {v : V} {o : Option (List (Option (Str × Int)))} (e : Ex H H') (h : ListQ K H v o) : ListQ K H' v o := by
  cases h with
  | other h n m => exact .other (h.ext e) n m
  | seq h m r => exact .seq (h.ext e) m (Paired.ext (fun _ _ z => z.ext e) r)
def spRows (K : PySem.W.Frag) (Ph Pa : Addr) : Sp := fun vs H Q _ => ∃ (v : V) (o : Option (List (Option (Str × Int)))), vs = [v] ∧ ListQ K H v o ∧ TabX H Ph ∧ TabX H Pa ∧ ∀ H', Ex H H' → Q (.bl (onList o)) H'
theorem ok_are_name_rows {Ph Pt c : Addr} (T : Txt K mg) (T2 : Txt2 K mg) (TB : TabK base mg c Pt) (hcode : fd.code = .ref c) (k_is_name_row : OkC P w K mg base k "is_name_row" ["value"] (spRow K Ph)) (F : FunD K "are_name_rows" "are_name_rows" (defArgs s_are_name_rows) (defBody s_are_name_rows) (defScope s_are_name_rows) [] [] f fd) (hm : mg "are_name_rows" = some (.ref f)) :
    OkC P w K mg base (k + 2) "are_name_rows" ["value"] (spRows K Ph Pt) := by
  refine okT_of F hm hcode sc_are_name_rows (fun _ _ _ _ _ _ us hl => match us, hl with | [_], _ => rfl) (fun vs H Q E h => ?_) (fun cdv hcode A outer s H vs Q E hr h => ?_)
  · obtain ⟨v, o, rfl, _⟩ := h
    rfl
  · obtain ⟨v, o, rfl, hv, hTh, hTa, q⟩ := h
    obtain ⟨t3, c_MOST_NAMES⟩ := T2.names
    refine ⟨_, (pss_cons (ps_if (pw_or (pt_not (pt_val (pe_callB call_isiT (by rfl) T.f_isinstance (by decide +kernel) (pa_cons (pv 0) (pa_cons (pe_tup (pa_cons (pe_bltn (v := .ty "list") (by rfl) T.f_list (by decide +kernel) rfl) (pa_cons (pe_bltn (v := .ty "tuple") (by rfl) T.f_tuple (by decide +kernel) rfl) pa_nil))) pa_nil))))) (pw_or1 (pt_cmpR op_gt (pe_callB call_len_seq (by rfl) T.f_len (by decide +kernel) (pa_cons (pv 0) pa_nil)) (pe_glob (v := .int 24) (by rfl) c_MOST_NAMES ⟨_, rfl⟩) (nomark _)))).pt (pss_one (ps_ret pe_bl)) pss_nil) (pss_cons (ps_if (pt_not (pt_val (pe_allG (own := [("row", 1)]) (g := gName 1) rfl (roomH_of hr) (by rfl) T2.f_all TB hcode sc_are_name_rows.nd (blkOk_by (N := N_are_name_rows) (sc := defScope s_are_name_rows) (by decide +kernel)) (by decide +kernel) rfl rfl (pi_seq (pv 0)) (fun _ _ _ _ _ _ _ => pg_name (i := 1) sc_are_name_rows.nd rfl (Or.inl rfl)) (fun _ _ _ _ _ _ _ hr => (pe_callK0 k_is_name_row hr (by rfl) (pa_cons (pv 1) pa_nil)))))) (pss_one (ps_ret pe_bl)) pss_nil) (pss_one (ps_ret (pe_cmpR op_eq (pe_callB call_lenK (by rfl) T.f_len (by decide +kernel) (pa_cons (pe_scK (own := [("row", 1)]) (g := gName 1) rfl sc_are_name_rows.nd (pi_seq (pv 0)) (blkOk_by (N := N_are_name_rows) (sc := defScope s_are_name_rows) (by decide +kernel)) (fun _ _ _ _ _ => pg_name (i := 1) sc_are_name_rows.nd rfl (Or.inl rfl)) (fun _ _ _ _ _ => pts_nil) (fun _ _ _ _ _ => (pe_ix (show IxR _ (rIxT K) from ix_tup) (pv 1) pe_int fun _ _ => rfl))) pa_nil)) (pe_callB call_len_seq (by rfl) T.f_len (by decide +kernel) (pa_cons (pv 0) pa_nil)) (nomark _)))))), ?_⟩
    cases hv with
    | other h n m =>
      refine ⟨_, rfl, ?_⟩
      dsimp only [tCons, tC, tNil, tTup]
      refine ⟨by decide, fun t ht => ?_⟩
      have e1 := Ex.new (o := .tup [.ty "list", .ty "tuple"]) ht
      refine Bas.isT (T1 := "list") (T2 := "tuple") (r := false) (h.ext e1) upd_same ?_ ?_
      · cases h <;> first
          | rfl
          | exact absurd rfl n
          | exact absurd rfl m
      refine ⟨_, rfl, ite1 (by decide) (ite1 rfl ?_)⟩
      exact q _ e1
    | @seq a xs rs h m r =>
      refine ⟨_, rfl, ?_⟩
      dsimp only [tCons, tC, tNil, tTup]
      refine ⟨by decide, fun t ht => ?_⟩
      have e1 := Ex.new (o := .tup [.ty "list", .ty "tuple"]) ht
      refine SeqF.isT (h.ext e1) upd_same ?_
      refine ⟨_, rfl, ite0 (by decide) ?_⟩
      have h1 := h.ext e1
      have lr := r.length
      refine ⟨_, rfl, a, xs, rfl, h1.len, _, _, rfl, rfl, _, rfl, ?_⟩
      by_cases hl : 24 < xs.length
      · refine ite1 (decide_eq_true (by omega)) ?_
        have y := q _ e1
        rw [show onList (some rs) = false from by simp [onList, goodL]; omega] at y
        exact y
      · refine ite0 (by simp; omega) (nx_l ?_)
        obtain ⟨J, wk, tw⟩ := h1.walk (K := K)
        refine seq_l (ifNotB_l (allG_by (J := J) (n := xs.length) (item := fun i => xs.getD i .non) (fun j => (rs.getD j none).isSome) (by show 1 < 2; decide) (fun R hR => ⟨_, rfl, a, rfl, tw R hR⟩) (hTa.ext e1) wk (fun j H1 R hj e kR => ?_) (fun H1 e => ?_)))
        · obtain ⟨x, y, hx, hy, hq⟩ := paired_at r hj
          refine ⟨_, rfl, x, y, ?_, hq.ext (e1.trans e), hTh.ext (e1.trans e), fun H2 e2 => ?_⟩
          · show [xs.getD j V.non] = [x]
            rw [List.getD_eq_getElem?_getD, hx]
            rfl
          · have z := kR H2 e2
            rw [List.getD_eq_getElem?_getD, hy] at z
            exact z
        · have ea := e1.trans e
          refine ⟨_, rfl, ?_⟩
          have ra := range_all rs none (·.isSome)
          rw [lr, ra]
          cases hg : rs.all (·.isSome) with
          | false =>
            refine ite1 (by decide) ?_
            have y := q _ ea
            rw [show onList (some rs) = false from by simp only [onList, goodL, hg]; simp] at y
            exact y
          | true =>
            refine ite0 (by decide) (nx_l ?_)
            refine ret_l (op_l (call1_l ?_))
            have h2 := h.ext ea
            obtain ⟨J2, wk2, tw2⟩ := h2.walk (K := K)
            have good : ∀ j, j < xs.length → ∃ t z i, xs.getD j .non = .ref t ∧ H1 t = some (.tup [.str z, .int i]) ∧ rs.getD j none = some (z, i) := by
              intro j hj
              obtain ⟨x, y, hx, hy, hq⟩ := paired_at r hj
              have hs : y.isSome = true := List.all_eq_true.mp hg y (List.mem_of_getElem? hy)
              cases hq with
              | other _ _ => cases hs
              | len _ _ _ => cases hs
              | bad _ _ _ _ => cases hs
              | good hh _ _ => exact ⟨_, _, _, by rw [List.getD_eq_getElem?_getD, hx]; rfl, ea _ _ hh, by rw [List.getD_eq_getElem?_getD, hy]; rfl⟩
            refine scK_by (J := J2) (n := xs.length) (item := fun i => xs.getD i .non) (fun j => .inr ((rs.getD j none).getD ("", 0)).1) (by unfold scanBound; omega) (by show 1 < 2; decide) (fun R hR => ⟨_, rfl, a, rfl, tw2 R hR⟩) wk2 (fun j H2 R hj e2 kR => ?_) (fun D H2 S c hD e2 hS hc hcl => ?_)
            · obtain ⟨t2, z, i, hx, ht2, hy⟩ := good j hj
              rw [hy] at kR
              refine ⟨_, rfl, t2, [.str z, .int i], 0, .str z, ?_, rfl, SqT.of (e2 _ _ ht2), atI_nat (j := 0) rfl, kR⟩
              exact hx
            · refine ⟨D, S, c, rfl, hS, call1_l ⟨_, rfl, a, xs, rfl, (h2.ext e2).len, rfl, ?_⟩⟩
              have y := q _ (ea.trans e2)
              rw [show onList (some rs) = decide (V.int (c : Int) = V.int (xs.length : Int)) from by
                have hl2 : rs.length ≤ 24 := by omega
                simp only [onList, goodL, hg, hl2, decide_true, Bool.true_and]
                rw [lr] at hc
                have rm := range_map rs none fun r => (Sum.inr (r.getD ("", 0)).1 : Key)
                rw [rm] at hc
                have hm : rs.map (fun r => (Sum.inr (r.getD ("", 0)).1 : Key)) = (rs.map fun r => (r.getD ("", 0)).1).map Sum.inr := by simp
                rw [hm, nodup_map (fun a b h => by cases h; rfl)] at hc
                refine decide_eq_decide.mpr ⟨fun h => ?_, fun h => hc.mp ?_⟩
                · rw [hc.mpr h, lr]
                · have h : (c : Int) = (xs.length : Int) := by injection h
                  omega] at y
              exact y
end
end D0

namespace D0
open PySem PySem.Spec PyProof.Rows L2 L2H HotX Evl K9
section
variable {P : Program} {w : World} {K : PySem.W.Frag} {mg : Str → Option Value} {base : Heap}
abbrev w_InvalidNames : List (Nat × List Str × List Nat) := [(2, [], [])]
theorem sc_InvalidNames : FnScope ["self", "given"] ["self", "given"] (defScope (inClass (top 2) 0)) := ⟨rfl, rfl, rfl, by decide +kernel, rfl, by decide +kernel, by decide +kernel⟩
theorem ini_InvalidNames (E : Errs K Hd.errs "ChoiceError" Hd.ini Hd.flds) (gl : mg "InvalidNames" = some (.ref (He.ga K "InvalidNames"))) {fd : FuncData} (F : FunD K "__init__" "InvalidNames.__init__" (defArgs (inClass (top 2) 0)) (defBody (inClass (top 2) 0)) (defScope (inClass (top 2) 0)) [] [] (He.fAd K ("InvalidNames", some "__init__")) fd) :
    Ini P w K mg base "InvalidNames" ["given"] w_InvalidNames := by
  have hx : ("InvalidNames" : Str) ∈ Hd.errs := by decide
  have hi : ("InvalidNames" : Str) ∈ Hd.ini := by decide
  refine ⟨E.err _ hx, E.init _ hi, E.fn _ hi, gl, fd, ?_, ?_⟩
  · exact F.ok sc_InvalidNames spErr_len fun cdv A outer s H vs Q E' hr hq => ⟨_, PSs.nox (pss_one (ps_ost (pv 0) (pv 1))), ini1 (E.err _ hx).ox (E.fld _ hx _ (by decide : ("given" : Str) ∈ Hd.flds)) hq⟩
  · refine List.forall_mem_cons.mpr ⟨kbn_of F fun _ _ _ _ _ _ us ws hu hw => match us, ws, hu, hw with | [_, _], [], _, _ => rfl, ?_⟩
    exact fun q hq => absurd hq (by simp)
abbrev w_InvalidKind : List (Nat × List Str × List Nat) := [(2, [], [])]
theorem sc_InvalidKind : FnScope ["self", "given"] ["self", "given"] (defScope (inClass (top 3) 0)) := ⟨rfl, rfl, rfl, by decide +kernel, rfl, by decide +kernel, by decide +kernel⟩
theorem ini_InvalidKind (E : Errs K Hd.errs "ChoiceError" Hd.ini Hd.flds) (gl : mg "InvalidKind" = some (.ref (He.ga K "InvalidKind"))) {fd : FuncData} (F : FunD K "__init__" "InvalidKind.__init__" (defArgs (inClass (top 3) 0)) (defBody (inClass (top 3) 0)) (defScope (inClass (top 3) 0)) [] [] (He.fAd K ("InvalidKind", some "__init__")) fd) :
    Ini P w K mg base "InvalidKind" ["given"] w_InvalidKind := by
  have hx : ("InvalidKind" : Str) ∈ Hd.errs := by decide
  have hi : ("InvalidKind" : Str) ∈ Hd.ini := by decide
  refine ⟨E.err _ hx, E.init _ hi, E.fn _ hi, gl, fd, ?_, ?_⟩
  · exact F.ok sc_InvalidKind spErr_len fun cdv A outer s H vs Q E' hr hq => ⟨_, PSs.nox (pss_one (ps_ost (pv 0) (pv 1))), ini1 (E.err _ hx).ox (E.fld _ hx _ (by decide : ("given" : Str) ∈ Hd.flds)) hq⟩
  · refine List.forall_mem_cons.mpr ⟨kbn_of F fun _ _ _ _ _ _ us ws hu hw => match us, ws, hu, hw with | [_, _], [], _, _ => rfl, ?_⟩
    exact fun q hq => absurd hq (by simp)
end
end D0

namespace D0
open PySem PySem.Spec PyProof.Rows L2 L2H HotX Evl K9
/-- a row's tuple -/
def RowAt (H : Hp) (v : V) (r : Str × Int) : Prop := ∃ t, v = .ref t ∧ H t = some (.tup [.str r.1, .int r.2])
theorem RowAt.ext {H H' : Hp} {v : V} {r : Str × Int} (e : Ex H H') (h : RowAt H v r) : RowAt H' v r := by
  obtain ⟨t, rfl, h⟩ := h
  exact ⟨t, rfl, e _ _ h⟩
/-- an instance of Names that was made of these rows -/
def NamesAt (H : Hp) (C x : Addr) (rs : List (Str × Int)) : Prop := ∃ (dx t c : Addr) (us : List V) (ss : List (Str × Int)), H x = some (.ins C dx [("told", .ref t), ("_counts", .ref c)]) ∧ H t = some (.tup us) ∧ Paired (RowAt H) us ss ∧
  SrtO.Srtd PySem.K9S.lexS ss ∧ ss.Perm rs ∧ H c = some (.dK (rs.map fun r => (.inr r.1, .int r.2)))
theorem NamesAt.ext {H H' : Hp} {C x : Addr} {rs : List (Str × Int)} (e : Ex H H') (h : NamesAt H C x rs) : NamesAt H' C x rs := by
  obtain ⟨dx, t, c, us, ss, h1, h2, h3, h4, h5, h6⟩ := h
  exact ⟨dx, t, c, us, ss, e _ _ h1, e _ _ h2, Paired.ext (fun _ _ z => z.ext e) h3, h4, h5, e _ _ h6⟩
structure Inis (P : Program) (w : World) (K : PySem.W.Frag) (mg : Str → Option Value) (base : Heap) : Prop where
  i_InvalidNames : Ini P w K mg base "InvalidNames" ["given"] w_InvalidNames
structure NClass (K : PySem.W.Frag) (C : Addr) : Prop where
  cls : Cls K C
  told : NoAttr K C "told"
  counts : NoAttr K C "_counts"
section
variable {P : Program} {w : World} {K : PySem.W.Frag} {mg : Str → Option Value} {base : Heap} {f : Addr} {fd : FuncData} {k : Nat}
def spNames (K : PySem.W.Frag) (C Ph Pa : Addr) : Sp := fun vs H Q E => ∃ (x dx : Addr) (v : V) (o : Option (List (Option (Str × Int)))), vs = [.ref x, v] ∧ H x = some (.ins C dx []) ∧ ListQ K H v o ∧ TabX H Ph ∧ TabX H Pa ∧
  (∀ (rs : List (Str × Int)) (H' : Hp), o = some (rs.map some) → onList o = true → (rs.map (·.1)).Nodup → ExB x H H' → NamesAt H' C x rs → Q .non H') ∧
  (onList o = false → ∀ (d : Addr) (H' : Hp), Ex H H' → H' d = some (.xd [("given", v)]) → E (.ref (He.ga K "InvalidNames")) (some d) H')
/-- a good list of names, row by row -/
theorem good_rows {rs : List (Option (Str × Int))} (h : goodL rs = true) : ∃ qs : List (Str × Int), rs = qs.map some ∧ (qs.map (·.1)).Nodup ∧ qs.length ≤ 24 := by
  simp only [goodL, Bool.and_eq_true, decide_eq_true_eq] at h
  obtain ⟨h1, h2, h3⟩ := h
  have e : rs = (rs.map fun r => r.getD ("", 0)).map some := by
    rw [List.map_map]
    refine List.ext_getElem (by simp) fun i h4 h5 => ?_
    have := List.all_eq_true.mp h2 _ (List.getElem_mem h4)
    rw [List.getElem_map]
    cases q : rs[i] with
    | none => rw [q] at this; cases this
    | some r => rfl
  refine ⟨_, e, ?_, by simpa using h1⟩
  rw [List.map_map]
  exact h3
theorem SeqF.exi {H H' : Hp} {a x C dx : Addr} {xs : List V} {fs : List (Str × V)} (e : ExB x H H') (hx : H x = some (.ins C dx fs)) (h : SeqF H a xs) : SeqF H' a xs := by
  refine SeqF.exb e (fun z => ?_) h
  subst z
  rcases h with (h | h) | ⟨o, h⟩ <;> rw [hx] at h <;> cases h
theorem RowAt.exb {H H' : Hp} {x C dx : Addr} {v : V} {r : Str × Int} {fs : List (Str × V)} (e : ExB x H H') (hx : H x = some (.ins C dx fs)) (h : RowAt H v r) : RowAt H' v r := by
  obtain ⟨t, rfl, h⟩ := h
  exact ⟨t, rfl, e _ _ (ne_ins hx h fun _ _ _ z => by cases z) h⟩
/-- what a row's tuple tells -/
def rowKey (H : Hp) : V → Str × Int
  | .ref t => match H t with
    | some (.tup [.str z, .int i]) => (z, i)
    | _ => ("", 0)
  | _ => ("", 0)
theorem RowAt.key {H : Hp} {v : V} {r : Str × Int} (h : RowAt H v r) : rowKey H v = r := by
  obtain ⟨t, rfl, h⟩ := h
  simp [rowKey, h]
theorem rows_of {H : Hp} {K : PySem.W.Frag} {xs : List V} {qs : List (Str × Int)} (r : Paired (RowQ nameB K H) xs (qs.map some)) : Paired (RowAt H) xs qs := by
  induction qs generalizing xs with
  | nil =>
    cases r
    exact .nil
  | cons q qs ih =>
    cases r with
    | cons a b =>
      refine .cons ?_ (ih b)
      cases a with
      | good h _ _ => exact ⟨_, rfl, h⟩
theorem rows_keys {H : Hp} {xs : List V} {qs : List (Str × Int)} (r : Paired (RowAt H) xs qs) : xs.map (rowKey H) = qs := by
  induction r with
  | nil => rfl
  | cons a _ ih => rw [List.map_cons, a.key, ih]
theorem rows_mem {H : Hp} {xs : List V} {qs : List (Str × Int)} (r : Paired (RowAt H) xs qs) : ∀ x ∈ xs, RowAt H x (rowKey H x) := by
  induction r with
  | nil => exact fun x hx => absurd hx (by simp)
  | cons a _ ih =>
    intro x hx
    rcases List.mem_cons.mp hx with rfl | hx
    · rw [a.key]
      exact a
    · exact ih x hx
theorem rows_back {H : Hp} {ys : List V} (h : ∀ x ∈ ys, RowAt H x (rowKey H x)) : Paired (RowAt H) ys (ys.map (rowKey H)) := by
  induction ys with
  | nil => exact .nil
  | cons y ys ih => exact .cons (h y (List.mem_cons_self ..)) (ih fun x hx => h x (List.mem_cons_of_mem _ hx))
abbrev s_Names___init__ : Stmt := (inClass (top 22) 0)
abbrev N_Names___init__ : List Str := ["self", "names", "name", "count"]
theorem sc_Names___init__ : FnScope N_Names___init__ ["self", "names"] (defScope s_Names___init__) := ⟨rfl, rfl, rfl, by decide +kernel, rfl, by decide +kernel, by decide +kernel⟩
theorem fn_Names {C Ph Pa : Addr} (T : Txt K mg) (T2 : Txt2 K mg) (E0 : Errs K Hd.errs "ChoiceError" Hd.ini Hd.flds) (I : Inis P w K mg base) (hk2 : 2 ≤ k) (c : NClass K C)
    (k_are_name_rows : OkC P w K mg base k "are_name_rows" ["value"] (spRows K Ph Pa)) (F : FunD K "__init__" "Names.__init__" (defArgs s_Names___init__) (defBody s_Names___init__) (defScope s_Names___init__) [] [] f fd) :
    FnOk P w K mg base (L2N.CX P w) (k + 1) f fd ["self", "names"] (spNames K C Ph Pa) := by
  refine F.ok sc_Names___init__ (fun vs H Q E h => ?_) fun cdv A outer s H vs Q E hr h => ?_
  · obtain ⟨x, dx, v, o, rfl, _⟩ := h
    rfl
  · obtain ⟨x, dx, v, o, rfl, hx, hv, hTh, hTa, q1, q0⟩ := h
    have tk : L2N.Takes (cxOf (L2N.CX P w) P w K mg base N_Names___init__ "Names.__init__" (defScope s_Names___init__) f cdv A outer s H E) (fun cls d _ H => E cls d H) := L2N.takes_of rfl rfl rfl rfl
    refine ⟨_, (pss_cons (ps_if (pt_not (pt_val (pe_callK0 k_are_name_rows hr (by rfl) (pa_cons (pv 1) pa_nil)))) (pss_one (ps_raise_iniK (n := 1) (ks := []) (ix := []) (K0 := K) tk rfl I.i_InvalidNames (by decide) ((roomH_of hr).mono hk2) rfl (by rfl) (pa_cons (pv 1) pa_nil) pk_nil)) pss_nil) (pss_cons (ps_fld (pv 0) (pe_callTy call_tuple_of (by rfl) T.f_tuple (by decide +kernel) (pa_cons (pe_callB cr_sortedN (by rfl) T2.f_sorted (by decide +kernel) (pa_cons (pv 1) pa_nil)) pa_nil)) rfl) (pss_one (ps_fld (pv 0) (pe_dc (own := [("name", 2), ("count", 3)]) (g := gTup K 2 (gCons (gName 2) (gCons (gName 3) gNil))) rfl sc_Names___init__.nd (pi_seq (pv 1)) (blkOk_by (N := N_Names___init__) (sc := defScope s_Names___init__) (by decide +kernel)) (fun _ _ _ _ _ => pg_tupC (.inl ⟨rfl, rfl⟩) (pgs_cons (pg_name (i := 2) sc_Names___init__.nd rfl (Or.inl rfl)) (pgs_cons (pg_name (i := 3) sc_Names___init__.nd rfl (Or.inl rfl)) pgs_nil))) (fun _ _ _ _ _ => pts_nil) (fun _ _ _ _ _ => (pv 2)) (fun _ _ _ _ _ => (pv 3))) rfl)))), ?_⟩
    refine seq_l (ifNotB_l (callB1_l ⟨v, rfl, v, o, rfl, hv, hTh, hTa, fun H1 e1 => ⟨_, rfl, ?_⟩⟩))
    cases ho : onList o with
    | false =>
      refine ite1 (by decide) ?_
      exact ⟨v, rfl, rfl, rfl, [v], fun _ => rfl, rfl, fun d H3 hd e h => q0 ho d H3 (e1.trans e) h⟩
    | true =>
      refine ite0 (by decide) (nx_l ?_)
      cases hv with
      | other _ _ _ => cases ho
      | @seq a xs rs h m r =>
        obtain ⟨qs, rfl, nd, l24⟩ := good_rows (show goodL rs = true from ho)
        have h1 := h.ext e1
        have r1 : Paired (RowAt H1) xs qs := Paired.ext (fun _ _ z => z.ext e1) (rows_of r)
        have lq := r1.length
        refine seq_l (fld_l (call1_l (call1_l ⟨.ref a, rfl, a, xs, rowKey H1, rfl, h1.len, fun y hy => rows_mem r1 y hy, fun ys p hs hst hp => ⟨p, ys, rfl, .inl ⟨SqL.of upd_same, fun l hl => ⟨.ref x, rfl, x, C, dx, [], rfl, ?_, c.cls, c.told, by decide, ?_⟩⟩⟩⟩)))
        · exact ((e1.trans (Ex.new hp)).trans (Ex.new hl)) _ _ hx
        · have e3 : Ex H (upd (upd H1 p (.lst ys)) l (.tup ys)) := (e1.trans (Ex.new hp)).trans (Ex.new hl)
          have e13 : Ex H1 (upd (upd H1 p (.lst ys)) l (.tup ys)) := (Ex.new hp).trans (Ex.new hl)
          have x3 := e3 _ _ hx
          have h3 := h.ext e3
          have l3 : (upd (upd H1 p (.lst ys)) l (.tup ys)) l = some (.tup ys) := upd_same
          have r3 : Paired (RowAt (upd (upd H1 p (.lst ys)) l (.tup ys))) xs qs := Paired.ext (fun _ _ z => z.ext e13) r1
          have y3 : Paired (RowAt (upd (upd H1 p (.lst ys)) l (.tup ys))) ys (ys.map (rowKey H1)) := Paired.ext (fun _ _ z => z.ext e13) (rows_back fun y hy => rows_mem r1 y (hst.perm.mem_iff.mp hy))
          have sp : (ys.map (rowKey H1)).Perm qs := by
            have z := hst.perm.map (rowKey H1)
            rw [rows_keys r1] at z
            exact z
          have ss : SrtO.Srtd PySem.K9S.lexS (ys.map (rowKey H1)) := SrtO.srtd_map hs
          generalize upd (upd H1 p (.lst ys)) l (.tup ys) = H3 at e3 x3 h3 l3 r3 y3 ⊢
          have b4 : ExB x H3 (upd H3 x (.ins C dx [("told", .ref l)])) := ExB.set
          have x4 : upd H3 x (.ins C dx [("told", .ref l)]) x = some (.ins C dx [("told", .ref l)]) := upd_same
          have h4 := SeqF.exi b4 x3 h3
          have r4 : Paired (RowAt (upd H3 x (.ins C dx [("told", .ref l)]))) xs qs := Paired.ext (fun _ _ z => z.exb b4 x3) r3
          have y4 : Paired (RowAt (upd H3 x (.ins C dx [("told", .ref l)]))) ys (ys.map (rowKey H1)) := Paired.ext (fun _ _ z => z.exb b4 x3) y3
          have l4 := b4 _ _ (ne_ins x3 l3 fun _ _ _ z => by cases z) l3
          have b04 : ExB x H (upd H3 x (.ins C dx [("told", .ref l)])) := (Ex.but e3).trans b4
          show ((_ : Ends).nx _ (upd H3 x (.ins C dx [("told", .ref l)])))
          generalize upd H3 x (.ins C dx [("told", .ref l)]) = H4 at x4 h4 r4 y4 l4 b04 ⊢
          obtain ⟨J, wk, tw⟩ := h4.walk (K := K)
          refine nx_p (fld_l (dc_by (J := J) (n := xs.length) (item := fun i => xs.getD i .non) (fun j => .inr (qs.getD j ("", 0)).1) (fun j => .int (qs.getD j ("", 0)).2) (by have := sizeLine_eq; omega) (fun R hR => ⟨_, rfl, a, rfl, tw R hR⟩) wk (fun j H5 R hj e5 kk => ?_) (fun D H5 hD e5 h5 => ?_)))
          · obtain ⟨v, r, hv, hr, t, rfl, ht⟩ := paired_at r4 hj
            refine ⟨t, _, by rw [List.getD_eq_getElem?_getD, hv]; rfl, SqT.of (e5 _ _ ht), rfl, ?_⟩
            have hq : qs.getD j ("", 0) = r := by rw [List.getD_eq_getElem?_getD, hr]; rfl
            refine ⟨_, _, rfl, _, _, rfl, rfl, ?_⟩
            refine kk ((((L2.start N_Names___init__ [V.ref x, V.ref a]).set 2 none).set 2 (some (.str r.1))).set 3 (some (.int r.2))) rfl (fun H6 R6 z => ⟨_, rfl, ?_⟩) (fun H6 R6 z => ⟨_, rfl, ?_⟩)
            · rw [hq] at z
              exact z
            · rw [hq] at z
              exact z
          · refine ⟨.ref x, rfl, x, C, dx, [("told", .ref l)], rfl, e5 _ _ x4, c.cls, c.counts, (by show 1 < 1000; decide), ?_⟩
            have b5 : ExB x H5 (upd H5 x (.ins C dx [("told", .ref l), ("_counts", .ref D)])) := ExB.set
            have x5 := e5 _ _ x4
            have rm := range_map qs ("", 0) fun r => (Sum.inr r.1 : Key)
            have rm2 := range_map qs ("", 0) fun r => ((Sum.inr r.1 : Key), V.int r.2)
            have nd2 : ((List.range xs.length).map fun j => (Sum.inr (qs.getD j ("", 0)).1 : Key)).Nodup := by
              rw [lq, rm, show qs.map (fun r => (Sum.inr r.1 : Key)) = (qs.map (·.1)).map Sum.inr from by simp, nodup_map fun a b h => by cases h; rfl]
              exact nd
            rw [putAll_eq nd2, lq, rm2] at h5
            refine q1 qs _ rfl ho nd ((b04.trans (Ex.but e5)).trans b5) ⟨dx, l, D, ys, _, upd_same, b5 _ _ (ne_ins x5 (e5 _ _ l4) fun _ _ _ z => by cases z) (e5 _ _ l4), Paired.ext (fun _ _ z => (z.ext e5).exb b5 x5) y4, ss, sp, b5 _ _ (ne_ins x5 h5 fun _ _ _ z => by cases z) h5⟩
def countOf (rs : List (Str × Int)) (z : Str) : Int := ((rs.find? fun r => decide (r.1 = z)).map (·.2)).getD 0
theorem val_count (rs : List (Str × Int)) (z : Str) : (valV (rs.map fun r => ((Sum.inr r.1 : Key), V.int r.2)) (Sum.inr z)).getD (.int 0) = .int (countOf rs z) := by
  induction rs with
  | nil => rfl
  | cons r rs ih =>
    unfold valV countOf at ih ⊢
    rw [List.map_cons, List.find?_cons, List.find?_cons]
    by_cases e : r.1 = z
    · simp [e]
    · have e1 : ¬ (Sum.inr r.1 : Key) = Sum.inr z := fun h => e (by cases h; rfl)
      simp only [e, e1, decide_false]
      exact ih
def spCount (K : PySem.W.Frag) (C : Addr) : Sp := fun vs H Q _ => ∃ (x : Addr) (z : Str) (rs : List (Str × Int)), vs = [.ref x, .str z] ∧ NamesAt H C x rs ∧ Q (.int (countOf rs z)) H
abbrev s_Names_count_of : Stmt := (inClass (top 22) 1)
abbrev N_Names_count_of : List Str := ["self", "name"]
theorem sc_Names_count_of : FnScope N_Names_count_of ["self", "name"] (defScope s_Names_count_of) := ⟨rfl, rfl, rfl, by decide +kernel, rfl, by decide +kernel, by decide +kernel⟩
theorem m_count_of {C : Addr} (c : NClass K C) (M : Meth K C "count_of" f) (F : FunD K "count_of" "Names.count_of" (defArgs s_Names_count_of) (defBody s_Names_count_of) (defScope s_Names_count_of) [] [] f fd) :
    MOk P w K mg base (k + 1) C "count_of" ["self", "name"] ["name"] (spCount K C) := by
  refine ⟨c.cls, f, fd, M, F.ok sc_Names_count_of (fun vs H Q E h => ?_) fun cdv A outer s H vs Q E hr h => ?_, F.bindsN (ps := ["self", "name"]) (fun _ _ _ _ _ _ us hl => match us, hl with | [_, _], _ => rfl), kbn_of F fun _ _ _ _ _ _ us ws hu hw => match us, ws, hu, hw with | [_], [_], _, _ => rfl⟩
  · obtain ⟨x, z, rs, rfl, _⟩ := h
    rfl
  · obtain ⟨x, z, rs, rfl, hN, q⟩ := h
    refine ⟨_, (pss_one (ps_ret (pe_dget2 (huD (roomH_of hr)) (pe_fld (pv 0) rfl) (pv 1) pe_int ⟨rfl, rfl, rfl, rfl⟩))), ?_⟩
    obtain ⟨dx, t, c2, us, ss, h1, h2, h3, h4, h5, h6⟩ := hN
    refine ret_l ?_
    refine ⟨_, rfl, x, C, dx, _, _, rfl, h1, c.cls, c.counts, rfl, c2, rfl, .inl ⟨_, .inl h6⟩, _, rfl, _, DGet.k (k := .inr z) h6, ?_⟩
    rw [val_count]
    exact q
end
end D0

namespace D0
open PySem PySem.Spec PyProof.Rows L2 L2H HotX Evl K9
theorem BoxAt.up {H : Hp} {b : Addr} {n m : Nat} (h : BoxAt H b n) (l : n ≤ m) : BoxAt H b m := by
  obtain ⟨g, x, c, y, h1, h2, h3, h4, h5, h6⟩ := h
  exact ⟨g, x, c, y, h1, h2, h3, h4, h5, by omega⟩
theorem BoxAt.ex {H H' : Hp} {b : Addr} {n : Nat} (e : Ex H H') (h : BoxAt H b n) : BoxAt H' b n := by
  obtain ⟨g, x, c, y, h1, r⟩ := h
  exact ⟨g, x, c, y, e _ _ h1, r⟩
theorem BoxAt.at_ {H : Hp} {b : Addr} {n : Nat} (h : BoxAt H b n) : ∃ xs, H b = some (.lst xs) := by
  obtain ⟨g, x, c, y, h1, r⟩ := h
  exact ⟨_, h1⟩
theorem BoxAt.new {H : Hp} {b D : Addr} {n : Nat} {o : HO} (hD : H D = none) (h : BoxAt H b n) : BoxAt (upd H D o) b n := h.ex (Ex.new hD)
theorem BoxAt.ne {H : Hp} {b D : Addr} {n : Nat} {o : HO} (hD : b ≠ D) (h : BoxAt H b n) : BoxAt (upd H D o) b n := by
  obtain ⟨g, x, c, y, h1, r⟩ := h
  exact ⟨g, x, c, y, by rw [upd_ne hD]; exact h1, r⟩
theorem strs_len {ys : List Str} {n : Nat} (h : ∀ y ∈ ys, y.length ≤ n) : (ys.map (·.length)).sum ≤ ys.length * n := by
  induction ys with
  | nil => simp
  | cons y ys ih =>
    have h1 := h y (List.mem_cons_self ..)
    have h2 := ih fun z hz => h z (List.mem_cons_of_mem _ hz)
    simp only [List.map_cons, List.sum_cons, List.length_cons]
    rw [Nat.succ_mul]
    omega
section
variable {P : Program} {w : World} {K : PySem.W.Frag} {mg : Str → Option Value} {base : Heap} {f : Addr} {fd : FuncData} {k : Nat}
abbrev Take (P : Program) (w : World) (K : PySem.W.Frag) (mg : Str → Option Value) (base : Heap) (k : Nat) : Prop := OkC P w K mg base k "_law_take" ["box", "many"] spTake
/-- take(box, n) -/
theorem take_l {te tn : TE} {σ : L2.St} {H : Hp} {Q : VK} {b : Addr} {n m : Nat} (hb : ∀ R : VK, R (.ref b) H → te σ H R) (hn : ∀ R : VK, R (.int (n : Int)) H → tn σ H R) (h1 : 1 ≤ n) (h2 : n ≤ 1000000) (hm : m ≤ 1000) (hB : BoxAt H b m)
    (h : ∀ (d : Nat) (H' : Hp), d < n → ExB b H H' → BoxAt H' b (m + 1) → Q (.int (d : Int)) H') : tCallB spTake (tCons te (tCons tn tNil)) σ H Q :=
  hb _ (hn _ ⟨b, n, m, rfl, h1, h2, hm, hB, h⟩)
def spSigns : Sp := fun vs H Q _ => ∃ (b : Addr) (z : Str) (n m : Nat), vs = [.ref b, .str z, .int (n : Int)] ∧ 1 ≤ z.length ∧ z.length ≤ 1000 ∧ n ≤ 100 ∧ m + n ≤ 1000 ∧ BoxAt H b m ∧ ∀ (y : Str) (H' : Hp), y.length = n → (∀ c ∈ y.cps.toList, c ∈ z.cps.toList) → ExB b H H' → BoxAt H' b (m + n) → Q (.str y) H'
/-- signs, joined -/
theorem joinL_nil (ps : List (List Nat)) : TL.joinL [] ps = ps.flatten := by
  induction ps with
  | nil => rfl
  | cons p r ih =>
    cases r with
    | nil => simp [TL.joinL]
    | cons q r => rw [show TL.joinL [] (p :: q :: r) = p ++ ([] ++ TL.joinL [] (q :: r)) from rfl, ih]; simp
theorem join_chars {ys : List Str} {S : List Nat} (h : ∀ y ∈ ys, ∃ c, y = ⟨#[c]⟩ ∧ c ∈ S) : (Str.join "" ys).length = ys.length ∧ ∀ c ∈ (Str.join "" ys).cps.toList, c ∈ S := by
  have e : (Str.join "" ys).cps.toList = (ys.map fun y => y.cps.toList).flatten := by
    have z := TL.tl_join "" ys
    rw [show TL.tl "" = [] from rfl, joinL_nil] at z
    exact z
  refine ⟨?_, fun c hc => ?_⟩
  · show (Str.join "" ys).cps.size = _
    rw [← Array.length_toList, e]
    clear e
    induction ys with
    | nil => rfl
    | cons y r ih =>
      obtain ⟨c, rfl, _⟩ := h y (List.mem_cons_self ..)
      have := ih fun z hz => h z (List.mem_cons_of_mem _ hz)
      simp only [List.map_cons, List.flatten_cons, List.length_append, List.length_cons] at this ⊢
      rw [this]
      simp
      omega
  · rw [e] at hc
    obtain ⟨l, hl, hc⟩ := List.mem_flatten.mp hc
    obtain ⟨y, hy, rfl⟩ := List.mem_map.mp hl
    obtain ⟨c', rfl, hc'⟩ := h y hy
    obtain rfl : c = c' := by simpa using hc
    exact hc'
abbrev s_signs : Stmt := top 35
abbrev N_signs : List Str := ["box", "alphabet", "many", "k"]
theorem sc_signs : FnScope N_signs ["box", "alphabet", "many"] (defScope s_signs) := ⟨rfl, rfl, rfl, by decide +kernel, rfl, by decide +kernel, by decide +kernel⟩
theorem ok_signs (T : Txt K mg) (k_take : Take P w K mg base k) (F : FunD K "_law_signs" "_law_signs" (defArgs s_signs) (defBody s_signs) (defScope s_signs) [] [] f fd) (hm : mg "_law_signs" = some (.ref f)) : OkC P w K mg base (k + 1) "_law_signs" ["box", "alphabet", "many"] spSigns := by
  refine okC_of F hm sc_signs (fun _ _ _ _ _ _ us hl => match us, hl with | [_, _, _], _ => rfl) (fun vs H Q E h => ?_) (fun cdv A outer s H vs Q E hr h => ?_)
  · obtain ⟨b, z, n, m, rfl, _⟩ := h
    rfl
  · obtain ⟨b, z, n, m, rfl, hz, hz2, hn, hm, hB, q⟩ := h
    refine ⟨_, (pss_one (ps_ret (pe_join pe_str (pe_lc (own := [("k", 3)]) (g := gName 3) rfl sc_signs.nd (pi_range1 (by rfl) T.f_range (pa_cons (pv 2) pa_nil)) (blkOk_by (N := N_signs) (sc := defScope s_signs) (by decide +kernel)) (fun _ _ _ _ _ => pg_name (i := 3) sc_signs.nd rfl (Or.inl rfl)) (fun _ _ _ _ _ => pts_nil) (fun _ _ _ _ _ => (pe_ix ix_str (pv 1) (pe_callK0 k_take hr (by rfl) (pa_cons (pv 0) (pa_cons (pe_callB call_len_str (by rfl) T.f_len (by decide +kernel) (pa_cons (pv 1) pa_nil)) pa_nil))) fun _ _ => rfl)))))), ?_⟩
    obtain ⟨xs0, hb0⟩ := hB.at_
    refine ret_l ⟨⟨_, rfl⟩, ?_⟩
    refine lcB_by (b := b) (J := Itr 0 n) (n := n) (item := fun i => .int (i : Int)) (fun j acc H1 => BoxAt H1 b (m + j) ∧ ∃ ys : List Str, acc = ys.map V.str ∧ ∀ y ∈ ys, ∃ c, y = ⟨#[c]⟩ ∧ c ∈ z.cps.toList) (by have := sizeLine_eq; omega) (by show 3 < 4; decide) hb0 ?_ walksB_rng0 (fun D j acc H1 o hD hp => ⟨hp.1.ne (ne_of_none hb0 hD), hp.2⟩) ⟨hB, [], rfl, by simp⟩ (fun j acc H1 C hj e hp kk => ?_) (fun D acc H1 hD e h1 hp hl => ?_)
    · exact fun R h => ⟨_, rfl, n, rfl, by omega, by omega, h⟩
    · obtain ⟨hB1, ys, rfl, hy⟩ := hp
      refine op_l ⟨_, rfl, take_l (b := b) (n := z.length) (m := m + j) (fun R r => ⟨_, rfl, r⟩) (fun R r => ⟨_, rfl, z, rfl, Nat.le_trans hz2 sz1000, r⟩) hz (by omega) (by omega) hB1 fun d H2 hd e2 hB2 => ?_⟩
      have hd2 : d < z.cps.size := hd
      refine ⟨z, (d : Int), z.cps.getD d 0, rfl, rfl, Nat.le_trans hz2 sz1000, atI_nat (j := d) (by rw [Array.getElem?_toList]; simp [Array.getD_eq_getD_getElem?, Array.getElem?_eq_getElem hd2]), ?_⟩
      refine kk _ _ e2 ⟨hB2, ys ++ [⟨#[z.cps.getD d 0]⟩], by simp, fun y h => ?_⟩
      rcases List.mem_append.mp h with h | h
      · exact hy y h
      · rw [List.mem_singleton.mp h]
        exact ⟨_, rfl, by simp [Array.getD_eq_getD_getElem?, Array.getElem?_eq_getElem hd2]⟩
    · obtain ⟨hB1, ys, rfl, hy⟩ := hp
      have hl2 : ys.length = n := by simpa using hl
      have hj := join_chars hy
      rw [← TL.join_eq] at hj
      have l1 := strs_len (n := 1) (ys := ys) fun y hy2 => by
        obtain ⟨c, rfl, _⟩ := hy y hy2
        exact Nat.le_refl _
      refine ⟨_, D, ys, rfl, rfl, .inl (SqL.of h1), ?_, q _ _ (hj.1.trans hl2) hj.2 e hB1⟩
      show (ys.map (·.length)).sum + ys.length * (0 : Nat) ≤ 16777216
      omega
end
end D0

namespace D0
open PySem PySem.Spec PyProof.Rows L2 L2H HotX Evl K9
section
variable {P : Program} {w : World} {K : PySem.W.Frag} {mg : Str → Option Value} {base : Heap} {f : Addr} {fd : FuncData} {k : Nat}
/-- a value's whole number, if it is one -/
def isInt : V → Option Int
  | .int i => some i
  | _ => none
def spWholeV : Sp := fun vs H Q _ => ∃ (v : V) (s : String), vs = [v] ∧ Bas H v s ∧ ∀ H', Ex H H' → Q (.bl (isInt v).isSome) H'
theorem ok_is_wholeV (T : Txt K mg) (F : FunD K "is_whole" "is_whole" (defArgs s_is_whole) (defBody s_is_whole) (defScope s_is_whole) [] [] f fd) (hm : mg "is_whole" = some (.ref f)) : OkC P w K mg base (k + 1) "is_whole" ["value"] spWholeV := by
  refine okC_of F hm sc_is_whole (fun _ _ _ _ _ _ us hl => match us, hl with | [_], _ => rfl) (fun vs H Q E h => ?_) (fun cdv A outer s H vs Q E hr h => ?_)
  · obtain ⟨v, s, rfl, _⟩ := h
    rfl
  · obtain ⟨v, s, rfl, hv, q⟩ := h
    refine ⟨_, (pss_one (ps_ret (pe_and (pe_callB call_isi (by rfl) T.f_isinstance (by decide +kernel) (pa_cons (pv 0) (pa_cons (pe_bltn (v := .ty "int") (by rfl) T.f_int (by decide +kernel) rfl) pa_nil))) (pe_one (pe_not (pe_callB call_isi (by rfl) T.f_isinstance (by decide +kernel) (pa_cons (pv 0) (pa_cons (pe_bltn (v := .ty "bool") (by rfl) T.f_bool (by decide +kernel) rfl) pa_nil)))))))), ?_⟩
    have q := q H (Ex.refl H)
    refine ⟨_, rfl, ?_⟩
    dsimp only [tCons, tC, tNil]
    cases hv with
    | int i =>
      refine Bas.isi (T := "int") (r := true) (.int i) rfl ⟨_, rfl, ite1 rfl ?_⟩
      refine ⟨_, rfl, ?_⟩
      dsimp only [tCons, tC, tNil]
      refine Bas.isi (T := "bool") (r := false) (.int i) rfl ⟨_, rfl, ?_⟩
      exact q
    | bl b =>
      refine Bas.isi (T := "int") (r := true) (.bl b) rfl ⟨_, rfl, ite1 rfl ?_⟩
      refine ⟨_, rfl, ?_⟩
      dsimp only [tCons, tC, tNil]
      refine Bas.isi (T := "bool") (r := true) (.bl b) rfl ⟨_, rfl, ?_⟩
      exact q
    | non => exact Bas.isi (T := "int") (r := false) .non rfl ⟨_, rfl, ite0 (by decide) q⟩
    | str z => exact Bas.isi (T := "int") (r := false) (.str z) rfl ⟨_, rfl, ite0 (by decide) q⟩
    | lst h => exact Bas.isi (T := "int") (r := false) (.lst h) rfl ⟨_, rfl, ite0 (by decide) q⟩
    | tup h => exact Bas.isi (T := "int") (r := false) (.tup h) rfl ⟨_, rfl, ite0 (by decide) q⟩
    | dK h => exact Bas.isi (T := "int") (r := false) (.dK h) rfl ⟨_, rfl, ite0 (by decide) q⟩
def numB (l : Int) : Option Int → Bool
  | some i => decide (l ≤ i) && decide (i ≤ 1000000000000000000000000)
  | none => false
def spNumber : Sp := fun vs H Q _ => ∃ (v : V) (s : String) (l : Int), vs = [v, .int l] ∧ Bas H v s ∧ ∀ H', Ex H H' → Q (.bl (numB l (isInt v))) H'
abbrev s_is_number : Stmt := top 19
abbrev N_is_number : List Str := ["value", "least"]
theorem sc_is_number : FnScope N_is_number ["value", "least"] (defScope s_is_number) := ⟨rfl, rfl, rfl, by decide +kernel, rfl, by decide +kernel, by decide +kernel⟩
theorem ok_is_number (c_GREATEST : ∃ t, mg "GREATEST" = some (.int 1000000000000000000000000 t)) (k_is_whole : OkC P w K mg base k "is_whole" ["value"] spWholeV) (F : FunD K "is_number" "is_number" (defArgs s_is_number) (defBody s_is_number) (defScope s_is_number) [] [] f fd) (hm : mg "is_number" = some (.ref f)) : OkC P w K mg base (k + 1) "is_number" ["value", "least"] spNumber := by
  refine okC_of F hm sc_is_number (fun _ _ _ _ _ _ us hl => match us, hl with | [_, _], _ => rfl) (fun vs H Q E h => ?_) (fun cdv A outer s H vs Q E hr h => ?_)
  · obtain ⟨v, s, l, rfl, _⟩ := h
    rfl
  · obtain ⟨v, s, l, rfl, hv, q⟩ := h
    obtain ⟨t, c_GREATEST⟩ := c_GREATEST
    refine ⟨_, (pss_one (ps_ret (pe_and (pe_callK0 k_is_whole hr (by rfl) (pa_cons (pv 0) pa_nil)) (pe_one (pe_chain op_le op_le (pv 1) (pv 0) (pe_glob (v := .int 1000000000000000000000000) (by rfl) c_GREATEST ⟨_, rfl⟩)))))), ?_⟩
    refine ret_l ⟨_, rfl, v, s, rfl, hv, fun H1 e1 => ⟨_, rfl, ?_⟩⟩
    have q1 := q H1 e1
    revert q1
    cases hi : isInt v with
    | none =>
      intro q1
      exact ite0 (by decide) q1
    | some i =>
      intro q1
      obtain rfl : v = .int i := by
        cases v with
        | int j => rw [Option.some.inj hi]
        | _ => cases hi
      refine ite1 rfl ⟨_, rfl, _, rfl, _, _, rfl, rfl, _, rfl, ?_⟩
      by_cases h0 : l ≤ i
      · refine ite1 (decide_eq_true h0) ⟨_, _, rfl, rfl, ?_⟩
        rw [show numB l (some i) = decide (i ≤ 1000000000000000000000000) from by simp [numB, h0]] at q1
        exact q1
      · refine ite0 (by simpa using h0) ?_
        rw [show numB l (some i) = false from by simp [numB, h0]] at q1
        exact q1
end
end D0

namespace D0
open PySem PySem.Spec PyProof.Rows L2 L2H HotX Evl K9
theorem huE {k : Nat} {A : Around} (hr : RoomH k A) : A.units < cLine := by
  have := huC hr
  omega
theorem huF {k : Nat} {A : Around} (hr : RoomH k A) : A.units + 1 < cLine := by
  have := huC hr
  omega
theorem RdL.two {H : Hp} {vs : List V} {ts : List Tr} (h : RdL H vs ts) (l : vs.length = 2) : ∃ v0 v1 t0 t1, vs = [v0, v1] ∧ ts = [t0, t1] ∧ Rd H v0 t0 ∧ Rd H v1 t1 := by
  cases h with
  | nil => cases l
  | cons a h => cases h with
    | nil => cases l
    | cons b h => cases h with
      | nil => exact ⟨_, _, _, _, rfl, rfl, a, b⟩
      | cons c h => simp at l
theorem RdL.three {H : Hp} {vs : List V} {ts : List Tr} (h : RdL H vs ts) (l : vs.length = 3) : ∃ v0 v1 v2 t0 t1 t2, vs = [v0, v1, v2] ∧ ts = [t0, t1, t2] ∧ Rd H v0 t0 ∧ Rd H v1 t1 ∧ Rd H v2 t2 := by
  cases h with
  | nil => cases l
  | cons a h => obtain ⟨v1, v2, t1, t2, rfl, rfl, b, c⟩ := RdL.two h (by simpa using l); exact ⟨_, _, _, _, _, _, rfl, rfl, a, b, c⟩
theorem RdL.four {H : Hp} {vs : List V} {ts : List Tr} (h : RdL H vs ts) (l : vs.length = 4) : ∃ v0 v1 v2 v3 t0 t1 t2 t3, vs = [v0, v1, v2, v3] ∧ ts = [t0, t1, t2, t3] ∧ Rd H v0 t0 ∧ Rd H v1 t1 ∧ Rd H v2 t2 ∧ Rd H v3 t3 := by
  cases h with
  | nil => cases l
  | cons a h => obtain ⟨v1, v2, v3, t1, t2, t3, rfl, rfl, b, c, d⟩ := RdL.three h (by simpa using l); exact ⟨_, _, _, _, _, _, _, _, rfl, rfl, a, b, c, d⟩
structure Txt3 (K : PySem.W.Frag) (mg : Str → Option Value) : Prop where
  f_zip : mg "zip" = none
  f_ord : mg "ord" = none
  signs : ∃ t, mg "MOST_SIGNS" = some (.int 4000 t)
  deep : ∃ t, mg "MOST_DEEP" = some (.int 200 t)
  great : ∃ t, mg "GREATEST" = some (.int 1000000000000000000000000 t)
/-! ### what a node is: the variable in it, the types directly in it -/
abbrev Parts := Option (Option Str × List Tr)
def onCnt (cnt : Str → Int) : Option Str → Int
  | some z => cnt z
  | none => 0
def tInt : Tr → Option Int
  | .int i => some i
  | _ => none
theorem Rd.int? {H : Hp} {v : V} {t : Tr} (h : Rd H v t) : isInt v = tInt t := by
  cases h <;> rfl
def varT (t : Tr) : Bool := onStr varB t.str?
def nameT (t : Tr) : Bool := onStr nameB t.str?
def typeP (cnt : Str → Int) : List Tr → Parts
  | [a, b] => if (a.isS "var" && varT b) = true then some (b.str?, []) else none
  | [a, b, .tup as] => if (a.isS "type" && (nameT b && decide ((as.length : Int) = onCnt cnt b.str?))) = true then some (none, as) else none
  | _ => none
def formP : List Tr → Parts
  | [a, b, c, d] => if ((a.isS "form" && varT c) && (numB 1 (tInt b) && numB 0 (tInt d))) = true then some (c.str?, []) else none
  | _ => none
def isNon : Tr → Bool
  | .non => true
  | _ => false
def listP : List Tr → Parts
  | [a, .tup as, c] => if (a.isS "list" && (isNon c || varT c)) = true then some (c.str?, as) else none
  | _ => none
def partsR (cnt : Str → Int) (kind : Str) : Tr → Parts
  | .tup ts => if kind = "num" then formP ts else if kind = "type" then typeP cnt ts else listP ts
  | _ => none
def partsT (cnt : Str → Int) (kind : Str) (t : Tr) : Parts := if (decide (kind = "num") && numB 0 (tInt t)) = true then some (none, []) else partsR cnt kind t
def ov : Option Str → V
  | some z => .str z
  | none => .non
def PartsAt (H : Hp) (v : V) : Parts → Prop
  | none => v = .non
  | some (x, as) => ∃ p a us, v = .ref p ∧ H p = some (.tup [ov x, .ref a]) ∧ H a = some (.tup us) ∧ RdL H us as
theorem typeP_len {cnt : Str → Int} {ts : List Tr} (h2 : ts.length ≠ 2) (h3 : ts.length ≠ 3) : typeP cnt ts = none := by
  unfold typeP
  split <;> simp_all
theorem typeP_3 {cnt : Str → Int} {a b c : Tr} (h : c.ty ≠ "tuple") : typeP cnt [a, b, c] = none := by
  cases c <;> first | rfl | exact absurd rfl h
theorem ovT {H : Hp} {v : V} {t : Tr} {z : Str} (h : Rd H v t) (e : t.str? = some z) : v = .str z := by
  cases h <;> simp [Tr.str?] at e
  rw [e]
section
variable {P : Program} {w : World} {K : PySem.W.Frag} {mg : Str → Option Value} {base : Heap} {f : Addr} {fd : FuncData} {k : Nat}
def spTypeP (K : PySem.W.Frag) (C Pt : Addr) : Sp := fun vs H Q _ => ∃ (a x : Addr) (us : List V) (ts : List Tr) (rs : List (Str × Int)), vs = [.ref a, .ref x] ∧ H a = some (.tup us) ∧ RdL H us ts ∧ NamesAt H C x rs ∧ TabX H Pt ∧
  ∀ (v : V) (H' : Hp), Ex H H' → PartsAt H' v (typeP (countOf rs) ts) → Q v H'
abbrev s_type_parts : Stmt := top 23
abbrev N_type_parts : List Str := ["value", "names", "args"]
theorem sc_type_parts : FnScope N_type_parts ["value", "names"] (defScope s_type_parts) := ⟨rfl, rfl, rfl, by decide +kernel, rfl, by decide +kernel, by decide +kernel⟩
theorem ok_type_parts {C Pt : Addr} (T : Txt K mg) (k_is_type_name : OkC P w K mg base k "is_type_name" ["value"] (spJudge Pt K nameB)) (k_is_variable : OkC P w K mg base k "is_variable" ["value"] (spJudge Pt K varB))
    (m_count_of : MOk P w K mg base k C "count_of" ["self", "name"] ["name"] (spCount K C)) (F : FunD K "type_parts" "type_parts" (defArgs s_type_parts) (defBody s_type_parts) (defScope s_type_parts) [] [] f fd) (hm : mg "type_parts" = some (.ref f)) :
    OkC P w K mg base (k + 1) "type_parts" ["value", "names"] (spTypeP K C Pt) := by
  refine okC_of F hm sc_type_parts (fun _ _ _ _ _ _ us hl => match us, hl with | [_, _], _ => rfl) (fun vs H Q E h => ?_) (fun cdv A outer s H vs Q E hr h => ?_)
  · obtain ⟨a, x, us, ts, rs, rfl, _⟩ := h
    rfl
  · obtain ⟨a, x, us, ts, rs, rfl, ha, hrd, hN, hT, q⟩ := h
    refine ⟨_, (pss_cons (ps_if (pt_cmpR op_eq (pe_callB call_len_seq (by rfl) T.f_len (by decide +kernel) (pa_cons (pv 0) pa_nil)) pe_int (nomark _)) (pss_one (ps_ret (pe_ifExp (pw_and (pt_cmpR (op_eqS (huE (roomH_of hr))) (pe_ix ix_tup (pv 0) pe_int fun _ _ => rfl) pe_str (nomark _)) (pw_and1 (pt_val (pe_callK0 k_is_variable hr (by rfl) (pa_cons (pe_ix ix_tup (pv 0) pe_int fun _ _ => rfl) pa_nil))))).pt (pe_tup (pa_cons (pe_ix ix_tup (pv 0) pe_int fun _ _ => rfl) (pa_cons (pe_tup pa_nil) pa_nil))) pe_non))) pss_nil) (pss_cons (ps_if (pw_or (pt_cmpR op_ne (pe_callB call_len_seq (by rfl) T.f_len (by decide +kernel) (pa_cons (pv 0) pa_nil)) pe_int (nomark _)) (pw_or (pt_cmpR (op_neS (huE (roomH_of hr))) (pe_ix ix_tup (pv 0) pe_int fun _ _ => rfl) pe_str (nomark _)) (pw_or1 (pt_not (pt_val (pe_callK0 k_is_type_name hr (by rfl) (pa_cons (pe_ix ix_tup (pv 0) pe_int fun _ _ => rfl) pa_nil))))))).pt (pss_one (ps_ret pe_non)) pss_nil) (pss_cons (ps_set (i := 2) sc_type_parts.nd rfl (Or.inl rfl) (pe_ix ix_tup (pv 0) pe_int fun _ _ => rfl)) (pss_cons (ps_if (pw_or (pt_not (pt_val (pe_callB call_isi (by rfl) T.f_isinstance (by decide +kernel) (pa_cons (pv 2) (pa_cons (pe_bltn (v := .ty "tuple") (by rfl) T.f_tuple (by decide +kernel) rfl) pa_nil))))) (pw_or1 (pt_cmpR op_ne (pe_callB call_len_seq (by rfl) T.f_len (by decide +kernel) (pa_cons (pv 2) pa_nil)) (pe_methM m_count_of hr (pv 1) (pa_cons (pe_ix ix_tup (pv 0) pe_int fun _ _ => rfl) pa_nil)) (nomark _)))).pt (pss_one (ps_ret pe_non)) pss_nil) (pss_one (ps_ret (pe_tup (pa_cons pe_non (pa_cons (pv 2) pa_nil))))))))), ?_⟩
    have lt := hrd.len
    refine seq_l ?_
    refine ⟨_, rfl, a, us, rfl, .inr (SqT.of ha), rfl, _, rfl, ?_⟩
    by_cases h2 : us.length = 2
    · obtain ⟨v0, v1, t0, t1, rfl, rfl, r0, r1⟩ := RdL.two hrd h2
      refine ite1 (by simp) ?_
      refine ret_l ?_
      refine ⟨_, rfl, a, _, 0, v0, rfl, rfl, SqT.of ha, atI_nat (j := 0) rfl, _, _, r0.bas, rfl, _, rfl, ?_⟩
      rw [r0.eqS]
      cases h0 : t0.isS "var" with
      | false =>
        refine ite0 (by decide) ?_
        exact q _ _ (Ex.refl _) (by simp [PartsAt, typeP, h0])
      | true =>
        refine ite1 rfl ⟨_, rfl, a, _, 1, v1, rfl, rfl, SqT.of ha, atI_nat (j := 1) rfl, v1, _, rfl, r1.may, hT, fun H1 e1 => ⟨_, rfl, ?_⟩⟩
        cases h1 : varT t1 with
        | false =>
          have h1' : onStr varB t1.str? = false := h1
          rw [h1']
          exact ite0 (by decide) (q _ _ e1 (by simp [PartsAt, typeP, h1]))
        | true =>
          have h1' : onStr varB t1.str? = true := h1
          rw [h1']
          refine ite1 rfl ⟨_, rfl, a, _, 1, v1, rfl, rfl, SqT.of (e1 _ _ ha), atI_nat (j := 1) rfl, by show 0 ≤ sizeLine; decide, fun p hp => ⟨by show 2 ≤ sizeLine; decide, fun r hr => ?_⟩⟩
          refine q _ _ (e1.trans ((Ex.new hp).trans (Ex.new hr))) ?_
          have et : typeP (countOf rs) [t0, t1] = some (t1.str?, []) := by simp [typeP, h0, h1]
          rw [et]
          cases hz : t1.str? with
          | none => rw [hz] at h1'; cases h1'
          | some z =>
            rw [ovT r1 hz] at *
            exact ⟨r, p, [], rfl, upd_same, (Ex.new hr) _ _ upd_same, .nil⟩
    · refine ite0 (by simp; omega) (nx_l (seq_l ?_))
      refine ⟨_, rfl, a, us, rfl, .inr (SqT.of ha), rfl, _, rfl, ?_⟩
      by_cases h3 : us.length = 3
      · obtain ⟨v0, v1, v2, t0, t1, t2, rfl, rfl, r0, r1, r2⟩ := RdL.three hrd h3
        refine ite0 (by simp) ?_
        refine ⟨_, rfl, a, _, 0, v0, rfl, rfl, SqT.of ha, atI_nat (j := 0) rfl, _, _, r0.bas, rfl, _, rfl, ?_⟩
        rw [r0.eqS]
        cases h0 : t0.isS "type" with
        | false =>
          refine ite1 rfl (ite1 rfl ?_)
          refine q _ _ (Ex.refl _) ?_
          have : typeP (countOf rs) [t0, t1, t2] = none := by cases t2 <;> simp [typeP, h0]
          rw [this]
          rfl
        | true =>
          refine ite0 (by decide) ⟨_, rfl, a, _, 1, v1, rfl, rfl, SqT.of ha, atI_nat (j := 1) rfl, v1, _, rfl, r1.may, hT, fun H1 e1 => ⟨_, rfl, ?_⟩⟩
          cases h1 : nameT t1 with
          | false =>
            have h1' : onStr nameB t1.str? = false := h1
            rw [h1']
            refine ite1 rfl ?_
            refine q _ _ e1 ?_
            have : typeP (countOf rs) [t0, t1, t2] = none := by cases t2 <;> simp [typeP, h1]
            rw [this]
            rfl
          | true =>
            have h1' : onStr nameB t1.str? = true := h1
            rw [h1']
            refine ite0 (by decide) (nx_l (seq_l (asg_l ?_)))
            refine ⟨_, rfl, a, _, 2, v2, rfl, rfl, SqT.of (e1 _ _ ha), atI_nat (j := 2) rfl, nx_p (seq_l ?_)⟩
            refine ⟨_, rfl, ?_⟩
            dsimp only [tCons, tC, tNil]
            by_cases hty : t2.ty = "tuple"
            · obtain ⟨a2, us2, ts2, rfl, rfl, ha2, rr2⟩ := Rd.tup_of r2 hty
              refine Bas.isi (T := "tuple") (r := true) (.tup (e1 _ _ ha2)) rfl ⟨_, rfl, ite0 (by decide) ?_⟩
              refine ⟨_, rfl, a2, us2, rfl, .inr (SqT.of (e1 _ _ ha2)), ?_⟩
              cases hz : t1.str? with
              | none => rw [hz] at h1'; cases h1'
              | some z =>
                rw [ovT r1 hz] at *
                obtain ⟨dx, t', c2, us', ss, hx, rest⟩ := id hN
                refine ⟨_, rfl, x, _, _, rfl, e1 _ _ hx, rfl, _, rfl, a, _, 1, .str z, rfl, rfl, SqT.of (e1 _ _ ha), atI_nat (j := 1) rfl, _, rfl, x, z, rs, rfl, hN.ext e1, rfl, _, rfl, ?_⟩
                have l2 := rr2.len
                by_cases hc : (us2.length : Int) = countOf rs z
                · refine ite0 (by simp [hc]) (nx_l (ret_l ⟨_, rfl, by show 2 ≤ sizeLine; decide, fun r hr => ?_⟩))
                  refine q _ _ (e1.trans (Ex.new hr)) ?_
                  have et : typeP (countOf rs) [t0, t1, .tup ts2] = some (none, ts2) := by simp [typeP, h0, h1, hz, onCnt, ← l2, hc]
                  rw [et]
                  exact ⟨r, a2, us2, rfl, upd_same, (e1.trans (Ex.new hr)) _ _ ha2, rr2.ext (e1.trans (Ex.new hr))⟩
                · refine ite1 (by simp [hc]) ?_
                  refine q _ _ e1 ?_
                  have et : typeP (countOf rs) [t0, t1, .tup ts2] = none := by simp [typeP, hz, onCnt, ← l2, hc]
                  rw [et]
                  rfl
            · refine Bas.isi (T := "tuple") (r := false) (r2.bas.ext e1) ?_ ⟨_, rfl, ite1 rfl (q _ _ e1 ?_)⟩
              · cases r2 <;> first | rfl | exact absurd rfl hty
              · rw [typeP_3 hty]
                rfl
      · refine ite1 (by simp; omega) (ite1 rfl ?_)
        refine q _ _ (Ex.refl _) ?_
        rw [typeP_len (by omega) (by omega)]
        rfl
end
end D0

namespace D0
open PySem PySem.Spec PyProof.Rows L2 L2H HotX Evl K9
theorem formP_len {ts : List Tr} (h : ts.length ≠ 4) : formP ts = none := by
  unfold formP
  split <;> simp_all
theorem listP_len {ts : List Tr} (h : ts.length ≠ 3) : listP ts = none := by
  unfold listP
  split <;> simp_all
theorem listP_3 {a b c : Tr} (h : b.ty ≠ "tuple") : listP [a, b, c] = none := by
  cases b <;> first | rfl | exact absurd rfl h
theorem not_tup {H : Hp} {v : V} {t : Tr} {K : PySem.W.Frag} (h : Rd H v t) (n : t.ty ≠ "tuple") : PySem.W.kitOne K (.type t.ty) (.type "tuple") = some false := by
  cases h <;> first | rfl | exact absurd rfl n
section
variable {P : Program} {w : World} {K : PySem.W.Frag} {mg : Str → Option Value} {base : Heap} {f : Addr} {fd : FuncData} {k : Nat}
def spTup (Pt : Addr) (g : List Tr → Parts) : Sp := fun vs H Q _ => ∃ (a : Addr) (us : List V) (ts : List Tr), vs = [.ref a] ∧ H a = some (.tup us) ∧ RdL H us ts ∧ TabX H Pt ∧ ∀ (v : V) (H' : Hp), Ex H H' → PartsAt H' v (g ts) → Q v H'
abbrev s_form_parts : Stmt := top 24
abbrev N_form_parts : List Str := ["value"]
theorem sc_form_parts : FnScope N_form_parts ["value"] (defScope s_form_parts) := ⟨rfl, rfl, rfl, by decide +kernel, rfl, by decide +kernel, by decide +kernel⟩
theorem ok_form_parts {Pt : Addr} (T : Txt K mg) (k_is_number : OkC P w K mg base k "is_number" ["value", "least"] spNumber) (k_is_variable : OkC P w K mg base k "is_variable" ["value"] (spJudge Pt K varB)) (F : FunD K "form_parts" "form_parts" (defArgs s_form_parts) (defBody s_form_parts) (defScope s_form_parts) [] [] f fd) (hm : mg "form_parts" = some (.ref f)) :
    OkC P w K mg base (k + 1) "form_parts" ["value"] (spTup Pt formP) := by
  refine okC_of F hm sc_form_parts (fun _ _ _ _ _ _ us hl => match us, hl with | [_], _ => rfl) (fun vs H Q E h => ?_) (fun cdv A outer s H vs Q E hr h => ?_)
  · obtain ⟨a, us, ts, rfl, _⟩ := h
    rfl
  · obtain ⟨a, us, ts, rfl, ha, hrd, hT, q⟩ := h
    refine ⟨_, (pss_cons (ps_if (pw_or (pt_cmpR op_ne (pe_callB call_len_seq (by rfl) T.f_len (by decide +kernel) (pa_cons (pv 0) pa_nil)) pe_int (nomark _)) (pw_or (pt_cmpR (op_neS (huE (roomH_of hr))) (pe_ix ix_tup (pv 0) pe_int fun _ _ => rfl) pe_str (nomark _)) (pw_or1 (pt_not (pt_val (pe_callK0 k_is_variable hr (by rfl) (pa_cons (pe_ix ix_tup (pv 0) pe_int fun _ _ => rfl) pa_nil))))))).pt (pss_one (ps_ret pe_non)) pss_nil) (pss_one (ps_ret (pe_ifExp (pw_and (pt_val (pe_callK0 k_is_number hr (by rfl) (pa_cons (pe_ix ix_tup (pv 0) pe_int fun _ _ => rfl) (pa_cons pe_int pa_nil)))) (pw_and1 (pt_val (pe_callK0 k_is_number hr (by rfl) (pa_cons (pe_ix ix_tup (pv 0) pe_int fun _ _ => rfl) (pa_cons pe_int pa_nil)))))).pt (pe_tup (pa_cons (pe_ix ix_tup (pv 0) pe_int fun _ _ => rfl) (pa_cons (pe_tup pa_nil) pa_nil))) pe_non)))), ?_⟩
    have lt := hrd.len
    refine seq_l ?_
    refine ⟨_, rfl, a, us, rfl, .inr (SqT.of ha), rfl, _, rfl, ?_⟩
    by_cases h4 : us.length = 4
    · obtain ⟨v0, v1, v2, v3, t0, t1, t2, t3, rfl, rfl, r0, r1, r2, r3⟩ := RdL.four hrd h4
      refine ite0 (by simp) ?_
      refine ⟨_, rfl, a, _, 0, v0, rfl, rfl, SqT.of ha, atI_nat (j := 0) rfl, _, _, r0.bas, rfl, _, rfl, ?_⟩
      rw [r0.eqS]
      cases h0 : t0.isS "form" with
      | false =>
        refine ite1 rfl (ite1 rfl ?_)
        exact q _ _ (Ex.refl _) (by simp [PartsAt, formP, h0])
      | true =>
        refine ite0 (by decide) ⟨_, rfl, a, _, 2, v2, rfl, rfl, SqT.of ha, atI_nat (j := 2) rfl, v2, _, rfl, r2.may, hT, fun H1 e1 => ⟨_, rfl, ?_⟩⟩
        cases h1 : varT t2 with
        | false =>
          have h1' : onStr varB t2.str? = false := h1
          rw [h1']
          exact ite1 rfl (q _ _ e1 (by simp [PartsAt, formP, h1]))
        | true =>
          have h1' : onStr varB t2.str? = true := h1
          rw [h1']
          refine ite0 (by decide) (nx_l (ret_l ⟨_, rfl, a, _, 1, v1, rfl, rfl, SqT.of (e1 _ _ ha), atI_nat (j := 1) rfl, v1, _, 1, rfl, r1.bas.ext e1, fun H2 e2 => ⟨_, rfl, ?_⟩⟩))
          rw [Rd.int? r1]
          cases h2 : numB 1 (tInt t1) with
          | false => exact ite0 (by decide) (q _ _ (e1.trans e2) (by simp [PartsAt, formP, h2]))
          | true =>
            refine ite1 rfl ⟨_, rfl, a, _, 3, v3, rfl, rfl, SqT.of (e2 _ _ (e1 _ _ ha)), atI_nat (j := 3) rfl, v3, _, 0, rfl, (r3.bas.ext e1).ext e2, fun H3 e3 => ⟨_, rfl, ?_⟩⟩
            rw [Rd.int? r3]
            have e03 := (e1.trans e2).trans e3
            cases h3 : numB 0 (tInt t3) with
            | false => exact ite0 (by decide) (q _ _ e03 (by simp [PartsAt, formP, h3]))
            | true =>
              refine ite1 rfl ⟨_, rfl, a, _, 2, v2, rfl, rfl, SqT.of (e03 _ _ ha), atI_nat (j := 2) rfl, by show 0 ≤ sizeLine; decide, fun p hp => ⟨by show 2 ≤ sizeLine; decide, fun r hr => ?_⟩⟩
              refine q _ _ (e03.trans ((Ex.new hp).trans (Ex.new hr))) ?_
              have et : formP [t0, t1, t2, t3] = some (t2.str?, []) := by simp [formP, h0, h1, h2, h3]
              rw [et]
              cases hz : t2.str? with
              | none => rw [hz] at h1'; cases h1'
              | some z =>
                rw [ovT r2 hz] at *
                exact ⟨r, p, [], rfl, upd_same, (Ex.new hr) _ _ upd_same, .nil⟩
    · refine ite1 (by simp; omega) (ite1 rfl ?_)
      refine q _ _ (Ex.refl _) ?_
      rw [formP_len (by omega)]
      rfl
abbrev s_list_parts : Stmt := top 25
abbrev N_list_parts : List Str := ["value"]
theorem sc_list_parts : FnScope N_list_parts ["value"] (defScope s_list_parts) := ⟨rfl, rfl, rfl, by decide +kernel, rfl, by decide +kernel, by decide +kernel⟩
theorem ok_list_parts {Pt : Addr} (T : Txt K mg) (k_is_variable : OkC P w K mg base k "is_variable" ["value"] (spJudge Pt K varB)) (F : FunD K "list_parts" "list_parts" (defArgs s_list_parts) (defBody s_list_parts) (defScope s_list_parts) [] [] f fd) (hm : mg "list_parts" = some (.ref f)) :
    OkC P w K mg base (k + 1) "list_parts" ["value"] (spTup Pt listP) := by
  refine okC_of F hm sc_list_parts (fun _ _ _ _ _ _ us hl => match us, hl with | [_], _ => rfl) (fun vs H Q E h => ?_) (fun cdv A outer s H vs Q E hr h => ?_)
  · obtain ⟨a, us, ts, rfl, _⟩ := h
    rfl
  · obtain ⟨a, us, ts, rfl, ha, hrd, hT, q⟩ := h
    refine ⟨_, (pss_cons (ps_if (pw_or (pt_cmpR op_ne (pe_callB call_len_seq (by rfl) T.f_len (by decide +kernel) (pa_cons (pv 0) pa_nil)) pe_int (nomark _)) (pw_or (pt_cmpR (op_neS (huE (roomH_of hr))) (pe_ix ix_tup (pv 0) pe_int fun _ _ => rfl) pe_str (nomark _)) (pw_or1 (pt_not (pt_val (pe_callB call_isi (by rfl) T.f_isinstance (by decide +kernel) (pa_cons (pe_ix ix_tup (pv 0) pe_int fun _ _ => rfl) (pa_cons (pe_bltn (v := .ty "tuple") (by rfl) T.f_tuple (by decide +kernel) rfl) pa_nil)))))))).pt (pss_one (ps_ret pe_non)) pss_nil) (pss_one (ps_ret (pe_ifExp (pw_or (pt_cmpR op_isN (pe_ix ix_tup (pv 0) pe_int fun _ _ => rfl) pe_non (nomark _)) (pw_or1 (pt_val (pe_callK0 k_is_variable hr (by rfl) (pa_cons (pe_ix ix_tup (pv 0) pe_int fun _ _ => rfl) pa_nil))))).pt (pe_tup (pa_cons (pe_ix ix_tup (pv 0) pe_int fun _ _ => rfl) (pa_cons (pe_ix ix_tup (pv 0) pe_int fun _ _ => rfl) pa_nil))) pe_non)))), ?_⟩
    have lt := hrd.len
    refine seq_l ?_
    refine ⟨_, rfl, a, us, rfl, .inr (SqT.of ha), rfl, _, rfl, ?_⟩
    by_cases h3 : us.length = 3
    · obtain ⟨v0, v1, v2, t0, t1, t2, rfl, rfl, r0, r1, r2⟩ := RdL.three hrd h3
      refine ite0 (by simp) ?_
      refine ⟨_, rfl, a, _, 0, v0, rfl, rfl, SqT.of ha, atI_nat (j := 0) rfl, _, _, r0.bas, rfl, _, rfl, ?_⟩
      rw [r0.eqS]
      cases h0 : t0.isS "list" with
      | false =>
        refine ite1 rfl (ite1 rfl ?_)
        refine q _ _ (Ex.refl _) ?_
        have : listP [t0, t1, t2] = none := by cases t1 <;> simp [listP, h0]
        rw [this]
        rfl
      | true =>
        refine ite0 (by decide) ⟨_, rfl, a, _, 1, v1, rfl, rfl, SqT.of ha, atI_nat (j := 1) rfl, ?_⟩
        dsimp only [tCons, tC, tNil]
        by_cases hty : t1.ty = "tuple"
        · obtain ⟨a2, us2, ts2, rfl, rfl, ha2, rr2⟩ := Rd.tup_of r1 hty
          refine Bas.isi (T := "tuple") (r := true) (.tup ha2) rfl ⟨_, rfl, ite0 (by decide) (nx_l (ret_l ?_))⟩
          refine ⟨_, rfl, a, _, 2, v2, rfl, rfl, SqT.of ha, atI_nat (j := 2) rfl, rfl, _, rfl, ?_⟩
          have fin : ∀ H1, Ex H H1 → (isNon t2 || varT t2) = true → ∀ r, H1 r = none → Q (.ref r) (upd H1 r (.tup [v2, .ref a2])) := by
            intro H1 e1 hv r hr
            refine q _ _ (e1.trans (Ex.new hr)) ?_
            have et : listP [t0, .tup ts2, t2] = some (t2.str?, ts2) := by simp only [listP, h0, hv]; rfl
            rw [et]
            refine ⟨r, a2, us2, rfl, ?_, (e1.trans (Ex.new hr)) _ _ ha2, rr2.ext (e1.trans (Ex.new hr))⟩
            rw [upd_same]
            cases r2 with
            | non => rfl
            | str z _ => rfl
            | _ => simp [isNon, varT, onStr, Tr.str?] at hv
          by_cases hn : v2 = .non
          · have ht : isNon t2 = true := by
              subst hn
              cases r2
              rfl
            refine ite1 (decide_eq_true hn) (ite1 rfl ?_)
            exact ⟨_, rfl, a, _, 2, v2, rfl, rfl, SqT.of ha, atI_nat (j := 2) rfl, _, rfl, a, _, 1, .ref a2, rfl, rfl, SqT.of ha, atI_nat (j := 1) rfl, by show 2 ≤ sizeLine; decide, fun r hr => fin H (Ex.refl _) (by rw [ht]; rfl) r hr⟩
          · have ht : isNon t2 = false := by
              cases r2 <;> first | rfl | exact absurd rfl hn
            refine ite0 (by simpa using hn) ⟨_, rfl, a, _, 2, v2, rfl, rfl, SqT.of ha, atI_nat (j := 2) rfl, v2, _, rfl, r2.may, hT, fun H1 e1 => ⟨_, rfl, ?_⟩⟩
            cases h1 : varT t2 with
            | false =>
              have h1' : onStr varB t2.str? = false := h1
              rw [h1']
              exact ite0 (by decide) (q _ _ e1 (by simp [PartsAt, listP, h1, ht]))
            | true =>
              have h1' : onStr varB t2.str? = true := h1
              rw [h1']
              refine ite1 rfl ?_
              exact ⟨_, rfl, a, _, 2, v2, rfl, rfl, SqT.of (e1 _ _ ha), atI_nat (j := 2) rfl, _, rfl, a, _, 1, .ref a2, rfl, rfl, SqT.of (e1 _ _ ha), atI_nat (j := 1) rfl, by show 2 ≤ sizeLine; decide, fun r hr => fin H1 e1 (by rw [h1]; simp) r hr⟩
        · refine Bas.isi (T := "tuple") (r := false) r1.bas (not_tup r1 hty) ⟨_, rfl, ite1 rfl (q _ _ (Ex.refl _) ?_)⟩
          rw [listP_3 hty]
          rfl
    · refine ite1 (by simp; omega) (ite1 rfl ?_)
      refine q _ _ (Ex.refl _) ?_
      rw [listP_len (by omega)]
      rfl
def spParts (K : PySem.W.Frag) (C Pt : Addr) : Sp := fun vs H Q _ => ∃ (v : V) (t : Tr) (kd : Str) (x : Addr) (rs : List (Str × Int)), vs = [v, .str kd, .ref x] ∧ Rd H v t ∧ NamesAt H C x rs ∧ TabX H Pt ∧
  ∀ (v : V) (H' : Hp), Ex H H' → PartsAt H' v (partsT (countOf rs) kd t) → Q v H'
abbrev s_parts_of : Stmt := top 26
abbrev N_parts_of : List Str := ["value", "kind", "names"]
theorem sc_parts_of : FnScope N_parts_of ["value", "kind", "names"] (defScope s_parts_of) := ⟨rfl, rfl, rfl, by decide +kernel, rfl, by decide +kernel, by decide +kernel⟩
theorem ok_parts_of {C Pt : Addr} (T : Txt K mg) (k_is_number : OkC P w K mg base k "is_number" ["value", "least"] spNumber) (k_type_parts : OkC P w K mg base k "type_parts" ["value", "names"] (spTypeP K C Pt)) (k_form_parts : OkC P w K mg base k "form_parts" ["value"] (spTup Pt formP)) (k_list_parts : OkC P w K mg base k "list_parts" ["value"] (spTup Pt listP)) (F : FunD K "parts_of" "parts_of" (defArgs s_parts_of) (defBody s_parts_of) (defScope s_parts_of) [] [] f fd) (hm : mg "parts_of" = some (.ref f)) :
    OkC P w K mg base (k + 1) "parts_of" ["value", "kind", "names"] (spParts K C Pt) := by
  refine okC_of F hm sc_parts_of (fun _ _ _ _ _ _ us hl => match us, hl with | [_, _, _], _ => rfl) (fun vs H Q E h => ?_) (fun cdv A outer s H vs Q E hr h => ?_)
  · obtain ⟨v, t, kd, x, rs, rfl, _⟩ := h
    rfl
  · obtain ⟨v, t, kd, x, rs, rfl, hv, hN, hT, q⟩ := h
    refine ⟨_, (pss_cons (ps_if (pw_and (pt_cmpR op_eq (pv 1) pe_str (nomark _)) (pw_and1 (pt_val (pe_callK0 k_is_number hr (by rfl) (pa_cons (pv 0) (pa_cons pe_int pa_nil)))))).pt (pss_one (ps_ret (pe_tup (pa_cons pe_non (pa_cons (pe_tup pa_nil) pa_nil))))) pss_nil) (pss_cons (ps_if (pt_not (pt_val (pe_callB call_isi (by rfl) T.f_isinstance (by decide +kernel) (pa_cons (pv 0) (pa_cons (pe_bltn (v := .ty "tuple") (by rfl) T.f_tuple (by decide +kernel) rfl) pa_nil))))) (pss_one (ps_ret pe_non)) pss_nil) (pss_cons (ps_if (pt_cmpR op_eq (pv 1) pe_str (nomark _)) (pss_one (ps_ret (pe_callK0 k_form_parts hr (by rfl) (pa_cons (pv 0) pa_nil)))) pss_nil) (pss_one (ps_ret (pe_ifExp (pt_cmpR op_eq (pv 1) pe_str (nomark _)) (pe_callK0 k_type_parts hr (by rfl) (pa_cons (pv 0) (pa_cons (pv 2) pa_nil))) (pe_callK0 k_list_parts hr (by rfl) (pa_cons (pv 0) pa_nil)))))))), ?_⟩
    have dk : ∀ z : Str, decide (V.str kd = V.str z) = decide (kd = z) := fun z => by
      rw [Bool.eq_iff_iff]
      simp
    refine seq_l (join_l (S := fun _ : Unit => start N_parts_of [v, .str kd, .ref x]) (R := fun _ H1 => Ex H H1 ∧ (decide (kd = "num") && numB 0 (tInt t)) = false) (fun _ H1 ⟨e1, hno⟩ => ?_) (fun kk => ?_))
    · have v1 := hv.ext e1
      have N1 := hN.ext e1
      have T1 := hT.ext e1
      have et : partsT (countOf rs) kd t = partsR (countOf rs) kd t := by
        unfold partsT
        rw [hno]
        rfl
      rw [et] at q
      refine seq_l ⟨_, rfl, ?_⟩
      dsimp only [tCons, tC, tNil]
      by_cases hty : t.ty = "tuple"
      · obtain ⟨a2, us2, ts2, rfl, rfl, ha2, rr2⟩ := Rd.tup_of v1 hty
        refine Bas.isi (T := "tuple") (r := true) (.tup ha2) rfl ⟨_, rfl, ite0 (by decide) (nx_l (seq_l ?_))⟩
        refine ⟨_, rfl, rfl, _, rfl, ?_⟩
        rw [dk]
        by_cases hk : kd = "num"
        · refine ite1 (decide_eq_true hk) (ret_l ?_)
          refine ⟨_, rfl, a2, us2, ts2, rfl, ha2, rr2, T1, fun u H2 e2 hp => q u H2 (e1.trans e2) ?_⟩
          show PartsAt H2 u (if kd = "num" then _ else _)
          rw [if_pos hk]
          exact hp
        · refine ite0 (by simpa using hk) (nx_l (ret_l ?_))
          refine ⟨_, rfl, rfl, _, rfl, ?_⟩
          rw [dk]
          by_cases hk2 : kd = "type"
          · refine ite1 (decide_eq_true hk2) ⟨_, rfl, _, rfl, a2, x, us2, ts2, rs, rfl, ha2, rr2, N1, T1, fun u H2 e2 hp => q u H2 (e1.trans e2) ?_⟩
            show PartsAt H2 u (if kd = "num" then _ else if kd = "type" then _ else _)
            rw [if_neg hk, if_pos hk2]
            exact hp
          · refine ite0 (by simpa using hk2) ⟨_, rfl, a2, us2, ts2, rfl, ha2, rr2, T1, fun u H2 e2 hp => q u H2 (e1.trans e2) ?_⟩
            show PartsAt H2 u (if kd = "num" then _ else if kd = "type" then _ else _)
            rw [if_neg hk, if_neg hk2]
            exact hp
      · refine Bas.isi (T := "tuple") (r := false) v1.bas (not_tup v1 hty) ⟨_, rfl, ite1 rfl (ret_l (q _ _ e1 ?_))⟩
        cases t <;> first | rfl | exact absurd rfl hty
    · refine ⟨_, rfl, rfl, _, rfl, ?_⟩
      rw [dk]
      by_cases hk : kd = "num"
      · refine ite1 (decide_eq_true hk) ⟨_, rfl, v, _, 0, rfl, hv.bas, fun H1 e1 => ⟨_, rfl, ?_⟩⟩
        rw [Rd.int? hv]
        cases h1 : numB 0 (tInt t) with
        | false => exact ite0 (by decide) (kk () H1 ⟨e1, by simp [h1]⟩)
        | true =>
          refine ite1 rfl (ret_l ⟨by show 0 ≤ sizeLine; decide, fun p hp => ⟨by show 2 ≤ sizeLine; decide, fun r hr => ?_⟩⟩)
          refine q _ _ (e1.trans ((Ex.new hp).trans (Ex.new hr))) ?_
          have et : partsT (countOf rs) kd t = some (none, []) := by simp [partsT, hk, h1]
          rw [et]
          exact ⟨r, p, [], rfl, upd_same, (Ex.new hr) _ _ upd_same, .nil⟩
      · exact ite0 (by simpa using hk) (kk () H ⟨Ex.refl _, by simp [hk]⟩)
end
end D0

namespace D0
open PySem PySem.Spec PyProof.Rows L2 L2H HotX Evl K9
/-! ### the walk over a term's nodes -/
structure Nd where
  t : Tr
  k : Str
  d : Nat
def look (fd : List (Str × Str)) (z : Str) : Option Str := (fd.find? fun q => decide (q.1 = z)).map (·.2)
def fdUp (fd : List (Str × Str)) : Option Str → Str → List (Str × Str)
  | none, _ => fd
  | some z, k => match look fd z with
    | none => fd ++ [(z, k)]
    | some _ => fd
def clash (fd : List (Str × Str)) : Option Str → Str → Bool
  | none, _ => false
  | some z, k => match look fd z with
    | none => false
    | some k' => !decide (k' = k)
def sg1 (x : Option Str) (k : Str) : Nat := if k = "types" ∧ x = none then 0 else 1
def kids (q : Nd) (as : List Tr) : List Nd := as.map fun t => ⟨t, "type", if q.k = "types" then q.d else q.d + 1⟩
def walkT (cnt : Str → Int) : Nat → Nat → List (Str × Str) → List Nd → Bool
  | _, _, _, [] => true
  | 0, _, _, _ :: _ => true
  | n + 1, sg, fd, q :: st => match partsT cnt q.k q.t with
    | none => false
    | some (x, as) => if clash fd x q.k || (decide (4000 < sg + sg1 x q.k) || decide (200 < q.d)) then false else walkT cnt n (sg + sg1 x q.k) (fdUp fd x q.k) ((kids q as).reverse ++ st)
/-- whether a value is a term of a kind -/
def termT (cnt : Str → Int) (t : Tr) (k : Str) : Bool := walkT cnt t.sz 0 [] [⟨t, k, 1⟩]
def Kd (k : Str) : Prop := k = "type" ∨ k = "num" ∨ k = "types"
theorem typeP_sz {cnt : Str → Int} {ts as : List Tr} {x : Option Str} (h : typeP cnt ts = some (x, as)) : Tr.szL as ≤ Tr.szL ts := by
  unfold typeP at h
  split at h
  · split at h
    · cases h; simp [Tr.szL]
    · cases h
  · split at h
    · cases h; simp [Tr.szL, Tr.sz]; omega
    · cases h
  · cases h
theorem formP_sz {ts as : List Tr} {x : Option Str} (h : formP ts = some (x, as)) : as = [] := by
  unfold formP at h
  split at h
  · split at h
    · cases h; rfl
    · cases h
  · cases h
theorem listP_sz {ts as : List Tr} {x : Option Str} (h : listP ts = some (x, as)) : Tr.szL as ≤ Tr.szL ts := by
  unfold listP at h
  split at h
  · split at h
    · cases h; simp [Tr.szL, Tr.sz]; omega
    · cases h
  · cases h
theorem partsT_sz {cnt : Str → Int} {k : Str} {t : Tr} {as : List Tr} {x : Option Str} (h : partsT cnt k t = some (x, as)) : Tr.szL as + 1 ≤ t.sz := by
  unfold partsT at h
  split at h
  · cases h
    exact t.pos
  · cases t with
    | tup ts =>
      have h : (if k = "num" then formP ts else if k = "type" then typeP cnt ts else listP ts) = some (x, as) := h
      have : Tr.szL as ≤ Tr.szL ts := by
        split at h
        · rw [formP_sz h]; simp [Tr.szL]
        · split at h
          · exact typeP_sz h
          · exact listP_sz h
      simp [Tr.sz]
      omega
    | _ => cases h
theorem parts_num {cnt : Str → Int} {t : Tr} {as : List Tr} {x : Option Str} (h : partsT cnt "num" t = some (x, as)) : as = [] := by
  unfold partsT at h
  split at h
  · cases h
    rfl
  · cases t with
    | tup ts => exact formP_sz (show formP ts = _ from h)
    | _ => cases h
/-! ### what may be written besides: lists and dicts -/
def Fr (H H' : Hp) : Prop := ∀ a o, H a = some o → H' a = some o ∨ (∃ xs ys, o = .lst xs ∧ H' a = some (.lst ys)) ∨ ∃ ks ls, o = .dK ks ∧ H' a = some (.dK ls)
theorem Fr.refl {H : Hp} : Fr H H := fun a o h => .inl h
theorem Ex.fr {H H' : Hp} (e : Ex H H') : Fr H H' := fun a o h => .inl (e a o h)
theorem Fr.trans {H H1 H2 : Hp} (e : Fr H H1) (e' : Fr H1 H2) : Fr H H2 := fun a o h => by
  rcases e a o h with h1 | ⟨xs, ys, rfl, h1⟩ | ⟨xs, ys, rfl, h1⟩
  · exact e' a o h1
  · rcases e' a _ h1 with h2 | ⟨xs2, ys2, _, h2⟩ | ⟨xs2, ys2, z, h2⟩
    · exact .inr (.inl ⟨_, _, rfl, h2⟩)
    · exact .inr (.inl ⟨_, _, rfl, h2⟩)
    · cases z
  · rcases e' a _ h1 with h2 | ⟨xs2, ys2, z, h2⟩ | ⟨xs2, ys2, _, h2⟩
    · exact .inr (.inr ⟨_, _, rfl, h2⟩)
    · cases z
    · exact .inr (.inr ⟨_, _, rfl, h2⟩)
theorem Fr.lst {H : Hp} {b : Addr} {xs ys : List V} (h : H b = some (.lst xs)) : Fr H (upd H b (.lst ys)) := fun a o ha => by
  by_cases e : a = b
  · subst e
    rw [h] at ha
    cases ha
    exact .inr (.inl ⟨_, _, rfl, upd_same⟩)
  · exact .inl (by rw [upd_ne e]; exact ha)
theorem Fr.dic {H : Hp} {b : Addr} {xs ys : List (Key × V)} (h : H b = some (.dK xs)) : Fr H (upd H b (.dK ys)) := fun a o ha => by
  by_cases e : a = b
  · subst e
    rw [h] at ha
    cases ha
    exact .inr (.inr ⟨_, _, rfl, upd_same⟩)
  · exact .inl (by rw [upd_ne e]; exact ha)
theorem Fr.exb {H H' : Hp} {b : Addr} {xs ys : List V} (e : ExB b H H') (h : H b = some (.lst xs)) (h' : H' b = some (.lst ys)) : Fr H H' := fun a o ha => by
  by_cases z : a = b
  · subst z
    rw [h] at ha
    cases ha
    exact .inr (.inl ⟨_, _, rfl, h'⟩)
  · exact .inl (e _ _ z ha)
theorem Fr.tup {H H' : Hp} {a : Addr} {xs : List V} (e : Fr H H') (h : H a = some (.tup xs)) : H' a = some (.tup xs) := by
  rcases e a _ h with h | ⟨_, _, z, _⟩ | ⟨_, _, z, _⟩
  · exact h
  · cases z
  · cases z
mutual
theorem Rd.fr {H H' : Hp} (e : Fr H H') {v : V} {t : Tr} (h : Rd H v t) : Rd H' v t :=
  match h with
  | .non => .non
  | .bl b => .bl b
  | .int i => .int i
  | .str z l => .str z l
  | .lst h => by
    rcases e _ _ h with h | ⟨_, _, _, h⟩ | ⟨_, _, z, _⟩
    · exact .lst h
    · exact .lst h
    · cases z
  | .dic h => by
    rcases e _ _ h with h | ⟨_, _, z, _⟩ | ⟨_, _, _, h⟩
    · exact .dic h
    · cases z
    · exact .dic h
  | .tup h r => .tup (e.tup h) (RdL.fr e r)
theorem RdL.fr {H H' : Hp} (e : Fr H H') {vs : List V} {ts : List Tr} (h : RdL H vs ts) : RdL H' vs ts :=
  match h with
  | .nil => .nil
  | .cons h r => .cons (Rd.fr e h) (RdL.fr e r)
end
/-! ### the stack -/
structure ItN where
  r : Addr
  v : V
  q : Nd
def refN (st : List ItN) : List V := (st.map fun q => .ref q.r).reverse
def ndN (st : List ItN) : List Nd := st.map (·.q)
def wtN (st : List ItN) : Nat := (st.map fun q => q.q.t.sz).sum
def StkOk (H : Hp) (st : List ItN) : Prop := ∀ q ∈ st, H q.r = some (.tup [q.v, .str q.q.k, .int (q.q.d : Int)]) ∧ Rd H q.v q.q.t ∧ Kd q.q.k
theorem StkOk.fr {H H' : Hp} {st : List ItN} (e : Fr H H') (h : StkOk H st) : StkOk H' st := fun q hq => by
  obtain ⟨h1, h2, h3⟩ := h q hq
  exact ⟨e.tup h1, Rd.fr e h2, h3⟩
theorem StkOk.app {H : Hp} {st st' : List ItN} (h : StkOk H st) (h' : StkOk H st') : StkOk H (st ++ st') := fun q hq => (List.mem_append.mp hq).elim (h q) (h' q)
theorem wtN_app {a b : List ItN} : wtN (a ++ b) = wtN a + wtN b := by simp [wtN]
theorem wtN_len {a : List ItN} : a.length ≤ wtN a := by
  induction a with
  | nil => exact Nat.le_refl _
  | cons q r ih =>
    have := q.q.t.pos
    simp [wtN] at ih ⊢
    omega
theorem refN_len {a : List ItN} : (refN a).length = a.length := by simp [refN]
/-- [(part, a text, a number) for part in a tuple] -/
theorem lcN_by {te : TE} {wi : TI} {i : Nat} {σ : L2.St} {H : Hp} {Q : VK} {J : It} {us : List V} {as : List Tr} {d : Nat} (hr : RdL H us as) (hn : us.length ≤ sizeLine) (hi : i < σ.length) (hw : ∀ R : It → Hp → Prop, R J H → wi σ H R) (wk : Walks J us.length (fun i => us.getD i .non) H)
    (step : ∀ j H1 (R : VK), j < us.length → Ex H H1 → (∀ r, H1 r = none → R (.ref r) (upd H1 r (.tup [us.getD j .non, .str "type", .int (d : Int)]))) → te ((wipe σ [i]).set i (some (us.getD j .non))) H1 R)
    (fin : ∀ D H1 (its : List ItN), H D = none → Ex H H1 → H1 D = some (.lst (its.map fun q => .ref q.r)) → StkOk H1 its → ndN its = (as.map fun t => ⟨t, "type", d⟩) → Q (.ref D) H1) : tLc wi (gName i) tYes te [i] σ H Q := by
  refine lc_by (J := J) (n := us.length) (item := fun i => us.getD i .non) (fun D j acc H1 => ∃ its : List ItN, acc = its.map (fun q => V.ref q.r) ∧ ndN its = (as.take j).map (fun t => (⟨t, "type", d⟩ : Nd)) ∧ ∀ q ∈ its, q.r ≠ D ∧ H1 q.r = some (.tup [q.v, .str q.q.k, .int (q.q.d : Int)]) ∧ Rd H q.v q.q.t ∧ Kd q.q.k) hn hi hw wk ?_ ?_ ?_ ?_
  · rintro D j acc H1 H2 e ⟨its, h1, h2, h3⟩
    exact ⟨its, h1, h2, fun q hq => ⟨(h3 q hq).1, e _ _ (h3 q hq).1 (h3 q hq).2.1, (h3 q hq).2.2⟩⟩
  · exact fun D hD => ⟨[], rfl, rfl, fun q hq => absurd hq (by simp)⟩
  · rintro D j acc H1 C Cf hj hD e ha ⟨its, rfl, h2, h3⟩ kf kt
    unfold tYes
    dsimp only
    rw [if_pos rfl]
    refine step j H1 C hj e fun r hr2 => kt _ _ (Ex.new hr2) ⟨its ++ [⟨r, us.getD j .non, ⟨as.getD j .non, "type", d⟩⟩], by simp, ?_, fun q hq => ?_⟩
    · have hj2 : j < as.length := by rw [← hr.len]; exact hj
      rw [List.take_succ_eq_append_getElem hj2, List.map_append, ← h2]
      simp [ndN, List.getD_eq_getElem?_getD, List.getElem?_eq_getElem hj2]
    · rcases List.mem_append.mp hq with z | z
      · obtain ⟨a, b, c⟩ := h3 q z
        exact ⟨a, (Ex.new hr2) _ _ b, c⟩
      · obtain rfl := List.mem_singleton.mp z
        exact ⟨(ne_of_none ha hr2).symm, upd_same, hr.at_ hj, .inl rfl⟩
  · rintro D acc H1 hD e ha ⟨its, rfl, h2, h3⟩
    refine fin D H1 its hD e ha (fun q hq => ?_) ?_
    · obtain ⟨a, b, c, d⟩ := h3 q hq
      exact ⟨b, c.ext e, d⟩
    · rw [h2, hr.len, List.take_length]
theorem joinV_l {te : TE} {σ : L2.St} {H : Hp} {Q : VK} (R : V → Hp → Prop) (main : ∀ v H1, R v H1 → Q v H1) (h : ∀ Q' : VK, (∀ v H1, R v H1 → Q' v H1) → te σ H Q') : te σ H Q := h Q main
/-- the dict of variables -/
def fdK (fd : List (Str × Str)) : List (Key × V) := fd.map fun q => (Sum.inr q.1, .str q.2)
theorem fdK_look (fd : List (Str × Str)) (z : Str) : valV (fdK fd) (Sum.inr z) = (look fd z).map V.str := by
  induction fd with
  | nil => rfl
  | cons q r ih =>
    unfold fdK valV look at ih ⊢
    rw [List.map_cons, List.find?_cons, List.find?_cons]
    by_cases e : q.1 = z
    · simp [e]
    · have e1 : ¬ (Sum.inr q.1 : Key) = Sum.inr z := fun h => e (by cases h; rfl)
      simp only [e, e1, decide_false]
      exact ih
theorem fdK_len (fd : List (Str × Str)) : (fdK fd).length = fd.length := by simp [fdK]
theorem fdUp_len (fd : List (Str × Str)) (x : Option Str) (k : Str) : (fdUp fd x k).length ≤ fd.length + 1 := by
  unfold fdUp
  split
  · omega
  · split <;> simp
theorem fdUp_sg (fd : List (Str × Str)) (x : Option Str) (k : Str) : (fdUp fd x k).length ≤ fd.length + sg1 x k := by
  cases x with
  | none => exact Nat.le_add_right _ _
  | some z =>
    have e : sg1 (some z) k = 1 := by simp [sg1]
    rw [e]
    exact fdUp_len fd _ k
theorem fdUp_none {fd : List (Str × Str)} {k : Str} : fdUp fd none k = fd := rfl
end D0

namespace D0
open PySem PySem.Spec PyProof.Rows L2 L2H HotX Evl K9
section
variable {P : Program} {w : World} {K : PySem.W.Frag} {mg : Str → Option Value} {base : Heap} {f : Addr} {fd : FuncData} {k : Nat}
def spScan (K : PySem.W.Frag) (C Pt : Addr) : Sp := fun vs H Q _ => ∃ (a b x : Addr) (v : V) (t : Tr) (kd : Str) (rs : List (Str × Int)), vs = [.ref a, .ref b, .ref x] ∧ H a = some (.tup [v]) ∧ H b = some (.tup [.str kd]) ∧ Kd kd ∧ Rd H v t ∧ t.sz ≤ 1000000 ∧ NamesAt H C x rs ∧ TabX H Pt ∧
  ∀ (v : V) (H' : Hp), Ex H H' → (decide (v = .non) = !termT (countOf rs) t kd) → Q v H'
abbrev s_scan : Stmt := top 27
abbrev N_scan : List Str := ["values", "kinds", "names", "todo", "value", "kind", "signs", "found", "deep", "parts", "variable", "inner", "below", "part"]
theorem sc_scan : FnScope N_scan ["values", "kinds", "names"] (defScope s_scan) := ⟨rfl, rfl, rfl, by decide +kernel, rfl, by decide +kernel, by decide +kernel⟩
theorem ok_scan {C Pt : Addr} (T : Txt K mg) (T3 : Txt3 K mg) (k_parts_of : OkC P w K mg base k "parts_of" ["value", "kind", "names"] (spParts K C Pt)) (F : FunD K "scan" "scan" (defArgs s_scan) (defBody s_scan) (defScope s_scan) [] [] f fd) (hm : mg "scan" = some (.ref f)) :
    OkC P w K mg base (k + 1) "scan" ["values", "kinds", "names"] (spScan K C Pt) := by
  refine okC_of F hm sc_scan (fun _ _ _ _ _ _ us hl => match us, hl with | [_, _, _], _ => rfl) (fun vs H Q E h => ?_) (fun cdv A outer s H vs Q E hr h => ?_)
  · obtain ⟨a, b, x, v, t, kd, rs, rfl, _⟩ := h
    rfl
  · obtain ⟨a, b, x, v, t, kd, rs, rfl, ha, hb, hkd, hv, hsz, hN, hT, q_⟩ := h
    obtain ⟨t4, c_MOST_SIGNS⟩ := T3.signs
    obtain ⟨t5, c_MOST_DEEP⟩ := T3.deep
    refine ⟨_, PSs.nox (pss_cons (ps_setLc (i := 3) (own := [("value", 4), ("kind", 5)]) (g := gTup K 2 (gCons (gName 4) (gCons (gName 5) gNil))) rfl sc_scan.nd rfl rfl rfl (RZ.pi_zipA (by rfl) T3.f_zip (pa_cons (pv 0) (pa_cons (pv 1) pa_nil))) (blkOk_by (N := N_scan) (sc := defScope s_scan) (by decide +kernel)) (fun _ _ _ _ _ => pg_tupC (.inl ⟨rfl, rfl⟩) (pgs_cons (pg_name (i := 4) sc_scan.nd rfl (Or.inl rfl)) (pgs_cons (pg_name (i := 5) sc_scan.nd rfl (Or.inl rfl)) pgs_nil))) (fun _ _ _ _ _ => pts_nil) (fun _ _ _ _ _ => (pe_tup (pa_cons (pv 4) (pa_cons (pv 5) (pa_cons pe_int pa_nil)))))) (pss_cons (ps_par rfl sc_scan.nd (i := 6) (j := 7) rfl rfl (by decide) rfl rfl (pa_cons pe_int (pa_cons pe_dnewK pa_nil)) rfl) (pss_cons (ps_while PassesOwn.never (pt_truth (pv 3) fun _ => rfl) (pss_cons (ps_asg (pe_bm0 PySem.F.plainAttrs_list PySem.F.slot_list_pop PySem.F.type_list_pop mt_pop (pv 3)) (pg_tupC (.inl ⟨rfl, rfl⟩) (pgs_cons (pg_name (i := 4) sc_scan.nd rfl (Or.inl rfl)) (pgs_cons (pg_name (i := 5) sc_scan.nd rfl (Or.inl rfl)) (pgs_cons (pg_name (i := 8) sc_scan.nd rfl (Or.inl rfl)) pgs_nil))))) (pss_cons (ps_set (i := 9) sc_scan.nd rfl (Or.inl rfl) (pe_callK0 k_parts_of hr (by rfl) (pa_cons (pv 4) (pa_cons (pv 5) (pa_cons (pv 2) pa_nil))))) (pss_cons (ps_if (pt_cmpR op_isN (pv 9) pe_non (nomark _)) (pss_one (ps_ret pe_non)) pss_nil) (pss_cons (ps_asg (pv 9) (pg_tupC (.inl ⟨rfl, rfl⟩) (pgs_cons (pg_name (i := 10) sc_scan.nd rfl (Or.inl rfl)) (pgs_cons (pg_name (i := 11) sc_scan.nd rfl (Or.inl rfl)) pgs_nil)))) (pss_cons (ps_if (pw_and (pt_cmpR op_notN (pv 10) pe_non (nomark _)) (pw_and1 (pt_cmpR op_ne (pe_dsetd (pv 7) (pv 10) (pv 5) ⟨rfl, rfl, rfl, rfl⟩) (pv 5) (nomark _)))).pt (pss_one (ps_ret pe_non)) pss_nil) (pss_cons (ps_if (pw_or (pt_cmpR op_ne (pv 5) pe_str (nomark _)) (pw_or1 (pt_cmpR op_notN (pv 10) pe_non (nomark _)))).pt (pss_one (ps_aug (i := 6) sc_scan.nd rfl (Or.inl rfl) pe_int ip_add)) pss_nil) (pss_cons (ps_if (pw_or (pt_cmpR op_gt (pv 6) (pe_glob (v := .int 4000) (by rfl) c_MOST_SIGNS ⟨_, rfl⟩) (nomark _)) (pw_or1 (pt_cmpR op_gt (pv 8) (pe_glob (v := .int 200) (by rfl) c_MOST_DEEP ⟨_, rfl⟩) (nomark _)))).pt (pss_one (ps_ret pe_non)) pss_nil) (pss_cons (ps_set (i := 12) sc_scan.nd rfl (Or.inr rfl) (pe_ifExp (pt_cmpR op_eq (pv 5) pe_str (nomark _)) (pe_op op_add (pv 8) pe_int) (pv 8))) (pss_one (ps_expr (pe_bm PySem.F.plainAttrs_list PySem.F.slot_list_extend PySem.F.type_list_extend mt_extend (pv 3) (pa_cons (pe_lc (own := [("part", 13)]) (g := gName 13) rfl sc_scan.nd (pi_tup (pv 11)) (blkOk_by (N := N_scan) (sc := defScope s_scan) (by decide +kernel)) (fun _ _ _ _ _ => pg_name (i := 13) sc_scan.nd rfl (Or.inl rfl)) (fun _ _ _ _ _ => pts_nil) (fun _ _ _ _ _ => (pe_tup (pa_cons (pv 13) (pa_cons pe_str (pa_cons (pv 12) pa_nil)))))) pa_nil))))))))))))) (pss_one (ps_ret (pe_tup (pa_cons (pv 6) (pa_cons (pe_callB call_lenA (by rfl) T.f_len (by decide +kernel) (pa_cons (pv 7) pa_nil)) pa_nil)))))))), ?_⟩
    have sl := sizeLine_eq
    refine seq_l (asg_l ⟨_, rfl, _, rfl, a, b, _, _, rfl, .inr ⟨SqT.of ha, SqT.of hb, fun L hL0 => ?_⟩⟩)
    refine ⟨fun j m H1 => m = 1 - j ∧ j ≤ 1 ∧ Ex H H1 ∧ ∃ acc : List V, H1 L = some (.lst acc) ∧ (j = 0 → acc = []) ∧ (j = 1 → ∃ r, acc = [.ref r] ∧ H1 r = some (.tup [v, .str kd, .int 1])), ⟨1, rfl, Nat.zero_le _, Ex.new hL0, [], upd_same, fun _ => rfl, fun z => by cases z⟩, ?_⟩
    rintro j m H1 ⟨rfl, hj, e, acc, hacc, hz0, hz1⟩
    have ha1 := e _ _ ha
    have hb1 := e _ _ hb
    by_cases hj1 : j = 1
    · subst hj1
      obtain ⟨r, rfl, hr1⟩ := hz1 rfl
      refine .inl ⟨⟨_, _, SqT.of ha1, SqT.of hb1, .inl (Nat.le_refl _)⟩, ?_⟩
      clear hz0 hz1 hj ha1 hb1
      -- the loop
      refine seq_l (fun D hD => ⟨_, _, rfl, ?_⟩)
      have hDL : D ≠ L := fun z => by rw [z, hacc] at hD; cases hD
      have hD0 : H D = none := by
        cases hh : H D with
        | none => rfl
        | some o => rw [e _ _ hh] at hD; cases hD
      have e1 : Ex H (upd H1 D (.dK [])) := e.trans (Ex.new hD)
      refine seq_l ⟨fun m σ' H' => ∃ (st : List ItN) (sg : Nat) (fd : List (Str × Str)) (x4 x5 x8 x9 x10 x11 x12 x13 : Option V), σ' = [some (.ref a), some (.ref b), some (.ref x), some (.ref L), x4, x5, some (.int (sg : Int)), some (.ref D), x8, x9, x10, x11, x12, x13] ∧ Ex H H' ∧
        H' L = some (.lst (refN st)) ∧ H' D = some (.dK (fdK fd)) ∧ StkOk H' st ∧ fd.length ≤ sg ∧ sg ≤ 4000 ∧ wtN st ≤ m ∧ m ≤ 1000000 ∧ walkT (countOf rs) m sg fd (ndN st) = termT (countOf rs) t kd, ⟨t.sz, [⟨r, v, ⟨t, kd, 1⟩⟩], 0, [], none, none, none, none, none, none, none, none, rfl, e1, (Ex.new hD) _ _ hacc, upd_same, ?_, Nat.le_refl _, by decide, by simp [wtN], hsz, rfl⟩, ?_⟩
      · intro q hq
        obtain rfl := List.mem_singleton.mp hq
        exact ⟨(Ex.new hD) _ _ hr1, hv.ext e1, hkd⟩
      rintro m σ' H' ⟨st, sg, fd, x4, x5, x8, x9, x10, x11, x12, x13, rfl, e, hL, hDd, ok, hfd, hsg, hw, hm, hb0⟩
      clear hr1 hacc hD e1
      refine ⟨_, rfl, !(refN st).isEmpty, .inl ⟨_, SqL.of hL, rfl⟩, ?_⟩
      rcases st with _ | ⟨⟨r0, u, ⟨t1, k1, d1⟩⟩, st0⟩
      · refine ite0 (by decide) (nx_p (ret_l ?_))
        refine ⟨_, rfl, _, rfl, .inr ⟨D, _, rfl, hDd, by show 2 ≤ sizeLine; decide, fun p hp => ?_⟩⟩
        refine q_ _ _ (e.trans (Ex.new hp)) ?_
        rw [← hb0]
        cases m <;> rfl
      · have hne : (!(refN (⟨r0, u, ⟨t1, k1, d1⟩⟩ :: st0 : List ItN)).isEmpty) = true := by simp [refN]
        refine ite1 hne ⟨fun σ2 H2 => ∃ m', m' < m ∧ _, fun _ _ h => h, ?_⟩
        obtain ⟨hq, hu, hk1⟩ := ok _ (List.mem_cons_self ..)
        have ok0 : StkOk H' st0 := fun z hz => ok z (List.mem_cons_of_mem _ hz)
        have hw0 : wtN st0 + t1.sz ≤ m := by
          have : wtN (⟨r0, u, ⟨t1, k1, d1⟩⟩ :: st0 : List ItN) = t1.sz + wtN st0 := by simp [wtN]
          omega
        have hrf : refN (⟨r0, u, ⟨t1, k1, d1⟩⟩ :: st0 : List ItN) = refN st0 ++ [(.ref r0)] := by simp [refN]
        rw [hrf] at hL
        clear ok hrf hne
        simp only at hq hu hk1
        refine seq_l (asgG_l ⟨_, rfl, .inl ⟨rfl, _, SqL.of hL⟩, L, _, .ref r0, rfl, rfl, hL, by simp, ?_⟩)
        rw [List.dropLast_concat]
        have f2 : Fr H' (upd H' L (.lst (refN st0))) := Fr.lst hL
        have e2 : Ex H (upd H' L (.lst (refN st0))) := ExB.new (ExB.trans (Ex.but e) ExB.set) hL0
        have hL2 : upd H' L (.lst (refN st0)) L = some (.lst (refN st0)) := upd_same
        have hD2 : upd H' L (.lst (refN st0)) D = some (.dK (fdK fd)) := by rw [upd_ne hDL]; exact hDd
        have ok2 := ok0.fr f2
        have hq2 := f2.tup hq
        have hu2 := Rd.fr f2 hu
        refine ⟨r0, _, rfl, SqT.of hq2, rfl, u, _, rfl, .str k1, _, rfl, .int (d1 : Int), _, rfl, rfl, nx_p ?_⟩
        generalize upd H' L (.lst (refN st0)) = H2 at e2 hL2 hD2 ok2 hu2 ⊢
        clear f2 e hL hDd ok0 hq hu hq2
        refine seq_l (asg_l ⟨_, rfl, _, rfl, _, rfl, u, t1, k1, x, rs, rfl, hu2, hN.ext e2, hT.ext e2, fun pv H3 e3 hp => nx_p ?_⟩)
        have e03 := e2.trans e3
        have hL3 := e3 _ _ hL2
        have hD3 := e3 _ _ hD2
        have ok3 := ok2.fr (Ex.fr e3)
        clear hL2 hD2 ok2 hu2
        cases m with
        | zero => have := t1.pos; omega
        | succ n =>
        have hwalk : walkT (countOf rs) (n + 1) sg fd (⟨t1, k1, d1⟩ :: ndN st0) = termT (countOf rs) t kd := hb0
        unfold walkT at hwalk
        refine seq_l ⟨_, rfl, rfl, _, rfl, ?_⟩
        cases hpt : partsT (countOf rs) k1 t1 with
        | none =>
          rw [hpt] at hp
          obtain rfl : pv = .non := hp
          refine ite1 rfl ?_
          refine q_ _ _ e03 ?_
          simp only [hpt] at hwalk
          rw [← hwalk]
          rfl
        | some xa =>
          obtain ⟨xo, as⟩ := xa
          rw [hpt] at hp
          obtain ⟨p, a2, us, rfl, hp3, ha3, hrl⟩ := hp
          simp only [hpt] at hwalk
          have hszp := partsT_sz hpt
          refine ite0 (by simp) (nx_l (seq_l (asgG_l ⟨_, rfl, p, _, rfl, SqT.of hp3, rfl, ov xo, _, rfl, .ref a2, _, rfl, rfl, nx_p ?_⟩)))
          -- the kinds of variables
          refine seq_l (join_l (S := fun _ : Unit => [some (.ref a), some (.ref b), some (.ref x), some (.ref L), some u, some (.str k1), some (.int (sg : Int)), some (.ref D), some (.int (d1 : Int)), some (.ref p), some (ov xo), some (.ref a2), x12, x13]) (R := fun _ H4 => clash fd xo k1 = false ∧ Ex H H4 ∧ Fr H3 H4 ∧ H4 L = some (.lst (refN st0)) ∧ H4 D = some (.dK (fdK (fdUp fd xo k1)))) (fun _ H4 ⟨hcl, e04, f4, hL4, hD4⟩ => ?_) (fun kk => ?_))
          · have ok4 := ok3.fr f4
            have ha4 := f4.tup ha3
            have hr4 := RdL.fr f4 hrl
            clear ok3 ha3 hp3 hL3 hD3 e03 e3
            refine nx_p (seq_l (join_l (S := fun _ : Unit => [some (.ref a), some (.ref b), some (.ref x), some (.ref L), some u, some (.str k1), some (.int ((sg + sg1 xo k1 : Nat) : Int)), some (.ref D), some (.int (d1 : Int)), some (.ref p), some (ov xo), some (.ref a2), x12, x13]) (R := fun _ H5 => H5 = H4) (fun _ H5 hH => ?_) (fun kk => ?_)))
            · subst hH
              rw [hcl] at hwalk
              refine nx_p (seq_l ⟨_, rfl, _, _, rfl, rfl, _, rfl, ?_⟩)
              by_cases hs4 : 4000 < sg + sg1 xo k1
              · refine ite1 (decide_eq_true (by omega)) (ite1 rfl ?_)
                refine q_ _ _ e04 ?_
                rw [← hwalk]
                simp [hs4]
              · refine ite0 (by simp; omega) ⟨_, rfl, _, _, rfl, rfl, _, rfl, ?_⟩
                by_cases hd2 : 200 < d1
                · refine ite1 (decide_eq_true (by omega)) ?_
                  refine q_ _ _ e04 ?_
                  rw [← hwalk]
                  simp [hd2]
                · refine ite0 (by simp; omega) (nx_l ?_)
                  rw [if_neg (by simp [hs4, hd2])] at hwalk
                  -- below, and the stack grows
                  have dk : ∀ z : Str, decide (V.str k1 = V.str z) = decide (k1 = z) := fun z => by
                    rw [Bool.eq_iff_iff]
                    simp
                  have hf5 := fdUp_sg fd xo k1
                  refine seq_l (asg_l (joinV_l (fun v H6 => H6 = H5 ∧ ∃ bl : Nat, v = .int (bl : Int) ∧ (as = [] ∨ bl = if k1 = "types" then d1 else d1 + 1)) (fun v H6 ⟨hH6, bl, hv6, hbl⟩ => ?_) (fun Q' hQ' => ?_)))
                  · subst hH6 hv6
                    refine nx_p ⟨_, rfl, .inl ⟨rfl, _, SqL.of hL4⟩, cons_l ?_⟩
                    have hws : us.length ≤ 1000000 := by
                      have z1 := szL_len as
                      rw [hr4.len]
                      omega
                    have z4 := wtN_len (a := st0)
                    refine lcN_by (J := Itt K a2) (us := us) (as := as) (d := bl) hr4 (by omega) (by show 13 < 14; decide) (fun R h => ⟨_, rfl, a2, rfl, ⟨_, SqT.of ha4⟩, h⟩) (walks_tup ha4) (fun j H7 R hj e7 h => ?_) (fun D7 H7 its hD7 e7 hD7' hok7 hnd => ?_)
                    · exact ⟨_, rfl, _, rfl, by show 3 ≤ sizeLine; decide, h⟩
                    · have hL7 := e7 _ _ hL4
                      have hDd7 := e7 _ _ hD4
                      have lits : its.length = as.length := by
                        have := congrArg List.length hnd
                        simpa [ndN] using this
                      refine ⟨L, D7, refN st0, _, rfl, rfl, hL7, hD7', by rw [refN_len, List.length_map, lits, ← hr4.len]; omega, ?_⟩
                      have hk7 : kids ⟨t1, k1, d1⟩ as = ndN its := by
                        rw [hnd]
                        rcases hbl with rfl | rfl
                        · rfl
                        · rfl
                      have hwt : wtN its = Tr.szL as := by
                        have z : ∀ l : List Tr, ((l.map fun t => (⟨t, "type", bl⟩ : Nd)).map fun q => q.t.sz).sum = Tr.szL l := by
                          intro l
                          induction l with
                          | nil => rfl
                          | cons y l ih => simp only [List.map_cons, List.sum_cons, Tr.szL, ih]
                        rw [← z as, ← hnd]
                        simp [wtN, ndN]
                        rfl
                      have hwr : wtN its.reverse = wtN its := by simp [wtN, List.sum_reverse]
                      refine ⟨n, Nat.lt_succ_self n, its.reverse ++ st0, sg + sg1 xo k1, fdUp fd xo k1, _, _, _, _, _, _, _, _, rfl, ExB.new (ExB.trans (Ex.but (e04.trans e7)) ExB.set) hL0, by rw [upd_same]; simp [refN], by rw [upd_ne hDL]; exact hDd7, ?_, by omega, by omega, by rw [wtN_app, hwr, hwt]; omega, by omega, ?_⟩
                      · refine StkOk.fr (Fr.lst hL7) (StkOk.app (fun q hq => hok7 q (List.mem_reverse.mp hq)) (ok4.fr (Ex.fr e7)))
                      · rw [← hwalk]
                        have : ndN (its.reverse ++ st0) = (kids ⟨t1, k1, d1⟩ as).reverse ++ ndN st0 := by
                          rw [hk7]
                          simp [ndN]
                        rw [this]
                  · refine ⟨_, rfl, rfl, _, rfl, ?_⟩
                    rw [dk]
                    by_cases hkt : k1 = "type"
                    · refine ite1 (decide_eq_true hkt) ⟨_, rfl, _, _, rfl, rfl, hQ' _ _ ⟨rfl, d1 + 1, rfl, .inr ?_⟩⟩
                      rw [hkt]
                      rfl
                    · refine ite0 (by simpa using hkt) ⟨_, rfl, hQ' _ _ ⟨rfl, d1, rfl, ?_⟩⟩
                      rcases hk1 with z | z | z
                      · exact absurd z hkt
                      · subst z
                        exact .inl (parts_num hpt)
                      · subst z
                        exact .inr rfl
            · refine ⟨_, rfl, rfl, _, rfl, ?_⟩
              have kk1 : ∀ (h : sg1 xo k1 = 1), _ := fun h => by
                have z := kk () H4 rfl
                rw [h] at z
                exact z
              by_cases hkt : k1 = "types"
              · subst hkt
                refine ite0 (by simp) ⟨_, rfl, rfl, _, rfl, ?_⟩
                cases xo with
                | none => exact ite0 (by decide) (kk () H4 rfl)
                | some z => exact ite1 rfl ⟨_, rfl, _, _, rfl, rfl, kk1 (by simp [sg1])⟩
              · exact ite1 (by simpa using hkt) (ite1 rfl ⟨_, rfl, _, _, rfl, rfl, kk1 (by simp [sg1, hkt])⟩)
          · refine ⟨_, rfl, rfl, _, rfl, ?_⟩
            cases xo with
            | none => exact ite0 (by decide) (kk () H3 ⟨rfl, e03, Fr.refl, hL3, hD3⟩)
            | some z =>
              refine ite1 rfl ⟨_, rfl, D, rfl, .inl ⟨_, .inl hD3⟩, _, rfl, _, rfl, fdK fd, .inr z, hD3, rfl, by rw [fdK_len]; omega, fun v' hv' => ?_, fun hn => ?_⟩
              · rw [fdK_look] at hv'
                cases hlk : look fd z with
                | none => rw [hlk] at hv'; cases hv'
                | some k' =>
                  rw [hlk] at hv'
                  obtain rfl := Option.some.inj hv'
                  refine ⟨_, rfl, rfl, _, rfl, ?_⟩
                  by_cases hkk : k' = k1
                  · refine ite0 (by simp [hkk]) (kk () H3 ⟨by simp [clash, hlk, hkk], e03, Fr.refl, hL3, ?_⟩)
                    rw [hD3]
                    simp [fdUp, hlk]
                  · refine ite1 (by simpa using hkk) ?_
                    refine q_ _ _ e03 ?_
                    rw [← hwalk]
                    simp [clash, hlk, hkk]
              · refine ⟨_, rfl, rfl, _, rfl, ?_⟩
                have hlk : look fd z = none := by
                  rw [fdK_look] at hn
                  cases h : look fd z with
                  | none => rfl
                  | some _ => rw [h] at hn; cases hn
                refine ite0 (by simp) (kk () _ ⟨by simp [clash, hlk], ExB.new (ExB.trans (Ex.but e03) ExB.set) hD0, Fr.dic hD3, by rw [upd_ne hDL.symm]; exact hL3, ?_⟩)
                rw [upd_same, putK_new _ hn]
                simp [fdUp, hlk, fdK]
    · have hj0 : j = 0 := by omega
      subst hj0
      have h0 := hz0 rfl
      subst h0
      refine .inr ⟨⟨_, _, _, _, SqT.of ha1, SqT.of hb1, rfl, rfl⟩, fun H' => 0 < 1 ∧ Ex H H' ∧ ∃ acc : List V, H' L = some (.lst acc) ∧ (∃ r, acc = [.ref r] ∧ H' r = some (.tup [v, .str kd, .int 1])), ?_, ?_⟩
      · rintro H' ⟨h1, h2, acc, h3, h4⟩
        exact ⟨0, h1, rfl, Nat.le_refl _, h2, acc, h3, (fun z => by cases z), fun _ => h4⟩
      · rintro y H' ⟨r, x1, x2, rfl, hr0, rfl, y1, y2⟩
        have e1 := y1 _ (SqT.of ha1)
        have e2 := y2 _ (SqT.of hb1)
        obtain rfl : v = x1 := by simpa using e1
        obtain rfl : V.str kd = x2 := by simpa using e2
        refine ⟨r, _, rfl, SqT.of upd_same, rfl, v, _, rfl, .str kd, _, rfl, rfl, rfl, ?_⟩
        unfold tYes
        dsimp only
        rw [if_pos rfl]
        refine ⟨_, rfl, _, rfl, by show 3 ≤ sizeLine; decide, fun r2 hr2 => ?_⟩
        have eL : Ex H1 (upd (upd H1 r (.tup [v, .str kd])) r2 (.tup [v, .str kd, .int 1])) := (Ex.new hr0).trans (Ex.new hr2)
        have hL2 := eL _ _ hacc
        refine ⟨[], hL2, by show 0 < sizeLine; decide, by decide, ?_, [.ref r2], upd_same, r2, rfl, ?_⟩
        · exact ExB.new (ExB.trans (Ex.but (e.trans eL)) ExB.set) hL0
        · have nr : r2 ≠ L := fun z => by rw [z, upd_same] at hL2; cases hL2
          rw [upd_ne nr]
          exact upd_same
end
end D0

namespace D0
open PySem PySem.Spec PyProof.Rows L2 L2H HotX Evl K9
structure Txt4 (K : PySem.W.Frag) (mg : Str → Option Value) : Prop where
  kinds : mg "TERM_KINDS" = some (.ref (He.ga K "TERM_KINDS"))
  kq : ∀ H, SqT K H (He.ga K "TERM_KINDS") (Hd.kinds.map V.str)
section
variable {P : Program} {w : World} {K : PySem.W.Frag} {mg : Str → Option Value} {base : Heap} {f : Addr} {fd : FuncData} {k : Nat}
/-- whether a value is one of the kinds -/
def kindV (v : V) : Bool := Hd.kinds.any (eqS v)
def spCheck (K : PySem.W.Frag) : Sp := fun vs H Q E => ∃ (v : V) (s : String), vs = [v] ∧ Bas H v s ∧ (kindV v = true → Q .non H) ∧
  (kindV v = false → ∀ (d : Addr) (H' : Hp), Ex H H' → H' d = some (.xd [("given", v)]) → E (.ref (He.ga K "InvalidKind")) (some d) H')
structure Inis2 (P : Program) (w : World) (K : PySem.W.Frag) (mg : Str → Option Value) (base : Heap) : Prop where
  i_InvalidKind : Ini P w K mg base "InvalidKind" ["given"] w_InvalidKind
abbrev s_check_kind : Stmt := top 28
abbrev N_check_kind : List Str := ["kind"]
theorem sc_check_kind : FnScope N_check_kind ["kind"] (defScope s_check_kind) := ⟨rfl, rfl, rfl, by decide +kernel, rfl, by decide +kernel, by decide +kernel⟩
theorem ok_check_kind (T4 : Txt4 K mg) (I : Inis2 P w K mg base) (hk2 : 2 ≤ k) (F : FunD K "check_kind" "check_kind" (defArgs s_check_kind) (defBody s_check_kind) (defScope s_check_kind) [] [] f fd) (hm : mg "check_kind" = some (.ref f)) : OkR P w K mg base (k + 1) "check_kind" ["kind"] [] (spCheck K) := by
  refine okR_of F hm sc_check_kind (fun _ _ _ _ _ _ us hl => match us, hl with | [_], _ => rfl) (fun q hq => absurd hq (by simp)) (fun vs H Q E h => ?_) (fun cdv A outer s H vs Q E hr h tk => ?_)
  · obtain ⟨v, s, rfl, _⟩ := h
    rfl
  · obtain ⟨v, s, rfl, hv, q1, q0⟩ := h
    have c_TERM_KINDS := T4.kinds
    refine ⟨_, (pss_one (ps_if (pt_cmpR (op_notInT (huF (roomH_of hr))) (pv 0) (pe_glob (v := .ref (He.ga K "TERM_KINDS")) (by rfl) c_TERM_KINDS rfl) (by rfl)) (pss_one (ps_raise_iniK (n := 1) (ks := []) (ix := []) (K0 := K) tk rfl I.i_InvalidKind (by decide) ((roomH_of hr).mono hk2) rfl (by rfl) (pa_cons (pv 0) pa_nil) pk_nil)) pss_nil)), ?_⟩
    refine ⟨_, rfl, s, He.ga K "TERM_KINDS", Hd.kinds, hv, rfl, T4.kq H, _, rfl, ?_⟩
    cases hk : kindV v with
    | true =>
      have hk' : Hd.kinds.any (eqS v) = true := hk
      rw [hk']
      exact ite0 (by decide) (q1 hk)
    | false =>
      have hk' : Hd.kinds.any (eqS v) = false := hk
      rw [hk']
      refine ite1 rfl ?_
      exact ⟨v, rfl, rfl, rfl, [v], fun _ => rfl, rfl, fun d H3 hd e h => q0 hk d H3 e h⟩
def spIsTerm (K : PySem.W.Frag) (C Pt : Addr) : Sp := fun vs H Q E => ∃ (v kv : V) (s : String) (x : Addr), vs = [v, kv, .ref x] ∧ Bas H kv s ∧
  (kindV kv = true → ∃ (t : Tr) (kd : Str) (rs : List (Str × Int)), kv = .str kd ∧ Kd kd ∧ Rd H v t ∧ t.sz ≤ 1000000 ∧ NamesAt H C x rs ∧ TabX H Pt ∧ ∀ H', Ex H H' → Q (.bl (termT (countOf rs) t kd)) H') ∧
  (kindV kv = false → ∀ (d : Addr) (H' : Hp), Ex H H' → H' d = some (.xd [("given", kv)]) → E (.ref (He.ga K "InvalidKind")) (some d) H')
abbrev w_is_term : List (Nat × List Str × List Nat) := [(0, ["names", "value", "kind"], [1, 2, 0]), (1, ["kind", "names"], [0, 1])]
abbrev s_is_term : Stmt := top 29
abbrev N_is_term : List Str := ["value", "kind", "names"]
theorem sc_is_term : FnScope N_is_term ["value", "kind", "names"] (defScope s_is_term) := ⟨rfl, rfl, rfl, by decide +kernel, rfl, by decide +kernel, by decide +kernel⟩
theorem ok_is_term {C Pt : Addr} (r_check_kind : OkR P w K mg base k "check_kind" ["kind"] [] (spCheck K)) (k_scan : OkC P w K mg base k "scan" ["values", "kinds", "names"] (spScan K C Pt)) (F : FunD K "is_term" "is_term" (defArgs s_is_term) (defBody s_is_term) (defScope s_is_term) [] [] f fd) (hm : mg "is_term" = some (.ref f)) :
    OkR P w K mg base (k + 1) "is_term" ["value", "kind", "names"] w_is_term (spIsTerm K C Pt) := by
  refine okR_of F hm sc_is_term (fun _ _ _ _ _ _ us hl => match us, hl with | [_, _, _], _ => rfl) ?_ (fun vs H Q E h => ?_) (fun cdv A outer s H vs Q E hr h tk => ?_)
  · refine List.forall_mem_cons.mpr ⟨kbn_of F fun _ _ _ _ _ _ us ws hu hw => match us, ws, hu, hw with | [], [_, _, _], _, _ => rfl, List.forall_mem_cons.mpr ⟨kbn_of F fun _ _ _ _ _ _ us ws hu hw => match us, ws, hu, hw with | [_], [_, _], _, _ => rfl, fun q hq => absurd hq (by simp)⟩⟩
  · obtain ⟨v, kv, s, x, rfl, _⟩ := h
    rfl
  · obtain ⟨v, kv, s, x, rfl, hb, q1, q0⟩ := h
    refine ⟨_, (pss_cons (ps_expr (pe_callR tk r_check_kind hr (by rfl) (pa_cons (pv 1) pa_nil))) (pss_one (ps_ret (pe_cmpR op_notN (pe_callK0 k_scan hr (by rfl) (pa_cons (pe_tup (pa_cons (pv 0) pa_nil)) (pa_cons (pe_tup (pa_cons (pv 1) pa_nil)) (pa_cons (pv 2) pa_nil)))) pe_non (nomark _))))), ?_⟩
    refine seq_l ⟨_, rfl, kv, s, rfl, hb, fun hk => ?_, q0⟩
    obtain ⟨t, kd, rs, rfl, hkd, hv, hs, hN, hT, q⟩ := q1 hk
    refine nx_p (ret_l ⟨_, rfl, by show 1 ≤ sizeLine; decide, fun p hp => ⟨_, rfl, by show 1 ≤ sizeLine; decide, fun r hr2 => ⟨_, rfl, ?_⟩⟩⟩)
    have e : Ex H (upd (upd H p (.tup [v])) r (.tup [.str kd])) := (Ex.new hp).trans (Ex.new hr2)
    refine ⟨p, r, x, v, t, kd, rs, rfl, (Ex.new hr2) _ _ upd_same, upd_same, hkd, hv.ext e, hs, hN.ext e, hT.ext e, fun u H3 e3 hu => ⟨rfl, ?_⟩⟩
    rw [hu]
    have y := q H3 (e.trans e3)
    simpa using y
end
end D0

namespace D0
open PySem PySem.Spec PyProof.Rows L2 L2H HotX Evl K9
/-! ### words that are alike but for one sign -/
abbrev cl (y : Str) : List Nat := y.cps.toList
theorem cl_app (x y : Str) : cl (x ++ y) = cl x ++ cl y := TL.tl_append x y
theorem cl_len (y : Str) : (cl y).length = y.length := Array.length_toList
theorem cl_pre (y : Str) (p : Nat) : cl (cutS y none (some (p : Int))) = (cl y).take p := by
  show (((cl y).drop _).take _) = _
  rw [HT.sIx_none, HT.sIx_nat]
  simp only [Nat.sub_zero, List.drop_zero]
  by_cases h : p ≤ y.length
  · rw [Nat.min_eq_left h]
  · rw [Nat.min_eq_right (by omega), List.take_of_length_le (by rw [cl_len]; omega), List.take_of_length_le (by rw [cl_len]; omega)]
theorem cl_suf (y : Str) (p : Nat) (h : p ≤ y.length) : cl (cutS y (some (p : Int)) none) = (cl y).drop p := by
  show (((cl y).drop _).take _) = _
  rw [HT.sIx_none, HT.sIx_nat, Nat.min_eq_left h, List.take_of_length_le (by rw [List.length_drop, cl_len]; omega)]
/-- a sign put into a text -/
def put1 (y : Str) (p c : Nat) : Str := cutS y none (some (p : Int)) ++ ⟨#[c]⟩ ++ cutS y (some (p : Int)) none
theorem cl_put {y : Str} {p : Nat} (h : p ≤ y.length) (c : Nat) : cl (put1 y p c) = (cl y).take p ++ c :: (cl y).drop p := by
  unfold put1
  rw [cl_app, cl_app, cl_pre, cl_suf y p h]
  simp [cl]
theorem put_len {y : Str} {p : Nat} (h : p ≤ y.length) (c : Nat) : (put1 y p c).length = y.length + 1 := by
  rw [← cl_len, cl_put h, List.length_append, List.length_cons, List.length_take, List.length_drop, cl_len]
  omega
theorem put_inj {y : Str} {p c d : Nat} (h : p ≤ y.length) (e : put1 y p c = put1 y p d) : c = d := by
  have z := congrArg cl e
  rw [cl_put h, cl_put h] at z
  have := List.append_cancel_left z
  simpa using this
theorem allS_iff (a z : Str) : allS a z = true ↔ ∀ c ∈ cl a, c ∈ cl z := by
  unfold allS
  simp only [List.all_eq_true, decide_eq_true_eq]
theorem zGL : ∀ c ∈ cl zGreat, c ∈ cl zLet := by decide
theorem zSGL : ∀ c ∈ cl (zSmall ++ zGreat), c ∈ cl zLet := by decide
theorem gg_at : ∀ f, f < 26 → (((List.range 9).map fun k => (zGreat ++ zGreat).cps.getD (f + 3 * k) 0).Nodup ∧ ∀ k, k < 9 → (zGreat ++ zGreat).cps.getD (f + 3 * k) 0 ∈ cl zGreat) := by decide +kernel
theorem sg_at : ∀ f, f < 26 → (((List.range 9).map fun k => (zSmall ++ zGreat).cps.getD (f + 3 * k) 0).Nodup ∧ ∀ k, k < 9 → (zSmall ++ zGreat).cps.getD (f + 3 * k) 0 ∈ cl zLet) := by decide +kernel
theorem first_cl (y : Str) : y.cps.getD 0 0 = (cl y).headD 0 := by
  unfold cl
  rw [Array.getD_eq_getD_getElem?, ← Array.getElem?_toList]
  cases y.cps.toList <;> rfl
theorem nameB_of {y : Str} (h1 : 1 ≤ y.length) (h8 : y.length ≤ 8) (hf : (cl y).headD 0 ∈ cl zGreat) (ha : ∀ c ∈ cl y, c ∈ cl zLet) : nameB y = true := by
  unfold nameB
  rw [first_cl, (allS_iff y zLet).mpr ha]
  simp [inLen, h1, h8]
  simpa [cl] using hf
/-- the pool of words -/
theorem pool_names {stem : Str} {p f : Nat} {L : Str} (hs : stem.length ≤ 7) (hp : p ≤ stem.length) (hf : f < 26) (hst : stem.length = 0 ∨ (cl stem).headD 0 ∈ cl zGreat) (hal : ∀ c ∈ cl stem, c ∈ cl zLet) (hL : L = if p = 0 then zGreat ++ zGreat else zSmall ++ zGreat) :
    ((List.range 9).map fun k => put1 stem p (L.cps.getD (f + 3 * k) 0)).Nodup ∧ ∀ y ∈ (List.range 9).map fun k => put1 stem p (L.cps.getD (f + 3 * k) 0), nameB y = true ∧ y.length = stem.length + 1 := by
  have key : (((List.range 9).map fun k => L.cps.getD (f + 3 * k) 0).Nodup ∧ ∀ k, k < 9 → L.cps.getD (f + 3 * k) 0 ∈ cl zLet ∧ (p = 0 → L.cps.getD (f + 3 * k) 0 ∈ cl zGreat)) := by
    subst hL
    split
    · exact ⟨(gg_at f hf).1, fun k hk => ⟨zGL _ ((gg_at f hf).2 k hk), fun _ => (gg_at f hf).2 k hk⟩⟩
    · rename_i h0
      exact ⟨(sg_at f hf).1, fun k hk => ⟨(sg_at f hf).2 k hk, fun z => absurd z h0⟩⟩
  obtain ⟨nd, al⟩ := key
  constructor
  · have e : ((List.range 9).map fun k => put1 stem p (L.cps.getD (f + 3 * k) 0)) = ((List.range 9).map fun k => L.cps.getD (f + 3 * k) 0).map (put1 stem p) := by rw [List.map_map]; rfl
    rw [e, nodup_map fun a b h => put_inj hp h]
    exact nd
  · intro y hy
    obtain ⟨k, hk, rfl⟩ := List.mem_map.mp hy
    obtain ⟨c1, c2⟩ := al k (List.mem_range.mp hk)
    have hl := put_len hp (L.cps.getD (f + 3 * k) 0)
    refine ⟨nameB_of (by omega) (by omega) ?_ fun c hc => ?_, hl⟩
    · rw [cl_put hp]
      cases p with
      | zero => simpa using c2 rfl
      | succ p =>
        rcases hst with h | h
        · omega
        · cases hz : cl stem with
          | nil => rw [← cl_len, hz] at hp; simp at hp
          | cons a r => rw [hz] at h; simpa using h
    · rw [cl_put hp] at hc
      rcases List.mem_append.mp hc with h | h
      · exact hal c (List.mem_of_mem_take h)
      · rcases List.mem_cons.mp h with rfl | h
        · exact c1
        · exact hal c (List.mem_of_mem_drop h)
section
variable {P : Program} {w : World} {K : PySem.W.Frag} {mg : Str → Option Value} {base : Heap} {f : Addr} {fd : FuncData} {k : Nat}
abbrev Signs (P : Program) (w : World) (K : PySem.W.Frag) (mg : Str → Option Value) (base : Heap) (k : Nat) : Prop := OkC P w K mg base k "_law_signs" ["box", "alphabet", "many"] spSigns
def spWords : Sp := fun vs H Q _ => ∃ (b : Addr) (m n : Nat), vs = [.ref b, .int (n : Int)] ∧ n ≤ 6 ∧ m + 10 ≤ 1000 ∧ BoxAt H b m ∧ ∀ (p : Addr) (ys : List Str) (H' : Hp), ExB b H H' → BoxAt H' b (m + 10) → p ≠ b → H' p = some (.lst (ys.map V.str)) → ys.length = n → (∀ y ∈ ys, y.length ≤ 5) → Q (.ref p) H'
abbrev s_words : Stmt := top 37
abbrev N_words : List Str := ["box", "many", "small", "stem", "place", "first", "signs", "k"]
theorem sc_words : FnScope N_words ["box", "many"] (defScope s_words) := ⟨rfl, rfl, rfl, by decide +kernel, rfl, by decide +kernel, by decide +kernel⟩
theorem ok_words (T : Txt K mg) (k_take : Take P w K mg base k) (k_signs : Signs P w K mg base k) (F : FunD K "_law_words" "_law_words" (defArgs s_words) (defBody s_words) (defScope s_words) [] [] f fd) (hm : mg "_law_words" = some (.ref f)) : OkC P w K mg base (k + 1) "_law_words" ["box", "many"] spWords := by
  refine okC_of F hm sc_words (fun _ _ _ _ _ _ us hl => match us, hl with | [_, _], _ => rfl) (fun vs H Q E h => ?_) (fun cdv A outer s H vs Q E hr h => ?_)
  · obtain ⟨b, m, n, rfl, _⟩ := h
    rfl
  · obtain ⟨b, m, n, rfl, hn, hm, hB, q⟩ := h
    refine ⟨_, PSs.nox (pss_cons (ps_set (i := 2) sc_words.nd rfl (Or.inl rfl) pe_str) (pss_cons (ps_set (i := 3) sc_words.nd rfl (Or.inr rfl) (pe_op op_add_str (pe_callK0 k_signs hr (by rfl) (pa_cons (pv 0) (pa_cons (pv 2) (pa_cons pe_int pa_nil)))) (pe_callK0 k_signs hr (by rfl) (pa_cons (pv 0) (pa_cons (pe_op op_add_str (pv 2) pe_str) (pa_cons (pe_callK0 k_take hr (by rfl) (pa_cons (pv 0) (pa_cons pe_int pa_nil))) pa_nil)))))) (pss_cons (ps_set (i := 3) sc_words.nd rfl (Or.inr rfl) (pe_ifExp (pt_cmpR op_eq (pe_callK0 k_take hr (by rfl) (pa_cons (pv 0) (pa_cons pe_int pa_nil))) pe_int (nomark _)) pe_str (pv 3))) (pss_cons (ps_asg (pe_tup (pa_cons (pe_callK0 k_take hr (by rfl) (pa_cons (pv 0) (pa_cons (pe_op op_add (pe_callB call_len_str (by rfl) T.f_len (by decide +kernel) (pa_cons (pv 3) pa_nil)) pe_int) pa_nil))) (pa_cons (pe_callK0 k_take hr (by rfl) (pa_cons (pv 0) (pa_cons pe_int pa_nil))) pa_nil))) (pg_tupC (.inl ⟨rfl, rfl⟩) (pgs_cons (pg_name (i := 4) sc_words.nd rfl (Or.inr rfl)) (pgs_cons (pg_name (i := 5) sc_words.nd rfl (Or.inr rfl)) pgs_nil)))) (pss_cons (ps_set (i := 6) sc_words.nd rfl (Or.inr rfl) (pe_ifExp (pt_cmpR op_eq (pv 4) pe_int (nomark _)) (pv 2) (pe_op op_add_str pe_str (pv 2)))) (pss_one (ps_ret (pe_lc (own := [("k", 7)]) (g := gName 7) rfl sc_words.nd (pi_range1 (by rfl) T.f_range (pa_cons (pv 1) pa_nil)) (blkOk_by (N := N_words) (sc := defScope s_words) (by decide +kernel)) (fun _ _ _ _ _ => pg_name (i := 7) sc_words.nd rfl (Or.inl rfl)) (fun _ _ _ _ _ => pts_nil) (fun _ _ _ _ _ => (pe_op op_add_str (pe_op op_add_str (pe_slice sl_str (pv 3) po_none (po_some (pv 4))) (pe_ix ix_str (pv 6) (pe_op op_add (pv 5) (pe_op op_mul pe_int (pv 7))) fun _ _ => rfl)) (pe_slice sl_str (pv 3) (po_some (pv 4)) po_none))))))))))), ?_⟩
    have sz := sizeLine_eq
    obtain ⟨xs0, hb0⟩ := hB.at_
    refine seq_l (asg_l ?_)
    refine nx_p (seq_l (asg_l (op_l ⟨_, rfl, _, rfl, b, zSmall, 1, m, rfl, by decide, by decide, by decide, by omega, hB, fun y1 H1 l1 c1 x1 hB1 => ?_⟩)))
    refine ⟨_, rfl, _, rfl, _, _, rfl, rfl, by decide, take_l (b := b) (n := 3) (m := m + 1) (fun R r => ⟨_, rfl, r⟩) (fun R r => r) (by decide) (by decide) (by omega) hB1 fun d2 H2 hd2 x2 hB2 => ⟨b, _, d2, m + 2, rfl, by decide, by decide, by omega, by omega, hB2, fun y3 H3 l3 c3 x3 hB3 => ?_⟩⟩
    have a1 := len_app y1 y3
    refine ⟨_, _, rfl, rfl, by omega, nx_p ?_⟩
    have x03 := x1.trans (x2.trans x3)
    have ls0 : (y1 ++ y3).length ≤ 3 := by omega
    generalize y1 ++ y3 = st0 at ls0 ⊢
    refine seq_l (asg_l (joinV_l (fun v H4 => ∃ z : Str, v = .str z ∧ z.length ≤ 3 ∧ ExB b H3 H4 ∧ BoxAt H4 b (m + 5)) (fun v H4 ⟨stem, hv, ls, x4, hB4⟩ => ?_) (fun Q' hQ' => ?_)))
    · subst hv
      refine nx_p (seq_l (asgG_l (tup_l (cons_l (take_l (b := b) (n := stem.length + 1) (m := m + 5) (fun R r => ⟨_, rfl, r⟩) (fun R r => ⟨_, rfl, stem, rfl, by omega, _, _, rfl, rfl, r⟩) (by omega) (by omega) (by omega) hB4 fun d5 H5 hd5 x5 hB5 => ?_)))))
      refine cons_l (take_l (b := b) (n := 10) (m := m + 5 + 1) (fun R r => ⟨_, rfl, r⟩) (fun R r => r) (by decide) (by decide) (by omega) hB5 fun d6 H6 hd6 x6 hB6 => ?_)
      refine nil_l ⟨by show 2 ≤ sizeLine; decide, fun p6 hp6 => ⟨p6, _, rfl, SqT.of upd_same, rfl, _, _, rfl, _, _, rfl, rfl, nx_p ?_⟩⟩
      have e7 : Ex H6 (upd H6 p6 (.tup [.int (d5 : Int), .int (d6 : Int)])) := Ex.new hp6
      generalize upd H6 p6 (.tup [.int (d5 : Int), .int (d6 : Int)]) = H7 at e7 ⊢
      have x07 : ExB b H H7 := x03.trans (x4.trans (x5.trans (x6.trans (Ex.but e7))))
      have hB7 := (hB6.ex e7).up (show m + 5 + 1 + 1 ≤ m + 10 by omega)
      refine seq_l (asg_l (joinV_l (fun v H8 => H8 = H7 ∧ ∃ z : Str, v = .str z ∧ 26 ≤ z.length ∧ z.length ≤ 36) (fun v H8 ⟨h8, z, hv, lz, lz2⟩ => ?_) (fun Q' hQ' => ?_)))
      · subst h8 hv
        have c1 := cutS_len_le stem none (some (d5 : Int))
        have c2 := cutS_len_le stem (some (d5 : Int)) none
        refine nx_p (ret_l (lc_by (J := Itr 0 n) (n := n) (item := fun i => .int (i : Int)) (fun D j acc H1 => ∃ ys : List Str, acc = ys.map V.str ∧ ys.length = j ∧ ∀ y ∈ ys, y.length ≤ 5) (by omega) (by show 7 < 8; decide) (fun R h => ⟨_, rfl, n, rfl, by omega, by omega, h⟩) walks_rng0 (fun _ _ _ _ _ _ h => h) (fun _ _ => ⟨[], rfl, rfl, by simp⟩) (fun D j acc H1 C Cf hj hD e ha hp kf kt => ?_) (fun D acc H9 hD e9 ha hp => ?_)))
        · obtain ⟨ys, rfl, ly, hy⟩ := hp
          unfold tYes
          dsimp only
          rw [if_pos rfl]
          have hl : d6 + 2 * j < z.cps.size := by
            have : z.cps.size = z.length := rfl
            omega
          have hi : (d6 : Int) + 2 * (j : Int) = ((d6 + 2 * j : Nat) : Int) := by omega
          have l1 : (⟨#[z.cps.getD (d6 + 2 * j) 0]⟩ : Str).length = 1 := rfl
          have a2 := len_app (cutS stem none (some (d5 : Int))) ⟨#[z.cps.getD (d6 + 2 * j) 0]⟩
          have a3 := len_app (cutS stem none (some (d5 : Int)) ++ ⟨#[z.cps.getD (d6 + 2 * j) 0]⟩) (cutS stem (some (d5 : Int)) none)
          have hpp := put_len (y := stem) (p := d5) (by omega) (z.cps.getD (d6 + 2 * j) 0)
          refine ⟨_, rfl, _, rfl, _, rfl, stem, rfl, by omega, _, rfl, _, rfl, _, rfl, _, _, rfl, rfl, .inl (by decide), _, _, rfl, rfl, z, _, z.cps.getD (d6 + 2 * j) 0, rfl, rfl, by omega, ?_, _, _, rfl, rfl, by omega, _, rfl, _, rfl, _, rfl, stem, rfl, by omega, _, _, rfl, rfl, by omega, ?_⟩
          · rw [hi]
            exact atI_nat (by rw [Array.getElem?_toList]; simp [Array.getD_eq_getD_getElem?, Array.getElem?_eq_getElem hl])
          · refine kt _ _ (Ex.refl _) ⟨ys ++ [put1 stem d5 (z.cps.getD (d6 + 2 * j) 0)], by rw [List.map_append]; rfl, by simp [ly], fun y h => ?_⟩
            rcases List.mem_append.mp h with h | h
            · exact hy y h
            · rw [List.mem_singleton.mp h]
              omega
        · obtain ⟨ys, rfl, ly, hy⟩ := hp
          have nD : D ≠ b := by
            obtain ⟨u, hu⟩ := hB7.at_
            exact (ne_of_none hu hD).symm
          exact q D ys H9 (x07.trans (Ex.but e9)) (hB7.ex e9) nD ha ly hy
      · refine ⟨_, rfl, rfl, _, rfl, ?_⟩
        dsimp only
        split
        · exact ⟨_, rfl, hQ' _ _ ⟨rfl, zSmall, rfl, by decide, by decide⟩⟩
        · exact ⟨_, rfl, _, _, rfl, rfl, by decide, hQ' _ _ ⟨rfl, _, rfl, by decide, by decide⟩⟩
    · refine take_l (b := b) (n := 4) (m := m + 2 + d2) (fun R r => ⟨_, rfl, r⟩) (fun R r => r) (by decide) (by decide) (by omega) hB3 fun d4 H4 hd4 x4 hB4 => ⟨rfl, _, rfl, ?_⟩
      dsimp only
      split
      · exact hQ' _ _ ⟨"", rfl, by decide, x4, hB4.up (by omega)⟩
      · exact ⟨_, rfl, hQ' _ _ ⟨st0, rfl, ls0, x4, hB4.up (by omega)⟩⟩
end
end D0

namespace D0
open PySem PySem.Spec PyProof.Rows L2 L2H HotX Evl K9
theorem nodup_set8 {l : List Str} {x : Str} (h : l.Nodup) (h9 : l.length = 9) (hx : x ∉ l) : (l.set 8 x).Nodup := by
  rw [List.set_eq_take_append_cons_drop, if_pos (by omega), List.drop_of_length_le (by omega)]
  refine List.nodup_append.mpr ⟨h.sublist (List.take_sublist ..), by simp, fun a ha c hc => ?_⟩
  rw [List.mem_singleton.mp hc]
  rintro rfl
  exact hx (List.mem_of_mem_take ha)
theorem str_pos {z : Str} (h : z ≠ "") : 1 ≤ z.length := by
  rcases Nat.eq_zero_or_pos z.length with e | e
  · refine absurd ?_ h
    obtain ⟨c⟩ := z
    have e2 : c = #[] := Array.eq_empty_of_size_eq_zero e
    rw [e2]
    rfl
  · exact e
/-- a row's tuple that is not at D -/
def RowN (D : Addr) (H : Hp) (v : V) (r : Str × Int) : Prop := ∃ t, v = .ref t ∧ t ≠ D ∧ H t = some (.tup [.str r.1, .int r.2])
theorem RowN.exb {D : Addr} {H H' : Hp} {v : V} {r : Str × Int} (e : ExB D H H') (h : RowN D H v r) : RowN D H' v r := by
  obtain ⟨t, rfl, n, h⟩ := h
  exact ⟨t, rfl, n, e _ _ n h⟩
theorem RowN.at_ {D : Addr} {H : Hp} {v : V} {r : Str × Int} (h : RowN D H v r) : RowAt H v r := by
  obtain ⟨t, rfl, n, h⟩ := h
  exact ⟨t, rfl, h⟩
theorem paired_snoc {α β : Type} {R : α → β → Prop} {xs : List α} {ys : List β} {x : α} {y : β} (h : Paired R xs ys) (r : R x y) : Paired R (xs ++ [x]) (ys ++ [y]) := by
  induction h with
  | nil => exact .cons r .nil
  | cons a _ ih => exact .cons a ih
theorem paired_imp {α β : Type} {R S : α → β → Prop} (f : ∀ a b, R a b → S a b) {xs : List α} {ys : List β} (h : Paired R xs ys) : Paired S xs ys := by
  induction h with
  | nil => exact .nil
  | cons a _ ih => exact .cons (f _ _ a) ih
theorem erase_perm {α : Type} {l : List α} {i : Nat} (h : i < l.length) : (l.eraseIdx i ++ [l[i]]).Perm l := by
  induction l generalizing i with
  | nil => simp at h
  | cons a r ih =>
    cases i with
    | zero => exact (List.perm_append_comm (l₁ := r) (l₂ := [a]))
    | succ i => exact (ih (by simpa using h)).cons a
theorem cutV_drop (xs : List V) (n : Nat) : cutV xs (some (n : Int)) none = xs.drop n := by
  unfold cutV
  rw [HT.sIx_nat, HT.sIx_none]
  by_cases h : n ≤ xs.length
  · rw [Nat.min_eq_left h, List.take_of_length_le (by rw [List.length_drop]; omega)]
  · rw [Nat.min_eq_right (by omega), List.drop_of_length_le (Nat.le_refl _), List.drop_of_length_le (by omega)]
    simp
section
variable {P : Program} {w : World} {K : PySem.W.Frag} {mg : Str → Option Value} {base : Heap} {f : Addr} {fd : FuncData} {k : Nat}
/-- a row of a name and its count -/
def GoodQ (q : Str × Int) : Prop := nameB q.1 = true ∧ 0 ≤ q.2 ∧ q.2 ≤ 3
def spNamesL : Sp := fun vs H Q _ => ∃ (b : Addr) (m : Nat), vs = [.ref b] ∧ m + 40 ≤ 1000 ∧ BoxAt H b m ∧ ∀ (p pr ps : Addr) (ur : List V) (qs : List (Str × Int)) (ys : List Str) (H' : Hp), ExB b H H' → BoxAt H' b (m + 40) → H' p = some (.tup [.ref pr, .ref ps]) → pr ≠ b → ps ≠ b →
  H' pr = some (.lst ur) → Paired (RowAt H') ur qs → H' ps = some (.lst (ys.map V.str)) → qs.length = 6 → ys.length = 3 → (qs.map (·.1)).Nodup → (∀ q ∈ qs, GoodQ q) → (∀ y ∈ ys, y.length ≤ 8) → Q (.ref p) H'
abbrev s_names : Stmt := top 36
abbrev N_names : List Str := ["box", "small", "great", "stem", "place", "first", "letters", "words", "k", "mixed", "counts"]
theorem sc_names : FnScope N_names ["box"] (defScope s_names) := ⟨rfl, rfl, rfl, by decide +kernel, rfl, by decide +kernel, by decide +kernel⟩
theorem ok_names (T : Txt K mg) (k_take : Take P w K mg base k) (k_signs : Signs P w K mg base k) (F : FunD K "_law_names" "_law_names" (defArgs s_names) (defBody s_names) (defScope s_names) [] [] f fd) (hm : mg "_law_names" = some (.ref f)) : OkC P w K mg base (k + 1) "_law_names" ["box"] spNamesL := by
  refine okC_of F hm sc_names (fun _ _ _ _ _ _ us hl => match us, hl with | [_], _ => rfl) (fun vs H Q E h => ?_) (fun cdv A outer s H vs Q E hr h => ?_)
  · obtain ⟨b, m, rfl, _⟩ := h
    rfl
  · obtain ⟨b, m, rfl, hm, hB, q⟩ := h
    refine ⟨_, PSs.nox (pss_cons (ps_asg (pe_tup (pa_cons pe_str (pa_cons pe_str pa_nil))) (pg_tupC (.inl ⟨rfl, rfl⟩) (pgs_cons (pg_name (i := 1) sc_names.nd rfl (Or.inl rfl)) (pgs_cons (pg_name (i := 2) sc_names.nd rfl (Or.inl rfl)) pgs_nil)))) (pss_cons (ps_set (i := 3) sc_names.nd rfl (Or.inr rfl) (pe_op op_add_str (pe_callK0 k_signs hr (by rfl) (pa_cons (pv 0) (pa_cons (pv 2) (pa_cons pe_int pa_nil)))) (pe_callK0 k_signs hr (by rfl) (pa_cons (pv 0) (pa_cons (pe_op op_add_str (pv 1) (pv 2)) (pa_cons (pe_callK0 k_take hr (by rfl) (pa_cons (pv 0) (pa_cons pe_int pa_nil))) pa_nil)))))) (pss_cons (ps_set (i := 3) sc_names.nd rfl (Or.inr rfl) (pe_ifExp (pt_cmpR op_eq (pe_callK0 k_take hr (by rfl) (pa_cons (pv 0) (pa_cons pe_int pa_nil))) pe_int (nomark _)) pe_str (pv 3))) (pss_cons (ps_asg (pe_tup (pa_cons (pe_callK0 k_take hr (by rfl) (pa_cons (pv 0) (pa_cons (pe_op op_add (pe_callB call_len_str (by rfl) T.f_len (by decide +kernel) (pa_cons (pv 3) pa_nil)) pe_int) pa_nil))) (pa_cons (pe_callK0 k_take hr (by rfl) (pa_cons (pv 0) (pa_cons pe_int pa_nil))) pa_nil))) (pg_tupC (.inl ⟨rfl, rfl⟩) (pgs_cons (pg_name (i := 4) sc_names.nd rfl (Or.inr rfl)) (pgs_cons (pg_name (i := 5) sc_names.nd rfl (Or.inr rfl)) pgs_nil)))) (pss_cons (ps_set (i := 6) sc_names.nd rfl (Or.inr rfl) (pe_ifExp (pt_cmpR op_eq (pv 4) pe_int (nomark _)) (pe_op op_add_str (pv 2) (pv 2)) (pe_op op_add_str (pv 1) (pv 2)))) (pss_cons (ps_setLc (i := 7) (own := [("k", 8)]) (g := gName 8) rfl sc_names.nd rfl rfl rfl (pi_range1 (by rfl) T.f_range (pa_cons pe_int pa_nil)) (blkOk_by (N := N_names) (sc := defScope s_names) (by decide +kernel)) (fun _ _ _ _ _ => pg_name (i := 8) sc_names.nd rfl (Or.inl rfl)) (fun _ _ _ _ _ => pts_nil) (fun _ _ _ _ _ => (pe_op op_add_str (pe_op op_add_str (pe_slice sl_str (pv 3) po_none (po_some (pv 4))) (pe_ix ix_str (pv 6) (pe_op op_add (pv 5) (pe_op op_mul pe_int (pv 8))) fun _ _ => rfl)) (pe_slice sl_str (pv 3) (po_some (pv 4)) po_none)))) (pss_cons (ps_asg (pe_ifExp (pt_cmpR op_eq (pv 3) pe_str (nomark _)) (pe_ix ix_list (pv 7) pe_int fun _ _ => rfl) (pv 3)) (pg_sub (pv 7) pe_int set_list)) (pss_cons (ps_asg (pe_tup (pa_cons (pe_lst pa_nil) (pa_cons (pe_lst (pa_cons pe_int (pa_cons pe_int (pa_cons pe_int (pa_cons pe_int (pa_cons (pe_callK0 k_take hr (by rfl) (pa_cons (pv 0) (pa_cons pe_int pa_nil))) (pa_cons (pe_callK0 k_take hr (by rfl) (pa_cons (pv 0) (pa_cons pe_int pa_nil))) pa_nil))))))) pa_nil))) (pg_tupC (.inl ⟨rfl, rfl⟩) (pgs_cons (pg_name (i := 9) sc_names.nd rfl (Or.inr rfl)) (pgs_cons (pg_name (i := 10) sc_names.nd rfl (Or.inr rfl)) pgs_nil)))) (pss_cons (ps_while PassesOwn.never (pt_cmpR (op_ne0 (huC (roomH_of hr))) (pv 7) (pe_lst pa_nil) (nomark _)) (pss_one (ps_expr (pe_bm PySem.F.plainAttrs_list PySem.F.slot_list_append PySem.F.type_list_append mt_append (pv 9) (pa_cons (pe_bm PySem.F.plainAttrs_list PySem.F.slot_list_pop PySem.F.type_list_pop mt_popAt (pv 7) (pa_cons (pe_callK0 k_take hr (by rfl) (pa_cons (pv 0) (pa_cons (pe_callB call_len_seq (by rfl) T.f_len (by decide +kernel) (pa_cons (pv 7) pa_nil)) pa_nil))) pa_nil)) pa_nil))))) (pss_one (ps_ret (pe_tup (pa_cons (pe_lc (own := [("k", 8)]) (g := gName 8) rfl sc_names.nd (pi_range1 (by rfl) T.f_range (pa_cons pe_int pa_nil)) (blkOk_by (N := N_names) (sc := defScope s_names) (by decide +kernel)) (fun _ _ _ _ _ => pg_name (i := 8) sc_names.nd rfl (Or.inl rfl)) (fun _ _ _ _ _ => pts_nil) (fun _ _ _ _ _ => (pe_tup (pa_cons (pe_ix (show IxR _ (rIxL K) from ix_list) (pv 9) (pv 8) fun _ _ => rfl) (pa_cons (pe_ix (show IxR _ (rIxL K) from ix_list) (pv 10) (pv 8) fun _ _ => rfl) pa_nil))))) (pa_cons (pe_slice sl_list (pv 9) (po_some pe_int) po_none) pa_nil)))))))))))))), ?_⟩
    have sz := sizeLine_eq
    obtain ⟨xs0, hb0⟩ := hB.at_
    refine seq_l (asgG_l (tup_l (cons_l (c_l (cons_l (c_l (nil_l ⟨by show 2 ≤ sizeLine; decide, fun p0 hp0 => ⟨p0, _, rfl, SqT.of upd_same, rfl, _, _, rfl, _, _, rfl, rfl, nx_p ?_⟩⟩)))))))
    have e0 : Ex H (upd H p0 (.tup [.str zSmall, .str zGreat])) := Ex.new hp0
    have hB0 := hB.ex e0
    show tSeq _ _ _ _ (upd H p0 (.tup [.str zSmall, .str zGreat]))
    generalize upd H p0 (.tup [.str zSmall, .str zGreat]) = H0 at e0 hB0 ⊢
    refine seq_l (asg_l (op_l ⟨_, rfl, _, rfl, b, zGreat, 1, m, rfl, by decide, by decide, by decide, by omega, hB0, fun y1 H1 l1 c1 x1 hB1 => ?_⟩))
    refine ⟨_, rfl, _, rfl, _, rfl, _, _, rfl, rfl, by decide, take_l (b := b) (n := 7) (m := m + 1) (fun R r => ⟨_, rfl, r⟩) (fun R r => r) (by decide) (by decide) (by omega) hB1 fun d2 H2 hd2 x2 hB2 => ⟨b, _, d2, m + 2, rfl, by decide, by decide, by omega, by omega, hB2, fun y3 H3 l3 c3 x3 hB3 => ?_⟩⟩
    have a1 := len_app y1 y3
    refine ⟨_, _, rfl, rfl, by omega, nx_p ?_⟩
    have x03 : ExB b H H3 := (Ex.but e0).trans (x1.trans (x2.trans x3))
    have ls0 : (y1 ++ y3).length ≤ 7 := by omega
    have hs0 : (cl (y1 ++ y3)).headD 0 ∈ cl zGreat ∧ ∀ c ∈ cl (y1 ++ y3), c ∈ cl zLet := by
      rw [cl_app]
      constructor
      · cases hz : cl y1 with
        | nil => rw [← cl_len, hz] at l1; cases l1
        | cons a r => exact c1 a (by rw [show y1.cps.toList = cl y1 from rfl, hz]; exact List.mem_cons_self ..)
      · intro c hc
        rcases List.mem_append.mp hc with h | h
        · exact zGL c (c1 c h)
        · exact zSGL c (c3 c h)
    generalize y1 ++ y3 = st0 at ls0 hs0 ⊢
    refine seq_l (asg_l (joinV_l (fun v H4 => ∃ z : Str, v = .str z ∧ z.length ≤ 7 ∧ (z.length = 0 ∨ (cl z).headD 0 ∈ cl zGreat) ∧ (∀ c ∈ cl z, c ∈ cl zLet) ∧ ExB b H3 H4 ∧ BoxAt H4 b (m + 10)) (fun v H4 ⟨stem, hv, ls, hst, hal, x4, hB4⟩ => ?_) (fun Q' hQ' => ?_)))
    · subst hv
      refine nx_p (seq_l (asgG_l (tup_l (cons_l (take_l (b := b) (n := stem.length + 1) (m := m + 10) (fun R r => ⟨_, rfl, r⟩) (fun R r => ⟨_, rfl, stem, rfl, by omega, _, _, rfl, rfl, r⟩) (by omega) (by omega) (by omega) hB4 fun d5 H5 hd5 x5 hB5 => ?_)))))
      refine cons_l (take_l (b := b) (n := 26) (m := m + 10 + 1) (fun R r => ⟨_, rfl, r⟩) (fun R r => r) (by decide) (by decide) (by omega) hB5 fun d6 H6 hd6 x6 hB6 => ?_)
      refine nil_l ⟨by show 2 ≤ sizeLine; decide, fun p6 hp6 => ⟨p6, _, rfl, SqT.of upd_same, rfl, _, _, rfl, _, _, rfl, rfl, nx_p ?_⟩⟩
      have e7 : Ex H6 (upd H6 p6 (.tup [.int (d5 : Int), .int (d6 : Int)])) := Ex.new hp6
      generalize upd H6 p6 (.tup [.int (d5 : Int), .int (d6 : Int)]) = H7 at e7 ⊢
      have x07 : ExB b H H7 := x03.trans (x4.trans (x5.trans (x6.trans (Ex.but e7))))
      have hB7 := (hB6.ex e7).up (show m + 10 + 1 + 1 ≤ m + 12 by omega)
      refine seq_l (asg_l (joinV_l (fun v H8 => H8 = H7 ∧ ∃ z : Str, v = .str z ∧ z = if d5 = 0 then zGreat ++ zGreat else zSmall ++ zGreat) (fun v H8 ⟨h8, z, hv, hz⟩ => ?_) (fun Q' hQ' => ?_)))
      · subst h8 hv
        have lz : z.length = 52 := by
          rw [hz]
          split <;> decide
        obtain ⟨nd, hnm⟩ := pool_names (stem := stem) (p := d5) (f := d6) (L := z) ls (by omega) hd6 hst hal hz
        have c1 := cutS_len_le stem none (some (d5 : Int))
        have c2 := cutS_len_le stem (some (d5 : Int)) none
        refine nx_p (seq_l (asg_l ?_))
        refine lc_by (J := Itr 0 9) (n := 9) (item := fun i => .int (i : Int)) (fun D j acc H1 => acc = ((List.range j).map fun k => put1 stem d5 (z.cps.getD (d6 + 3 * k) 0)).map V.str) (by omega) (by show 8 < 11; decide) (fun R h => ⟨_, rfl, by omega, by omega, h⟩) walks_rng0 (fun _ _ _ _ _ _ h => h) (fun _ _ => rfl) (fun D j acc H1 C Cf hj hD e ha hp kf kt => ?_) (fun D acc H9 hD e9 ha hp => ?_)
        · subst hp
          unfold tYes
          dsimp only
          rw [if_pos rfl]
          have hl : d6 + 3 * j < z.cps.size := by
            have : z.cps.size = z.length := rfl
            omega
          have hi : (d6 : Int) + 3 * (j : Int) = ((d6 + 3 * j : Nat) : Int) := by omega
          have l1 : (⟨#[z.cps.getD (d6 + 3 * j) 0]⟩ : Str).length = 1 := rfl
          have a2 := len_app (cutS stem none (some (d5 : Int))) ⟨#[z.cps.getD (d6 + 3 * j) 0]⟩
          have a3 := len_app (cutS stem none (some (d5 : Int)) ++ ⟨#[z.cps.getD (d6 + 3 * j) 0]⟩) (cutS stem (some (d5 : Int)) none)
          refine ⟨_, rfl, _, rfl, _, rfl, stem, rfl, by omega, _, rfl, _, rfl, _, rfl, _, _, rfl, rfl, .inl (by decide), _, _, rfl, rfl, z, _, z.cps.getD (d6 + 3 * j) 0, rfl, rfl, by omega, ?_, _, _, rfl, rfl, by omega, _, rfl, _, rfl, _, rfl, stem, rfl, by omega, _, _, rfl, rfl, by omega, ?_⟩
          · rw [hi]
            exact atI_nat (by rw [Array.getElem?_toList]; simp [Array.getD_eq_getD_getElem?, Array.getElem?_eq_getElem hl])
          · refine kt _ _ (Ex.refl _) ?_
            rw [List.range_succ, List.map_append, List.map_append]
            rfl
        · subst hp
          have x09 : ExB b H H9 := x07.trans (Ex.but e9)
          have hB9 := hB7.ex e9
          have nDb : D ≠ b := by
            obtain ⟨u, hu⟩ := hB7.at_
            exact (ne_of_none hu hD).symm
          have nD0 : H D = none := fresh_back x07 hD nDb
          have lws : ((List.range 9).map fun k => put1 stem d5 (z.cps.getD (d6 + 3 * k) 0)).length = 9 := by simp
          generalize ((List.range 9).map fun k => put1 stem d5 (z.cps.getD (d6 + 3 * k) 0)) = ws at nd hnm ha lws
          have h8 : 8 < ws.length := by omega
          have at8 : atI (ws.map V.str) (8 : Int) = some (.str ws[8]) := atI_nat (j := 8) (by rw [List.getElem?_map, List.getElem?_eq_getElem h8]; rfl)
          refine nx_p (seq_l (asgG_l (joinV_l (fun v H10 => H10 = H9 ∧ ∃ y : Str, v = .str y ∧ (ws.set 8 y).Nodup ∧ ∀ x ∈ ws.set 8 y, nameB x = true ∧ x.length ≤ 8) (fun v H10 ⟨hH, y, hv, nd1, hn1⟩ => ?_) (fun Q' hQ' => ?_))))
          · subst hH hv
            refine ⟨_, rfl, D, _, 8, 8, rfl, rfl, ha, by rw [List.length_map, lws]; rfl, nx_p ?_⟩
            have e11 : (ws.map V.str).set 8 (.str y) = (ws.set 8 y).map V.str := by rw [List.map_set]
            have x11 : ExB b H (upd H10 D (.lst ((ws.map V.str).set 8 (.str y)))) := fun a o na hao => by
              rw [upd_ne (ne_of_none hao nD0)]
              exact x09 _ _ na hao
            have h11 : upd H10 D (.lst ((ws.map V.str).set 8 (.str y))) D = some (.lst ((ws.set 8 y).map V.str)) := by rw [← e11]; exact upd_same
            have hB11 := hB9.ne (o := .lst ((ws.map V.str).set 8 (.str y))) nDb.symm
            have lw1 : (ws.set 8 y).length = 9 := by rw [List.length_set, lws]
            show tSeq _ _ _ _ (upd H10 D (.lst ((ws.map V.str).set 8 (.str y))))
            generalize upd H10 D (.lst ((ws.map V.str).set 8 (.str y))) = H11 at x11 h11 hB11 ⊢
            generalize ws.set 8 y = w1 at nd1 hn1 h11 lw1
            refine seq_l (asgG_l (tup_l (cons_l (lst_l (nil_l ⟨by decide, fun pm hpm => cons_l (lst_l (cons_l (c_l (cons_l (c_l (cons_l (c_l (cons_l (c_l ?_)))))))))⟩)))))
            have e12 : Ex H11 (upd H11 pm (.lst [])) := Ex.new hpm
            have h12 : upd H11 pm (.lst []) pm = some (.lst []) := upd_same
            have nmb : pm ≠ b := by
              obtain ⟨u, hu⟩ := hB11.at_
              exact (ne_of_none hu hpm).symm
            have nm0 : H pm = none := fresh_back x11 hpm nmb
            have nmD : pm ≠ D := (ne_of_none h11 hpm).symm
            have h12D := e12 _ _ h11
            have hB12 := hB11.ex e12
            have x12 := x11.trans (Ex.but e12)
            generalize upd H11 pm (.lst []) = H12 at e12 h12 h12D hB12 x12 ⊢
            refine cons_l (take_l (b := b) (n := 4) (m := m + 12) (fun R r => ⟨_, rfl, r⟩) (fun R r => r) (by decide) (by decide) (by omega) hB12 fun da H13 hda x13 hB13 => ?_)
            refine cons_l (take_l (b := b) (n := 4) (m := m + 12 + 1) (fun R r => ⟨_, rfl, r⟩) (fun R r => r) (by decide) (by decide) (by omega) hB13 fun db H14 hdb x14 hB14 => ?_)
            have x124 : ExB b H12 H14 := x13.trans x14
            refine nil_l ⟨by show 6 ≤ sizeLine; decide, fun pc hpc => nil_l ⟨by show 2 ≤ sizeLine; decide, fun pt hpt => ?_⟩⟩
            have e15 : Ex H14 (upd (upd H14 pc (.lst [.int 0, .int 1, .int 2, .int 3, .int (da : Int), .int (db : Int)])) pt (.tup [.ref pm, .ref pc])) := (Ex.new hpc).trans (Ex.new hpt)
            have h15c : upd (upd H14 pc (.lst [.int 0, .int 1, .int 2, .int 3, .int (da : Int), .int (db : Int)])) pt (.tup [.ref pm, .ref pc]) pc = some (.lst ([(0 : Int), 1, 2, 3, (da : Int), (db : Int)].map V.int)) := (Ex.new hpt) _ _ upd_same
            have h14m := x124 _ _ nmb h12
            have h14D := x124 _ _ nDb h12D
            have ncb : pc ≠ b := by
              obtain ⟨u, hu⟩ := hB14.at_
              exact (ne_of_none hu hpc).symm
            have ncm : pc ≠ pm := (ne_of_none h14m hpc).symm
            have ncD : pc ≠ D := (ne_of_none h14D hpc).symm
            refine ⟨pt, _, rfl, SqT.of upd_same, rfl, _, _, rfl, _, _, rfl, rfl, nx_p ?_⟩
            have x15 : ExB b H (upd (upd H14 pc (.lst [.int 0, .int 1, .int 2, .int 3, .int (da : Int), .int (db : Int)])) pt (.tup [.ref pm, .ref pc])) := (x12.trans x124).trans (Ex.but e15)
            have hB15 := hB14.ex e15
            have h15m := e15 _ _ h14m
            have h15D := e15 _ _ h14D
            show tSeq _ _ _ _ (upd (upd H14 pc (.lst [.int 0, .int 1, .int 2, .int 3, .int (da : Int), .int (db : Int)])) pt (.tup [.ref pm, .ref pc]))
            generalize upd (upd H14 pc (.lst [.int 0, .int 1, .int 2, .int 3, .int (da : Int), .int (db : Int)])) pt (.tup [.ref pm, .ref pc]) = H15 at x15 hB15 h15m h15D h15c ⊢
            have hcs : ∀ c ∈ [(0 : Int), 1, 2, 3, (da : Int), (db : Int)], 0 ≤ c ∧ c ≤ 3 := by
              intro c hc
              simp only [List.mem_cons, List.not_mem_nil, or_false] at hc
              rcases hc with rfl | rfl | rfl | rfl | rfl | rfl <;> omega
            have lcs : [(0 : Int), 1, 2, 3, (da : Int), (db : Int)].length = 6 := rfl
            generalize [(0 : Int), 1, 2, 3, (da : Int), (db : Int)] = cs at h15c hcs lcs
            refine seq_l ⟨fun c σ1 H1 => ∃ (vs ms : List Str), σ1 = [some (.ref b), some (.str zSmall), some (.str zGreat), some (.str stem), some (.int (d5 : Int)), some (.int (d6 : Int)), some (.str z), some (.ref D), none, some (.ref pm), some (.ref pc)] ∧ c = vs.length ∧ (vs ++ ms).Perm w1 ∧ H1 D = some (.lst (vs.map V.str)) ∧ H1 pm = some (.lst (ms.map V.str)) ∧ H1 pc = some (.lst (cs.map V.int)) ∧ BoxAt H1 b (m + 14 + ms.length) ∧ ExB b H H1,
              ⟨_, w1, [], rfl, rfl, by simp, h15D, h15m, h15c, hB15.up (by simp), x15⟩, ?_⟩
            rintro c σ1 H1 ⟨vs, ms, rfl, rfl, hpm2, hv, hmm, hcc, hB1, x1⟩
            have lvm : vs.length + ms.length = 9 := by rw [← List.length_append, hpm2.length_eq, lw1]
            refine ⟨_, rfl, Nat.zero_le _, fun p11 hp11 => ⟨D, p11, _, rfl, rfl, SqL.of ((Ex.new hp11) _ _ hv), SqL.of upd_same, _, rfl, ?_⟩⟩
            have e12 : Ex H1 (upd H1 p11 (.lst [])) := Ex.new hp11
            have hv2 := e12 _ _ hv
            have hm2 := e12 _ _ hmm
            have hc2 := e12 _ _ hcc
            have hB2 := hB1.ex e12
            have x2 := x1.trans (Ex.but e12)
            generalize upd H1 p11 (.lst []) = H2 at hv2 hm2 hc2 hB2 x2 ⊢
            clear e12 hp11 x1 hB1 hcc hmm hv
            cases vs with
            | cons v0 vr =>
              refine ite1 rfl ⟨_, fun σ' H' h => h, ?_⟩
              have lm : ((v0 :: vr).map V.str).length = (v0 :: vr).length := List.length_map ..
              generalize hvs : v0 :: vr = vs at lvm hv2 hpm2 lm ⊢
              have lv1 : 1 ≤ vs.length := by rw [← hvs]; simp
              clear hvs
              refine ⟨_, rfl, .inl ⟨rfl, _, SqL.of hm2⟩, cons_l ?_⟩
              refine ⟨_, rfl, .inl ⟨rfl, _, SqL.of hv2⟩, ?_⟩
              refine cons_l (take_l (b := b) (n := (vs.map V.str).length) (m := m + 14 + ms.length) (fun R r => ⟨_, rfl, r⟩) (fun R r => ⟨_, rfl, D, _, rfl, .inl (SqL.of hv2), r⟩) (by omega) (by omega) (by omega) hB2 fun d H3 hd x3 hB3 => ?_)
              have hd2 : d < vs.length := by omega
              refine nil_l ⟨D, _, (d : Int), d, .str vs[d], rfl, rfl, x3 _ _ nDb hv2, by omega, by omega, seqIndex_nat hd, by rw [List.getElem?_map, List.getElem?_eq_getElem hd2]; rfl, ?_⟩
              refine nil_l ⟨pm, _, .str vs[d], rfl, rfl, by rw [upd_ne nmD]; exact x3 _ _ nmb hm2, by rw [List.length_map]; omega, ?_⟩
              have le := List.length_eraseIdx_of_lt hd2
              refine ⟨vs.length - 1, by omega, vs.eraseIdx d, ms ++ [vs[d]], rfl, by omega, ?_, ?_, ?_, ?_, ?_, ?_⟩
              · refine List.Perm.trans ?_ hpm2
                refine (List.perm_append_comm.append_left _).trans ?_
                rw [← List.append_assoc]
                exact (erase_perm hd2).append_right ms
              · rw [upd_ne nmD.symm, upd_same, map_erase]
              · rw [upd_same, List.map_append]
                rfl
              · rw [upd_ne ncm, upd_ne ncD]
                exact x3 _ _ ncb hc2
              · refine ((hB3.ne nDb.symm).ne nmb.symm).up ?_
                simp
                omega
              · intro a o na hao
                rw [upd_ne (ne_of_none hao nm0), upd_ne (ne_of_none hao nD0)]
                exact x3 _ _ na (x2 _ _ na hao)
            | nil =>
              refine ite0 (by decide) (nx_p ?_)
              have lms : ms.length = 9 := by simpa using lvm
              have pms : ms.Perm w1 := hpm2
              have ndm : ms.Nodup := pms.nodup_iff.mpr nd1
              have hnm2 : ∀ x ∈ ms, nameB x = true ∧ x.length ≤ 8 := fun x hx => hn1 x (pms.mem_iff.mp hx)
              have qi : ∀ i, i < 6 → GoodQ (ms.getD i "", cs.getD i 0) := fun i hi => by
                have h1 : i < ms.length := by omega
                have h2 : i < cs.length := by omega
                have e1 : ms.getD i "" = ms[i] := by rw [List.getD_eq_getElem?_getD, List.getElem?_eq_getElem h1]; rfl
                have e2 : cs.getD i 0 = cs[i] := by rw [List.getD_eq_getElem?_getD, List.getElem?_eq_getElem h2]; rfl
                refine ⟨?_, ?_⟩
                · show nameB (ms.getD i "") = true
                  rw [e1]
                  exact (hnm2 _ (List.getElem_mem h1)).1
                · show 0 ≤ cs.getD i 0 ∧ cs.getD i 0 ≤ 3
                  rw [e2]
                  exact hcs _ (List.getElem_mem h2)
              refine ret_l (tup_l (cons_l ?_))
              refine lc_by (J := Itr 0 6) (n := 6) (item := fun i => .int (i : Int)) (fun D j acc H1 => Paired (RowN D H1) acc ((List.range j).map fun i => (ms.getD i "", cs.getD i 0))) (by omega) (by show 8 < 11; decide) (fun R h => ⟨_, rfl, by omega, by omega, h⟩) walks_rng0 (fun _ _ _ _ _ e h => paired_imp (fun _ _ z => z.exb e) h) (fun _ _ => .nil) (fun D2 j acc H1 C Cf hj hD2 e ha2 hp kf kt => ?_) (fun D2 acc H9 hD2 e9 ha2 hp => ?_)
              · unfold tYes
                dsimp only
                rw [if_pos rfl]
                have h1 : j < ms.length := by omega
                have h2 : j < cs.length := by omega
                have e1 : ms.getD j "" = ms[j] := by rw [List.getD_eq_getElem?_getD, List.getElem?_eq_getElem h1]; rfl
                have e2 : cs.getD j 0 = cs[j] := by rw [List.getD_eq_getElem?_getD, List.getElem?_eq_getElem h2]; rfl
                refine tup_l (cons_l ⟨_, rfl, _, rfl, pm, _, (j : Int), .str ms[j], rfl, rfl, SqL.of (e _ _ hm2), atI_nat (j := j) (by rw [List.getElem?_map, List.getElem?_eq_getElem h1]; rfl), ?_⟩)
                refine cons_l ⟨_, rfl, _, rfl, pc, _, (j : Int), .int cs[j], rfl, rfl, SqL.of (e _ _ hc2), atI_nat (j := j) (by rw [List.getElem?_map, List.getElem?_eq_getElem h2]; rfl), ?_⟩
                refine nil_l ⟨by show 2 ≤ sizeLine; decide, fun r hr2 => kt _ _ (Ex.new hr2) ?_⟩
                rw [List.range_succ, List.map_append]
                refine paired_snoc (paired_imp (fun _ _ z => ?_) hp) ⟨r, rfl, (ne_of_none ha2 hr2).symm, ?_⟩
                · obtain ⟨t, rfl, n, h⟩ := z
                  exact ⟨t, rfl, n, (Ex.new hr2) _ _ h⟩
                · show upd H1 r _ r = _
                  dsimp only
                  rw [upd_same, e1, e2]
              · have hB9' := hB2.ex e9
                have hm9 := e9 _ _ hm2
                refine cons_l ⟨_, rfl, _, rfl, pm, _, rfl, SqL.of hm9, fun p2 hp2 => ?_⟩
                have e10 : Ex H9 (upd H9 p2 (.lst (cutV (ms.map V.str) (some 6) none))) := Ex.new hp2
                have h10 : upd H9 p2 (.lst (cutV (ms.map V.str) (some 6) none)) p2 = some (.lst ((ms.drop 6).map V.str)) := by
                  rw [upd_same, show (some (6 : Int)) = some ((6 : Nat) : Int) from rfl, cutV_drop, List.map_drop]
                have np2b : p2 ≠ b := by
                  obtain ⟨u, hu⟩ := hB9'.at_
                  exact (ne_of_none hu hp2).symm
                have nD2b : D2 ≠ b := by
                  obtain ⟨u, hu⟩ := hB2.at_
                  exact (ne_of_none hu hD2).symm
                generalize upd H9 p2 (.lst (cutV (ms.map V.str) (some 6) none)) = H10 at e10 h10 ⊢
                refine nil_l ⟨by show 2 ≤ sizeLine; decide, fun p3 hp3 => ?_⟩
                have e11 : Ex H10 (upd H10 p3 (.tup [.ref D2, .ref p2])) := Ex.new hp3
                have e911 := e10.trans e11
                refine q p3 D2 p2 acc ((List.range 6).map fun i => (ms.getD i "", cs.getD i 0)) (ms.drop 6) _ (x2.trans (Ex.but (e9.trans e911))) ((hB9'.ex e911).up (by omega)) upd_same nD2b np2b (e911 _ _ ha2) (paired_imp (fun _ _ z => z.at_.ext e911) hp) (e11 _ _ h10) (by simp) (by simp [lms]) ?_ (fun r hr3 => ?_) (fun y hy => (hnm2 y (List.mem_of_mem_drop hy)).2)
                · have e6 : (((List.range 6).map fun i => (ms.getD i "", cs.getD i 0)).map (·.1)) = ms.take 6 := by
                    rw [List.map_map]
                    refine List.ext_getElem (by simp [lms]) fun i h1 h2 => ?_
                    have hi : i < ms.length := by
                      have : i < 6 := by simpa using h1
                      omega
                    simp [List.getD_eq_getElem?_getD, List.getElem?_eq_getElem hi]
                  rw [e6]
                  exact ndm.sublist (List.take_sublist ..)
                · obtain ⟨i, hi, rfl⟩ := List.mem_map.mp hr3
                  exact qi i (List.mem_range.mp hi)
          · refine ⟨_, rfl, rfl, _, rfl, ?_⟩
            dsimp only
            split
            · rename_i h0
              have h0 : stem = "" := by simpa using h0
              refine ⟨_, rfl, D, _, 8, _, rfl, rfl, SqL.of ha, at8, hQ' _ _ ⟨rfl, _, rfl, ?_⟩⟩
              rw [List.set_getElem_self]
              refine ⟨nd, fun x hx => ⟨(hnm x hx).1, ?_⟩⟩
              have := (hnm x hx).2
              omega
            · rename_i h0
              have h0 : stem ≠ "" := by simpa using h0
              have h1 := str_pos h0
              have hn : stem ∉ ws := fun hm => by
                have := (hnm _ hm).2
                omega
              refine ⟨_, rfl, hQ' _ _ ⟨rfl, _, rfl, nodup_set8 nd lws hn, fun x hx => ?_⟩⟩
              rcases List.mem_or_eq_of_mem_set hx with h | rfl
              · have := (hnm x h).2
                exact ⟨(hnm x h).1, by omega⟩
              · exact ⟨nameB_of h1 (by omega) (hst.resolve_left (by omega)) hal, by omega⟩
      · refine ⟨_, rfl, rfl, _, rfl, ?_⟩
        dsimp only
        split
        · rename_i h0
          have h0 : d5 = 0 := by simpa using h0
          exact ⟨_, rfl, _, rfl, _, _, rfl, rfl, by decide, hQ' _ _ ⟨rfl, _, rfl, by rw [if_pos h0]⟩⟩
        · rename_i h0
          have h0 : d5 ≠ 0 := by simpa using h0
          exact ⟨_, rfl, _, rfl, _, _, rfl, rfl, by decide, hQ' _ _ ⟨rfl, _, rfl, by rw [if_neg h0]⟩⟩
    · refine take_l (b := b) (n := 4) (m := m + 2 + d2) (fun R r => ⟨_, rfl, r⟩) (fun R r => r) (by decide) (by decide) (by omega) hB3 fun d4 H4 hd4 x4 hB4 => ⟨rfl, _, rfl, ?_⟩
      dsimp only
      split
      · exact hQ' _ _ ⟨"", rfl, by decide, .inl rfl, fun c hc => absurd hc (by rw [show cl "" = [] from rfl]; simp), x4, hB4.up (by omega)⟩
      · exact ⟨_, rfl, hQ' _ _ ⟨st0, rfl, ls0, .inr hs0.1, hs0.2, x4, hB4.up (by omega)⟩⟩
end
end D0

namespace D0
open PySem PySem.Spec PyProof.Rows L2 L2H HotX Evl K9
/-! ### right terms -/
inductive Tm
  | int (i : Int)
  | form (a : Int) (z : Str) (b : Int)
  | var (z : Str)
  | typ (n : Str) (ts : List Tm)
  | lst (ts : List Tm) (r : Option Str)
def orest : Option Str → Tr
  | none => .non
  | some z => .str z
mutual
def Tm.tr : Tm → Tr
  | .int i => .int i
  | .form a z b => .tup [.str "form", .int a, .str z, .int b]
  | .var z => .tup [.str "var", .str z]
  | .typ n ts => .tup [.str "type", .str n, .tup (Tm.trL ts)]
  | .lst ts r => .tup [.str "list", .tup (Tm.trL ts), orest r]
def Tm.trL : List Tm → List Tr
  | [] => []
  | t :: ts => t.tr :: Tm.trL ts
end
mutual
def Tm.many : Tm → Nat
  | .int _ => 1
  | .form _ _ _ => 1
  | .var _ => 1
  | .typ _ ts => 1 + Tm.manyL ts
  | .lst ts _ => 1 + Tm.manyL ts
def Tm.manyL : List Tm → Nat
  | [] => 0
  | t :: ts => t.many + Tm.manyL ts
end
mutual
def Tm.dp : Tm → Nat
  | .int _ => 1
  | .form _ _ _ => 1
  | .var _ => 1
  | .typ _ ts => 1 + Tm.dpL ts
  | .lst ts _ => 1 + Tm.dpL ts
def Tm.dpL : List Tm → Nat
  | [] => 0
  | t :: ts => max t.dp (Tm.dpL ts)
end
theorem orest_sz (r : Option Str) : (orest r).sz = 1 := by
  cases r <;> rfl
mutual
theorem Tm.sz_le : (t : Tm) → t.tr.sz ≤ 5 * t.many
  | .int _ => by simp [Tm.tr, Tm.many, Tr.sz]
  | .form _ _ _ => by simp [Tm.tr, Tm.many, Tr.sz, Tr.szL]
  | .var _ => by simp [Tm.tr, Tm.many, Tr.sz, Tr.szL]
  | .typ _ ts => by
    have := Tm.szL_le ts
    simp [Tm.tr, Tm.many, Tr.sz, Tr.szL]
    omega
  | .lst ts r => by
    have := Tm.szL_le ts
    have := orest_sz r
    simp [Tm.tr, Tm.many, Tr.sz, Tr.szL]
    omega
theorem Tm.szL_le : (ts : List Tm) → Tr.szL (Tm.trL ts) ≤ 5 * Tm.manyL ts
  | [] => by simp [Tm.trL, Tm.manyL, Tr.szL]
  | t :: ts => by
    have := Tm.sz_le t
    have := Tm.szL_le ts
    simp [Tm.trL, Tm.manyL, Tr.szL]
    omega
end
theorem Tm.pos (t : Tm) : 1 ≤ t.many := by
  cases t <;> simp [Tm.many]
theorem trL_app (a b : List Tm) : Tm.trL (a ++ b) = Tm.trL a ++ Tm.trL b := by
  induction a with
  | nil => rfl
  | cons x r ih => simp [Tm.trL, ih]
theorem trL_len (a : List Tm) : (Tm.trL a).length = a.length := by
  induction a with
  | nil => rfl
  | cons x r ih => simp [Tm.trL, ih]
theorem manyL_app (a b : List Tm) : Tm.manyL (a ++ b) = Tm.manyL a + Tm.manyL b := by
  induction a with
  | nil => simp [Tm.manyL]
  | cons x r ih => simp [Tm.manyL, ih]; omega
theorem dpL_app (a b : List Tm) : Tm.dpL (a ++ b) = max (Tm.dpL a) (Tm.dpL b) := by
  induction a with
  | nil => simp [Tm.dpL]
  | cons x r ih => simp [Tm.dpL, ih, Nat.max_assoc]
/-! ### the names, the strange ones and the words -/
theorem RowAt.exl {H H' : Hp} {c : Addr} {v : V} {r : Str × Int} {us : List V} (e : ExB c H H') (hc : H c = some (.lst us)) (h : RowAt H v r) : RowAt H' v r := by
  obtain ⟨t, rfl, h⟩ := h
  exact ⟨t, rfl, e _ _ (fun z => by rw [z, hc] at h; cases h) h⟩
structure WorldAt (b : Addr) (H : Hp) (wd : Addr) (qs : List (Str × Int)) (ys zs : List Str) : Prop where
  ex : ∃ (pr ps pw : Addr) (ur : List V), H wd = some (.lst [.ref pr, .ref ps, .ref pw]) ∧ H pr = some (.lst ur) ∧ Paired (RowAt H) ur qs ∧ H ps = some (.lst (ys.map V.str)) ∧ H pw = some (.lst (zs.map V.str)) ∧ wd ≠ b ∧ pr ≠ b ∧ ps ≠ b ∧ pw ≠ b
  lq : qs.length = 6
  ly : ys.length = 3
  lz : zs.length = 6
  gq : ∀ q ∈ qs, GoodQ q
  gy : ∀ y ∈ ys, y.length ≤ 8
  gz : ∀ z ∈ zs, z.length ≤ 5
theorem WorldAt.ext {b : Addr} {H H' : Hp} {wd : Addr} {qs : List (Str × Int)} {ys zs : List Str} (e : Ex H H') (h : WorldAt b H wd qs ys zs) : WorldAt b H' wd qs ys zs := by
  obtain ⟨⟨pr, ps, pw, ur, h1, h2, h3, h4, h5, n⟩, r1, r2, r3, r4, r5, r6⟩ := h
  exact ⟨⟨pr, ps, pw, ur, e _ _ h1, e _ _ h2, Paired.ext (fun _ _ z => z.ext e) h3, e _ _ h4, e _ _ h5, n⟩, r1, r2, r3, r4, r5, r6⟩
theorem WorldAt.exb {b : Addr} {H H' : Hp} {wd : Addr} {qs : List (Str × Int)} {ys zs : List Str} {m : Nat} (e : ExB b H H') (hB : BoxAt H b m) (h : WorldAt b H wd qs ys zs) : WorldAt b H' wd qs ys zs := by
  obtain ⟨⟨pr, ps, pw, ur, h1, h2, h3, h4, h5, n1, n2, n3, n4⟩, r1, r2, r3, r4, r5, r6⟩ := h
  obtain ⟨us, hu⟩ := hB.at_
  exact ⟨⟨pr, ps, pw, ur, e _ _ n1 h1, e _ _ n2 h2, paired_imp (fun _ _ z => z.exl e hu) h3, e _ _ n3 h4, e _ _ n4 h5, n1, n2, n3, n4⟩, r1, r2, r3, r4, r5, r6⟩
theorem nameB_len {z : Str} (h : nameB z = true) : z.length ≤ 8 := by
  unfold nameB inLen at h
  simp at h
  omega
/-- a value is read as a tree, as long as the box alone is written -/
theorem Rd.box {b : Addr} {H H' : Hp} {m m' : Nat} (e : ExB b H H') (hB : BoxAt H b m) (hB' : BoxAt H' b m') {v : V} {t : Tr} (h : Rd H v t) : Rd H' v t := by
  obtain ⟨us, hu⟩ := hB.at_
  obtain ⟨ws, hw⟩ := hB'.at_
  exact h.exb e hu hw
theorem RdL.box {b : Addr} {H H' : Hp} {m m' : Nat} (e : ExB b H H') (hB : BoxAt H b m) (hB' : BoxAt H' b m') {v : List V} {t : List Tr} (h : RdL H v t) : RdL H' v t := by
  obtain ⟨us, hu⟩ := hB.at_
  obtain ⟨ws, hw⟩ := hB'.at_
  exact h.exb e hu hw
theorem par_l {i j : Nat} {ta : TA} {D : Ends} {σ : L2.St} {H : Hp} (h : ta σ H fun vs H1 => ∃ u v, vs = [u, v] ∧ D.nx ((σ.set i (some u)).set j (some v)) H1) : tPar i j ta D σ H := h
section
variable {P : Program} {w : World} {K : PySem.W.Frag} {mg : Str → Option Value} {base : Heap} {f : Addr} {fd : FuncData} {k : Nat}
def spType : Nat → Sp
  | 0 => fun _ _ _ _ => False
  | d + 1 => fun vs H Q _ => ∃ (b wd : Addr) (room m : Nat) (qs : List (Str × Int)) (ys zs : List Str), vs = [.ref b, .ref wd, .int (room : Int), .int (d : Int)] ∧ 1 ≤ room ∧ room ≤ 40 ∧ m + 4 * room ≤ 1000 ∧ BoxAt H b m ∧ WorldAt b H wd qs ys zs ∧
    ∀ (v : V) (t : Tm) (H' : Hp), ExB b H H' → BoxAt H' b (m + 4 * room) → Rd H' v t.tr → t.many ≤ room → t.dp ≤ d + 1 → Q v H'
abbrev s_type : Stmt := top 38
abbrev N_type : List Str := ["box", "world", "room", "deep", "names", "strange", "words", "rows", "row", "pick", "name", "count", "args", "left", "k", "share"]
theorem sc_type : FnScope N_type ["box", "world", "room", "deep"] (defScope s_type) := ⟨rfl, rfl, rfl, by decide +kernel, rfl, by decide +kernel, by decide +kernel⟩
theorem ok_type {d : Nat} (T : Txt K mg) (k_take : Take P w K mg base k) (k_type : OkC P w K mg base k "_law_type" ["box", "world", "room", "deep"] (spType d)) (F : FunD K "_law_type" "_law_type" (defArgs s_type) (defBody s_type) (defScope s_type) [] [] f fd) (hm : mg "_law_type" = some (.ref f)) : OkC P w K mg base (k + 1) "_law_type" ["box", "world", "room", "deep"] (spType (d + 1)) := by
  refine okC_of F hm sc_type (fun _ _ _ _ _ _ us hl => match us, hl with | [_, _, _, _], _ => rfl) (fun vs H Q E h => ?_) (fun cdv A outer s H vs Q E hr h => ?_)
  · obtain ⟨b, wd, room, m, qs, ys, zs, rfl, _⟩ := h
    rfl
  · obtain ⟨b, wd, room, m, qs, ys, zs, rfl, r1, r40, hm, hB, hW, q⟩ := h
    refine ⟨_, PSs.nox (pss_cons (ps_asg (pv 1) (pg_unl rfl (pgs_cons (pg_name (i := 4) sc_type.nd rfl (Or.inl rfl)) (pgs_cons (pg_name (i := 5) sc_type.nd rfl (Or.inl rfl)) (pgs_cons (pg_name (i := 6) sc_type.nd rfl (Or.inl rfl)) pgs_nil))))) (pss_cons (ps_setLc (i := 7) (own := [("row", 8)]) (g := gName 8) rfl sc_type.nd rfl rfl rfl (pi_list (pv 4)) (blkOk_by (N := N_type) (sc := defScope s_type) (by decide +kernel)) (fun _ _ _ _ _ => pg_name (i := 8) sc_type.nd rfl (Or.inl rfl)) (fun _ _ _ _ _ => (pts_one (pw_and (pt_cmpR op_lt (pe_ix (show IxR _ (rIxT K) from ix_tup) (pv 8) pe_int fun _ _ => rfl) (pv 2) (nomark _)) (pw_and1 (pw_or (pt_cmpR op_gt (pv 3) pe_int (nomark _)) (pw_or1 (pt_cmpR op_eq (pe_ix (show IxR _ (rIxT K) from ix_tup) (pv 8) pe_int fun _ _ => rfl) pe_int (nomark _)))).pt)).pt)) (fun _ _ _ _ _ => (pv 8))) (pss_cons (ps_set (i := 9) sc_type.nd rfl (Or.inl rfl) (pe_callK0 k_take hr (by rfl) (pa_cons (pv 0) (pa_cons (pe_op op_add (pe_callB call_len_seq (by rfl) T.f_len (by decide +kernel) (pa_cons (pv 7) pa_nil)) pe_int) pa_nil)))) (pss_cons (ps_if (pt_cmpR op_eq (pv 9) (pe_callB call_len_seq (by rfl) T.f_len (by decide +kernel) (pa_cons (pv 7) pa_nil)) (nomark _)) (pss_one (ps_ret (pe_tup (pa_cons pe_str (pa_cons (pe_ix ix_list (pv 5) (pe_callK0 k_take hr (by rfl) (pa_cons (pv 0) (pa_cons (pe_callB call_len_seq (by rfl) T.f_len (by decide +kernel) (pa_cons (pv 5) pa_nil)) pa_nil))) fun _ _ => rfl) (pa_cons (pe_tup pa_nil) pa_nil)))))) pss_nil) (pss_cons (ps_if (pt_cmpR op_eq (pv 9) (pe_op op_add (pe_callB call_len_seq (by rfl) T.f_len (by decide +kernel) (pa_cons (pv 7) pa_nil)) pe_int) (nomark _)) (pss_one (ps_ret (pe_tup (pa_cons pe_str (pa_cons (pe_ix ix_list (pv 6) (pe_callK0 k_take hr (by rfl) (pa_cons (pv 0) (pa_cons pe_int pa_nil))) fun _ _ => rfl) pa_nil))))) pss_nil) (pss_cons (ps_asg (pe_ix ix_list (pv 7) (pv 9) fun _ _ => rfl) (pg_tupC (.inl ⟨rfl, rfl⟩) (pgs_cons (pg_name (i := 10) sc_type.nd rfl (Or.inl rfl)) (pgs_cons (pg_name (i := 11) sc_type.nd rfl (Or.inl rfl)) pgs_nil)))) (pss_cons (ps_par rfl sc_type.nd (i := 12) (j := 13) rfl rfl (by decide) rfl rfl (pa_cons (pe_lst pa_nil) (pa_cons (pe_op op_sub (pv 2) pe_int) pa_nil)) rfl) (pss_cons (ps_for PassesOwn.never rfl (pi_range1 (by rfl) T.f_range (pa_cons (pv 11) pa_nil)) (pg_name (i := 14) sc_type.nd rfl (Or.inl rfl)) (pss_cons (ps_set (i := 15) sc_type.nd rfl (Or.inl rfl) (pe_op op_add pe_int (pe_callK0 k_take hr (by rfl) (pa_cons (pv 0) (pa_cons (pe_op op_sub (pv 13) (pe_op op_sub (pe_op op_sub (pv 11) pe_int) (pv 14))) pa_nil))))) (pss_cons (ps_expr (pe_bm PySem.F.plainAttrs_list PySem.F.slot_list_append PySem.F.type_list_append mt_append (pv 12) (pa_cons (pe_callK0 k_type hr (by rfl) (pa_cons (pv 0) (pa_cons (pv 1) (pa_cons (pv 15) (pa_cons (pe_op op_sub (pv 3) pe_int) pa_nil))))) pa_nil))) (pss_one (ps_set (i := 13) sc_type.nd rfl (Or.inl rfl) (pe_op op_sub (pv 13) (pv 15))))))) (pss_one (ps_ret (pe_tup (pa_cons pe_str (pa_cons (pv 10) (pa_cons (pe_callTy call_tuple_of (by rfl) T.f_tuple (by decide +kernel) (pa_cons (pv 12) pa_nil)) pa_nil)))))))))))))), ?_⟩
    have sz := sizeLine_eq
    obtain ⟨xs0, hb0⟩ := hB.at_
    obtain ⟨⟨pr, ps, pw, ur, hw, hpr, hrr, hps, hpw, n1, n2, n3, n4⟩, lq, ly, lz, gq, gy, gz⟩ := id hW
    have lur := hrr.length
    refine seq_l (asgG_l ⟨_, rfl, wd, _, rfl, SqL.of hw, rfl, _, _, rfl, _, _, rfl, _, _, rfl, rfl, nx_p ?_⟩)
    refine seq_l (asg_l ?_)
    refine lc_keep (J := Itl K pr) (n := ur.length) (item := fun i => ur.getD i .non) (fun j => decide ((qs.getD j ("", 0)).2 < (room : Int)) && (decide ((0 : Int) < (d : Int)) || decide ((qs.getD j ("", 0)).2 = 0))) (fun j => ur.getD j .non) (by omega) (by show 8 < 16; decide) (fun R h => ⟨_, rfl, pr, rfl, ⟨_, SqL.of hpr⟩, h⟩) (walks_list (SqL.of hpr)) (fun j H1 R hj e hR => ?_) (fun j H1 R hj e hR => ⟨_, rfl, hR⟩) (fun D H1 hD e1 h1 => ?_)
    · obtain ⟨v, r, hv, hr, t, rfl, ht⟩ := paired_at hrr hj
      have hv0 : ur.getD j .non = .ref t := by rw [List.getD_eq_getElem?_getD, hv]; rfl
      have hq : qs.getD j ("", 0) = r := by rw [List.getD_eq_getElem?_getD, hr]; rfl
      rw [hq] at hR
      rw [hv0]
      refine ⟨_, rfl, t, _, 1, _, rfl, rfl, SqT.of (e _ _ ht), atI_nat (j := 1) rfl, _, rfl, _, _, rfl, rfl, _, rfl, ?_⟩
      dsimp only
      by_cases c1 : r.2 < (room : Int)
      · rw [if_pos (decide_eq_true c1)]
        refine ⟨_, rfl, _, _, rfl, rfl, _, rfl, ?_⟩
        dsimp only
        by_cases c2 : (0 : Int) < (d : Int)
        · rw [if_pos (decide_eq_true c2)]
          have c3 : 0 < d := by omega
          simpa [c1, c3] using hR
        · rw [if_neg (by simpa using c2)]
          refine ⟨_, rfl, t, _, 1, _, rfl, rfl, SqT.of (e _ _ ht), atI_nat (j := 1) rfl, rfl, _, rfl, ?_⟩
          have c3 : ¬ 0 < d := by omega
          have hR2 : R (decide (r.2 = 0)) H1 := by simpa [c1, c3] using hR
          have e3 : decide (V.int r.2 = V.int 0) = decide (r.2 = 0) := by
            rw [Bool.eq_iff_iff]
            simp
          rw [e3]
          exact hR2
      · rw [if_neg (by simpa using c1)]
        simpa [c1] using hR
    · have lrow : ((((List.range ur.length).filter fun j => decide ((qs.getD j ("", 0)).2 < (room : Int)) && (decide ((0 : Int) < (d : Int)) || decide ((qs.getD j ("", 0)).2 = 0))).map fun j => ur.getD j .non)).length ≤ 6 := by
        rw [List.length_map]
        refine Nat.le_trans (List.length_filter_le ..) ?_
        rw [List.length_range]
        omega
      have hrow : ∀ x ∈ (((List.range ur.length).filter fun j => decide ((qs.getD j ("", 0)).2 < (room : Int)) && (decide ((0 : Int) < (d : Int)) || decide ((qs.getD j ("", 0)).2 = 0))).map fun j => ur.getD j .non), ∃ r, RowAt H x r ∧ GoodQ r ∧ r.2 < (room : Int) ∧ (0 < d ∨ r.2 = 0) := by
        intro x hx
        obtain ⟨j, hj, rfl⟩ := List.mem_map.mp hx
        obtain ⟨hj, hk⟩ := List.mem_filter.mp hj
        obtain ⟨v, r, hv, hr, hra⟩ := paired_at hrr (List.mem_range.mp hj)
        have hq : qs.getD j ("", 0) = r := by rw [List.getD_eq_getElem?_getD, hr]; rfl
        rw [hq] at hk
        refine ⟨r, by rw [List.getD_eq_getElem?_getD, hv]; exact hra, gq r (List.mem_of_getElem? hr), ?_⟩
        simp at hk
        exact ⟨hk.1, hk.2.imp (fun z => by omega) id⟩
      generalize (((List.range ur.length).filter fun j => decide ((qs.getD j ("", 0)).2 < (room : Int)) && (decide ((0 : Int) < (d : Int)) || decide ((qs.getD j ("", 0)).2 = 0))).map fun j => ur.getD j .non) = rows at h1 lrow hrow
      have hB1 := hB.ex e1
      have hW1 := hW.ext e1
      have nDb : D ≠ b := (ne_of_none hb0 hD).symm
      refine nx_p (seq_l (asg_l (take_l (b := b) (n := rows.length + 2) (m := m) (fun R r => ⟨_, rfl, r⟩) (fun R r => ⟨_, rfl, D, _, rfl, .inl (SqL.of h1), _, _, rfl, rfl, r⟩) (by omega) (by omega) (by omega) hB1 fun d2 H2 hd2 x2 hB2 => nx_p ?_)))
      have x02 : ExB b H H2 := (Ex.but e1).trans x2
      have hW2 := hW1.exb x2 hB1
      have h2 := x2 _ _ nDb h1
      have hps2 := x2 _ _ n3 (e1 _ _ hps)
      have hpw2 := x2 _ _ n4 (e1 _ _ hpw)
      obtain ⟨xb1, hb1⟩ := hB1.at_
      have hrow2 : ∀ x ∈ rows, ∃ r, RowAt H2 x r ∧ GoodQ r ∧ r.2 < (room : Int) ∧ (0 < d ∨ r.2 = 0) := fun x hx => by
        obtain ⟨r, h1, h2⟩ := hrow x hx
        exact ⟨r, (h1.ext e1).exl x2 hb1, h2⟩
      clear hrow hrr
      refine seq_l ⟨_, rfl, _, rfl, D, _, rfl, .inl (SqL.of h2), rfl, _, rfl, ?_⟩
      by_cases p1 : d2 = rows.length
      · refine ite1 (by simp [p1]) (ret_l (tup_l (cons_l (c_l (cons_l ?_)))))
        refine ⟨_, rfl, take_l (b := b) (n := (ys.map V.str).length) (m := m + 1) (fun R r => ⟨_, rfl, r⟩) (fun R r => ⟨_, rfl, ps, _, rfl, .inl (SqL.of hps2), r⟩) (by rw [List.length_map]; omega) (by rw [List.length_map]; omega) (by omega) hB2 fun d3 H3 hd3 x3 hB3 => ?_⟩
        have hd3' : d3 < ys.length := by simpa using hd3
        refine ⟨ps, _, (d3 : Int), .str ys[d3], rfl, rfl, SqL.of (x3 _ _ n3 hps2), atI_nat (j := d3) (by rw [List.getElem?_map, List.getElem?_eq_getElem hd3']; rfl), ?_⟩
        refine cons_l (tup_l (nil_l ⟨by decide, fun p4 hp4 => nil_l ⟨by show 3 ≤ sizeLine; decide, fun p5 hp5 => ?_⟩⟩))
        have e5 : Ex H3 (upd (upd H3 p4 (.tup [])) p5 (.tup [.str "type", .str ys[d3], .ref p4])) := (Ex.new hp4).trans (Ex.new hp5)
        have l3 := gy _ (List.getElem_mem hd3')
        exact q _ (.typ ys[d3] []) _ (x02.trans (x3.trans (Ex.but e5))) ((hB3.ex e5).up (by omega)) (.tup upd_same (.cons (.str _ (by decide)) (.cons (.str _ (by omega)) (.cons (.tup ((Ex.new hp5) _ _ upd_same) .nil) .nil)))) (by simp [Tm.many, Tm.manyL]; omega) (by simp [Tm.dp, Tm.dpL])
      · refine ite0 (by simp; omega) (nx_l (seq_l ⟨_, rfl, _, rfl, D, _, rfl, .inl (SqL.of h2), _, _, rfl, rfl, rfl, _, rfl, ?_⟩))
        by_cases p2 : d2 = rows.length + 1
        · refine ite1 (by simp [p2]) (ret_l (tup_l (cons_l (c_l (cons_l ?_)))))
          refine ⟨_, rfl, take_l (b := b) (n := 2) (m := m + 1) (fun R r => ⟨_, rfl, r⟩) (fun R r => r) (by decide) (by decide) (by omega) hB2 fun d3 H3 hd3 x3 hB3 => ?_⟩
          have hd3' : d3 < zs.length := by omega
          refine ⟨pw, _, (d3 : Int), .str zs[d3], rfl, rfl, SqL.of (x3 _ _ n4 hpw2), atI_nat (j := d3) (by rw [List.getElem?_map, List.getElem?_eq_getElem hd3']; rfl), ?_⟩
          refine nil_l ⟨by show 2 ≤ sizeLine; decide, fun p5 hp5 => ?_⟩
          have e5 : Ex H3 (upd H3 p5 (.tup [.str "var", .str zs[d3]])) := Ex.new hp5
          have l3 := gz _ (List.getElem_mem hd3')
          exact q _ (.var zs[d3]) _ (x02.trans (x3.trans (Ex.but e5))) ((hB3.ex e5).up (by omega)) (.tup upd_same (.cons (.str _ (by decide)) (.cons (.str _ (by omega)) .nil))) (by simp [Tm.many]; omega) (by simp [Tm.dp])
        · refine ite0 (by simp; omega) (nx_l ?_)
          have hd2' : d2 < rows.length := by omega
          obtain ⟨⟨rn, rc⟩, ⟨t2, hv2, ht2⟩, ⟨g1, g2, g3⟩, g4, g5⟩ := hrow2 _ (List.getElem_mem hd2')
          simp only at g1 g2 g3 g4 g5 ht2
          refine seq_l (asgG_l ⟨_, rfl, _, rfl, D, _, (d2 : Int), rows[d2], rfl, rfl, SqL.of h2, atI_nat (j := d2) (List.getElem?_eq_getElem hd2'), ?_⟩)
          rw [hv2]
          refine ⟨t2, _, rfl, SqT.of ht2, rfl, _, _, rfl, _, _, rfl, rfl, nx_p ?_⟩
          obtain ⟨n, rfl⟩ : ∃ n : Nat, rc = (n : Int) := ⟨rc.toNat, by omega⟩
          refine seq_l ?_
          refine par_l (cons_l (lst_l (nil_l ⟨by decide, fun pa hpa => cons_l ⟨_, rfl, _, _, rfl, rfl, nil_l ⟨_, _, rfl, nx_p ?_⟩⟩⟩)))
          have hcr : (room : Int) - 1 = ((room - 1 : Nat) : Int) := by omega
          have ea : Ex H2 (upd H2 pa (.lst [])) := Ex.new hpa
          have hpa0 : upd H2 pa (.lst []) pa = some (.lst []) := upd_same
          have nab : pa ≠ b := by
            obtain ⟨u, hu⟩ := hB2.at_
            exact (ne_of_none hu hpa).symm
          have na0 : H pa = none := fresh_back x02 hpa nab
          have hBa := hB2.ex ea
          have hWa := hW2.ext ea
          have x0a := x02.trans (Ex.but ea)
          show tSeq _ _ _ _ (upd H2 pa (.lst []))
          generalize upd H2 pa (.lst []) = Ha at ea hpa0 hBa hWa x0a ⊢
          refine seq_l (forR_by (n := n) (fun j σ1 H1 => ∃ (us : List V) (ts : List Tm) (left : Nat) (o14 o15 : Option V), σ1 = [some (.ref b), some (.ref wd), some (.int (room : Int)), some (.int (d : Int)), some (.ref pr), some (.ref ps), some (.ref pw), some (.ref D), none, some (.int (d2 : Int)), some (.str rn), some (.int (n : Int)), some (.ref pa), some (.int (left : Int)), o14, o15] ∧
            H1 pa = some (.lst us) ∧ RdL H1 us (Tm.trL ts) ∧ ts.length = j ∧ Tm.manyL ts + left ≤ room - 1 ∧ n ≤ left + j ∧ left ≤ room - 1 ∧ Tm.dpL ts ≤ d ∧ BoxAt H1 b (m + 1 + j + 4 * (room - 1 - left)) ∧ ExB b H H1)
            (fun R h => ⟨_, rfl, n, rfl, by omega, by omega, h⟩) ⟨[], [], room - 1, none, none, by rw [← hcr]; rfl, hpa0, .nil, rfl, by simp [Tm.manyL], by omega, by omega, by simp [Tm.dpL], hBa.up (by omega), x0a⟩ (fun j σ1 H3 N hj hp kN => ?_) (fun σ1 H3 hp => ?_))
          · obtain ⟨us, ts, left, o14, o15, rfl, hu, hrl, lts, hml, hnl, hlr, hdp, hB3, x3⟩ := hp
            obtain ⟨d', rfl⟩ : ∃ d', d = d' + 1 := by
              rcases g5 with h | h
              · exact ⟨d - 1, by omega⟩
              · omega
            have hcast : (left : Int) - ((n : Int) - 1 - (j : Int)) = ((left - (n - 1 - j) : Nat) : Int) := by omega
            refine seq_l (asg_l (take_l (b := b) (n := left - (n - 1 - j)) (m := m + 1 + j + 4 * (room - 1 - left)) (fun R r => ⟨_, rfl, r⟩) (fun R r => ⟨_, rfl, _, rfl, _, _, rfl, rfl, _, rfl, _, _, rfl, rfl, _, _, rfl, rfl, by dsimp only; rw [hcast]; exact r⟩) (by omega) (by omega) (by omega) hB3 fun d3 H4 hd3 x4 hB4 => ⟨_, _, rfl, rfl, nx_p ?_⟩))
            have hu4 := x4 _ _ nab hu
            have hW4 := hW.exb (x3.trans x4) hB
            have hrl4 := RdL.box x4 hB3 hB4 hrl
            have x04 := x3.trans x4
            refine seq_l ⟨_, rfl, .inl ⟨rfl, _, SqL.of hu4⟩, cons_l ?_⟩
            refine ⟨_, rfl, _, rfl, _, rfl, _, rfl, _, _, rfl, rfl, b, wd, 1 + d3, m + 1 + j + 4 * (room - 1 - left) + 1, qs, ys, zs, ?_, by omega, by omega, by omega, hB4, hW4, fun v t H5 x5 hB5 hv5 m5 dp5 => ?_⟩
            · dsimp only
              rw [show (1 + (d3 : Int)) = ((1 + d3 : Nat) : Int) from by omega, show (((d' + 1 : Nat) : Int) - 1) = (d' : Int) from by omega]
            have hu5 := x5 _ _ nab hu4
            have lu := hrl.len
            rw [trL_len] at lu
            refine nil_l ⟨pa, us, v, rfl, rfl, hu5, by omega, ?_⟩
            have b6 : ExB pa H5 (upd H5 pa (.lst (us ++ [v]))) := ExB.set
            have h6 : upd H5 pa (.lst (us ++ [v])) pa = some (.lst (us ++ [v])) := upd_same
            have hB6 : BoxAt (upd H5 pa (.lst (us ++ [v]))) b (m + 1 + j + 4 * (room - 1 - left) + 1 + 4 * (1 + d3)) := hB5.ne nab.symm
            have r6 : RdL (upd H5 pa (.lst (us ++ [v]))) (us ++ [v]) (Tm.trL (ts ++ [t])) := by
              rw [trL_app]
              exact RdL.app ((RdL.box x5 hB4 hB5 hrl4).exb b6 hu5 h6) (.cons (hv5.exb b6 hu5 h6) .nil)
            have x06 : ExB b H (upd H5 pa (.lst (us ++ [v]))) := fun a o na hao => by
              rw [upd_ne (ne_of_none hao na0)]
              exact x5 _ _ na (x04 _ _ na hao)
            have hσ : ([some (.ref b), some (.ref wd), some (.int (room : Int)), some (.int ((d' + 1 : Nat) : Int)), some (.ref pr), some (.ref ps), some (.ref pw), some (.ref D), none, some (.int (d2 : Int)), some (.str rn), some (.int (n : Int)), some (.ref pa), some (.int ((left : Int) - (1 + (d3 : Int)))), some (.int (j : Int)), some (.int (1 + (d3 : Int)))] : L2.St) = [some (.ref b), some (.ref wd), some (.int (room : Int)), some (.int ((d' + 1 : Nat) : Int)), some (.ref pr), some (.ref ps), some (.ref pw), some (.ref D), none, some (.int (d2 : Int)), some (.str rn), some (.int (n : Int)), some (.ref pa), some (.int ((left - (1 + d3) : Nat) : Int)), some (.int (j : Int)), some (.int (1 + (d3 : Int)))] := by
              rw [show (left : Int) - (1 + (d3 : Int)) = ((left - (1 + d3) : Nat) : Int) from by omega]
            refine nx_p (asg_l ⟨_, rfl, _, rfl, _, _, rfl, rfl, kN _ _ ⟨us ++ [v], ts ++ [t], left - (1 + d3), some (.int (j : Int)), some (.int (1 + (d3 : Int))), hσ, h6, r6, by simp [lts], ?_, by omega, by omega, ?_, hB6.up (by omega), x06⟩⟩)
            · rw [manyL_app]
              simp [Tm.manyL]
              omega
            · rw [dpL_app]
              simp [Tm.dpL]
              omega
          · obtain ⟨us, ts, left, o14, o15, rfl, hu, hrl, lts, hml, hnl, hlr, hdp, hB3, x3⟩ := hp
            refine nx_p (ret_l (tup_l (cons_l (c_l (cons_l ⟨_, rfl, cons_l ⟨_, rfl, pa, us, rfl, .inl ⟨SqL.of hu, fun l hl => nil_l ⟨by show 3 ≤ sizeLine; decide, fun p5 hp5 => ?_⟩⟩⟩⟩)))))
            have e5 : Ex H3 (upd (upd H3 l (.tup us)) p5 (.tup [.str "type", .str rn, .ref l])) := (Ex.new hl).trans (Ex.new hp5)
            exact q _ (.typ rn ts) _ (x3.trans (Ex.but e5)) ((hB3.ex e5).up (by omega)) (.tup upd_same (.cons (.str _ (by decide)) (.cons (.str _ (by have := nameB_len g1; omega)) (.cons (.tup ((Ex.new hp5) _ _ upd_same) (hrl.ext e5)) .nil)))) (by simp [Tm.many]; omega) (by simp [Tm.dp]; omega)
end
end D0

namespace D0
open PySem PySem.Spec PyProof.Rows L2 L2H HotX Evl K9
theorem par3_l {i j l : Nat} {ta : TA} {D : Ends} {σ : L2.St} {H : Hp} (h : ta σ H fun vs H1 => ∃ u v w, vs = [u, v, w] ∧ D.nx (((σ.set i (some u)).set j (some v)).set l (some w)) H1) : tPar3 i j l ta D σ H := h
section
variable {P : Program} {w : World} {K : PySem.W.Frag} {mg : Str → Option Value} {base : Heap} {f : Addr} {fd : FuncData} {k : Nat}
def spList : Sp := fun vs H Q _ => ∃ (b wd : Addr) (room m : Nat) (qs : List (Str × Int)) (ys zs : List Str), vs = [.ref b, .ref wd, .int (room : Int), .int 3] ∧ 1 ≤ room ∧ room ≤ 40 ∧ m + 4 * room + 7 ≤ 1000 ∧ BoxAt H b m ∧ WorldAt b H wd qs ys zs ∧
    ∀ (v : V) (t : Tm) (H' : Hp), ExB b H H' → BoxAt H' b (m + 4 * room + 7) → Rd H' v t.tr → t.many ≤ room + 1 → t.dp ≤ 5 → Q v H'
abbrev s_list : Stmt := top 39
abbrev N_list : List Str := ["box", "world", "room", "deep", "many", "left", "items", "k", "share", "rest"]
theorem sc_list : FnScope N_list ["box", "world", "room", "deep"] (defScope s_list) := ⟨rfl, rfl, rfl, by decide +kernel, rfl, by decide +kernel, by decide +kernel⟩
theorem ok_list (T : Txt K mg) (k_take : Take P w K mg base k) (k_type : OkC P w K mg base k "_law_type" ["box", "world", "room", "deep"] (spType 4)) (F : FunD K "_law_list" "_law_list" (defArgs s_list) (defBody s_list) (defScope s_list) [] [] f fd) (hm : mg "_law_list" = some (.ref f)) : OkC P w K mg base (k + 1) "_law_list" ["box", "world", "room", "deep"] spList := by
  refine okC_of F hm sc_list (fun _ _ _ _ _ _ us hl => match us, hl with | [_, _, _, _], _ => rfl) (fun vs H Q E h => ?_) (fun cdv A outer s H vs Q E hr h => ?_)
  · obtain ⟨b, wd, room, m, qs, ys, zs, rfl, _⟩ := h
    rfl
  · obtain ⟨b, wd, room, m, qs, ys, zs, rfl, r1, r40, hm, hB, hW, q⟩ := h
    refine ⟨_, PSs.nox (pss_cons (ps_par3 rfl sc_list.nd (i := 4) (j := 5) (l := 6) rfl rfl rfl (by decide) (by decide) (by decide) rfl rfl rfl (pa_cons (pe_callK0 k_take hr (by rfl) (pa_cons (pv 0) (pa_cons (pe_op op_add (pe_callB (call_min2 rfl) (by rfl) T.f_min (by decide +kernel) (pa_cons (pv 2) (pa_cons pe_int pa_nil))) pe_int) pa_nil))) (pa_cons (pv 2) (pa_cons (pe_lst pa_nil) pa_nil))) rfl) (pss_cons (ps_for PassesOwn.never rfl (pi_range1 (by rfl) T.f_range (pa_cons (pv 4) pa_nil)) (pg_name (i := 7) sc_list.nd rfl (Or.inl rfl)) (pss_cons (ps_set (i := 8) sc_list.nd rfl (Or.inl rfl) (pe_op op_add pe_int (pe_callK0 k_take hr (by rfl) (pa_cons (pv 0) (pa_cons (pe_op op_sub (pv 5) (pe_op op_sub (pe_op op_sub (pv 4) pe_int) (pv 7))) pa_nil))))) (pss_cons (ps_expr (pe_bm PySem.F.plainAttrs_list PySem.F.slot_list_append PySem.F.type_list_append mt_append (pv 6) (pa_cons (pe_callK0 k_type hr (by rfl) (pa_cons (pv 0) (pa_cons (pv 1) (pa_cons (pv 8) (pa_cons (pv 3) pa_nil))))) pa_nil))) (pss_one (ps_set (i := 5) sc_list.nd rfl (Or.inl rfl) (pe_op op_sub (pv 5) (pv 8))))))) (pss_cons (ps_set (i := 9) sc_list.nd rfl (Or.inl rfl) (pe_ifExp (pw_and (pt_cmpR op_gt (pv 5) pe_int (nomark _)) (pw_and1 (pt_cmpR op_eq (pe_callK0 k_take hr (by rfl) (pa_cons (pv 0) (pa_cons pe_int pa_nil))) pe_int (nomark _)))).pt (pe_ix ix_list (pe_ix ix_list (pv 1) pe_int fun _ _ => rfl) (pe_op op_add pe_int (pe_callK0 k_take hr (by rfl) (pa_cons (pv 0) (pa_cons pe_int pa_nil)))) fun _ _ => rfl) pe_non)) (pss_one (ps_ret (pe_tup (pa_cons pe_str (pa_cons (pe_callTy call_tuple_of (by rfl) T.f_tuple (by decide +kernel) (pa_cons (pv 6) pa_nil)) (pa_cons (pv 9) pa_nil))))))))), ?_⟩
    have sz := sizeLine_eq
    obtain ⟨xs0, hb0⟩ := hB.at_
    obtain ⟨⟨pr, ps, pw, ur, hw, hpr, hrr, hps, hpw, n1, n2, n3, n4⟩, lq, ly, lz, gq, gy, gz⟩ := id hW
    have hmn : ∃ mn : Nat, mn ≤ 4 ∧ mn ≤ room ∧ (if (4 : Int) < (room : Int) then (4 : Int) else (room : Int)) + 1 = ((mn + 1 : Nat) : Int) := by
      by_cases h : (4 : Int) < (room : Int)
      · exact ⟨4, by omega, by omega, by rw [if_pos h]; rfl⟩
      · exact ⟨room, by omega, by omega, by rw [if_neg h]; rfl⟩
    obtain ⟨mn, hm4, hmr, hmn⟩ := hmn
    refine seq_l (par3_l (cons_l (take_l (b := b) (n := mn + 1) (m := m) (fun R r => ⟨_, rfl, r⟩) (fun R r => ⟨_, rfl, _, _, rfl, _, _, rfl, rfl, by dsimp only; rw [hmn]; exact r⟩) (by omega) (by omega) (by omega) hB fun n H1 hn x1 hB1 => ?_)))
    refine cons_l ⟨_, rfl, cons_l (lst_l (nil_l ⟨by decide, fun pa hpa => nil_l ⟨_, _, _, rfl, nx_p ?_⟩⟩))⟩
    have ea : Ex H1 (upd H1 pa (.lst [])) := Ex.new hpa
    have hpa0 : upd H1 pa (.lst []) pa = some (.lst []) := upd_same
    have nab : pa ≠ b := by
      obtain ⟨u, hu⟩ := hB1.at_
      exact (ne_of_none hu hpa).symm
    have na0 : H pa = none := fresh_back x1 hpa nab
    have hBa := hB1.ex ea
    have x0a := x1.trans (Ex.but ea)
    show tSeq _ _ _ _ (upd H1 pa (.lst []))
    generalize upd H1 pa (.lst []) = Ha at ea hpa0 hBa x0a ⊢
    refine seq_l (forR_by (n := n) (fun j σ1 H1 => ∃ (us : List V) (ts : List Tm) (left : Nat) (o7 o8 : Option V), σ1 = [some (.ref b), some (.ref wd), some (.int (room : Int)), some (.int 3), some (.int (n : Int)), some (.int (left : Int)), some (.ref pa), o7, o8, none] ∧
      H1 pa = some (.lst us) ∧ RdL H1 us (Tm.trL ts) ∧ ts.length = j ∧ Tm.manyL ts + left ≤ room ∧ n ≤ left + j ∧ left ≤ room ∧ Tm.dpL ts ≤ 4 ∧ BoxAt H1 b (m + 1 + j + 4 * (room - left)) ∧ ExB b H H1)
      (fun R h => ⟨_, rfl, n, rfl, by omega, by omega, h⟩) ⟨[], [], room, none, none, rfl, hpa0, .nil, rfl, by simp [Tm.manyL], by omega, by omega, by simp [Tm.dpL], hBa.up (by omega), x0a⟩ (fun j σ1 H3 N hj hp kN => ?_) (fun σ1 H3 hp => ?_))
    · obtain ⟨us, ts, left, o7, o8, rfl, hu, hrl, lts, hml, hnl, hlr, hdp, hB3, x3⟩ := hp
      have hcast : (left : Int) - ((n : Int) - 1 - (j : Int)) = ((left - (n - 1 - j) : Nat) : Int) := by omega
      refine seq_l (asg_l (take_l (b := b) (n := left - (n - 1 - j)) (m := m + 1 + j + 4 * (room - left)) (fun R r => ⟨_, rfl, r⟩) (fun R r => ⟨_, rfl, _, rfl, _, _, rfl, rfl, _, rfl, _, _, rfl, rfl, _, _, rfl, rfl, by dsimp only; rw [hcast]; exact r⟩) (by omega) (by omega) (by omega) hB3 fun d3 H4 hd3 x4 hB4 => ⟨_, _, rfl, rfl, nx_p ?_⟩))
      have hu4 := x4 _ _ nab hu
      have hW4 := hW.exb (x3.trans x4) hB
      have hrl4 := RdL.box x4 hB3 hB4 hrl
      have x04 := x3.trans x4
      refine seq_l ⟨_, rfl, .inl ⟨rfl, _, SqL.of hu4⟩, cons_l ?_⟩
      refine ⟨_, rfl, _, rfl, _, rfl, _, rfl, b, wd, 1 + d3, m + 1 + j + 4 * (room - left) + 1, qs, ys, zs, ?_, by omega, by omega, by omega, hB4, hW4, fun v t H5 x5 hB5 hv5 m5 dp5 => ?_⟩
      · dsimp only
        rw [show (1 + (d3 : Int)) = ((1 + d3 : Nat) : Int) from by omega]
        rfl
      have dp5' : t.dp ≤ 4 := dp5
      have hu5 := x5 _ _ nab hu4
      have lu := hrl.len
      rw [trL_len] at lu
      refine nil_l ⟨pa, us, v, rfl, rfl, hu5, by omega, ?_⟩
      have b6 : ExB pa H5 (upd H5 pa (.lst (us ++ [v]))) := ExB.set
      have h6 : upd H5 pa (.lst (us ++ [v])) pa = some (.lst (us ++ [v])) := upd_same
      have hB6 : BoxAt (upd H5 pa (.lst (us ++ [v]))) b (m + 1 + j + 4 * (room - left) + 1 + 4 * (1 + d3)) := hB5.ne nab.symm
      have r6 : RdL (upd H5 pa (.lst (us ++ [v]))) (us ++ [v]) (Tm.trL (ts ++ [t])) := by
        rw [trL_app]
        exact RdL.app ((RdL.box x5 hB4 hB5 hrl4).exb b6 hu5 h6) (.cons (hv5.exb b6 hu5 h6) .nil)
      have x06 : ExB b H (upd H5 pa (.lst (us ++ [v]))) := fun a o na hao => by
        rw [upd_ne (ne_of_none hao na0)]
        exact x5 _ _ na (x04 _ _ na hao)
      have hσ : ([some (.ref b), some (.ref wd), some (.int (room : Int)), some (.int 3), some (.int (n : Int)), some (.int ((left : Int) - (1 + (d3 : Int)))), some (.ref pa), some (.int (j : Int)), some (.int (1 + (d3 : Int))), none] : L2.St) = [some (.ref b), some (.ref wd), some (.int (room : Int)), some (.int 3), some (.int (n : Int)), some (.int ((left - (1 + d3) : Nat) : Int)), some (.ref pa), some (.int (j : Int)), some (.int (1 + (d3 : Int))), none] := by
        rw [show (left : Int) - (1 + (d3 : Int)) = ((left - (1 + d3) : Nat) : Int) from by omega]
      refine nx_p (asg_l ⟨_, rfl, _, rfl, _, _, rfl, rfl, kN _ _ ⟨us ++ [v], ts ++ [t], left - (1 + d3), some (.int (j : Int)), some (.int (1 + (d3 : Int))), hσ, h6, r6, by simp [lts], ?_, by omega, by omega, ?_, hB6.up (by omega), x06⟩⟩)
      · rw [manyL_app]
        simp [Tm.manyL]
        omega
      · rw [dpL_app]
        simp [Tm.dpL]
        omega
    · obtain ⟨us, ts, left, o7, o8, rfl, hu, hrl, lts, hml, hnl, hlr, hdp, hB3, x3⟩ := hp
      refine nx_p (seq_l (asg_l (joinV_l (fun v H4 => ∃ r : Option Str, v = ov r ∧ (∀ z, r = some z → z.length ≤ 5) ∧ ExB b H3 H4 ∧ BoxAt H4 b (m + 4 * room + 7)) (fun v H4 ⟨r, hv, hz, x4, hB4⟩ => ?_) (fun Q' hQ' => ?_))))
      · have hu4 := x4 _ _ nab hu
        have hrl4 := RdL.box x4 hB3 hB4 hrl
        refine nx_p (ret_l (tup_l (cons_l (c_l (cons_l ⟨_, rfl, pa, us, rfl, .inl ⟨SqL.of hu4, fun l hl => cons_l ⟨_, rfl, nil_l ⟨by show 3 ≤ sizeLine; decide, fun p5 hp5 => ?_⟩⟩⟩⟩)))))
        have e5 : Ex H4 (upd (upd H4 l (.tup us)) p5 (.tup [.str "list", .ref l, v])) := (Ex.new hl).trans (Ex.new hp5)
        have hvr : Rd (upd (upd H4 l (.tup us)) p5 (.tup [.str "list", .ref l, v])) v (orest r) := by
          subst hv
          cases r with
          | none => exact .non
          | some z => exact .str z (by have := hz z rfl; omega)
        exact q _ (.lst ts r) _ (x3.trans (x4.trans (Ex.but e5))) (hB4.ex e5) (.tup upd_same (.cons (.str _ (by decide)) (.cons (.tup ((Ex.new hp5) _ _ upd_same) (hrl4.ext e5)) (.cons hvr .nil)))) (by simp [Tm.many]; omega) (by simp [Tm.dp]; omega)
      · refine ⟨_, rfl, _, _, rfl, rfl, _, rfl, ?_⟩
        dsimp only
        split
        · refine take_l (b := b) (n := 2) (m := m + 1 + n + 4 * (room - left)) (fun R r => ⟨_, rfl, r⟩) (fun R r => r) (by decide) (by decide) (by omega) hB3 fun d4 H4 hd4 x4 hB4 => ⟨rfl, _, rfl, ?_⟩
          dsimp only
          split
          · have hW4 := hW.exb (x3.trans x4) hB
            refine ⟨_, rfl, wd, _, 2, _, rfl, rfl, SqL.of ((x3.trans x4) _ _ ‹_› hw), atI_nat (j := 2) rfl, take_l (b := b) (n := 2) (m := m + 1 + n + 4 * (room - left) + 1) (fun R r => ⟨_, rfl, r⟩) (fun R r => r) (by decide) (by decide) (by omega) hB4 fun d5 H5 hd5 x5 hB5 => ?_⟩
            have hd5' : 2 + d5 < zs.length := by omega
            refine ⟨_, _, rfl, rfl, pw, _, ((2 + d5 : Nat) : Int), .str zs[2 + d5], rfl, rfl, SqL.of ((x3.trans (x4.trans x5)) _ _ n4 hpw), atI_nat (j := 2 + d5) (by rw [List.getElem?_map, List.getElem?_eq_getElem hd5']; rfl), ?_⟩
            exact hQ' _ _ ⟨some _, rfl, (fun z hz => by cases hz; exact gz _ (List.getElem_mem hd5')), x4.trans x5, hB5.up (by omega)⟩
          · exact hQ' _ _ ⟨none, rfl, (fun z hz => by cases hz), x4, hB4.up (by omega)⟩
        · exact hQ' _ _ ⟨none, rfl, (fun z hz => by cases hz), ExB.refl, hB3.up (by omega)⟩
def spNum : Sp := fun vs H Q _ => ∃ (b wd : Addr) (m : Nat) (qs : List (Str × Int)) (ys zs : List Str), vs = [.ref b, .ref wd] ∧ m + 8 ≤ 1000 ∧ BoxAt H b m ∧ WorldAt b H wd qs ys zs ∧
    ∀ (v : V) (t : Tm) (H' : Hp), ExB b H H' → BoxAt H' b (m + 8) → Rd H' v t.tr → t.many ≤ 1 → t.dp ≤ 5 → Q v H'
abbrev s_num : Stmt := top 40
abbrev N_num : List Str := ["box", "world", "most", "way", "a", "b"]
theorem sc_num : FnScope N_num ["box", "world"] (defScope s_num) := ⟨rfl, rfl, rfl, by decide +kernel, rfl, by decide +kernel, by decide +kernel⟩
theorem ok_num (T : Txt K mg) (k_take : Take P w K mg base k) (F : FunD K "_law_num" "_law_num" (defArgs s_num) (defBody s_num) (defScope s_num) [] [] f fd) (hm : mg "_law_num" = some (.ref f)) : OkC P w K mg base (k + 1) "_law_num" ["box", "world"] spNum := by
  refine okC_of F hm sc_num (fun _ _ _ _ _ _ us hl => match us, hl with | [_, _], _ => rfl) (fun vs H Q E h => ?_) (fun cdv A outer s H vs Q E hr h => ?_)
  · obtain ⟨b, wd, m, qs, ys, zs, rfl, _⟩ := h
    rfl
  · obtain ⟨b, wd, m, qs, ys, zs, rfl, hm, hB, hW, q⟩ := h
    refine ⟨_, PSs.nox (pss_cons (ps_par rfl sc_num.nd (i := 2) (j := 3) rfl rfl (by decide) rfl rfl (pa_cons (pe_op op_pow pe_int pe_int) (pa_cons (pe_callK0 k_take hr (by rfl) (pa_cons (pv 0) (pa_cons pe_int pa_nil))) pa_nil)) rfl) (pss_cons (ps_set (i := 4) sc_num.nd rfl (Or.inl rfl) (pe_ix ix_list (pe_lst (pa_cons pe_int (pa_cons pe_int (pa_cons pe_int (pa_cons pe_int (pa_cons pe_int (pa_cons (pv 2) (pa_cons (pe_op op_sub (pv 2) (pe_callK0 k_take hr (by rfl) (pa_cons (pv 0) (pa_cons pe_int pa_nil)))) (pa_cons (pe_op op_add pe_int (pe_callK0 k_take hr (by rfl) (pa_cons (pv 0) (pa_cons pe_int pa_nil)))) pa_nil))))))))) (pe_callK0 k_take hr (by rfl) (pa_cons (pv 0) (pa_cons pe_int pa_nil))) fun _ _ => rfl)) (pss_cons (ps_set (i := 5) sc_num.nd rfl (Or.inl rfl) (pe_ix ix_list (pe_lst (pa_cons pe_int (pa_cons pe_int (pa_cons pe_int (pa_cons pe_int (pa_cons pe_int (pa_cons (pv 2) (pa_cons (pe_op op_sub (pv 2) (pe_callK0 k_take hr (by rfl) (pa_cons (pv 0) (pa_cons pe_int pa_nil)))) (pa_cons (pe_callK0 k_take hr (by rfl) (pa_cons (pv 0) (pa_cons pe_int pa_nil))) pa_nil))))))))) (pe_callK0 k_take hr (by rfl) (pa_cons (pv 0) (pa_cons pe_int pa_nil))) fun _ _ => rfl)) (pss_one (ps_ret (pe_ifExp (pt_cmpR op_eq (pv 3) pe_int (nomark _)) (pv 5) (pe_tup (pa_cons pe_str (pa_cons (pv 4) (pa_cons (pe_ix ix_list (pe_ix ix_list (pv 1) pe_int fun _ _ => rfl) (pe_op op_add pe_int (pe_callK0 k_take hr (by rfl) (pa_cons (pv 0) (pa_cons pe_int pa_nil)))) fun _ _ => rfl) (pa_cons (pv 5) pa_nil))))))))))), ?_⟩
    have sz := sizeLine_eq
    obtain ⟨xs0, hb0⟩ := hB.at_
    obtain ⟨⟨pr, ps, pw, ur, hw, hpr, hrr, hps, hpw, n1, n2, n3, n4⟩, lq, ly, lz, gq, gy, gz⟩ := id hW
    refine seq_l (par_l (cons_l ⟨_, _, rfl, rfl, ⟨by decide, by decide, by decide⟩, cons_l (take_l (b := b) (n := 3) (m := m) (fun R r => ⟨_, rfl, r⟩) (fun R r => r) (by decide) (by decide) (by omega) hB fun d1 H1 hd1 x1 hB1 => nil_l ⟨_, _, rfl, nx_p ?_⟩)⟩))
    dsimp only
    generalize ((10 : Int) ^ (24 : Int).toNat) = M
    refine seq_l (asg_l (op_l (lst_l (cons_l (c_l (cons_l (c_l (cons_l (c_l (cons_l (c_l (cons_l (c_l (cons_l ⟨_, rfl, cons_l ⟨_, rfl, ?_⟩⟩))))))))))))))
    refine take_l (b := b) (n := 9) (m := m + 1) (fun R r => ⟨_, rfl, r⟩) (fun R r => r) (by decide) (by decide) (by omega) hB1 fun d2 H2 hd2 x2 hB2 => ⟨_, _, rfl, rfl, cons_l ?_⟩
    refine take_l (b := b) (n := 1000) (m := m + 2) (fun R r => ⟨_, rfl, r⟩) (fun R r => r) (by decide) (by decide) (by omega) hB2 fun d3 H3 hd3 x3 hB3 => ⟨_, _, rfl, rfl, nil_l ⟨by show 8 ≤ sizeLine; decide, fun p hp => ?_⟩⟩
    have ep : Ex H3 (upd H3 p (.lst [.int 1, .int 1, .int 2, .int 3, .int 12, .int M, .int (M - (d2 : Int)), .int (1 + (d3 : Int))])) := Ex.new hp
    have hpl : upd H3 p (.lst [.int 1, .int 1, .int 2, .int 3, .int 12, .int M, .int (M - (d2 : Int)), .int (1 + (d3 : Int))]) p = some (.lst ([1, 1, 2, 3, 12, M, M - (d2 : Int), 1 + (d3 : Int)].map V.int)) := upd_same
    have npb : p ≠ b := by
      obtain ⟨u, hu⟩ := hB3.at_
      exact (ne_of_none hu hp).symm
    have hB4 := hB3.ex ep
    have x04 : ExB b H (upd H3 p (.lst [.int 1, .int 1, .int 2, .int 3, .int 12, .int M, .int (M - (d2 : Int)), .int (1 + (d3 : Int))])) := x1.trans (x2.trans (x3.trans (Ex.but ep)))
    show tCallB _ _ _ (upd H3 p (.lst [.int 1, .int 1, .int 2, .int 3, .int 12, .int M, .int (M - (d2 : Int)), .int (1 + (d3 : Int))])) _
    generalize upd H3 p (.lst [.int 1, .int 1, .int 2, .int 3, .int 12, .int M, .int (M - (d2 : Int)), .int (1 + (d3 : Int))]) = H4 at hpl hB4 x04 ⊢
    refine take_l (b := b) (n := 8) (m := m + 3) (fun R r => ⟨_, rfl, r⟩) (fun R r => r) (by decide) (by decide) (by omega) hB4 fun d5 H5 hd5 x5 hB5 => ?_
    obtain ⟨a, _, ha⟩ := pick [1, 1, 2, 3, 12, M, M - (d2 : Int), 1 + (d3 : Int)] V.int hd5 rfl (fun _ => True) (fun _ _ => trivial)
    refine ⟨p, _, (d5 : Int), .int a, rfl, rfl, SqL.of (x5 _ _ npb hpl), ha, nx_p ?_⟩
    have x05 := x04.trans x5
    refine seq_l (asg_l (op_l (lst_l (cons_l (c_l (cons_l (c_l (cons_l (c_l (cons_l (c_l (cons_l (c_l (cons_l ⟨_, rfl, cons_l ⟨_, rfl, ?_⟩⟩))))))))))))))
    refine take_l (b := b) (n := 9) (m := m + 4) (fun R r => ⟨_, rfl, r⟩) (fun R r => r) (by decide) (by decide) (by omega) hB5 fun e2 H6 he2 x6 hB6 => ⟨_, _, rfl, rfl, cons_l ?_⟩
    refine take_l (b := b) (n := 1000) (m := m + 5) (fun R r => ⟨_, rfl, r⟩) (fun R r => r) (by decide) (by decide) (by omega) hB6 fun e3 H7 he3 x7 hB7 => nil_l ⟨by show 8 ≤ sizeLine; decide, fun p2 hp2 => ?_⟩
    have ep2 : Ex H7 (upd H7 p2 (.lst [.int 0, .int 0, .int 1, .int 2, .int 7, .int M, .int (M - (e2 : Int)), .int (e3 : Int)])) := Ex.new hp2
    have hpl2 : upd H7 p2 (.lst [.int 0, .int 0, .int 1, .int 2, .int 7, .int M, .int (M - (e2 : Int)), .int (e3 : Int)]) p2 = some (.lst ([0, 0, 1, 2, 7, M, M - (e2 : Int), (e3 : Int)].map V.int)) := upd_same
    have npb2 : p2 ≠ b := by
      obtain ⟨u, hu⟩ := hB7.at_
      exact (ne_of_none hu hp2).symm
    have hB8 := hB7.ex ep2
    have x08 : ExB b H (upd H7 p2 (.lst [.int 0, .int 0, .int 1, .int 2, .int 7, .int M, .int (M - (e2 : Int)), .int (e3 : Int)])) := x05.trans (x6.trans (x7.trans (Ex.but ep2)))
    show tCallB _ _ _ (upd H7 p2 (.lst [.int 0, .int 0, .int 1, .int 2, .int 7, .int M, .int (M - (e2 : Int)), .int (e3 : Int)])) _
    generalize upd H7 p2 (.lst [.int 0, .int 0, .int 1, .int 2, .int 7, .int M, .int (M - (e2 : Int)), .int (e3 : Int)]) = H8 at hpl2 hB8 x08 ⊢
    refine take_l (b := b) (n := 8) (m := m + 6) (fun R r => ⟨_, rfl, r⟩) (fun R r => r) (by decide) (by decide) (by omega) hB8 fun e5 H9 he5 x9 hB9 => ?_
    obtain ⟨bb, _, hbb⟩ := pick [0, 0, 1, 2, 7, M, M - (e2 : Int), (e3 : Int)] V.int he5 rfl (fun _ => True) (fun _ _ => trivial)
    refine ⟨p2, _, (e5 : Int), .int bb, rfl, rfl, SqL.of (x9 _ _ npb2 hpl2), hbb, nx_p ?_⟩
    have x09 := x08.trans x9
    refine ret_l ⟨_, rfl, rfl, _, rfl, ?_⟩
    dsimp only
    split
    · exact ⟨_, rfl, q _ (.int bb) _ x09 (hB9.up (by omega)) (.int _) (by simp [Tm.many]) (by simp [Tm.dp])⟩
    · refine tup_l (cons_l (c_l (cons_l ⟨_, rfl, cons_l ⟨_, rfl, wd, _, 2, _, rfl, rfl, SqL.of (x09 _ _ n1 hw), atI_nat (j := 2) rfl, take_l (b := b) (n := 2) (m := m + 7) (fun R r => ⟨_, rfl, r⟩) (fun R r => r) (by decide) (by decide) (by omega) hB9 fun d10 H10 hd10 x10 hB10 => ?_⟩⟩)))
      have hd' : 4 + d10 < zs.length := by omega
      refine ⟨_, _, rfl, rfl, pw, _, ((4 + d10 : Nat) : Int), .str zs[4 + d10], rfl, rfl, SqL.of ((x09.trans x10) _ _ n4 hpw), atI_nat (j := 4 + d10) (by rw [List.getElem?_map, List.getElem?_eq_getElem hd']; rfl), cons_l ⟨_, rfl, nil_l ⟨by show 4 ≤ sizeLine; decide, fun p5 hp5 => ?_⟩⟩⟩
      have e5 : Ex H10 (upd H10 p5 (.tup [.str "form", .int a, .str zs[4 + d10], .int bb])) := Ex.new hp5
      exact q _ (.form a zs[4 + d10] bb) _ ((x09.trans x10).trans (Ex.but e5)) (hB10.ex e5) (.tup upd_same (.cons (.str _ (by decide)) (.cons (.int _) (.cons (.str _ (by have := gz _ (List.getElem_mem hd'); omega)) (.cons (.int _) .nil))))) (by simp [Tm.many]) (by simp [Tm.dp])
def spTerm : Sp := fun vs H Q _ => ∃ (b wd : Addr) (kd : Str) (room m : Nat) (qs : List (Str × Int)) (ys zs : List Str), vs = [.ref b, .ref wd, .str kd, .int (room : Int), .int 3] ∧ 1 ≤ room ∧ room ≤ 40 ∧ m + 4 * room + 8 ≤ 1000 ∧ BoxAt H b m ∧ WorldAt b H wd qs ys zs ∧
    ∀ (v : V) (t : Tm) (H' : Hp), ExB b H H' → BoxAt H' b (m + 4 * room + 8) → Rd H' v t.tr → t.many ≤ room + 1 → t.dp ≤ 5 → Q v H'
abbrev s_term : Stmt := top 41
abbrev N_term : List Str := ["box", "world", "kind", "room", "deep"]
theorem sc_term : FnScope N_term ["box", "world", "kind", "room", "deep"] (defScope s_term) := ⟨rfl, rfl, rfl, by decide +kernel, rfl, by decide +kernel, by decide +kernel⟩
theorem ok_term (T : Txt K mg) (k_type : OkC P w K mg base k "_law_type" ["box", "world", "room", "deep"] (spType 4)) (k_list : OkC P w K mg base k "_law_list" ["box", "world", "room", "deep"] spList) (k_num : OkC P w K mg base k "_law_num" ["box", "world"] spNum) (F : FunD K "_law_term" "_law_term" (defArgs s_term) (defBody s_term) (defScope s_term) [] [] f fd) (hm : mg "_law_term" = some (.ref f)) : OkC P w K mg base (k + 1) "_law_term" ["box", "world", "kind", "room", "deep"] spTerm := by
  refine okC_of F hm sc_term (fun _ _ _ _ _ _ us hl => match us, hl with | [_, _, _, _, _], _ => rfl) (fun vs H Q E h => ?_) (fun cdv A outer s H vs Q E hr h => ?_)
  · obtain ⟨b, wd, kd, room, m, qs, ys, zs, rfl, _⟩ := h
    rfl
  · obtain ⟨b, wd, kd, room, m, qs, ys, zs, rfl, r1, r40, hm, hB, hW, q⟩ := h
    refine ⟨_, (pss_cons (ps_if (pt_cmpR op_eq (pv 2) pe_str (nomark _)) (pss_one (ps_ret (pe_callK0 k_num hr (by rfl) (pa_cons (pv 0) (pa_cons (pv 1) pa_nil))))) pss_nil) (pss_one (ps_ret (pe_ifExp (pt_cmpR op_eq (pv 2) pe_str (nomark _)) (pe_callK0 k_list hr (by rfl) (pa_cons (pv 0) (pa_cons (pv 1) (pa_cons (pv 3) (pa_cons (pv 4) pa_nil))))) (pe_callK0 k_type hr (by rfl) (pa_cons (pv 0) (pa_cons (pv 1) (pa_cons (pv 3) (pa_cons (pv 4) pa_nil))))))))), ?_⟩
    refine seq_l ⟨_, rfl, rfl, _, rfl, ?_⟩
    by_cases c1 : kd = "num"
    · refine ite1 (by simp [c1]) (ret_l ⟨_, rfl, _, rfl, b, wd, m, qs, ys, zs, rfl, by omega, hB, hW, fun v t H1 x1 hB1 hv h1 h2 => q v t H1 x1 (hB1.up (by omega)) hv (by omega) h2⟩)
    · refine ite0 (by simpa using c1) (nx_l (ret_l ⟨_, rfl, rfl, _, rfl, ?_⟩))
      dsimp only
      split
      · exact ⟨_, rfl, _, rfl, _, rfl, _, rfl, b, wd, room, m, qs, ys, zs, rfl, r1, r40, by omega, hB, hW, fun v t H1 x1 hB1 hv h1 h2 => q v t H1 x1 (hB1.up (by omega)) hv h1 h2⟩
      · exact ⟨_, rfl, _, rfl, _, rfl, _, rfl, b, wd, room, m, qs, ys, zs, rfl, r1, r40, by omega, hB, hW, fun v t H1 x1 hB1 hv h1 h2 => q v t H1 x1 (hB1.up (by omega)) hv (by omega) (Nat.le_trans h2 (by decide))⟩
end
end D0

namespace D0
open PySem PySem.Spec PyProof.Rows L2 L2H HotX Evl K9
def inR (a b c : Nat) : Bool := decide (a ≤ c) && decide (c ≤ b)
theorem mem_of {z : Str} {p : Nat → Bool} (h1 : ∀ c ∈ cl z, p c = true) (h2 : ∀ c, c < 200 → p c = true → c ∈ cl z) (h3 : ∀ c, p c = true → c < 200) (c : Nat) : decide (c ∈ cl z) = p c := by
  rw [Bool.eq_iff_iff, decide_eq_true_eq]
  exact ⟨h1 c, fun h => h2 c (h3 c h) h⟩
theorem lt_or {a b c d x : Nat} (hb : b < 200) (hd : d < 200) (h : (inR a b x || inR c d x) = true) : x < 200 := by
  simp [inR] at h
  omega
theorem lt_in {a b x : Nat} (hb : b < 200) (h : inR a b x = true) : x < 200 := by
  simp [inR] at h
  omega
theorem great_in (c : Nat) : decide (c ∈ cl zGreat) = inR 65 90 c := mem_of (by decide +kernel) (by decide +kernel) (fun c h => lt_in (by decide) h) c
theorem small_in (c : Nat) : decide (c ∈ cl zSmall) = inR 97 122 c := mem_of (by decide +kernel) (by decide +kernel) (fun c h => lt_in (by decide) h) c
theorem let_in (c : Nat) : decide (c ∈ cl zLet) = (inR 65 90 c || inR 97 122 c) := mem_of (by decide +kernel) (by decide +kernel) (fun c h => lt_or (by decide) (by decide) h) c
theorem vars_in (c : Nat) : decide (c ∈ cl zVar) = (inR 97 122 c || inR 48 57 c) := mem_of (by decide +kernel) (by decide +kernel) (fun c h => lt_or (by decide) (by decide) h) c
/-- nothing is kept: all signs are good -/
theorem none_kept (z : Str) (p : Nat → Bool) (f : Nat → V) : (((List.range z.cps.size).filter fun j => !p (z.cps.getD j 0)).map f).isEmpty = z.cps.toList.all p := by
  have y := all_signs z p
  rw [← y]
  generalize List.range z.cps.size = l
  induction l with
  | nil => rfl
  | cons a r ih =>
    rw [List.filter_cons, List.all_cons]
    cases hp : p (z.cps.getD a 0) with
    | true => simpa using ih
    | false => simp
def inI (a b : Int) (c : Nat) : Bool := decide (a ≤ (c : Int)) && decide ((c : Int) ≤ b)
theorem inI_nat (a b c : Nat) : inI a b c = inR a b c := by
  simp only [inI, inR, Int.ofNat_le]
theorem not_l {t : TT} {σ : L2.St} {H : Hp} {R : Bool → Hp → Prop} (h : t σ H fun b H1 => R (!b) H1) : tNot t σ H R := h
theorem and_l {t u : TT} {σ : L2.St} {H : Hp} {R : Bool → Hp → Prop} (h : t σ H fun b H1 => if b = true then u σ H1 R else R false H1) : tAnd t u σ H R := h
/-- a <= e <= b -/
theorem chain_l {te : TE} {σ : L2.St} {H : Hp} {R : Bool → Hp → Prop} {a b : Int} {c : Nat} (h : ∀ Q : VK, Q (.int (c : Int)) H → te σ H Q) (k : R (inI a b c) H) : tTest (tChain (rI0 fun i j => V.bl (decide (i ≤ j))) (rI0 fun i j => V.bl (decide (i ≤ j))) (tC (.int a)) te (tC (.int b))) σ H R := by
  refine h _ ⟨_, _, rfl, rfl, _, rfl, ?_⟩
  by_cases h1 : a ≤ (c : Int)
  · refine ite1 (decide_eq_true h1) ⟨_, _, rfl, rfl, _, rfl, ?_⟩
    rw [inI, decide_eq_true h1, Bool.true_and] at k
    exact k
  · refine ite0 (by simpa using h1) ⟨_, rfl, ?_⟩
    rw [inI, decide_eq_false h1, Bool.false_and] at k
    exact k
section
variable {P : Program} {w : World} {K : PySem.W.Frag} {mg : Str → Option Value} {base : Heap} {f : Addr} {fd : FuncData} {k : Nat}
def spDue (K : PySem.W.Frag) (g : Str → Bool) : Sp := fun vs H Q _ => ∃ (v : V) (o : Option Str), vs = [v] ∧ MayStr K H v o ∧ ∀ H', Ex H H' → Q (.bl (onStr g o)) H'
abbrev s_name_due : Stmt := top 42
abbrev N_name_due : List Str := ["value", "sign"]
theorem sc_name_due : FnScope N_name_due ["value"] (defScope s_name_due) := ⟨rfl, rfl, rfl, by decide +kernel, rfl, by decide +kernel, by decide +kernel⟩
theorem ok_name_due (T : Txt K mg) (T3 : Txt3 K mg) (F : FunD K "_law_name_due" "_law_name_due" (defArgs s_name_due) (defBody s_name_due) (defScope s_name_due) [] [] f fd) (hm : mg "_law_name_due" = some (.ref f)) : OkC P w K mg base (k + 1) "_law_name_due" ["value"] (spDue K nameB) := by
  refine okC_of F hm sc_name_due (fun _ _ _ _ _ _ us hl => match us, hl with | [_], _ => rfl) (fun vs H Q E h => ?_) (fun cdv A outer s H vs Q E hr h => ?_)
  · obtain ⟨v, o, rfl, _⟩ := h
    rfl
  · obtain ⟨v, o, rfl, hv, q⟩ := h
    refine ⟨_, PSs.nox (pss_cons (ps_if (pw_or (pt_not (pt_val (pe_callB call_isA (by rfl) T.f_isinstance (by decide +kernel) (pa_cons (pv 0) (pa_cons (pe_bltn (v := .ty "str") (by rfl) T.f_str (by decide +kernel) rfl) pa_nil))))) (pw_or (pt_not (pt_chain op_le op_le pe_int (pe_callB call_len_str (by rfl) T.f_len (by decide +kernel) (pa_cons (pv 0) pa_nil)) pe_int)) (pw_or1 (pt_not (pt_chain op_le op_le pe_int (pe_callB call_ord (by rfl) T3.f_ord (by decide +kernel) (pa_cons (pe_ix ix_str (pv 0) pe_int fun _ _ => rfl) pa_nil)) pe_int))))).pt (pss_one (ps_ret pe_bl)) pss_nil) (pss_one (ps_ret (pe_cmpR (op_eq0 (huC (roomH_of hr))) (pe_lc (own := [("sign", 1)]) (g := gName 1) rfl sc_name_due.nd (pi_str (pv 0)) (blkOk_by (N := N_name_due) (sc := defScope s_name_due) (by decide +kernel)) (fun _ _ _ _ _ => pg_name (i := 1) sc_name_due.nd rfl (Or.inl rfl)) (fun _ _ _ _ _ => (pts_one (pw_and (pt_not (pt_chain op_le op_le pe_int (pe_callB call_ord (by rfl) T3.f_ord (by decide +kernel) (pa_cons (pv 1) pa_nil)) pe_int)) (pw_and1 (pt_not (pt_chain op_le op_le pe_int (pe_callB call_ord (by rfl) T3.f_ord (by decide +kernel) (pa_cons (pv 1) pa_nil)) pe_int)))).pt)) (fun _ _ _ _ _ => (pv 1))) (pe_lst pa_nil) (nomark _))))), ?_⟩
    have sz := sizeLine_eq
    cases hv with
    | no hn =>
      refine ⟨_, rfl, hn _ _ (Ex.refl _) ⟨_, rfl, ite1 (by decide) (ite1 rfl ?_)⟩⟩
      exact q _ (Ex.refl _)
    | str z hz =>
      refine ⟨_, rfl, is_str ⟨_, rfl, ite0 (by decide) ?_⟩⟩
      refine ⟨_, rfl, z, rfl, Nat.le_trans hz sz1000, _, _, rfl, rfl, _, rfl, ?_⟩
      by_cases h1 : 1 ≤ z.length
      · refine ite1 (decide_eq_true (by omega)) ⟨_, _, rfl, rfl, _, rfl, ?_⟩
        by_cases h2 : z.length ≤ 8
        · have hl : inLen z 8 = true := by simp [inLen, h1, h2]
          refine ite0 (by simp; omega) ?_
          refine not_l (chain_l (c := z.cps.getD 0 0) (fun R r => ⟨_, rfl, z, 0, z.cps.getD 0 0, rfl, rfl, Nat.le_trans hz sz1000, first_of h1, _, rfl, rfl, r⟩) ?_)
          dsimp only
          have all_eq : z.cps.toList.all (fun c => inI 65 90 c || inI 97 122 c) = allS z zLet := by
            unfold allS
            refine congrArg (fun p => z.cps.toList.all p) (funext fun c => ?_)
            have y := let_in c
            rw [← inI_nat, ← inI_nat] at y
            exact y.symm
          have fst_eq : inI 65 90 (z.cps.getD 0 0) = decide (z.cps.getD 0 0 ∈ (zGreat : Str).cps.toList) := by
            have y := great_in (z.cps.getD 0 0)
            rw [← inI_nat] at y
            exact y.symm
          cases hs : inI 65 90 (z.cps.getD 0 0) with
          | false =>
            refine ite1 rfl ?_
            have y := q _ (Ex.refl _)
            rw [show onStr nameB (some z) = false from by rw [show onStr nameB (some z) = (inLen z 8 && (decide (z.cps.getD 0 0 ∈ (zGreat : Str).cps.toList) && allS z zLet)) from rfl, ← fst_eq, hs]; simp] at y
            exact y
          | true =>
            refine ite0 (by decide) (nx_l (ret_l (op_l ?_)))
            refine lc_keep (J := Its z) (n := z.cps.size) (item := fun i => .str ⟨#[z.cps.getD i 0]⟩) (fun j => !(inI 65 90 (z.cps.getD j 0) || inI 97 122 (z.cps.getD j 0))) (fun j => .str ⟨#[z.cps.getD j 0]⟩) (Nat.le_trans hz sz1000) (by show 1 < 2; decide) (fun R h => ⟨_, rfl, z, rfl, h⟩) walks_str (fun j H1 R hj e hR => ?_) (fun j H1 R hj e hR => ⟨_, rfl, hR⟩) (fun D H1 hD e1 h1 => ?_)
            · refine and_l (not_l (chain_l (c := z.cps.getD j 0) (fun R r => ⟨_, rfl, _, rfl, rfl, r⟩) ?_))
              cases g1 : inI 65 90 (z.cps.getD j 0) with
              | true =>
                refine ite0 (by decide) ?_
                rw [g1] at hR
                exact hR
              | false =>
                refine ite1 rfl (not_l (chain_l (c := z.cps.getD j 0) (fun R r => ⟨_, rfl, _, rfl, rfl, r⟩) ?_))
                rw [g1] at hR
                exact hR
            · refine ⟨Nat.zero_le _, fun p2 hp2 => ⟨D, p2, _, rfl, rfl, SqL.of ((Ex.new hp2) _ _ h1), SqL.of upd_same, ?_⟩⟩
              have y := q _ (e1.trans (Ex.new (o := .lst []) hp2))
              rw [show onStr nameB (some z) = allS z zLet from by rw [show onStr nameB (some z) = (inLen z 8 && (decide (z.cps.getD 0 0 ∈ (zGreat : Str).cps.toList) && allS z zLet)) from rfl, ← fst_eq, hs, hl]; simp, ← all_eq, ← none_kept z (fun c => inI 65 90 c || inI 97 122 c) (fun j => .str ⟨#[z.cps.getD j 0]⟩)] at y
              exact y
        · have hl : inLen z 8 = false := by simp [inLen, h2]
          refine ite1 (by simp; omega) ?_
          have y := q _ (Ex.refl _)
          rw [show onStr nameB (some z) = false from by simp [onStr, nameB, hl]] at y
          exact y
      · have hl : inLen z 8 = false := by simp [inLen, h1]
        refine ite0 (by simp; omega) ⟨_, rfl, ite1 (by decide) ?_⟩
        have y := q _ (Ex.refl _)
        rw [show onStr nameB (some z) = false from by simp [onStr, nameB, hl]] at y
        exact y
abbrev s_variable_due : Stmt := top 43
abbrev N_variable_due : List Str := ["value", "sign"]
theorem sc_variable_due : FnScope N_variable_due ["value"] (defScope s_variable_due) := ⟨rfl, rfl, rfl, by decide +kernel, rfl, by decide +kernel, by decide +kernel⟩
theorem ok_variable_due (T : Txt K mg) (T3 : Txt3 K mg) (F : FunD K "_law_variable_due" "_law_variable_due" (defArgs s_variable_due) (defBody s_variable_due) (defScope s_variable_due) [] [] f fd) (hm : mg "_law_variable_due" = some (.ref f)) : OkC P w K mg base (k + 1) "_law_variable_due" ["value"] (spDue K varB) := by
  refine okC_of F hm sc_variable_due (fun _ _ _ _ _ _ us hl => match us, hl with | [_], _ => rfl) (fun vs H Q E h => ?_) (fun cdv A outer s H vs Q E hr h => ?_)
  · obtain ⟨v, o, rfl, _⟩ := h
    rfl
  · obtain ⟨v, o, rfl, hv, q⟩ := h
    refine ⟨_, PSs.nox (pss_cons (ps_if (pw_or (pt_not (pt_val (pe_callB call_isA (by rfl) T.f_isinstance (by decide +kernel) (pa_cons (pv 0) (pa_cons (pe_bltn (v := .ty "str") (by rfl) T.f_str (by decide +kernel) rfl) pa_nil))))) (pw_or (pt_not (pt_chain op_le op_le pe_int (pe_callB call_len_str (by rfl) T.f_len (by decide +kernel) (pa_cons (pv 0) pa_nil)) pe_int)) (pw_or1 (pt_not (pt_chain op_le op_le pe_int (pe_callB call_ord (by rfl) T3.f_ord (by decide +kernel) (pa_cons (pe_ix ix_str (pv 0) pe_int fun _ _ => rfl) pa_nil)) pe_int))))).pt (pss_one (ps_ret pe_bl)) pss_nil) (pss_one (ps_ret (pe_cmpR (op_eq0 (huC (roomH_of hr))) (pe_lc (own := [("sign", 1)]) (g := gName 1) rfl sc_variable_due.nd (pi_str (pv 0)) (blkOk_by (N := N_variable_due) (sc := defScope s_variable_due) (by decide +kernel)) (fun _ _ _ _ _ => pg_name (i := 1) sc_variable_due.nd rfl (Or.inl rfl)) (fun _ _ _ _ _ => (pts_one (pw_and (pt_not (pt_chain op_le op_le pe_int (pe_callB call_ord (by rfl) T3.f_ord (by decide +kernel) (pa_cons (pv 1) pa_nil)) pe_int)) (pw_and1 (pt_not (pt_chain op_le op_le pe_int (pe_callB call_ord (by rfl) T3.f_ord (by decide +kernel) (pa_cons (pv 1) pa_nil)) pe_int)))).pt)) (fun _ _ _ _ _ => (pv 1))) (pe_lst pa_nil) (nomark _))))), ?_⟩
    have sz := sizeLine_eq
    cases hv with
    | no hn =>
      refine ⟨_, rfl, hn _ _ (Ex.refl _) ⟨_, rfl, ite1 (by decide) (ite1 rfl ?_)⟩⟩
      exact q _ (Ex.refl _)
    | str z hz =>
      refine ⟨_, rfl, is_str ⟨_, rfl, ite0 (by decide) ?_⟩⟩
      refine ⟨_, rfl, z, rfl, Nat.le_trans hz sz1000, _, _, rfl, rfl, _, rfl, ?_⟩
      by_cases h1 : 1 ≤ z.length
      · refine ite1 (decide_eq_true (by omega)) ⟨_, _, rfl, rfl, _, rfl, ?_⟩
        by_cases h2 : z.length ≤ 4
        · have hl : inLen z 4 = true := by simp [inLen, h1, h2]
          refine ite0 (by simp; omega) ?_
          refine not_l (chain_l (c := z.cps.getD 0 0) (fun R r => ⟨_, rfl, z, 0, z.cps.getD 0 0, rfl, rfl, Nat.le_trans hz sz1000, first_of h1, _, rfl, rfl, r⟩) ?_)
          dsimp only
          have all_eq : z.cps.toList.all (fun c => inI 97 122 c || inI 48 57 c) = allS z zVar := by
            unfold allS
            refine congrArg (fun p => z.cps.toList.all p) (funext fun c => ?_)
            have y := vars_in c
            rw [← inI_nat, ← inI_nat] at y
            exact y.symm
          have fst_eq : inI 97 122 (z.cps.getD 0 0) = decide (z.cps.getD 0 0 ∈ (zSmall : Str).cps.toList) := by
            have y := small_in (z.cps.getD 0 0)
            rw [← inI_nat] at y
            exact y.symm
          cases hs : inI 97 122 (z.cps.getD 0 0) with
          | false =>
            refine ite1 rfl ?_
            have y := q _ (Ex.refl _)
            rw [show onStr varB (some z) = false from by rw [show onStr varB (some z) = (inLen z 4 && (decide (z.cps.getD 0 0 ∈ (zSmall : Str).cps.toList) && allS z zVar)) from rfl, ← fst_eq, hs]; simp] at y
            exact y
          | true =>
            refine ite0 (by decide) (nx_l (ret_l (op_l ?_)))
            refine lc_keep (J := Its z) (n := z.cps.size) (item := fun i => .str ⟨#[z.cps.getD i 0]⟩) (fun j => !(inI 97 122 (z.cps.getD j 0) || inI 48 57 (z.cps.getD j 0))) (fun j => .str ⟨#[z.cps.getD j 0]⟩) (Nat.le_trans hz sz1000) (by show 1 < 2; decide) (fun R h => ⟨_, rfl, z, rfl, h⟩) walks_str (fun j H1 R hj e hR => ?_) (fun j H1 R hj e hR => ⟨_, rfl, hR⟩) (fun D H1 hD e1 h1 => ?_)
            · refine and_l (not_l (chain_l (c := z.cps.getD j 0) (fun R r => ⟨_, rfl, _, rfl, rfl, r⟩) ?_))
              cases g1 : inI 97 122 (z.cps.getD j 0) with
              | true =>
                refine ite0 (by decide) ?_
                rw [g1] at hR
                exact hR
              | false =>
                refine ite1 rfl (not_l (chain_l (c := z.cps.getD j 0) (fun R r => ⟨_, rfl, _, rfl, rfl, r⟩) ?_))
                rw [g1] at hR
                exact hR
            · refine ⟨Nat.zero_le _, fun p2 hp2 => ⟨D, p2, _, rfl, rfl, SqL.of ((Ex.new hp2) _ _ h1), SqL.of upd_same, ?_⟩⟩
              have y := q _ (e1.trans (Ex.new (o := .lst []) hp2))
              rw [show onStr varB (some z) = allS z zVar from by rw [show onStr varB (some z) = (inLen z 4 && (decide (z.cps.getD 0 0 ∈ (zSmall : Str).cps.toList) && allS z zVar)) from rfl, ← fst_eq, hs, hl]; simp, ← all_eq, ← none_kept z (fun c => inI 97 122 c || inI 48 57 c) (fun j => .str ⟨#[z.cps.getD j 0]⟩)] at y
              exact y
        · have hl : inLen z 4 = false := by simp [inLen, h2]
          refine ite1 (by simp; omega) ?_
          have y := q _ (Ex.refl _)
          rw [show onStr varB (some z) = false from by simp [onStr, varB, hl]] at y
          exact y
      · have hl : inLen z 4 = false := by simp [inLen, h1]
        refine ite0 (by simp; omega) ⟨_, rfl, ite1 (by decide) ?_⟩
        have y := q _ (Ex.refl _)
        rw [show onStr varB (some z) = false from by simp [onStr, varB, hl]] at y
        exact y
end
end D0

namespace D0
open PySem PySem.Spec PyProof.Rows L2 L2H HotX Evl K9
section
variable {P : Program} {w : World} {K : PySem.W.Frag} {mg : Str → Option Value} {base : Heap} {f : Addr} {fd : FuncData} {k : Nat}
def spIntDue : Sp := fun vs H Q _ => ∃ (v : V) (s : String) (l : Int), vs = [v, .int l] ∧ Bas H v s ∧ ∀ H', Ex H H' → Q (.bl (numB l (isInt v))) H'
abbrev s_integer_due : Stmt := top 44
abbrev N_integer_due : List Str := ["value", "least"]
theorem sc_integer_due : FnScope N_integer_due ["value", "least"] (defScope s_integer_due) := ⟨rfl, rfl, rfl, by decide +kernel, rfl, by decide +kernel, by decide +kernel⟩
theorem ok_integer_due (T : Txt K mg) (F : FunD K "_law_integer_due" "_law_integer_due" (defArgs s_integer_due) (defBody s_integer_due) (defScope s_integer_due) [] [] f fd) (hm : mg "_law_integer_due" = some (.ref f)) : OkC P w K mg base (k + 1) "_law_integer_due" ["value", "least"] spIntDue := by
  refine okC_of F hm sc_integer_due (fun _ _ _ _ _ _ us hl => match us, hl with | [_, _], _ => rfl) (fun vs H Q E h => ?_) (fun cdv A outer s H vs Q E hr h => ?_)
  · obtain ⟨v, s, l, rfl, _⟩ := h
    rfl
  · obtain ⟨v, s, l, rfl, hv, q⟩ := h
    refine ⟨_, (pss_one (ps_ret (pe_and (pe_callB call_isi (by rfl) T.f_isinstance (by decide +kernel) (pa_cons (pv 0) (pa_cons (pe_bltn (v := .ty "int") (by rfl) T.f_int (by decide +kernel) rfl) pa_nil))) (pe_and (pe_not (pe_callB call_isi (by rfl) T.f_isinstance (by decide +kernel) (pa_cons (pv 0) (pa_cons (pe_bltn (v := .ty "bool") (by rfl) T.f_bool (by decide +kernel) rfl) pa_nil)))) (pe_one (pe_chain op_le op_le (pv 1) (pv 0) (pe_op op_pow pe_int pe_int))))))), ?_⟩
    have q := q H (Ex.refl H)
    refine ret_l ⟨_, rfl, ?_⟩
    dsimp only [tCons, tC, tNil]
    cases hv with
    | int i =>
      refine Bas.isi (T := "int") (r := true) (.int i) rfl ⟨_, rfl, ite1 rfl ?_⟩
      refine ⟨_, rfl, ?_⟩
      dsimp only [tCons, tC, tNil]
      refine Bas.isi (T := "bool") (r := false) (.int i) rfl ⟨_, rfl, _, rfl, ite1 rfl ?_⟩
      refine ⟨_, rfl, _, rfl, _, _, rfl, rfl, _, rfl, ?_⟩
      by_cases h0 : l ≤ i
      · refine ite1 (decide_eq_true h0) ⟨_, _, rfl, rfl, ⟨by decide, by decide, by decide⟩, _, _, rfl, rfl, ?_⟩
        rw [show numB l (isInt (.int i)) = decide (i ≤ 1000000000000000000000000) from by simp [numB, isInt, h0]] at q
        exact q
      · refine ite0 (by simpa using h0) ?_
        rw [show numB l (isInt (.int i)) = false from by simp [numB, isInt, h0]] at q
        exact q
    | bl b =>
      refine Bas.isi (T := "int") (r := true) (.bl b) rfl ⟨_, rfl, ite1 rfl ?_⟩
      refine ⟨_, rfl, ?_⟩
      dsimp only [tCons, tC, tNil]
      refine Bas.isi (T := "bool") (r := true) (.bl b) rfl ⟨_, rfl, _, rfl, ite0 (by decide) ?_⟩
      exact q
    | non => exact Bas.isi (T := "int") (r := false) .non rfl ⟨_, rfl, ite0 (by decide) q⟩
    | str z => exact Bas.isi (T := "int") (r := false) (.str z) rfl ⟨_, rfl, ite0 (by decide) q⟩
    | lst h => exact Bas.isi (T := "int") (r := false) (.lst h) rfl ⟨_, rfl, ite0 (by decide) q⟩
    | tup h => exact Bas.isi (T := "int") (r := false) (.tup h) rfl ⟨_, rfl, ite0 (by decide) q⟩
    | dK h => exact Bas.isi (T := "int") (r := false) (.dK h) rfl ⟨_, rfl, ite0 (by decide) q⟩
theorem isS_two {t : Tr} {y z : Str} (h : t.isS y = true) (n : y ≠ z) : t.isS z = false := by
  cases t with
  | str x =>
    have h : decide (x = y) = true := h
    obtain rfl := of_decide_eq_true h
    exact decide_eq_false n
  | _ => cases h
theorem typeP_var {cnt : Str → Int} {t0 : Tr} {tr : List Tr} (h : t0.isS "var" = true) (n : (t0 :: tr).length ≠ 2) : typeP cnt (t0 :: tr) = none := by
  by_cases h3 : (t0 :: tr).length = 3
  · match tr, h3 with
    | [t1, t2], _ =>
      have g := isS_two (z := "type") h (by decide)
      cases t2 <;> simp [typeP, g]
  · exact typeP_len n h3
def NodeAt (H : Hp) (v : V) (kd : Str) : Parts → Prop
  | none => v = .non
  | some (x, as) => ∃ p a us, v = .ref p ∧ H p = some (.lst [ov x, .ref a, .int (sg1 x kd : Nat)]) ∧ H a = some (.tup us) ∧ RdL H us as
def cntK (rs : List (Str × Int)) : List (Key × V) := rs.map fun r => (.inr r.1, .int r.2)
def spNode : Sp := fun vs H Q _ => ∃ (v : V) (t : Tr) (kd : Str) (c : Addr) (rs : List (Str × Int)), vs = [v, .str kd, .ref c] ∧ Rd H v t ∧ Kd kd ∧ H c = some (.dK (cntK rs)) ∧ ∀ (u : V) (H' : Hp), Ex H H' → NodeAt H' u kd (partsT (countOf rs) kd t) → Q u H'
abbrev IntDue (P : Program) (w : World) (K : PySem.W.Frag) (mg : Str → Option Value) (base : Heap) (k : Nat) : Prop := OkC P w K mg base k "_law_integer_due" ["value", "least"] spIntDue
abbrev s_node : Stmt := top 45
abbrev N_node : List Str := ["value", "kind", "counts", "good"]
theorem sc_node : FnScope N_node ["value", "kind", "counts"] (defScope s_node) := ⟨rfl, rfl, rfl, by decide +kernel, rfl, by decide +kernel, by decide +kernel⟩
theorem ok_node (T : Txt K mg) (k_integer_due : IntDue P w K mg base k) (k_name_due : OkC P w K mg base k "_law_name_due" ["value"] (spDue K nameB)) (k_variable_due : OkC P w K mg base k "_law_variable_due" ["value"] (spDue K varB)) (F : FunD K "_law_node" "_law_node" (defArgs s_node) (defBody s_node) (defScope s_node) [] [] f fd) (hm : mg "_law_node" = some (.ref f)) : OkC P w K mg base (k + 1) "_law_node" ["value", "kind", "counts"] spNode := by
  refine okC_of F hm sc_node (fun _ _ _ _ _ _ us hl => match us, hl with | [_, _, _], _ => rfl) (fun vs H Q E h => ?_) (fun cdv A outer s H vs Q E hr h => ?_)
  · obtain ⟨v, t, kd, c, rs, rfl, _⟩ := h
    rfl
  · obtain ⟨v, t, kd, c, rs, rfl, hv, hkd, hc, q⟩ := h
    refine ⟨_, (pss_cons (ps_if (pw_and (pt_cmpR op_eq (pv 1) pe_str (nomark _)) (pw_and1 (pt_val (pe_callK0 k_integer_due hr (by rfl) (pa_cons (pv 0) (pa_cons pe_int pa_nil)))))).pt (pss_one (ps_ret (pe_lst (pa_cons pe_non (pa_cons (pe_tup pa_nil) (pa_cons pe_int pa_nil)))))) pss_nil) (pss_cons (ps_if (pw_or (pt_not (pt_val (pe_callB call_isi (by rfl) T.f_isinstance (by decide +kernel) (pa_cons (pv 0) (pa_cons (pe_bltn (v := .ty "tuple") (by rfl) T.f_tuple (by decide +kernel) rfl) pa_nil))))) (pw_or1 (pt_cmpR (op_eqE (huE (roomH_of hr))) (pv 0) (pe_tup pa_nil) (nomark _)))).pt (pss_one (ps_ret pe_non)) pss_nil) (pss_cons (ps_if (pt_cmpR op_eq (pv 1) pe_str (nomark _)) (pss_cons (ps_set (i := 3) sc_node.nd rfl (Or.inl rfl) (pe_and (pe_cmpR op_eq (pe_callB call_len_seq (by rfl) T.f_len (by decide +kernel) (pa_cons (pv 0) pa_nil)) pe_int (nomark _)) (pe_and (pe_cmpR (op_eqS (huE (roomH_of hr))) (pe_ix ix_tup (pv 0) pe_int fun _ _ => rfl) pe_str (nomark _)) (pe_and (pe_callK0 k_integer_due hr (by rfl) (pa_cons (pe_ix ix_tup (pv 0) pe_int fun _ _ => rfl) (pa_cons pe_int pa_nil))) (pe_one (pe_callK0 k_variable_due hr (by rfl) (pa_cons (pe_ix ix_tup (pv 0) pe_int fun _ _ => rfl) pa_nil))))))) (pss_one (ps_ret (pe_ifExp (pw_and (pt_val (pv 3)) (pw_and1 (pt_val (pe_callK0 k_integer_due hr (by rfl) (pa_cons (pe_ix ix_tup (pv 0) pe_int fun _ _ => rfl) (pa_cons pe_int pa_nil)))))).pt (pe_lst (pa_cons (pe_ix ix_tup (pv 0) pe_int fun _ _ => rfl) (pa_cons (pe_tup pa_nil) (pa_cons pe_int pa_nil)))) pe_non)))) pss_nil) (pss_cons (ps_if (pt_cmpR op_eq (pv 1) pe_str (nomark _)) (pss_cons (ps_if (pw_or (pt_cmpR op_ne (pe_callB call_len_seq (by rfl) T.f_len (by decide +kernel) (pa_cons (pv 0) pa_nil)) pe_int (nomark _)) (pw_or (pt_cmpR (op_neS (huE (roomH_of hr))) (pe_ix ix_tup (pv 0) pe_int fun _ _ => rfl) pe_str (nomark _)) (pw_or1 (pt_not (pt_val (pe_callB call_isi (by rfl) T.f_isinstance (by decide +kernel) (pa_cons (pe_ix ix_tup (pv 0) pe_int fun _ _ => rfl) (pa_cons (pe_bltn (v := .ty "tuple") (by rfl) T.f_tuple (by decide +kernel) rfl) pa_nil)))))))).pt (pss_one (ps_ret pe_non)) pss_nil) (pss_cons (ps_if (pt_cmpR op_isN (pe_ix ix_tup (pv 0) pe_int fun _ _ => rfl) pe_non (nomark _)) (pss_one (ps_ret (pe_lst (pa_cons pe_non (pa_cons (pe_ix ix_tup (pv 0) pe_int fun _ _ => rfl) (pa_cons pe_int pa_nil)))))) pss_nil) (pss_one (ps_ret (pe_ifExp (pt_val (pe_callK0 k_variable_due hr (by rfl) (pa_cons (pe_ix ix_tup (pv 0) pe_int fun _ _ => rfl) pa_nil))) (pe_lst (pa_cons (pe_ix ix_tup (pv 0) pe_int fun _ _ => rfl) (pa_cons (pe_ix ix_tup (pv 0) pe_int fun _ _ => rfl) (pa_cons pe_int pa_nil)))) pe_non))))) pss_nil) (pss_cons (ps_if (pt_cmpR (op_eqS (huE (roomH_of hr))) (pe_ix ix_tup (pv 0) pe_int fun _ _ => rfl) pe_str (nomark _)) (pss_one (ps_ret (pe_ifExp (pw_and (pt_cmpR op_eq (pe_callB call_len_seq (by rfl) T.f_len (by decide +kernel) (pa_cons (pv 0) pa_nil)) pe_int (nomark _)) (pw_and1 (pt_val (pe_callK0 k_variable_due hr (by rfl) (pa_cons (pe_ix ix_tup (pv 0) pe_int fun _ _ => rfl) pa_nil))))).pt (pe_lst (pa_cons (pe_ix ix_tup (pv 0) pe_int fun _ _ => rfl) (pa_cons (pe_tup pa_nil) (pa_cons pe_int pa_nil)))) pe_non))) pss_nil) (pss_cons (ps_if (pw_or (pt_cmpR op_ne (pe_callB call_len_seq (by rfl) T.f_len (by decide +kernel) (pa_cons (pv 0) pa_nil)) pe_int (nomark _)) (pw_or (pt_cmpR (op_neS (huE (roomH_of hr))) (pe_ix ix_tup (pv 0) pe_int fun _ _ => rfl) pe_str (nomark _)) (pw_or (pt_not (pt_val (pe_callK0 k_name_due hr (by rfl) (pa_cons (pe_ix ix_tup (pv 0) pe_int fun _ _ => rfl) pa_nil)))) (pw_or1 (pt_not (pt_val (pe_callB call_isi (by rfl) T.f_isinstance (by decide +kernel) (pa_cons (pe_ix ix_tup (pv 0) pe_int fun _ _ => rfl) (pa_cons (pe_bltn (v := .ty "tuple") (by rfl) T.f_tuple (by decide +kernel) rfl) pa_nil))))))))).pt (pss_one (ps_ret pe_non)) pss_nil) (pss_one (ps_ret (pe_ifExp (pt_cmpR op_eq (pe_callB call_len_seq (by rfl) T.f_len (by decide +kernel) (pa_cons (pe_ix ix_tup (pv 0) pe_int fun _ _ => rfl) pa_nil)) (pe_dget2 (huD (roomH_of hr)) (pv 2) (pe_ix ix_tup (pv 0) pe_int fun _ _ => rfl) pe_int ⟨rfl, rfl, rfl, rfl⟩) (nomark _)) (pe_lst (pa_cons pe_non (pa_cons (pe_ix ix_tup (pv 0) pe_int fun _ _ => rfl) (pa_cons pe_int pa_nil)))) pe_non))))))))), ?_⟩
    have dk : ∀ z : Str, decide (V.str kd = V.str z) = decide (kd = z) := fun z => by
      rw [Bool.eq_iff_iff]
      simp
    refine seq_l (join_l (S := fun _ : Unit => start N_node [v, .str kd, .ref c]) (R := fun _ H1 => Ex H H1 ∧ (decide (kd = "num") && numB 0 (tInt t)) = false) (fun _ H1 ⟨e1, hno⟩ => ?_) (fun kk => ?_))
    · have v1 := hv.ext e1
      have c1 := e1 _ _ hc
      have et : partsT (countOf rs) kd t = partsR (countOf rs) kd t := by
        unfold partsT
        rw [hno]
        rfl
      rw [et] at q
      clear et hno hv hc
      refine nx_p (seq_l ⟨_, rfl, ?_⟩)
      dsimp only [tCons, tC, tNil]
      by_cases hty : t.ty = "tuple"
      · obtain ⟨a2, us, ts, rfl, rfl, ha2, rr⟩ := Rd.tup_of v1 hty
        have hN : ∀ (a : Tr → Prop), True := fun _ => trivial
        refine Bas.isi (T := "tuple") (r := true) (.tup ha2) rfl ⟨_, rfl, ite0 (by decide) ⟨_, rfl, tup_l (nil_l ⟨by decide, fun p0 hp0 => ?_⟩)⟩⟩
        have e0 : Ex H1 (upd H1 p0 (.tup [])) := Ex.new hp0
        refine ⟨a2, p0, us, rfl, rfl, e0 _ _ ha2, upd_same, _, rfl, ?_⟩
        have ha := e0 _ _ ha2
        have hc2 := e0 _ _ c1
        have rr2 := rr.ext e0
        have e2 := e1.trans e0
        generalize upd H1 p0 (.tup []) = H2 at e0 ha hc2 rr2 e2 ⊢
        clear rr ha2 c1 e0 e1 v1 hty hN
        have lt := rr2.len
        cases hus : us with
        | nil =>
          refine ite1 rfl (q _ _ e2 ?_)
          have : ts = [] := by
            rw [hus] at lt
            exact List.eq_nil_of_length_eq_zero lt.symm
          subst this
          show NodeAt H2 .non kd (if kd = "num" then formP [] else if kd = "type" then typeP _ [] else listP [])
          rcases hkd with h | h | h <;> subst h <;> rfl
        | cons u0 ur =>
          rw [← hus]
          refine ite0 (by rw [hus]; simp) (nx_l (seq_l ⟨_, rfl, rfl, _, rfl, ?_⟩))
          rw [dk]
          by_cases hk : kd = "num"
          · subst hk
            have q : ∀ (u : V) (H' : Hp), Ex H H' → NodeAt H' u "num" (formP ts) → Q u H' := q
            refine ite1 (by decide) ?_
            by_cases h4 : us.length = 4
            · obtain ⟨v0, v1, v2, v3, t0, t1, t2, t3, hu4, rfl, r0, r1, r2, r3⟩ := RdL.four rr2 h4
              subst hu4
              refine seq_l (asg_l (joinV_l (fun u H3 => Ex H2 H3 ∧ u = .bl (t0.isS "form" && (numB 1 (tInt t1) && varT t2))) (fun u H3 ⟨e3, hu⟩ => ?_) (fun Q' hQ' => ?_)))
              · subst hu
                have e03 := e2.trans e3
                refine nx_p (ret_l ⟨_, rfl, _, rfl, ?_⟩)
                cases hg : (t0.isS "form" && (numB 1 (tInt t1) && varT t2)) with
                | false =>
                  refine ite0 (by decide) (q _ _ e03 ?_)
                  have : formP [t0, t1, t2, t3] = none := by
                    show (if (t0.isS "form" && varT t2 && (numB 1 (tInt t1) && numB 0 (tInt t3))) = true then some (t2.str?, ([] : List Tr)) else none) = none
                    rw [if_neg]
                    intro h
                    simp only [Bool.and_eq_true] at h
                    rw [h.1.1, h.1.2, h.2.1] at hg
                    cases hg
                  rw [this]
                  rfl
                | true =>
                  refine ite1 rfl ⟨_, rfl, a2, _, 3, v3, rfl, rfl, SqT.of (e3 _ _ ha), atI_nat (j := 3) rfl, v3, _, 0, rfl, r3.bas.ext e3, fun H4 e4 => ⟨_, rfl, ?_⟩⟩
                  rw [Rd.int? r3]
                  have e04 := e03.trans e4
                  simp only [Bool.and_eq_true] at hg
                  cases h3 : numB 0 (tInt t3) with
                  | false =>
                    refine ite0 (by decide) (q _ _ e04 ?_)
                    have : formP [t0, t1, t2, t3] = none := by simp [formP, h3]
                    rw [this]
                    rfl
                  | true =>
                    refine ite1 rfl (lst_l (cons_l ⟨_, rfl, a2, _, 2, v2, rfl, rfl, SqT.of ((e3.trans e4) _ _ ha), atI_nat (j := 2) rfl, cons_l (tup_l (nil_l ⟨by decide, fun p hp => cons_l (c_l (nil_l ⟨by show 3 ≤ sizeLine; decide, fun r hr => ?_⟩))⟩))⟩))
                    refine q _ _ (e04.trans ((Ex.new hp).trans (Ex.new hr))) ?_
                    have et : formP [t0, t1, t2, t3] = some (t2.str?, []) := by simp [formP, hg.1, hg.2.1, hg.2.2, h3]
                    rw [et]
                    have h1' : onStr varB t2.str? = true := hg.2.2
                    cases hz : t2.str? with
                    | none => rw [hz] at h1'; cases h1'
                    | some z =>
                      rw [ovT r2 hz]
                      exact ⟨r, p, [], rfl, by rw [upd_same]; rfl, (Ex.new hr) _ _ upd_same, .nil⟩
              · refine ⟨_, rfl, a2, _, rfl, .inr (SqT.of ha), rfl, _, rfl, ite1 (by simp) ⟨_, rfl, a2, _, 0, v0, rfl, rfl, SqT.of ha, atI_nat (j := 0) rfl, _, _, r0.bas, rfl, _, rfl, ?_⟩⟩
                rw [r0.eqS]
                cases h0 : t0.isS "form" with
                | false => exact ite0 (by decide) (hQ' _ _ ⟨Ex.refl _, by simp [h0]⟩)
                | true =>
                  refine ite1 rfl ⟨_, rfl, a2, _, 1, v1, rfl, rfl, SqT.of ha, atI_nat (j := 1) rfl, v1, _, 1, rfl, r1.bas, fun H3 e3 => ⟨_, rfl, ?_⟩⟩
                  rw [Rd.int? r1]
                  cases h1 : numB 1 (tInt t1) with
                  | false => exact ite0 (by decide) (hQ' _ _ ⟨e3, by simp [h0, h1]⟩)
                  | true =>
                    refine ite1 rfl ⟨_, rfl, a2, _, 2, v2, rfl, rfl, SqT.of (e3 _ _ ha), atI_nat (j := 2) rfl, v2, _, rfl, (r2.ext e3).may, fun H4 e4 => ?_⟩
                    exact hQ' _ _ ⟨e3.trans e4, by simp [h0, h1, varT]⟩
            · refine seq_l (asg_l ⟨_, rfl, a2, _, rfl, .inr (SqT.of ha), rfl, _, rfl, ite0 (by simpa using fun h => h4 (by omega)) (nx_p (ret_l ⟨_, rfl, _, rfl, ite0 (by simp) (q _ _ e2 ?_)⟩))⟩)
              rw [formP_len (by omega)]
              rfl
          · refine ite0 (by simpa using hk) (nx_l (seq_l ⟨_, rfl, rfl, _, rfl, ?_⟩))
            rw [dk]
            by_cases hk2 : kd = "types"
            · subst hk2
              have q : ∀ (u : V) (H' : Hp), Ex H H' → NodeAt H' u "types" (listP ts) → Q u H' := q
              refine ite1 (by decide) (seq_l ?_)
              refine ⟨_, rfl, a2, us, rfl, .inr (SqT.of ha), rfl, _, rfl, ?_⟩
              by_cases h3 : us.length = 3
              · obtain ⟨v0, v1, v2, t0, t1, t2, hu3, rfl, r0, r1, r2⟩ := RdL.three rr2 h3
                subst hu3
                refine ite0 (by simp) ⟨_, rfl, a2, _, 0, v0, rfl, rfl, SqT.of ha, atI_nat (j := 0) rfl, _, _, r0.bas, rfl, _, rfl, ?_⟩
                rw [r0.eqS]
                cases h0 : t0.isS "list" with
                | false =>
                  refine ite1 rfl (ite1 rfl (q _ _ e2 ?_))
                  have : listP [t0, t1, t2] = none := by cases t1 <;> simp [listP, h0]
                  rw [this]
                  rfl
                | true =>
                  refine ite0 (by decide) ⟨_, rfl, a2, _, 1, v1, rfl, rfl, SqT.of ha, atI_nat (j := 1) rfl, ?_⟩
                  dsimp only [tCons, tC, tNil]
                  by_cases hty : t1.ty = "tuple"
                  · obtain ⟨a3, us3, ts3, rfl, rfl, ha3, rr3⟩ := Rd.tup_of r1 hty
                    refine Bas.isi (T := "tuple") (r := true) (.tup ha3) rfl ⟨_, rfl, ite0 (by decide) (nx_l (seq_l ?_))⟩
                    refine ⟨_, rfl, a2, _, 2, v2, rfl, rfl, SqT.of ha, atI_nat (j := 2) rfl, rfl, _, rfl, ?_⟩
                    by_cases hz : v2 = V.non
                    · subst hz
                      cases r2
                      refine ite1 (by simp) (ret_l (lst_l (cons_l (c_l (cons_l ⟨_, rfl, a2, _, 1, .ref a3, rfl, rfl, SqT.of ha, atI_nat (j := 1) rfl, cons_l (c_l (nil_l ⟨by show 3 ≤ sizeLine; decide, fun r hr => ?_⟩))⟩)))))
                      refine q _ _ (e2.trans (Ex.new hr)) ?_
                      have et : listP [t0, .tup ts3, .non] = some (none, ts3) := by simp [listP, h0, isNon, Tr.str?]
                      rw [et]
                      exact ⟨r, a3, us3, rfl, by rw [upd_same]; rfl, (Ex.new hr) _ _ ha3, rr3.ext (Ex.new hr)⟩
                    · have hnn : isNon t2 = false := by
                        cases r2 <;> first | rfl | exact absurd rfl hz
                      refine ite0 (by simpa using hz) (nx_l (ret_l ⟨_, rfl, a2, _, 2, v2, rfl, rfl, SqT.of ha, atI_nat (j := 2) rfl, v2, _, rfl, r2.may, fun H3 e3 => ⟨_, rfl, ?_⟩⟩))
                      cases h2 : varT t2 with
                      | false =>
                        have h2' : onStr varB t2.str? = false := h2
                        rw [h2']
                        refine ite0 (by decide) (q _ _ (e2.trans e3) ?_)
                        have et : listP [t0, .tup ts3, t2] = none := by simp [listP, hnn, h2]
                        rw [et]
                        rfl
                      | true =>
                        have h2' : onStr varB t2.str? = true := h2
                        rw [h2']
                        refine ite1 rfl (lst_l (cons_l ⟨_, rfl, a2, _, 2, v2, rfl, rfl, SqT.of (e3 _ _ ha), atI_nat (j := 2) rfl, cons_l ⟨_, rfl, a2, _, 1, .ref a3, rfl, rfl, SqT.of (e3 _ _ ha), atI_nat (j := 1) rfl, cons_l (c_l (nil_l ⟨by show 3 ≤ sizeLine; decide, fun r hr => ?_⟩))⟩⟩))
                        have e4 := e3.trans (Ex.new (o := .lst [v2, .ref a3, .int 1]) hr)
                        refine q _ _ (e2.trans e4) ?_
                        have et : listP [t0, .tup ts3, t2] = some (t2.str?, ts3) := by simp [listP, h0, h2]
                        rw [et]
                        cases hz2 : t2.str? with
                        | none => rw [hz2] at h2'; cases h2'
                        | some z =>
                          rw [ovT r2 hz2] at e4 ⊢
                          exact ⟨r, a3, us3, rfl, by rw [upd_same]; rfl, e4 _ _ ha3, rr3.ext e4⟩
                  · refine Bas.isi (T := "tuple") (r := false) r1.bas (not_tup r1 hty) ⟨_, rfl, ite1 rfl (q _ _ e2 ?_)⟩
                    rw [listP_3 hty]
                    rfl
              · refine ite1 (by simp; omega) (ite1 rfl (q _ _ e2 ?_))
                rw [listP_len (by omega)]
                rfl
            · obtain rfl : kd = "type" := by
                rcases hkd with h | h | h
                · exact h
                · exact absurd h hk
                · exact absurd h hk2
              have q : ∀ (u : V) (H' : Hp), Ex H H' → NodeAt H' u "type" (typeP (countOf rs) ts) → Q u H' := q
              refine ite0 (by decide) (nx_l (seq_l ?_))
              subst hus
              cases rr2 with
              | @cons _ _ t0 tr r0 rr3 =>
              have lt3 := rr3.len
              refine ⟨_, rfl, a2, _, 0, u0, rfl, rfl, SqT.of ha, atI_nat (j := 0) rfl, _, _, r0.bas, rfl, _, rfl, ?_⟩
              rw [r0.eqS]
              cases h0 : t0.isS "var" with
              | true =>
                refine ite1 rfl (ret_l ⟨_, rfl, a2, _, rfl, .inr (SqT.of ha), rfl, _, rfl, ?_⟩)
                by_cases l1 : ur.length = 1
                · obtain ⟨v1, rfl⟩ := List.length_eq_one_iff.mp l1
                  cases rr3 with
                  | @cons _ _ t1 tr' r1 rr4 =>
                  cases rr4
                  refine ite1 (by simp) ⟨_, rfl, a2, _, 1, v1, rfl, rfl, SqT.of ha, atI_nat (j := 1) rfl, v1, _, rfl, r1.may, fun H3 e3 => ⟨_, rfl, ?_⟩⟩
                  cases h1 : varT t1 with
                  | false =>
                    have h1' : onStr varB t1.str? = false := h1
                    rw [h1']
                    refine ite0 (by decide) (q _ _ (e2.trans e3) ?_)
                    have et : typeP (countOf rs) [t0, t1] = none := by simp [typeP, h1]
                    rw [et]
                    rfl
                  | true =>
                    have h1' : onStr varB t1.str? = true := h1
                    rw [h1']
                    refine ite1 rfl (lst_l (cons_l ⟨_, rfl, a2, _, 1, v1, rfl, rfl, SqT.of (e3 _ _ ha), atI_nat (j := 1) rfl, cons_l (tup_l (nil_l ⟨by decide, fun p hp => cons_l (c_l (nil_l ⟨by show 3 ≤ sizeLine; decide, fun r hr => ?_⟩))⟩))⟩))
                    refine q _ _ ((e2.trans e3).trans ((Ex.new hp).trans (Ex.new hr))) ?_
                    have et : typeP (countOf rs) [t0, t1] = some (t1.str?, []) := by simp [typeP, h0, h1]
                    rw [et]
                    cases hz2 : t1.str? with
                    | none => rw [hz2] at h1'; cases h1'
                    | some z =>
                      rw [ovT r1 hz2]
                      exact ⟨r, p, [], rfl, by rw [upd_same]; rfl, (Ex.new hr) _ _ upd_same, .nil⟩
                · refine ite0 (by simp; omega) (ite0 (by decide) (q _ _ e2 ?_))
                  rw [typeP_var h0 (by simp; omega)]
                  rfl
              | false =>
                refine ite0 (by decide) (nx_l (seq_l ?_))
                refine ⟨_, rfl, a2, _, rfl, .inr (SqT.of ha), rfl, _, rfl, ?_⟩
                by_cases l2 : ur.length = 2
                · obtain ⟨v1, v2, t1, t2, rfl, rfl, r1, r2⟩ := RdL.two rr3 l2
                  refine ite0 (by simp) ⟨_, rfl, a2, _, 0, u0, rfl, rfl, SqT.of ha, atI_nat (j := 0) rfl, _, _, r0.bas, rfl, _, rfl, ?_⟩
                  rw [r0.eqS]
                  cases g0 : t0.isS "type" with
                  | false =>
                    refine ite1 rfl (ite1 rfl (q _ _ e2 ?_))
                    have et : typeP (countOf rs) [t0, t1, t2] = none := by cases t2 <;> simp [typeP, g0]
                    rw [et]
                    rfl
                  | true =>
                    refine ite0 (by decide) ⟨_, rfl, a2, _, 1, v1, rfl, rfl, SqT.of ha, atI_nat (j := 1) rfl, v1, _, rfl, r1.may, fun H3 e3 => ⟨_, rfl, ?_⟩⟩
                    cases h1 : nameT t1 with
                    | false =>
                      have h1' : onStr nameB t1.str? = false := h1
                      rw [h1']
                      refine ite1 rfl (ite1 rfl (q _ _ (e2.trans e3) ?_))
                      have et : typeP (countOf rs) [t0, t1, t2] = none := by cases t2 <;> simp [typeP, h1]
                      rw [et]
                      rfl
                    | true =>
                      have h1' : onStr nameB t1.str? = true := h1
                      rw [h1']
                      refine ite0 (by decide) ⟨_, rfl, a2, _, 2, v2, rfl, rfl, SqT.of (e3 _ _ ha), atI_nat (j := 2) rfl, ?_⟩
                      dsimp only [tCons, tC, tNil]
                      have e03 := e2.trans e3
                      have r2 := r2.ext e3
                      by_cases hty : t2.ty = "tuple"
                      · obtain ⟨a3, us3, ts3, rfl, rfl, ha3, rr4⟩ := Rd.tup_of r2 hty
                        refine Bas.isi (T := "tuple") (r := true) (.tup ha3) rfl ⟨_, rfl, ite0 (by decide) (nx_l (ret_l ?_))⟩
                        cases hz : t1.str? with
                        | none => rw [hz] at h1'; cases h1'
                        | some z =>
                          have hv1 := ovT r1 hz
                          subst hv1
                          refine ⟨_, rfl, a2, _, 2, .ref a3, rfl, rfl, SqT.of (e3 _ _ ha), atI_nat (j := 2) rfl, a3, us3, rfl, .inr (SqT.of ha3), ?_⟩
                          have hc3 := e3 _ _ hc2
                          refine ⟨_, rfl, c, rfl, .inl ⟨_, .inl hc3⟩, _, rfl, a2, _, 1, .str z, rfl, rfl, SqT.of (e3 _ _ ha), atI_nat (j := 1) rfl, _, DGet.k (k := .inr z) hc3, ?_⟩
                          have hvc := val_count rs z
                          have l2 := rr4.len
                          refine ⟨?_, _, rfl, ?_⟩
                          · show scal (V.int us3.length) ((valV (cntK rs) (Sum.inr z)).getD (.int 0)) = true
                            unfold cntK
                            rw [hvc]
                            rfl
                          · show (if decide (V.int us3.length = (valV (cntK rs) (Sum.inr z)).getD (.int 0)) = true then _ else _)
                            unfold cntK
                            rw [hvc]
                            by_cases hcn : (us3.length : Int) = countOf rs z
                            · refine ite1 (by simp [hcn]) (lst_l (cons_l (c_l (cons_l ⟨_, rfl, a2, _, 2, .ref a3, rfl, rfl, SqT.of (e3 _ _ ha), atI_nat (j := 2) rfl, cons_l (c_l (nil_l ⟨by show 3 ≤ sizeLine; decide, fun r hr => ?_⟩))⟩))))
                              refine q _ _ (e03.trans (Ex.new hr)) ?_
                              have et : typeP (countOf rs) [t0, t1, .tup ts3] = some (none, ts3) := by simp [typeP, g0, h1, hz, onCnt, ← l2, hcn]
                              rw [et]
                              exact ⟨r, a3, us3, rfl, by rw [upd_same]; rfl, (Ex.new hr) _ _ ha3, rr4.ext (Ex.new hr)⟩
                            · refine ite0 (by simpa using hcn) (q _ _ e03 ?_)
                              have et : typeP (countOf rs) [t0, t1, .tup ts3] = none := by simp [typeP, hz, onCnt, ← l2, hcn]
                              rw [et]
                              rfl
                      · refine Bas.isi (T := "tuple") (r := false) r2.bas (not_tup r2 hty) ⟨_, rfl, ite1 rfl (q _ _ e03 ?_)⟩
                        rw [typeP_3 hty]
                        rfl
                · refine ite1 (by simp; omega) (ite1 rfl (q _ _ e2 ?_))
                  by_cases l1 : ur.length = 1
                  · obtain ⟨t1, rfl⟩ := List.length_eq_one_iff.mp (lt3.symm.trans l1)
                    have et : typeP (countOf rs) [t0, t1] = none := by simp [typeP, h0]
                    rw [et]
                    rfl
                  · rw [typeP_len (by simp; omega) (by simp; omega)]
                    rfl
      · refine Bas.isi (T := "tuple") (r := false) v1.bas (not_tup v1 hty) ⟨_, rfl, ite1 rfl (ite1 rfl (q _ _ e1 ?_))⟩
        cases t <;> first | rfl | exact absurd rfl hty
    · refine ⟨_, rfl, rfl, _, rfl, ?_⟩
      rw [dk]
      by_cases hk : kd = "num"
      · refine ite1 (decide_eq_true hk) ⟨_, rfl, v, _, 0, rfl, hv.bas, fun H1 e1 => ⟨_, rfl, ?_⟩⟩
        rw [Rd.int? hv]
        cases h1 : numB 0 (tInt t) with
        | false => exact ite0 (by decide) (kk () H1 ⟨e1, by simp [h1]⟩)
        | true =>
          refine ite1 rfl (ret_l (lst_l (cons_l (c_l (cons_l (tup_l (nil_l ⟨by decide, fun p hp => cons_l (c_l (nil_l ⟨by show 3 ≤ sizeLine; decide, fun r hr => ?_⟩))⟩)))))))
          refine q _ _ (e1.trans ((Ex.new hp).trans (Ex.new hr))) ?_
          have et : partsT (countOf rs) kd t = some (none, []) := by simp [partsT, hk, h1]
          rw [et, hk]
          exact ⟨r, p, [], rfl, upd_same, (Ex.new hr) _ _ upd_same, .nil⟩
      · exact ite0 (by simpa using hk) (kk () H ⟨Ex.refl _, by simp [hk]⟩)
end
end D0

namespace D0
open PySem PySem.Spec PyProof.Rows L2 L2H HotX Evl K9
theorem walksB_tup {K : PySem.W.Frag} {a b : Addr} {xs ys : List V} {H : Hp} (h : H a = some (.tup xs)) (hb : H b = some (.lst ys)) : WalksB b (Itt K a) xs.length (fun i => xs.getD i .non) H := by
  have n : a ≠ b := fun z => by rw [z, hb] at h; cases h
  refine ⟨fun i H1 e hi => ⟨xs, xs[i], SqT.of (e _ _ n h), List.getElem?_eq_getElem hi⟩, fun i H1 x H' e hi hy => ?_, fun H1 e => ⟨xs, SqT.of (e _ _ n h), Nat.le_refl _⟩⟩
  refine ⟨hy.1, ?_⟩
  have z := hy.2 xs (SqT.of (e _ _ n h))
  show x = xs.getD i .non
  rw [List.getD_eq_getElem?_getD, z]
  rfl
section
variable {P : Program} {w : World} {K : PySem.W.Frag} {mg : Str → Option Value} {base : Heap} {f : Addr} {fd : FuncData} {k : Nat}
def spLawDue : Sp := fun vs H Q _ => ∃ (v : V) (t : Tr) (kd : Str) (c : Addr) (rs : List (Str × Int)), vs = [v, .str kd, .ref c] ∧ Rd H v t ∧ Kd kd ∧ t.sz ≤ 1000000 ∧ H c = some (.dK (cntK rs)) ∧ ∀ H', Ex H H' → Q (.bl (termT (countOf rs) t kd)) H'
abbrev s_due : Stmt := top 46
abbrev N_due : List Str := ["value", "kind", "counts", "signs", "known", "left", "one", "wanted", "deep", "node", "part"]
theorem sc_due : FnScope N_due ["value", "kind", "counts"] (defScope s_due) := ⟨rfl, rfl, rfl, by decide +kernel, rfl, by decide +kernel, by decide +kernel⟩
theorem ok_due (T : Txt K mg) (k_node : OkC P w K mg base k "_law_node" ["value", "kind", "counts"] spNode) (F : FunD K "_law_due" "_law_due" (defArgs s_due) (defBody s_due) (defScope s_due) [] [] f fd) (hm : mg "_law_due" = some (.ref f)) : OkC P w K mg base (k + 1) "_law_due" ["value", "kind", "counts"] spLawDue := by
  refine okC_of F hm sc_due (fun _ _ _ _ _ _ us hl => match us, hl with | [_, _, _], _ => rfl) (fun vs H Q E h => ?_) (fun cdv A outer s H vs Q E hr h => ?_)
  · obtain ⟨v, t, kd, c, rs, rfl, _⟩ := h
    rfl
  · obtain ⟨v, t, kd, c, rs, rfl, hv, hkd, hsz, hc, q_⟩ := h
    refine ⟨_, PSs.nox (pss_cons (ps_par3 rfl sc_due.nd (i := 3) (j := 4) (l := 5) rfl rfl rfl (by decide) (by decide) (by decide) rfl rfl rfl (pa_cons pe_int (pa_cons pe_dnewK (pa_cons (pe_lst (pa_cons (pe_tup (pa_cons (pv 0) (pa_cons (pv 1) (pa_cons pe_int pa_nil)))) pa_nil)) pa_nil))) rfl) (pss_cons (ps_while PassesOwn.never (pt_cmpR (op_ne0 (huC (roomH_of hr))) (pv 5) (pe_lst pa_nil) (nomark _)) (pss_cons (ps_asg (pe_bm0 PySem.F.plainAttrs_list PySem.F.slot_list_pop PySem.F.type_list_pop mt_pop (pv 5)) (pg_tupC (.inl ⟨rfl, rfl⟩) (pgs_cons (pg_name (i := 6) sc_due.nd rfl (Or.inl rfl)) (pgs_cons (pg_name (i := 7) sc_due.nd rfl (Or.inl rfl)) (pgs_cons (pg_name (i := 8) sc_due.nd rfl (Or.inl rfl)) pgs_nil))))) (pss_cons (ps_set (i := 9) sc_due.nd rfl (Or.inl rfl) (pe_callK0 k_node hr (by rfl) (pa_cons (pv 6) (pa_cons (pv 7) (pa_cons (pv 2) pa_nil))))) (pss_cons (ps_if (pw_or (pt_cmpR op_isN (pv 9) pe_non (nomark _)) (pw_or1 (pt_cmpR op_gt (pv 8) pe_int (nomark _)))).pt (pss_one (ps_ret pe_bl)) pss_nil) (pss_cons (ps_set (i := 3) sc_due.nd rfl (Or.inl rfl) (pe_op op_add (pv 3) (pe_ix ix_list (pv 9) pe_int fun _ _ => rfl))) (pss_cons (ps_if (pw_or (pt_cmpR op_gt (pv 3) pe_int (nomark _)) (pw_or1 (pw_and (pt_cmpR op_notN (pe_ix ix_list (pv 9) pe_int fun _ _ => rfl) pe_non (nomark _)) (pw_and1 (pt_cmpR op_ne (pe_dsetd (pv 4) (pe_ix ix_list (pv 9) pe_int fun _ _ => rfl) (pv 7) ⟨rfl, rfl, rfl, rfl⟩) (pv 7) (nomark _)))).pt)).pt (pss_one (ps_ret pe_bl)) pss_nil) (pss_one (ps_for PassesOwn.never rfl (pi_tup (pe_ix ix_list (pv 9) pe_int fun _ _ => rfl)) (pg_name (i := 10) sc_due.nd rfl (Or.inl rfl)) (pss_one (ps_expr (pe_bm PySem.F.plainAttrs_list PySem.F.slot_list_append PySem.F.type_list_append mt_append (pv 5) (pa_cons (pe_tup (pa_cons (pv 10) (pa_cons pe_str (pa_cons (pe_ifExp (pt_cmpR op_eq (pv 7) pe_str (nomark _)) (pv 8) (pe_op op_add (pv 8) pe_int)) pa_nil)))) pa_nil)))))))))))) (pss_one (ps_ret pe_bl)))), ?_⟩
    have sl := sizeLine_eq
    refine seq_l (par3_l (cons_l (c_l (cons_l (te := tDNewK) fun D hD => cons_l (lst_l (cons_l (tup_l (cons_l ⟨_, rfl, cons_l ⟨_, rfl, cons_l (c_l (nil_l ⟨by show 3 ≤ sizeLine; decide, fun r hr1 => nil_l ⟨by show 1 ≤ sizeLine; decide, fun L hL => nil_l ⟨_, _, _, rfl, nx_p ?_⟩⟩⟩))⟩⟩))))))))
    have e1 : Ex H (upd (upd (upd H D (.dK [])) r (.tup [v, .str kd, .int 1])) L (.lst [.ref r])) := (Ex.new hD).trans ((Ex.new hr1).trans (Ex.new hL))
    have hLa : upd (upd (upd H D (.dK [])) r (.tup [v, .str kd, .int 1])) L (.lst [.ref r]) L = some (.lst [.ref r]) := upd_same
    have hra : upd (upd (upd H D (.dK [])) r (.tup [v, .str kd, .int 1])) L (.lst [.ref r]) r = some (.tup [v, .str kd, .int 1]) := (Ex.new hL) _ _ upd_same
    have hDa : upd (upd (upd H D (.dK [])) r (.tup [v, .str kd, .int 1])) L (.lst [.ref r]) D = some (.dK []) := (Ex.new hL) _ _ ((Ex.new hr1) _ _ upd_same)
    have hL0 : H L = none := by
      cases hh : H L with
      | none => rfl
      | some o => rw [((Ex.new hD).trans (Ex.new hr1)) _ _ hh] at hL; cases hL
    show tSeq _ _ _ _ (upd (upd (upd H D (.dK [])) r (.tup [v, .str kd, .int 1])) L (.lst [.ref r]))
    generalize upd (upd (upd H D (.dK [])) r (.tup [v, .str kd, .int 1])) L (.lst [.ref r]) = H1 at e1 hLa hra hDa ⊢
    clear hr1 hL
    have hDL : D ≠ L := fun z => by rw [z, hLa] at hDa; cases hDa
    refine seq_l ⟨fun m σ' H' => ∃ (st : List ItN) (sg : Nat) (fd : List (Str × Str)) (x6 x7 x8 x9 x10 : Option V), σ' = [some v, some (.str kd), some (.ref c), some (.int (sg : Int)), some (.ref D), some (.ref L), x6, x7, x8, x9, x10] ∧ Ex H H' ∧
      H' L = some (.lst (refN st)) ∧ H' D = some (.dK (fdK fd)) ∧ StkOk H' st ∧ fd.length ≤ sg ∧ sg ≤ 4000 ∧ wtN st ≤ m ∧ m ≤ 1000000 ∧ walkT (countOf rs) m sg fd (ndN st) = termT (countOf rs) t kd, ⟨t.sz, [⟨r, v, ⟨t, kd, 1⟩⟩], 0, [], none, none, none, none, none, rfl, e1, hLa, hDa, ?_, Nat.le_refl _, by decide, by simp [wtN], hsz, rfl⟩, ?_⟩
    · intro q hq
      obtain rfl := List.mem_singleton.mp hq
      exact ⟨hra, hv.ext e1, hkd⟩
    rintro m σ' H' ⟨st, sg, fd, x6, x7, x8, x9, x10, rfl, e, hL, hDd, ok, hfd, hsg, hw, hm, hb0⟩
    clear hra hLa hDa e1
    refine ⟨_, rfl, Nat.zero_le _, fun p11 hp11 => ⟨L, p11, _, rfl, rfl, SqL.of ((Ex.new hp11) _ _ hL), SqL.of upd_same, _, rfl, ?_⟩⟩
    have e12 : Ex H' (upd H' p11 (.lst [])) := Ex.new hp11
    have eA := e.trans e12
    have hLA := e12 _ _ hL
    have hDA := e12 _ _ hDd
    have okA := ok.fr (Ex.fr e12)
    generalize upd H' p11 (.lst []) = HA at eA hLA hDA okA ⊢
    clear e12 hp11 ok hDd hL e
    rcases st with _ | ⟨⟨r0, u, ⟨t1, k1, d1⟩⟩, st0⟩
    · refine ite0 (by decide) (nx_p (ret_l ?_))
      have y := q_ _ eA
      rw [← hb0] at y
      have : walkT (countOf rs) m sg fd (ndN []) = true := by cases m <;> rfl
      rw [this] at y
      exact y
    · have hne : (!(refN (⟨r0, u, ⟨t1, k1, d1⟩⟩ :: st0 : List ItN)).isEmpty) = true := by simp [refN]
      refine ite1 hne ⟨fun σ2 H2 => ∃ m', m' < m ∧ _, fun _ _ h => h, ?_⟩
      obtain ⟨hq, hu, hk1⟩ := okA _ (List.mem_cons_self ..)
      have ok0 : StkOk HA st0 := fun z hz => okA z (List.mem_cons_of_mem _ hz)
      have hw0 : wtN st0 + t1.sz ≤ m := by
        have : wtN (⟨r0, u, ⟨t1, k1, d1⟩⟩ :: st0 : List ItN) = t1.sz + wtN st0 := by simp [wtN]
        omega
      have hrf : refN (⟨r0, u, ⟨t1, k1, d1⟩⟩ :: st0 : List ItN) = refN st0 ++ [(.ref r0)] := by simp [refN]
      rw [hrf] at hLA
      clear okA hrf hne
      simp only at hq hu hk1
      refine seq_l (asgG_l ⟨_, rfl, .inl ⟨rfl, _, SqL.of hLA⟩, L, _, .ref r0, rfl, rfl, hLA, by simp, ?_⟩)
      rw [List.dropLast_concat]
      have f2 : Fr HA (upd HA L (.lst (refN st0))) := Fr.lst hLA
      have e2 : Ex H (upd HA L (.lst (refN st0))) := ExB.new (ExB.trans (Ex.but eA) ExB.set) hL0
      have hL2 : upd HA L (.lst (refN st0)) L = some (.lst (refN st0)) := upd_same
      have hD2 : upd HA L (.lst (refN st0)) D = some (.dK (fdK fd)) := by rw [upd_ne hDL]; exact hDA
      have ok2 := ok0.fr f2
      have hq2 := f2.tup hq
      have hu2 := Rd.fr f2 hu
      refine ⟨r0, _, rfl, SqT.of hq2, rfl, u, _, rfl, .str k1, _, rfl, .int (d1 : Int), _, rfl, rfl, nx_p ?_⟩
      generalize upd HA L (.lst (refN st0)) = H2 at e2 hL2 hD2 ok2 hu2 ⊢
      clear f2 eA hLA hDA ok0 hq hu hq2
      refine seq_l (asg_l ⟨_, rfl, _, rfl, _, rfl, u, t1, k1, c, rs, rfl, hu2, hk1, e2 _ _ hc, fun pv H3 e3 hp => nx_p ?_⟩)
      have e03 := e2.trans e3
      have hL3 := e3 _ _ hL2
      have hD3 := e3 _ _ hD2
      have ok3 := ok2.fr (Ex.fr e3)
      clear hL2 hD2 ok2 hu2
      cases m with
      | zero => have := t1.pos; omega
      | succ n =>
      have hwalk : walkT (countOf rs) (n + 1) sg fd (⟨t1, k1, d1⟩ :: ndN st0) = termT (countOf rs) t kd := hb0
      unfold walkT at hwalk
      have bad : ∀ H4, Ex H H4 → termT (countOf rs) t kd = false → Q (.bl false) H4 := fun H4 e4 h => by
        have y := q_ H4 e4
        rw [h] at y
        exact y
      refine seq_l ⟨_, rfl, rfl, _, rfl, ?_⟩
      cases hpt : partsT (countOf rs) k1 t1 with
      | none =>
        rw [hpt] at hp
        obtain rfl : pv = .non := hp
        refine ite1 rfl (ite1 rfl (bad _ e03 ?_))
        simp only [hpt] at hwalk
        exact hwalk.symm
      | some xa =>
        obtain ⟨xo, as⟩ := xa
        rw [hpt] at hp
        obtain ⟨p, a2, us, rfl, hp3, ha3, hrl⟩ := hp
        simp only [hpt] at hwalk
        have hszp := partsT_sz hpt
        refine ite0 (by simp) ⟨_, rfl, _, _, rfl, rfl, _, rfl, ?_⟩
        by_cases hd2 : 200 < d1
        · refine ite1 (decide_eq_true (by omega)) (bad _ e03 ?_)
          rw [← hwalk]
          simp [hd2]
        · refine ite0 (by simp; omega) (nx_l (seq_l (asg_l (op_l ⟨_, rfl, _, rfl, p, _, 2, _, rfl, rfl, SqL.of hp3, atI_nat (j := 2) rfl, _, _, rfl, rfl, nx_p ?_⟩))))
          have hsgc : (sg : Int) + ((sg1 xo k1 : Nat) : Int) = ((sg + sg1 xo k1 : Nat) : Int) := by omega
          dsimp only
          rw [hsgc]
          refine seq_l (join_l (S := fun _ : Unit => [some v, some (.str kd), some (.ref c), some (.int ((sg + sg1 xo k1 : Nat) : Int)), some (.ref D), some (.ref L), some u, some (.str k1), some (.int (d1 : Int)), some (.ref p), x10]) (R := fun _ H4 => clash fd xo k1 = false ∧ ¬ 4000 < sg + sg1 xo k1 ∧ Ex H H4 ∧ Fr H3 H4 ∧ H4 L = some (.lst (refN st0)) ∧ H4 p = some (.lst [ov xo, .ref a2, .int (sg1 xo k1 : Nat)]) ∧ H4 D = some (.dK (fdK (fdUp fd xo k1)))) (fun _ H4 ⟨hcl, hs4, e04, f4, hL4, hp4, hD4⟩ => ?_) (fun kk => ?_))
          · have ok4 := ok3.fr f4
            have ha4 := f4.tup ha3
            have hr4 := RdL.fr f4 hrl
            clear ok3 ha3 hp3 hL3 hD3 e03 e3
            rw [hcl, if_neg (by simp [hs4, hd2])] at hwalk
            have hf5 := fdUp_sg fd xo k1
            have hk7 : kids ⟨t1, k1, d1⟩ as = as.map fun t => (⟨t, "type", if k1 = "types" then d1 else d1 + 1⟩ : Nd) := rfl
            generalize hbl : (if k1 = "types" then d1 else d1 + 1) = bl at hk7
            have hws : us.length ≤ 1000000 := by
              have z1 := szL_len as
              rw [hr4.len]
              omega
            have z4 := wtN_len (a := st0)
            have lus := hr4.len
            refine nx_p (forB_by (b := L) (J := Itt K a2) (n := us.length) (item := fun i => us.getD i .non) (fun j σ1 H5 => ∃ (its : List ItN) (y10 : Option V), σ1 = [some v, some (.str kd), some (.ref c), some (.int ((sg + sg1 xo k1 : Nat) : Int)), some (.ref D), some (.ref L), some u, some (.str k1), some (.int (d1 : Int)), some (.ref p), y10] ∧
              H5 L = some (.lst (refN st0 ++ its.map fun q => .ref q.r)) ∧ ndN its = ((as.take j).map fun t => (⟨t, "type", bl⟩ : Nd)) ∧ its.length = j ∧ ∀ q ∈ its, q.r ≠ L ∧ H5 q.r = some (.tup [q.v, .str q.q.k, .int (q.q.d : Int)]) ∧ Rd H5 q.v q.q.t ∧ Kd q.q.k)
              (fun R h => ⟨_, rfl, p, _, 1, _, rfl, rfl, SqL.of hp4, atI_nat (j := 1) rfl, a2, rfl, ⟨_, SqT.of ha4⟩, h⟩) (walksB_tup ha4 hL4) ⟨[], _, rfl, by simp [hL4], rfl, rfl, by simp⟩ (fun j σ1 H5 N hj e5 hP kN => ?_) (fun σ1 H5 e5 hP => ?_))
            · obtain ⟨its, y10, rfl, hL5, hnd, lits, hits⟩ := hP
              refine ⟨_, rfl, .inl ⟨rfl, _, SqL.of hL5⟩, cons_l (tup_l (cons_l ⟨_, rfl, cons_l (c_l (cons_l ?_))⟩))⟩
              refine joinV_l (fun w H6 => H6 = H5 ∧ w = .int (bl : Int)) (fun w H6 ⟨h6, hw6⟩ => ?_) (fun Q' hQ' => ?_)
              · subst h6 hw6
                refine nil_l ⟨by show 3 ≤ sizeLine; decide, fun r7 hr7 => nil_l ⟨L, _, .ref r7, rfl, rfl, (Ex.new hr7) _ _ hL5, by rw [List.length_append, refN_len, List.length_map]; omega, ?_⟩⟩
                have n7 : r7 ≠ L := (ne_of_none hL5 hr7).symm
                have b7 : ExB L H6 (upd (upd H6 r7 (.tup [us.getD j .non, .str "type", .int (bl : Int)])) L (.lst (refN st0 ++ its.map (fun q => .ref q.r) ++ [.ref r7]))) := ExB.trans (Ex.but (Ex.new hr7)) ExB.set
                have h7L : upd (upd H6 r7 (.tup [us.getD j .non, .str "type", .int (bl : Int)])) L (.lst (refN st0 ++ its.map (fun q => .ref q.r) ++ [.ref r7])) L = some (.lst (refN st0 ++ its.map (fun q => .ref q.r) ++ [.ref r7])) := upd_same
                have h7r : upd (upd H6 r7 (.tup [us.getD j .non, .str "type", .int (bl : Int)])) L (.lst (refN st0 ++ its.map (fun q => .ref q.r) ++ [.ref r7])) r7 = some (.tup [us.getD j .non, .str "type", .int (bl : Int)]) := by rw [upd_ne n7]; exact upd_same
                have hj2 : j < as.length := by omega
                refine kN _ _ b7 ⟨its ++ [⟨r7, us.getD j .non, ⟨as.getD j .non, "type", bl⟩⟩], _, rfl, by rw [h7L, List.map_append, List.append_assoc]; rfl, ?_, by simp [lits], fun q hq => ?_⟩
                · rw [List.take_succ_eq_append_getElem hj2, List.map_append, ← hnd]
                  simp [ndN, List.getD_eq_getElem?_getD, List.getElem?_eq_getElem hj2]
                · rcases List.mem_append.mp hq with z | z
                  · obtain ⟨a, b, c, d⟩ := hits q z
                    exact ⟨a, b7 _ _ a b, c.exb b7 hL5 h7L, d⟩
                  · obtain rfl := List.mem_singleton.mp z
                    exact ⟨n7, h7r, ((hr4.at_ hj).exb e5 hL4 hL5).exb b7 hL5 h7L, .inl rfl⟩
              · refine ⟨_, rfl, rfl, _, rfl, ?_⟩
                dsimp only
                split
                · rename_i h
                  have h : k1 = "types" := by simpa using h
                  rw [if_pos h] at hbl
                  exact ⟨_, rfl, hQ' _ _ ⟨rfl, by rw [hbl]⟩⟩
                · rename_i h
                  have h : ¬ k1 = "types" := by simpa using h
                  rw [if_neg h] at hbl
                  exact ⟨_, rfl, _, _, rfl, rfl, hQ' _ _ ⟨rfl, by rw [← hbl]; rfl⟩⟩
            · obtain ⟨its, y10, rfl, hL5, hnd, lits, hits⟩ := hP
              rw [lus, List.take_length] at hnd
              have hwt : wtN its = Tr.szL as := by
                have z : ∀ l : List Tr, ((l.map fun t => (⟨t, "type", bl⟩ : Nd)).map fun q => q.t.sz).sum = Tr.szL l := by
                  intro l
                  induction l with
                  | nil => rfl
                  | cons y l ih => simp only [List.map_cons, List.sum_cons, Tr.szL, ih]
                rw [← z as, ← hnd]
                simp [wtN, ndN]
                rfl
              have hwr : wtN its.reverse = wtN its := by simp [wtN, List.sum_reverse]
              have hD5 := e5 _ _ hDL hD4
              refine ⟨n, Nat.lt_succ_self n, its.reverse ++ st0, sg + sg1 xo k1, fdUp fd xo k1, _, _, _, _, _, rfl, ExB.new (ExB.trans (Ex.but e04) e5) hL0, by rw [hL5]; simp [refN], hD5, ?_, by omega, by omega, by rw [wtN_app, hwr, hwt]; omega, by omega, ?_⟩
              · refine StkOk.app (fun q hq => (hits q (List.mem_reverse.mp hq)).2) ?_
                exact ok4.fr (Fr.exb e5 hL4 hL5)
              · rw [← hwalk]
                have : ndN (its.reverse ++ st0) = (kids ⟨t1, k1, d1⟩ as).reverse ++ ndN st0 := by
                  rw [hk7, ← hnd]
                  simp [ndN]
                rw [this]
          · refine ⟨_, rfl, _, _, rfl, rfl, _, rfl, ?_⟩
            by_cases hs4 : 4000 < sg + sg1 xo k1
            · refine ite1 (decide_eq_true (by omega)) (ite1 rfl (bad _ e03 ?_))
              rw [← hwalk]
              simp [hs4]
            · refine ite0 (by simp; omega) ⟨_, rfl, p, _, 0, _, rfl, rfl, SqL.of hp3, atI_nat (j := 0) rfl, rfl, _, rfl, ?_⟩
              cases xo with
              | none => exact ite0 (by decide) (ite0 (by decide) (kk () H3 ⟨rfl, hs4, e03, Fr.refl, hL3, hp3, hD3⟩))
              | some z =>
                refine ite1 rfl ⟨_, rfl, D, rfl, .inl ⟨_, .inl hD3⟩, _, rfl, p, _, 0, _, rfl, rfl, SqL.of hp3, atI_nat (j := 0) rfl, _, rfl, fdK fd, .inr z, hD3, rfl, by rw [fdK_len]; omega, fun v' hv' => ?_, fun hn => ?_⟩
                · rw [fdK_look] at hv'
                  cases hlk : look fd z with
                  | none => rw [hlk] at hv'; cases hv'
                  | some k' =>
                    rw [hlk] at hv'
                    obtain rfl := Option.some.inj hv'
                    refine ⟨_, rfl, rfl, _, rfl, ?_⟩
                    by_cases hkk : k' = k1
                    · refine ite0 (by simp [hkk]) (kk () H3 ⟨by simp [clash, hlk, hkk], hs4, e03, Fr.refl, hL3, hp3, ?_⟩)
                      rw [hD3]
                      simp [fdUp, hlk]
                    · refine ite1 (by simpa using hkk) (bad _ e03 ?_)
                      rw [← hwalk]
                      simp [clash, hlk, hkk]
                · refine ⟨_, rfl, rfl, _, rfl, ?_⟩
                  have hlk : look fd z = none := by
                    rw [fdK_look] at hn
                    cases h : look fd z with
                    | none => rfl
                    | some _ => rw [h] at hn; cases hn
                  have npD : p ≠ D := fun z => by rw [z, hD3] at hp3; cases hp3
                  refine ite0 (by simp) (kk () _ ⟨by simp [clash, hlk], hs4, ExB.new (ExB.trans (Ex.but e03) ExB.set) hD, Fr.dic hD3, by rw [upd_ne hDL.symm]; exact hL3, by rw [upd_ne npD]; exact hp3, ?_⟩)
                  rw [upd_same, putK_new _ hn]
                  simp [fdUp, hlk, fdK]
end
end D0

namespace D0
open PySem PySem.Spec PyProof.Rows L2 L2H HotX Evl K9
def Tm.inner : Tm → List Tm
  | .typ _ ts => ts
  | .lst ts _ => ts
  | _ => []
theorem Tm.inner_many (t : Tm) : Tm.manyL t.inner + 1 = t.many := by
  cases t <;> simp [Tm.inner, Tm.many, Tm.manyL] <;> omega
theorem Tm.inner_dp (t : Tm) : Tm.dpL t.inner + 1 = t.dp := by
  cases t <;> simp [Tm.inner, Tm.dp, Tm.dpL] <;> omega
theorem flat2 : True := trivial
section
variable {P : Program} {w : World} {K : PySem.W.Frag} {mg : Str → Option Value} {base : Heap} {f : Addr} {fd : FuncData} {k : Nat}
def spInner : Sp := fun vs H Q _ => ∃ (v : V) (t : Tm), vs = [v] ∧ Rd H v t.tr ∧ ∀ (a : Addr) (us : List V) (H' : Hp), Ex H H' → H' a = some (.tup us) → RdL H' us (Tm.trL t.inner) → Q (.ref a) H'
abbrev s_inner : Stmt := top 47
abbrev N_inner : List Str := ["term"]
theorem sc_inner : FnScope N_inner ["term"] (defScope s_inner) := ⟨rfl, rfl, rfl, by decide +kernel, rfl, by decide +kernel, by decide +kernel⟩
theorem ok_inner (T : Txt K mg) (F : FunD K "_law_inner" "_law_inner" (defArgs s_inner) (defBody s_inner) (defScope s_inner) [] [] f fd) (hm : mg "_law_inner" = some (.ref f)) : OkC P w K mg base (k + 1) "_law_inner" ["term"] spInner := by
  refine okC_of F hm sc_inner (fun _ _ _ _ _ _ us hl => match us, hl with | [_], _ => rfl) (fun vs H Q E h => ?_) (fun cdv A outer s H vs Q E hr h => ?_)
  · obtain ⟨v, t, rfl, _⟩ := h
    rfl
  · obtain ⟨v, t, rfl, hv, q⟩ := h
    refine ⟨_, (pss_cons (ps_if (pw_or (pt_val (pe_callB call_isi (by rfl) T.f_isinstance (by decide +kernel) (pa_cons (pv 0) (pa_cons (pe_bltn (v := .ty "int") (by rfl) T.f_int (by decide +kernel) rfl) pa_nil)))) (pw_or1 (pt_cmpR op_in_seq (pe_ix ix_tup (pv 0) pe_int fun _ _ => rfl) (pe_lst (pa_cons pe_str (pa_cons pe_str pa_nil))) (by rfl)))).pt (pss_one (ps_ret (pe_tup pa_nil))) pss_nil) (pss_one (ps_ret (pe_ifExp (pt_cmpR op_eq (pe_ix ix_tup (pv 0) pe_int fun _ _ => rfl) pe_str (nomark _)) (pe_ix ix_tup (pv 0) pe_int fun _ _ => rfl) (pe_ix ix_tup (pv 0) pe_int fun _ _ => rfl))))), ?_⟩
    refine seq_l ⟨_, rfl, ?_⟩
    dsimp only [tCons, tC, tNil]
    cases t with
    | int i =>
      cases hv
      refine Bas.isi (T := "int") (r := true) (.int i) rfl ⟨_, rfl, ite1 rfl (ite1 rfl (ret_l (tup_l (nil_l ⟨by decide, fun p hp => ?_⟩))))⟩
      exact q p [] _ (Ex.new hp) upd_same .nil
    | form a z b =>
      obtain ⟨a1, us, rfl, ha, r⟩ := Rd.tup_inv hv
      obtain ⟨v0, vr, rfl, r0⟩ : ∃ v0 vr, us = v0 :: vr ∧ Rd H v0 (.str "form") := by cases r with | cons r0 _ => exact ⟨_, _, rfl, r0⟩
      cases r0
      refine Bas.isi (T := "int") (r := false) (.tup ha) rfl ⟨_, rfl, ite0 (by decide) ⟨_, rfl, a1, _, 0, .str "form", rfl, rfl, SqT.of ha, atI_nat (j := 0) rfl, lst_l (cons_l (c_l (cons_l (c_l (nil_l ⟨by show 2 ≤ sizeLine; decide, fun p hp => ⟨p, _, rfl, .inl (SqL.of upd_same), rfl, rfl, _, rfl, ite1 (by decide) (ret_l (tup_l (nil_l ⟨by decide, fun p2 hp2 => ?_⟩)))⟩⟩)))))⟩⟩
      exact q p2 [] _ ((Ex.new hp).trans (Ex.new hp2)) upd_same .nil
    | var z =>
      obtain ⟨a1, us, rfl, ha, r⟩ := Rd.tup_inv hv
      obtain ⟨v0, vr, rfl, r0⟩ : ∃ v0 vr, us = v0 :: vr ∧ Rd H v0 (.str "var") := by cases r with | cons r0 _ => exact ⟨_, _, rfl, r0⟩
      cases r0
      refine Bas.isi (T := "int") (r := false) (.tup ha) rfl ⟨_, rfl, ite0 (by decide) ⟨_, rfl, a1, _, 0, .str "var", rfl, rfl, SqT.of ha, atI_nat (j := 0) rfl, lst_l (cons_l (c_l (cons_l (c_l (nil_l ⟨by show 2 ≤ sizeLine; decide, fun p hp => ⟨p, _, rfl, .inl (SqL.of upd_same), rfl, rfl, _, rfl, ite1 (by decide) (ret_l (tup_l (nil_l ⟨by decide, fun p2 hp2 => ?_⟩)))⟩⟩)))))⟩⟩
      exact q p2 [] _ ((Ex.new hp).trans (Ex.new hp2)) upd_same .nil
    | typ n ts =>
      obtain ⟨a1, us, rfl, ha, r⟩ := Rd.tup_inv hv
      obtain ⟨v0, v1, v2, rfl, r0, r2⟩ : ∃ v0 v1 v2, us = [v0, v1, v2] ∧ Rd H v0 (.str "type") ∧ Rd H v2 (.tup (Tm.trL ts)) := by cases r with | cons r0 r => cases r with | cons r1 r => cases r with | cons r2 r => cases r; exact ⟨_, _, _, rfl, r0, r2⟩
      cases r0
      obtain ⟨a3, us3, rfl, ha3, r3⟩ := Rd.tup_inv r2
      refine Bas.isi (T := "int") (r := false) (.tup ha) rfl ⟨_, rfl, ite0 (by decide) ⟨_, rfl, a1, _, 0, .str "type", rfl, rfl, SqT.of ha, atI_nat (j := 0) rfl, lst_l (cons_l (c_l (cons_l (c_l (nil_l ⟨by show 2 ≤ sizeLine; decide, fun p hp => ⟨p, _, rfl, .inl (SqL.of upd_same), rfl, rfl, _, rfl, ite0 (by decide) (nx_l (ret_l ?_))⟩⟩)))))⟩⟩
      have e := Ex.new (o := .lst [.str "var", .str "form"]) hp
      exact ⟨_, rfl, a1, _, 0, .str "type", rfl, rfl, SqT.of (e _ _ ha), atI_nat (j := 0) rfl, rfl, _, rfl, ite1 (by decide) ⟨_, rfl, a1, _, 2, .ref a3, rfl, rfl, SqT.of (e _ _ ha), atI_nat (j := 2) rfl, q a3 us3 _ e (e _ _ ha3) (r3.ext e)⟩⟩
    | lst ts r =>
      obtain ⟨a1, us, rfl, ha, r⟩ := Rd.tup_inv hv
      obtain ⟨v0, v1, v2, rfl, r0, r2⟩ : ∃ v0 v1 v2, us = [v0, v1, v2] ∧ Rd H v0 (.str "list") ∧ Rd H v1 (.tup (Tm.trL ts)) := by cases r with | cons r0 r => cases r with | cons r1 r => cases r with | cons r2 r => cases r; exact ⟨_, _, _, rfl, r0, r1⟩
      cases r0
      obtain ⟨a3, us3, rfl, ha3, r3⟩ := Rd.tup_inv r2
      refine Bas.isi (T := "int") (r := false) (.tup ha) rfl ⟨_, rfl, ite0 (by decide) ⟨_, rfl, a1, _, 0, .str "list", rfl, rfl, SqT.of ha, atI_nat (j := 0) rfl, lst_l (cons_l (c_l (cons_l (c_l (nil_l ⟨by show 2 ≤ sizeLine; decide, fun p hp => ⟨p, _, rfl, .inl (SqL.of upd_same), rfl, rfl, _, rfl, ite0 (by decide) (nx_l (ret_l ?_))⟩⟩)))))⟩⟩
      have e := Ex.new (o := .lst [.str "var", .str "form"]) hp
      exact ⟨_, rfl, a1, _, 0, .str "list", rfl, rfl, SqT.of (e _ _ ha), atI_nat (j := 0) rfl, rfl, _, rfl, ite0 (by decide) ⟨_, rfl, a1, _, 1, .ref a3, rfl, rfl, SqT.of (e _ _ ha), atI_nat (j := 1) rfl, q a3 us3 _ e (e _ _ ha3) (r3.ext e)⟩⟩
end
end D0

namespace D0
open PySem PySem.Spec PyProof.Rows L2 L2H HotX Evl K9
theorem RdL.split {H : Hp} {us : List V} {ss ts : List Tr} (h : RdL H us (ss ++ ts)) : ∃ us1 us2, us = us1 ++ us2 ∧ RdL H us1 ss ∧ RdL H us2 ts := by
  induction ss generalizing us with
  | nil => exact ⟨[], us, rfl, .nil, h⟩
  | cons s ss ih =>
    cases h with
    | cons a r =>
      obtain ⟨u1, u2, rfl, h1, h2⟩ := ih r
      exact ⟨_ :: u1, u2, rfl, .cons a h1, h2⟩
theorem RdL.rev {H : Hp} {us : List V} {ts : List Tr} (h : RdL H us ts) : RdL H us.reverse ts.reverse := by
  induction us generalizing ts with
  | nil => cases h; exact .nil
  | cons u us ih =>
    cases h with
    | cons a r =>
      rw [List.reverse_cons, List.reverse_cons]
      exact (ih r).app (.cons a .nil)
theorem trL_rev (ts : List Tm) : (Tm.trL ts).reverse = Tm.trL ts.reverse := by
  induction ts with
  | nil => rfl
  | cons t ts ih => rw [List.reverse_cons, trL_app, ← ih]; simp [Tm.trL]
theorem manyL_rev (ts : List Tm) : Tm.manyL ts.reverse = Tm.manyL ts := by
  induction ts with
  | nil => rfl
  | cons t ts ih => rw [List.reverse_cons, manyL_app, ih]; simp [Tm.manyL]; omega
theorem manyL_len (ts : List Tm) : ts.length ≤ Tm.manyL ts := by
  induction ts with
  | nil => exact Nat.le_refl _
  | cons t ts ih =>
    have := t.pos
    simp [Tm.manyL]
    omega
theorem manyL_mem {ts : List Tm} {t : Tm} (h : t ∈ ts) : t.many ≤ Tm.manyL ts ∧ t.dp ≤ Tm.dpL ts := by
  induction ts with
  | nil => cases h
  | cons s ts ih =>
    simp only [Tm.manyL, Tm.dpL]
    rcases List.mem_cons.mp h with rfl | h
    · omega
    · have := ih h
      omega
section
variable {P : Program} {w : World} {K : PySem.W.Frag} {mg : Str → Option Value} {base : Heap} {f : Addr} {fd : FuncData} {k : Nat}
def spNodes : Sp := fun vs H Q _ => ∃ (v : V) (t : Tm), vs = [v] ∧ Rd H v t.tr ∧ t.many ≤ 1000 ∧ ∀ (p : Addr) (us : List V) (ts : List Tm) (H' : Hp), Ex H H' → H p = none → H' p = some (.lst us) → RdL H' us (Tm.trL ts) → ts.length = t.many → (∀ s ∈ ts, s.many ≤ t.many ∧ s.dp ≤ t.dp) → Q (.ref p) H'
abbrev s_nodes : Stmt := top 48
abbrev N_nodes : List Str := ["term", "found", "left", "one"]
theorem sc_nodes : FnScope N_nodes ["term"] (defScope s_nodes) := ⟨rfl, rfl, rfl, by decide +kernel, rfl, by decide +kernel, by decide +kernel⟩
theorem ok_nodes (T : Txt K mg) (k_inner : OkC P w K mg base k "_law_inner" ["term"] spInner) (F : FunD K "_law_nodes" "_law_nodes" (defArgs s_nodes) (defBody s_nodes) (defScope s_nodes) [] [] f fd) (hm : mg "_law_nodes" = some (.ref f)) : OkC P w K mg base (k + 1) "_law_nodes" ["term"] spNodes := by
  refine okC_of F hm sc_nodes (fun _ _ _ _ _ _ us hl => match us, hl with | [_], _ => rfl) (fun vs H Q E h => ?_) (fun cdv A outer s H vs Q E hr h => ?_)
  · obtain ⟨v, t, rfl, _⟩ := h
    rfl
  · obtain ⟨v, t, rfl, hv, hm, q⟩ := h
    refine ⟨_, PSs.nox (pss_cons (ps_par rfl sc_nodes.nd (i := 1) (j := 2) rfl rfl (by decide) rfl rfl (pa_cons (pe_lst pa_nil) (pa_cons (pe_lst (pa_cons (pv 0) pa_nil)) pa_nil)) rfl) (pss_cons (ps_while PassesOwn.never (pt_cmpR (op_ne0 (huC (roomH_of hr))) (pv 2) (pe_lst pa_nil) (nomark _)) (pss_cons (ps_set (i := 3) sc_nodes.nd rfl (Or.inl rfl) (pe_bm0 PySem.F.plainAttrs_list PySem.F.slot_list_pop PySem.F.type_list_pop mt_pop (pv 2))) (pss_cons (ps_expr (pe_bm PySem.F.plainAttrs_list PySem.F.slot_list_append PySem.F.type_list_append mt_append (pv 1) (pa_cons (pv 3) pa_nil))) (pss_one (ps_set (i := 2) sc_nodes.nd rfl (Or.inl rfl) (pe_op op_cat (pv 2) (pe_revL (pe_callTy call_list_of (by rfl) T.f_list (by decide +kernel) (pa_cons (pe_callK0 k_inner hr (by rfl) (pa_cons (pv 3) pa_nil)) pa_nil))))))))) (pss_one (ps_ret (pv 1))))), ?_⟩
    have sz := sizeLine_eq
    refine seq_l (par_l (cons_l (lst_l (nil_l ⟨by decide, fun pf hpf => cons_l (lst_l (cons_l ⟨_, rfl, nil_l ⟨by show 1 ≤ sizeLine; decide, fun pl hpl => nil_l ⟨_, _, rfl, nx_p ?_⟩⟩⟩))⟩))))
    have e1 : Ex H (upd (upd H pf (.lst [])) pl (.lst [v])) := (Ex.new hpf).trans (Ex.new hpl)
    have h1f : upd (upd H pf (.lst [])) pl (.lst [v]) pf = some (.lst []) := (Ex.new hpl) _ _ upd_same
    have h1l : upd (upd H pf (.lst [])) pl (.lst [v]) pl = some (.lst [v]) := upd_same
    have nlf : pl ≠ pf := (ne_of_none upd_same hpl).symm
    show tSeq _ _ _ _ (upd (upd H pf (.lst [])) pl (.lst [v]))
    generalize upd (upd H pf (.lst [])) pl (.lst [v]) = H1 at e1 h1f h1l ⊢
    have hpl0 : H pl = none := by
      cases hh : H pl with
      | none => rfl
      | some o => rw [(Ex.new hpf) _ _ hh] at hpl; cases hpl
    refine seq_l ⟨fun c σ1 H1 => ∃ (pl : Addr) (xs us : List V) (ls fs : List Tm) (o3 : Option V), σ1 = [some v, some (.ref pf), some (.ref pl), o3] ∧ c = Tm.manyL ls ∧ Ex H H1 ∧ H pl = none ∧ pl ≠ pf ∧ H1 pf = some (.lst us) ∧ H1 pl = some (.lst xs) ∧ RdL H1 us (Tm.trL fs) ∧ RdL H1 xs (Tm.trL ls) ∧ Tm.manyL ls + fs.length = t.many ∧ (∀ s ∈ ls ++ fs, s.many ≤ t.many ∧ s.dp ≤ t.dp),
      ⟨_, pl, _, _, [t], [], _, rfl, rfl, e1, hpl0, nlf, h1f, h1l, .nil, .cons (hv.ext e1) .nil, by simp [Tm.manyL], by simp⟩, ?_⟩
    rintro c σ1 H1 ⟨pl, xs, us, ls, fs, o3, rfl, rfl, e, hl0, nlf, hf, hl, rf, rl, hc, hs⟩
    refine ⟨_, rfl, Nat.zero_le _, fun p11 hp11 => ⟨pl, p11, _, rfl, rfl, SqL.of ((Ex.new hp11) _ _ hl), SqL.of upd_same, _, rfl, ?_⟩⟩
    have e12 : Ex H1 (upd H1 p11 (.lst [])) := Ex.new hp11
    have e2 := e.trans e12
    have hf2 := e12 _ _ hf
    have hl2 := e12 _ _ hl
    have rf2 := rf.ext e12
    have rl2 := rl.ext e12
    generalize upd H1 p11 (.lst []) = H2 at e2 hf2 hl2 rf2 rl2 ⊢
    clear e12 hp11 rf rl hl hf e
    have lfs : us.length = fs.length := by
      have := rf2.len
      rw [trL_len] at this
      exact this
    rcases List.eq_nil_or_concat ls with rfl | ⟨l0, s0, rfl⟩
    · cases rl2
      refine ite0 (by decide) (nx_p (ret_l ⟨_, rfl, ?_⟩))
      exact q pf us fs _ e2 hpf hf2 rf2 (by simpa [Tm.manyL] using hc) (fun s h => hs s (by simpa using h))
    · simp only [List.concat_eq_append] at rl2 hc hs ⊢
      rw [trL_app] at rl2
      obtain ⟨x0, x1, rfl, rl0, rl1⟩ := RdL.split rl2
      cases rl1 with
      | @cons x _ _ _ rx rn =>
      cases rn
      have hne : (!(x0 ++ [x]).isEmpty) = true := by simp
      refine ite1 hne ⟨_, fun σ' H' h => h, ?_⟩
      refine seq_l (asg_l ⟨_, rfl, .inl ⟨rfl, _, SqL.of hl2⟩, pl, _, x, rfl, rfl, hl2, by simp, ?_⟩)
      rw [List.dropLast_concat]
      have b3 : ExB pl H2 (upd H2 pl (.lst x0)) := ExB.set
      have hl3 : upd H2 pl (.lst x0) pl = some (.lst x0) := upd_same
      have hf3 := b3 _ _ nlf.symm hf2
      have rf3 := rf2.exb b3 hl2 hl3
      have rl3 := rl0.exb b3 hl2 hl3
      have rx3 := rx.exb b3 hl2 hl3
      have e3 : Ex H (upd H2 pl (.lst x0)) := ExB.new (ExB.trans (Ex.but e2) b3) hl0
      show tSeq _ _ _ _ (upd H2 pl (.lst x0))
      generalize upd H2 pl (.lst x0) = H3 at e3 hl3 hf3 rf3 rl3 rx3 ⊢
      clear b3 rl2 rl0 rx rf2 hf2 hl2 e2
      have lls : x0.length = l0.length := by
        have := rl3.len
        rw [trL_len] at this
        exact this
      have hml := manyL_app l0 [s0]
      have hm1 : Tm.manyL [s0] = s0.many := by simp [Tm.manyL]
      have hps := s0.pos
      have hln := manyL_len l0
      have hin := s0.inner_many
      have hlin := manyL_len s0.inner
      refine seq_l ⟨_, rfl, .inl ⟨rfl, _, SqL.of hf3⟩, cons_l ⟨_, rfl, nil_l ⟨pf, us, x, rfl, rfl, hf3, by omega, ?_⟩⟩⟩
      have b4 : ExB pf H3 (upd H3 pf (.lst (us ++ [x]))) := ExB.set
      have hf4 : upd H3 pf (.lst (us ++ [x])) pf = some (.lst (us ++ [x])) := upd_same
      have hl4 := b4 _ _ nlf hl3
      have rf4 : RdL (upd H3 pf (.lst (us ++ [x]))) (us ++ [x]) (Tm.trL (fs ++ [s0])) := by
        rw [trL_app]
        exact (rf3.exb b4 hf3 hf4).app (.cons (rx3.exb b4 hf3 hf4) .nil)
      have rl4 := rl3.exb b4 hf3 hf4
      have rx4 := rx3.exb b4 hf3 hf4
      have e4 : Ex H (upd H3 pf (.lst (us ++ [x]))) := ExB.new (ExB.trans (Ex.but e3) b4) hpf
      generalize upd H3 pf (.lst (us ++ [x])) = H4 at e4 hf4 hl4 rf4 rl4 rx4 ⊢
      refine nx_p (asg_l (op_l ⟨_, rfl, ⟨_, rfl, x, s0, rfl, rx4, fun a2 us2 H5 e5 ha5 r5 => ?_⟩⟩))
      have lu2 : us2.length = s0.inner.length := by
        have := r5.len
        rw [trL_len] at this
        exact this
      refine ⟨a2, us2, rfl, .inr (SqT.of ha5), fun l hl => ⟨l, us2, rfl, SqL.of upd_same, fun l2 hl2 => ?_⟩⟩
      have e6 : Ex H5 (upd (upd H5 l (.lst us2)) l2 (.lst us2.reverse)) := (Ex.new hl).trans (Ex.new hl2)
      refine ⟨pl, l2, x0, us2.reverse, rfl, rfl, (e5.trans e6) _ _ hl4, upd_same, by rw [List.length_reverse]; omega, fun l3 hl3' => ?_⟩
      have e7 := e5.trans (e6.trans (Ex.new (o := .lst (x0 ++ us2.reverse)) hl3'))
      have l30 : H l3 = none := by
        cases hh : H l3 with
        | none => rfl
        | some o => rw [(e5.trans e6) _ _ (e4 _ _ hh)] at hl3'; cases hl3'
      have n3f : l3 ≠ pf := fun z => by rw [z, (e5.trans e6) _ _ hf4] at hl3'; cases hl3'
      refine ⟨Tm.manyL (l0 ++ s0.inner.reverse), ?_, l3, x0 ++ us2.reverse, us ++ [x], l0 ++ s0.inner.reverse, fs ++ [s0], _, rfl, rfl, e4.trans e7, l30, n3f, e7 _ _ hf4, upd_same, rf4.ext e7, ?_, ?_, fun s hs2 => ?_⟩
      · rw [manyL_app, manyL_rev]
        omega
      · rw [trL_app, ← trL_rev]
        exact (rl4.ext e7).app ((RdL.rev r5).ext (e6.trans (Ex.new hl3')))
      · rw [manyL_app, manyL_rev, List.length_append]
        simp
        omega
      · have h0 := hs s0 (by simp)
        rcases List.mem_append.mp hs2 with h | h
        · rcases List.mem_append.mp h with h | h
          · exact hs s (by simp [h])
          · have h := manyL_mem (List.mem_reverse.mp h)
            have hd := s0.inner_dp
            omega
        · rcases List.mem_append.mp h with h | h
          · exact hs s (by simp [h])
          · obtain rfl := List.mem_singleton.mp h
            exact h0
end
end D0

namespace D0
open PySem PySem.Spec PyProof.Rows L2 L2H HotX Evl K9
theorem lcB3_by {b : Addr} {wi : TI} {i : Nat} {te : TE} {σ : L2.St} {H H0 : Hp} {Q : VK} {J : It} {n : Nat} {item : Nat → V} {ob : HO} (P : Nat → List V → Hp → Prop)
    (hn : n ≤ sizeLine) (hi : i < σ.length) (hb : H b = some ob) (hw : ∀ R : It → Hp → Prop, R J H → wi σ H0 R) (wk : WalksB b J n item H)
    (mono : ∀ (D : Addr) j acc H1 xs ys, D ≠ b → H1 D = some (.lst xs) → P j acc H1 → P j acc (upd H1 D (.lst ys))) (h0 : ∀ D, H D = none → P 0 [] (upd H D (.lst [])))
    (step : ∀ j acc H1 (C : V → Hp → Prop), j < n → ExB b H H1 → P j acc H1 → (∀ y H4, ExB b H1 H4 → P (j + 1) (acc ++ [y]) H4 → C y H4) → te ((wipe σ [i]).set i (some (item j))) H1 C)
    (fin : ∀ D acc H1, H D = none → ExB b H H1 → H1 D = some (.lst acc) → P n acc H1 → acc.length = n → Q (.ref D) H1) : tLc wi (gName i) tYes te [i] σ H0 Q := by
  refine hw _ fun D hD => ?_
  have nb : D ≠ b := fun z => by rw [z, hb] at hD; cases hD
  have nu : ∀ {H1 : Hp} {o : HO}, ExB b H H1 → ExB b H (upd H1 D o) := fun e a o na h => by
    rw [upd_ne (ne_of_none h hD)]
    exact e a o na h
  refine ⟨fun j m H1 => m = n - j ∧ j ≤ n ∧ ExB b H H1 ∧ ∃ acc, H1 D = some (.lst acc) ∧ acc.length = j ∧ P j acc H1, ⟨n - 0, rfl, Nat.zero_le _, nu ExB.refl, [], upd_same, rfl, h0 D hD⟩, ?_⟩
  rintro j m H1 ⟨rfl, hj, e, acc, ha, hl, hp⟩
  by_cases hjn : j = n
  · subst hjn
    exact .inl ⟨wk.stop H1 e, fin D acc H1 hD e ha hp hl⟩
  · have hj2 : j < n := by omega
    refine .inr ⟨wk.go j H1 e hj2, fun H' => n - (j + 1) < n - j ∧ j + 1 ≤ n ∧ ExB b H H' ∧ ∃ acc, H' D = some (.lst acc) ∧ acc.length = j + 1 ∧ P (j + 1) acc H', ?_, ?_⟩
    · rintro H' ⟨h1, h2, h3⟩
      exact ⟨n - (j + 1), h1, rfl, h2, h3⟩
    · intro x H' hy
      obtain ⟨rfl, rfl⟩ := wk.yld j H1 x H' e hj2 hy
      refine ⟨by simp [wipe], ?_⟩
      unfold tYes
      dsimp only
      rw [if_pos rfl]
      refine step j acc H' _ hj2 e hp fun y H4 e4 p4 => ?_
      have hd := e4 _ _ nb ha
      exact ⟨acc, hd, by omega, by omega, by omega, nu (e.trans e4), acc ++ [y], upd_same, by simp [hl], mono _ _ _ _ _ _ nb hd p4⟩
/-- [e for x in ..]: what is walked is told by the walk's own expression -/
theorem lcU_by {b : Addr} {wi : TI} {i : Nat} {te : TE} {σ : L2.St} {H0 : Hp} {Q : VK} (Pre : List V → It → Hp → Prop) (P : Nat → List V → Hp → Prop) (hn : ∀ us J H3, Pre us J H3 → us.length ≤ sizeLine) (hi : i < σ.length)
    (hw : ∀ R : It → Hp → Prop, (∀ us J H3, Pre us J H3 → R J H3) → wi σ H0 R) (hb : ∀ us J H3, Pre us J H3 → ∃ ob, H3 b = some ob) (wk : ∀ us J H3, Pre us J H3 → WalksB b J us.length (fun i => us.getD i .non) H3)
    (mono : ∀ (D : Addr) j acc H1 xs ys, D ≠ b → H1 D = some (.lst xs) → P j acc H1 → P j acc (upd H1 D (.lst ys))) (h0 : ∀ us J H3 D, Pre us J H3 → H3 D = none → P 0 [] (upd H3 D (.lst [])))
    (step : ∀ us J H3 j acc H1 (C : V → Hp → Prop), Pre us J H3 → j < us.length → ExB b H3 H1 → P j acc H1 → (∀ y H4, ExB b H1 H4 → P (j + 1) (acc ++ [y]) H4 → C y H4) → te ((wipe σ [i]).set i (some (us.getD j .non))) H1 C)
    (fin : ∀ us J H3 D acc H1, Pre us J H3 → H3 D = none → ExB b H3 H1 → H1 D = some (.lst acc) → P us.length acc H1 → acc.length = us.length → Q (.ref D) H1) : tLc wi (gName i) tYes te [i] σ H0 Q := by
  refine hw _ fun us J H3 hp => ?_
  obtain ⟨ob, ho⟩ := hb us J H3 hp
  exact lcB3_by (b := b) (wi := fun _ _ R => R J H3) (i := i) (te := te) (σ := σ) (H := H3) (H0 := H0) (Q := Q) (J := J) P (hn us J H3 hp) hi ho (fun R r => r) (wk us J H3 hp) mono (fun D hD => h0 us J H3 D hp hD) (fun j acc H1 C hj e hp2 kk => step us J H3 j acc H1 C hp hj e hp2 kk) (fun D acc H1 hD e ha hP hl => fin us J H3 D acc H1 hp hD e ha hP hl)
theorem manyL_take (ts : List Tm) {j : Nat} (hj : j < ts.length) : Tm.manyL (ts.take (j + 1)) = Tm.manyL (ts.take j) + ts[j].many := by
  rw [List.take_succ_eq_append_getElem hj, manyL_app]
  simp [Tm.manyL]
theorem trL_getD (ts : List Tm) {j : Nat} (hj : j < ts.length) : (Tm.trL ts).getD j .non = ts[j].tr := by
  induction ts generalizing j with
  | nil => simp at hj
  | cons t ts ih =>
    cases j with
    | zero => rfl
    | succ j => exact ih (by simpa using hj)
section
variable {P : Program} {w : World} {K : PySem.W.Frag} {mg : Str → Option Value} {base : Heap} {f : Addr} {fd : FuncData} {k : Nat}
def spSwap (d : Nat) : Sp := fun vs H Q _ => ∃ (v nv : V) (a : Addr) (i : Int) (t : Tm) (nt : Tr), vs = [v, .ref a, nv] ∧ Rd H v t.tr ∧ t.dp ≤ d ∧ t.many ≤ 1000 ∧ H a = some (.lst [.int i]) ∧ Rd H nv nt ∧
  ∀ (u : V) (ut : Tr) (i' : Int) (H' : Hp), ExB a H H' → H' a = some (.lst [.int i']) → Rd H' u ut → ut.sz ≤ t.many * (nt.sz + 5) → Q u H'
abbrev Swap (P : Program) (w : World) (K : PySem.W.Frag) (mg : Str → Option Value) (base : Heap) (k d : Nat) : Prop := OkC P w K mg base k "_law_swapped" ["term", "at", "new"] (spSwap d)
abbrev s_swapped : Stmt := top 49
abbrev N_swapped : List Str := ["term", "at", "new", "inner", "part"]
theorem sc_swapped : FnScope N_swapped ["term", "at", "new"] (defScope s_swapped) := ⟨rfl, rfl, rfl, by decide +kernel, rfl, by decide +kernel, by decide +kernel⟩
theorem ok_swapped0 (F : FunD K "_law_swapped" "_law_swapped" (defArgs s_swapped) (defBody s_swapped) (defScope s_swapped) [] [] f fd) (hm : mg "_law_swapped" = some (.ref f)) : Swap P w K mg base (k + 1) 0 := by
  refine okC_of F hm sc_swapped (fun _ _ _ _ _ _ us hl => match us, hl with | [_, _, _], _ => rfl) (fun vs H Q E h => ?_) (fun cdv A outer s H vs Q E hr h => ?_)
  · obtain ⟨v, nv, a, i, t, nt, rfl, _⟩ := h
    rfl
  · obtain ⟨v, nv, a, i, t, nt, rfl, hv, hd, _⟩ := h
    have : 1 ≤ t.dp := by cases t <;> simp [Tm.dp]
    omega
theorem ok_swapped {d : Nat} (T : Txt K mg) (k_inner : OkC P w K mg base k "_law_inner" ["term"] spInner) (k_swapped : Swap P w K mg base k d) (F : FunD K "_law_swapped" "_law_swapped" (defArgs s_swapped) (defBody s_swapped) (defScope s_swapped) [] [] f fd) (hm : mg "_law_swapped" = some (.ref f)) : Swap P w K mg base (k + 1) (d + 1) := by
  refine okC_of F hm sc_swapped (fun _ _ _ _ _ _ us hl => match us, hl with | [_, _, _], _ => rfl) (fun vs H Q E h => ?_) (fun cdv A outer s H vs Q E hr h => ?_)
  · obtain ⟨v, nv, a, i, t, nt, rfl, _⟩ := h
    rfl
  · obtain ⟨v, nv, a, i, t, nt, rfl, hv, hd, hmany, ha, hn, q⟩ := h
    refine ⟨_, PSs.nox (pss_cons (ps_asg (pe_op op_sub (pe_ix ix_list (pv 1) pe_int fun _ _ => rfl) pe_int) (pg_sub (pv 1) pe_int set_list)) (pss_cons (ps_if (pt_cmpR op_eq (pe_ix ix_list (pv 1) pe_int fun _ _ => rfl) (pe_un un_neg pe_int) (nomark _)) (pss_one (ps_ret (pv 2))) pss_nil) (pss_cons (ps_if (pw_or (pt_cmpR op_lt (pe_ix ix_list (pv 1) pe_int fun _ _ => rfl) (pe_un un_neg pe_int) (nomark _)) (pw_or (pt_val (pe_callB call_isi (by rfl) T.f_isinstance (by decide +kernel) (pa_cons (pv 0) (pa_cons (pe_bltn (v := .ty "int") (by rfl) T.f_int (by decide +kernel) rfl) pa_nil)))) (pw_or1 (pt_cmpR op_in_seq (pe_ix ix_tup (pv 0) pe_int fun _ _ => rfl) (pe_lst (pa_cons pe_str (pa_cons pe_str pa_nil))) (by rfl))))).pt (pss_one (ps_ret (pv 0))) pss_nil) (pss_cons (ps_set (i := 3) sc_swapped.nd rfl (Or.inl rfl) (pe_callTy call_tuple_of (by rfl) T.f_tuple (by decide +kernel) (pa_cons (pe_lc (own := [("part", 4)]) (g := gName 4) rfl sc_swapped.nd (pi_tup (pe_callK0 k_inner hr (by rfl) (pa_cons (pv 0) pa_nil))) (blkOk_by (N := N_swapped) (sc := defScope s_swapped) (by decide +kernel)) (fun _ _ _ _ _ => pg_name (i := 4) sc_swapped.nd rfl (Or.inl rfl)) (fun _ _ _ _ _ => pts_nil) (fun _ _ _ _ _ => (pe_callK0 k_swapped hr (by rfl) (pa_cons (pv 4) (pa_cons (pv 1) (pa_cons (pv 2) pa_nil)))))) pa_nil))) (pss_one (ps_ret (pe_ifExp (pt_cmpR op_eq (pe_ix ix_tup (pv 0) pe_int fun _ _ => rfl) pe_str (nomark _)) (pe_tup (pa_cons pe_str (pa_cons (pe_ix ix_tup (pv 0) pe_int fun _ _ => rfl) (pa_cons (pv 3) pa_nil)))) (pe_tup (pa_cons pe_str (pa_cons (pv 3) (pa_cons (pe_ix ix_tup (pv 0) pe_int fun _ _ => rfl) pa_nil))))))))))), ?_⟩
    have sz := sizeLine_eq
    refine seq_l (asgG_l (op_l ⟨_, rfl, a, _, 0, _, rfl, rfl, SqL.of ha, atI_nat (j := 0) rfl, _, _, rfl, rfl, ?_⟩))
    refine ⟨_, rfl, a, _, 0, 0, rfl, rfl, ha, rfl, nx_p ?_⟩
    have b1 : ExB a H (upd H a (.lst [.int (i - 1)])) := ExB.set
    have ha1 : upd H a (.lst [.int (i - 1)]) a = some (.lst [.int (i - 1)]) := upd_same
    have hv1 := hv.exb b1 ha ha1
    have hn1 := hn.exb b1 ha ha1
    show tSeq _ _ _ _ (upd H a (.lst [.int (i - 1)]))
    generalize upd H a (.lst [.int (i - 1)]) = H1 at b1 ha1 hv1 hn1 ⊢
    generalize i - 1 = i1 at ha1
    have hmp := t.pos
    have hbt : t.tr.sz ≤ t.many * (nt.sz + 5) := Nat.le_trans t.sz_le (by rw [Nat.mul_comm]; exact Nat.mul_le_mul_left _ (by omega))
    have hbn : nt.sz ≤ t.many * (nt.sz + 5) := Nat.le_trans (Nat.le_trans (Nat.le_add_right _ 5) (Nat.le_of_eq (Nat.one_mul _).symm)) (Nat.mul_le_mul_right _ hmp)
    refine seq_l ⟨_, rfl, a, _, 0, _, rfl, rfl, SqL.of ha1, atI_nat (j := 0) rfl, 1, rfl, rfl, _, rfl, ?_⟩
    dsimp only
    split
    · exact ⟨_, rfl, q _ _ _ _ b1 ha1 hn1 hbn⟩
    · refine nx_l (seq_l ⟨_, rfl, a, _, 0, _, rfl, rfl, SqL.of ha1, atI_nat (j := 0) rfl, 1, rfl, _, _, rfl, rfl, _, rfl, ?_⟩)
      dsimp only
      split
      · exact ite1 rfl ⟨_, rfl, q _ _ _ _ b1 ha1 hv1 hbt⟩
      · cases t with
        | int i0 =>
          cases hv1
          refine ⟨_, rfl, ?_⟩
          dsimp only [tCons, tC, tNil]
          exact Bas.isi (T := "int") (r := true) (.int i0) rfl ⟨_, rfl, ite1 rfl (ite1 rfl ⟨_, rfl, q _ _ _ _ b1 ha1 (.int i0) hbt⟩)⟩
        | form x y z =>
          obtain ⟨a1, us, rfl, hta, r⟩ := Rd.tup_inv hv1
          obtain ⟨v0, vr, rfl, r0⟩ : ∃ v0 vr, us = v0 :: vr ∧ Rd H1 v0 (.str "form") := by cases r with | cons r0 _ => exact ⟨_, _, rfl, r0⟩
          cases r0
          refine ⟨_, rfl, ?_⟩
          dsimp only [tCons, tC, tNil]
          refine Bas.isi (T := "int") (r := false) (.tup hta) rfl ⟨_, rfl, ite0 (by decide) ⟨_, rfl, a1, _, 0, .str "form", rfl, rfl, SqT.of hta, atI_nat (j := 0) rfl, lst_l (cons_l (c_l (cons_l (c_l (nil_l ⟨by show 2 ≤ sizeLine; decide, fun p hp => ⟨p, _, rfl, .inl (SqL.of upd_same), rfl, rfl, _, rfl, ite1 (by decide) ⟨_, rfl, ?_⟩⟩⟩)))))⟩⟩
          have e2 := Ex.new (o := .lst [.str "var", .str "form"]) hp
          exact q _ _ _ _ (b1.trans (Ex.but e2)) (e2 _ _ ha1) (hv1.ext e2) hbt
        | var z =>
          obtain ⟨a1, us, rfl, hta, r⟩ := Rd.tup_inv hv1
          obtain ⟨v0, vr, rfl, r0⟩ : ∃ v0 vr, us = v0 :: vr ∧ Rd H1 v0 (.str "var") := by cases r with | cons r0 _ => exact ⟨_, _, rfl, r0⟩
          cases r0
          refine ⟨_, rfl, ?_⟩
          dsimp only [tCons, tC, tNil]
          refine Bas.isi (T := "int") (r := false) (.tup hta) rfl ⟨_, rfl, ite0 (by decide) ⟨_, rfl, a1, _, 0, .str "var", rfl, rfl, SqT.of hta, atI_nat (j := 0) rfl, lst_l (cons_l (c_l (cons_l (c_l (nil_l ⟨by show 2 ≤ sizeLine; decide, fun p hp => ⟨p, _, rfl, .inl (SqL.of upd_same), rfl, rfl, _, rfl, ite1 (by decide) ⟨_, rfl, ?_⟩⟩⟩)))))⟩⟩
          have e2 := Ex.new (o := .lst [.str "var", .str "form"]) hp
          exact q _ _ _ _ (b1.trans (Ex.but e2)) (e2 _ _ ha1) (hv1.ext e2) hbt
        | typ n ts =>
          obtain ⟨t0, ht0⟩ : ∃ t0, t0 = Tm.typ n ts := ⟨_, rfl⟩
          rw [← ht0] at hv hd hmany q hv1 hmp hbt hbn
          have hin : Tm.manyL ts + 1 = t0.many := by rw [ht0]; simp [Tm.many]; omega
          have hdin : Tm.dpL ts ≤ d := by
            rw [ht0] at hd
            simp [Tm.dp] at hd
            omega
          have htr : Rd H1 v t0.tr := hv1
          rw [ht0] at hv1
          obtain ⟨a1, us, rfl, hta, r⟩ := Rd.tup_inv hv1
          obtain ⟨v0, v1, v2, rfl, r0, r1, r2⟩ : ∃ v0 v1 v2, us = [v0, v1, v2] ∧ Rd H1 v0 (.str "type") ∧ Rd H1 v1 (.str n) ∧ Rd H1 v2 (.tup (Tm.trL ts)) := by cases r with | cons r0 r => cases r with | cons r1 r => cases r with | cons r2 r => cases r; exact ⟨_, _, _, rfl, r0, r1, r2⟩
          cases r0
          have na1 : a1 ≠ a := fun z => by rw [z, ha1] at hta; cases hta
          refine ⟨_, rfl, ?_⟩
          dsimp only [tCons, tC, tNil]
          refine Bas.isi (T := "int") (r := false) (.tup hta) rfl ⟨_, rfl, ite0 (by decide) ⟨_, rfl, a1, _, 0, .str "type", rfl, rfl, SqT.of hta, atI_nat (j := 0) rfl, lst_l (cons_l (c_l (cons_l (c_l (nil_l ⟨by show 2 ≤ sizeLine; decide, fun p hp => ⟨p, _, rfl, .inl (SqL.of upd_same), rfl, rfl, _, rfl, ite0 (by decide) (nx_l ?_)⟩⟩)))))⟩⟩
          have e2 := Ex.new (o := .lst [.str "var", .str "form"]) hp
          have ha2 := e2 _ _ ha1
          have htr2 := htr.ext e2
          have hn2 := hn1.ext e2
          have b2 := b1.trans (Ex.but e2)
          have hta2 := e2 _ _ hta
          have r12 := r1.ext e2
          have r22 := r2.ext e2
          show tSeq _ _ _ _ (upd H1 p (.lst [.str "var", .str "form"]))
          generalize upd H1 p (.lst [.str "var", .str "form"]) = H2 at e2 ha2 htr2 hn2 b2 hta2 r12 r22 ⊢
          refine seq_l (asg_l (call1_l ?_))
          refine lcU_by (b := a) (fun us J H3 => ∃ a3, J = Itt K a3 ∧ Ex H2 H3 ∧ H3 a3 = some (.tup us) ∧ RdL H3 us (Tm.trL ts)) (fun j acc H5 => ∃ (i' : Int) (as : List Tr), H5 a = some (.lst [.int i']) ∧ RdL H5 acc as ∧ Tr.szL as ≤ Tm.manyL (ts.take j) * (nt.sz + 5))
            (fun us J H3 ⟨a3, hJ, e3, h3, r3⟩ => ?_) (by show 4 < 5; decide) (fun R hR => ⟨_, rfl, .ref a1, t0, rfl, htr2, fun a3 us H3 e3 h3 r3 => ⟨a3, rfl, ⟨_, SqT.of h3⟩, hR us _ _ ⟨a3, rfl, e3, h3, by rw [ht0] at r3; exact r3⟩⟩⟩)
            (fun us J H3 ⟨a3, hJ, e3, h3, r3⟩ => ⟨_, e3 _ _ ha2⟩) (fun us J H3 ⟨a3, hJ, e3, h3, r3⟩ => by rw [hJ]; exact walksB_tup h3 (e3 _ _ ha2)) (fun D j acc H5 xs ys nD hD ⟨i', as, h5, r5, s5⟩ => ⟨i', as, by rw [upd_ne nD.symm]; exact h5, r5.exb ExB.set hD upd_same, s5⟩)
            (fun us J H3 D ⟨a3, hJ, e3, h3, r3⟩ hD => ⟨_, [], (Ex.new hD) _ _ (e3 _ _ ha2), .nil, by simp [Tr.szL]⟩) (fun us J H3 j acc H5 C ⟨a3, hJ, e3, h3, r3⟩ hj x5 ⟨i', as, h5, r5, s5⟩ kk => ?_) (fun us J H3 D acc H5 ⟨a3, hJ, e3, h3, r3⟩ hD x5 hD5 ⟨i', as, h5, r5, s5⟩ hl => ?_)
          · have l3 := r3.len
            rw [trL_len] at l3
            have := manyL_len ts
            omega
          · have l3 := r3.len
            rw [trL_len] at l3
            have hj2 : j < ts.length := by omega
            have ha3 := e3 _ _ ha2
            have rj := (r3.at_ hj).exb x5 ha3 h5
            rw [trL_getD ts hj2] at rj
            have hmj := manyL_mem (List.getElem_mem hj2)
            refine ⟨_, rfl, _, rfl, _, rfl, _, nv, a, i', ts[j], nt, rfl, rj, by omega, by omega, h5, (hn2.ext e3).exb x5 ha3 h5, fun u ut i2 H6 x6 h6 ru su => kk u H6 x6 ⟨i2, as ++ [ut], h6, (r5.exb x6 h5 h6).app (.cons ru .nil), ?_⟩⟩
            rw [szL_app, manyL_take ts hj2, Nat.add_mul]
            simp only [Tr.szL]
            omega
          · have l3 := r3.len
            rw [trL_len] at l3
            have ha3 := e3 _ _ ha2
            have hta5 := x5 _ _ na1 (e3 _ _ hta2)
            rw [l3, List.take_length] at s5
            refine ⟨D, acc, rfl, .inl ⟨SqL.of hD5, fun l hl2 => nx_p (ret_l ⟨_, rfl, a1, _, 0, .str "type", rfl, rfl, SqT.of ((Ex.new hl2) _ _ hta5), atI_nat (j := 0) rfl, rfl, _, rfl, ?_⟩)⟩⟩
            have e6 := Ex.new (o := .tup acc) hl2
            have x26 : ExB a H2 (upd H5 l (.tup acc)) := (Ex.but e3).trans (x5.trans (Ex.but e6))
            have r16 := (((r12.ext e3).exb x5 ha3 h5).ext e6)
            have r26 := (((r22.ext e3).exb x5 ha3 h5).ext e6)
            have hta6 := e6 _ _ hta5
            have h6 := e6 _ _ h5
            have r6 := r5.ext e6
            have hl6 : upd H5 l (.tup acc) l = some (.tup acc) := upd_same
            have hfin : 5 + Tr.szL as ≤ t0.many * (nt.sz + 5) := by
              rw [← hin, Nat.add_mul]
              omega
            generalize upd H5 l (.tup acc) = H6 at x26 r16 r26 hta6 h6 r6 hl6 ⊢
            refine ite1 (by decide) (tup_l (cons_l (c_l (cons_l ⟨_, rfl, a1, _, 1, v1, rfl, rfl, SqT.of hta6, atI_nat (j := 1) rfl, cons_l ⟨_, rfl, nil_l ⟨by show 3 ≤ sizeLine; decide, fun p7 hp7 => ?_⟩⟩⟩))))
            have e7 := Ex.new (o := .tup [.str "type", v1, .ref l]) hp7
            exact q _ (.tup [.str "type", .str n, .tup as]) _ _ (b2.trans (x26.trans (Ex.but e7))) (e7 _ _ h6) (.tup upd_same (.cons (.str _ (by decide)) (.cons (r16.ext e7) (.cons (.tup (e7 _ _ hl6) (r6.ext e7)) .nil)))) (by simp only [Tr.sz, Tr.szL]; omega)

        | lst ts r0 =>
          obtain ⟨t0, ht0⟩ : ∃ t0, t0 = Tm.lst ts r0 := ⟨_, rfl⟩
          rw [← ht0] at hv hd hmany q hv1 hmp hbt hbn
          have hin : Tm.manyL ts + 1 = t0.many := by rw [ht0]; simp [Tm.many]; omega
          have hdin : Tm.dpL ts ≤ d := by
            rw [ht0] at hd
            simp [Tm.dp] at hd
            omega
          have htr : Rd H1 v t0.tr := hv1
          rw [ht0] at hv1
          obtain ⟨a1, us, rfl, hta, r⟩ := Rd.tup_inv hv1
          obtain ⟨v0, v1, v2, rfl, q0, r1, r2⟩ : ∃ v0 v1 v2, us = [v0, v1, v2] ∧ Rd H1 v0 (.str "list") ∧ Rd H1 v1 (.tup (Tm.trL ts)) ∧ Rd H1 v2 (orest r0) := by cases r with | cons q0 r => cases r with | cons r1 r => cases r with | cons r2 r => cases r; exact ⟨_, _, _, rfl, q0, r1, r2⟩
          cases q0
          have na1 : a1 ≠ a := fun z => by rw [z, ha1] at hta; cases hta
          refine ⟨_, rfl, ?_⟩
          dsimp only [tCons, tC, tNil]
          refine Bas.isi (T := "int") (r := false) (.tup hta) rfl ⟨_, rfl, ite0 (by decide) ⟨_, rfl, a1, _, 0, .str "list", rfl, rfl, SqT.of hta, atI_nat (j := 0) rfl, lst_l (cons_l (c_l (cons_l (c_l (nil_l ⟨by show 2 ≤ sizeLine; decide, fun p hp => ⟨p, _, rfl, .inl (SqL.of upd_same), rfl, rfl, _, rfl, ite0 (by decide) (nx_l ?_)⟩⟩)))))⟩⟩
          have e2 := Ex.new (o := .lst [.str "var", .str "form"]) hp
          have ha2 := e2 _ _ ha1
          have htr2 := htr.ext e2
          have hn2 := hn1.ext e2
          have b2 := b1.trans (Ex.but e2)
          have hta2 := e2 _ _ hta
          have r12 := r1.ext e2
          have r22 := r2.ext e2
          show tSeq _ _ _ _ (upd H1 p (.lst [.str "var", .str "form"]))
          generalize upd H1 p (.lst [.str "var", .str "form"]) = H2 at e2 ha2 htr2 hn2 b2 hta2 r12 r22 ⊢
          refine seq_l (asg_l (call1_l ?_))
          refine lcU_by (b := a) (fun us J H3 => ∃ a3, J = Itt K a3 ∧ Ex H2 H3 ∧ H3 a3 = some (.tup us) ∧ RdL H3 us (Tm.trL ts)) (fun j acc H5 => ∃ (i' : Int) (as : List Tr), H5 a = some (.lst [.int i']) ∧ RdL H5 acc as ∧ Tr.szL as ≤ Tm.manyL (ts.take j) * (nt.sz + 5))
            (fun us J H3 ⟨a3, hJ, e3, h3, r3⟩ => ?_) (by show 4 < 5; decide) (fun R hR => ⟨_, rfl, .ref a1, t0, rfl, htr2, fun a3 us H3 e3 h3 r3 => ⟨a3, rfl, ⟨_, SqT.of h3⟩, hR us _ _ ⟨a3, rfl, e3, h3, by rw [ht0] at r3; exact r3⟩⟩⟩)
            (fun us J H3 ⟨a3, hJ, e3, h3, r3⟩ => ⟨_, e3 _ _ ha2⟩) (fun us J H3 ⟨a3, hJ, e3, h3, r3⟩ => by rw [hJ]; exact walksB_tup h3 (e3 _ _ ha2)) (fun D j acc H5 xs ys nD hD ⟨i', as, h5, r5, s5⟩ => ⟨i', as, by rw [upd_ne nD.symm]; exact h5, r5.exb ExB.set hD upd_same, s5⟩)
            (fun us J H3 D ⟨a3, hJ, e3, h3, r3⟩ hD => ⟨_, [], (Ex.new hD) _ _ (e3 _ _ ha2), .nil, by simp [Tr.szL]⟩) (fun us J H3 j acc H5 C ⟨a3, hJ, e3, h3, r3⟩ hj x5 ⟨i', as, h5, r5, s5⟩ kk => ?_) (fun us J H3 D acc H5 ⟨a3, hJ, e3, h3, r3⟩ hD x5 hD5 ⟨i', as, h5, r5, s5⟩ hl => ?_)
          · have l3 := r3.len
            rw [trL_len] at l3
            have := manyL_len ts
            omega
          · have l3 := r3.len
            rw [trL_len] at l3
            have hj2 : j < ts.length := by omega
            have ha3 := e3 _ _ ha2
            have rj := (r3.at_ hj).exb x5 ha3 h5
            rw [trL_getD ts hj2] at rj
            have hmj := manyL_mem (List.getElem_mem hj2)
            refine ⟨_, rfl, _, rfl, _, rfl, _, nv, a, i', ts[j], nt, rfl, rj, by omega, by omega, h5, (hn2.ext e3).exb x5 ha3 h5, fun u ut i2 H6 x6 h6 ru su => kk u H6 x6 ⟨i2, as ++ [ut], h6, (r5.exb x6 h5 h6).app (.cons ru .nil), ?_⟩⟩
            rw [szL_app, manyL_take ts hj2, Nat.add_mul]
            simp only [Tr.szL]
            omega
          · have l3 := r3.len
            rw [trL_len] at l3
            have ha3 := e3 _ _ ha2
            have hta5 := x5 _ _ na1 (e3 _ _ hta2)
            rw [l3, List.take_length] at s5
            refine ⟨D, acc, rfl, .inl ⟨SqL.of hD5, fun l hl2 => nx_p (ret_l ⟨_, rfl, a1, _, 0, .str "list", rfl, rfl, SqT.of ((Ex.new hl2) _ _ hta5), atI_nat (j := 0) rfl, rfl, _, rfl, ?_⟩)⟩⟩
            have e6 := Ex.new (o := .tup acc) hl2
            have x26 : ExB a H2 (upd H5 l (.tup acc)) := (Ex.but e3).trans (x5.trans (Ex.but e6))
            have r16 := (((r12.ext e3).exb x5 ha3 h5).ext e6)
            have r26 := (((r22.ext e3).exb x5 ha3 h5).ext e6)
            have hta6 := e6 _ _ hta5
            have h6 := e6 _ _ h5
            have r6 := r5.ext e6
            have hl6 : upd H5 l (.tup acc) l = some (.tup acc) := upd_same
            have hfin : 5 + Tr.szL as ≤ t0.many * (nt.sz + 5) := by
              rw [← hin, Nat.add_mul]
              omega
            generalize upd H5 l (.tup acc) = H6 at x26 r16 r26 hta6 h6 r6 hl6 ⊢
            refine ite0 (by decide) (tup_l (cons_l (c_l (cons_l ⟨_, rfl, cons_l ⟨_, rfl, a1, _, 2, v2, rfl, rfl, SqT.of hta6, atI_nat (j := 2) rfl, nil_l ⟨by show 3 ≤ sizeLine; decide, fun p7 hp7 => ?_⟩⟩⟩))))
            have e7 := Ex.new (o := .tup [.str "list", .ref l, v2]) hp7
            have ro := orest_sz r0
            exact q _ (.tup [.str "list", .tup as, orest r0]) _ _ (b2.trans (x26.trans (Ex.but e7))) (e7 _ _ h6) (.tup upd_same (.cons (.str _ (by decide)) (.cons (.tup (e7 _ _ hl6) (r6.ext e7)) (.cons (r26.ext e7) .nil)))) (by simp only [Tr.sz, Tr.szL]; omega)

end
end D0

namespace D0
open PySem PySem.Spec PyProof.Rows L2 L2H HotX Evl K9 KM
theorem norm_l {t : TS} {D : Ends} {σ σ' : L2.St} {H : Hp} (h : σ = σ') (k : t D σ' H) : t D σ H := by
  subst h
  exact k
/-- an item of a row's list -/
theorem mk_ixn {K : PySem.W.Frag} {σ : L2.St} {H0 : Hp} {n i : Nat} {p : Addr} {ur : List V} {qs : List (Str × Int)} {j : Nat} (hv : σ[i]? = some (some (.ref p))) (hp : H0 p = some (.lst ur)) (hr : Paired (RowAt H0) ur qs) (hj : j < qs.length) (h : 1 ≤ n) (l : ∀ q ∈ qs, q.1.length ≤ 1000) :
    Mk σ H0 n (tOp (rIxT K) (tOp (rIxL K) (tVar i) (tC (.int (j : Int)))) (tC (.int 0))) := fun H Q e q => by
  obtain ⟨v, r, hv2, hr2, t, rfl, ht⟩ := paired_at hr (by rw [hr.length]; exact hj)
  exact ⟨_, hv, p, _, (j : Int), .ref t, rfl, rfl, SqL.of (e _ _ hp), atI_nat (j := j) hv2, t, _, 0, .str r.1, rfl, rfl, SqT.of (e _ _ ht), atI_nat (j := 0) rfl, q _ H (Ex.refl H) (.str h (l r (List.mem_of_getElem? hr2)))⟩
section
variable {P : Program} {w : World} {K : PySem.W.Frag} {mg : Str → Option Value} {base : Heap} {f : Addr} {fd : FuncData} {k : Nat}
def spOther : Sp := fun vs H Q _ => ∃ (b wd : Addr) (nv : V) (nt : Tm) (m : Nat) (qs : List (Str × Int)) (ys zs : List Str), vs = [.ref b, .ref wd, nv] ∧ m + 4 ≤ 1000 ∧ BoxAt H b m ∧ WorldAt b H wd qs ys zs ∧ Rd H nv nt.tr ∧ nt.many ≤ 50 ∧
  ∀ (u : V) (H' : Hp), ExB b H H' → BoxAt H' b (m + 4) → RdN 1300 H' u → Q u H'
abbrev s_other : Stmt := top 50
abbrev N_other : List Str := ["box", "world", "node", "names", "strange", "words", "most", "word", "name", "any_of", "a", "b", "rows", "items", "rest", "args", "leaf", "empty"]
theorem sc_other : FnScope N_other ["box", "world", "node"] (defScope s_other) := ⟨rfl, rfl, rfl, by decide +kernel, rfl, by decide +kernel, by decide +kernel⟩
theorem ok_other (T : Txt K mg) (k_take : Take P w K mg base k) (k_inner : OkC P w K mg base k "_law_inner" ["term"] spInner) (F : FunD K "_law_other" "_law_other" (defArgs s_other) (defBody s_other) (defScope s_other) [] [] f fd) (hm : mg "_law_other" = some (.ref f)) : OkC P w K mg base (k + 1) "_law_other" ["box", "world", "node"] spOther := by
  refine okC_of F hm sc_other (fun _ _ _ _ _ _ us hl => match us, hl with | [_, _, _], _ => rfl) (fun vs H Q E h => ?_) (fun cdv A outer s H vs Q E hr h => ?_)
  · obtain ⟨b, wd, nv, nt, m, qs, ys, zs, rfl, _⟩ := h
    rfl
  · obtain ⟨b, wd, nv, nt, m, qs, ys, zs, rfl, hm, hB, hW, hnv, hmany, q⟩ := h
    refine ⟨_, PSs.nox (pss_cons (ps_asg (pv 1) (pg_unl rfl (pgs_cons (pg_name (i := 3) sc_other.nd rfl (Or.inl rfl)) (pgs_cons (pg_name (i := 4) sc_other.nd rfl (Or.inl rfl)) (pgs_cons (pg_name (i := 5) sc_other.nd rfl (Or.inl rfl)) pgs_nil))))) (pss_cons (ps_par3 rfl sc_other.nd (i := 6) (j := 7) (l := 8) rfl rfl rfl (by decide) (by decide) (by decide) rfl rfl rfl (pa_cons (pe_op op_pow pe_int pe_int) (pa_cons (pe_ix ix_list (pv 5) (pe_callK0 k_take hr (by rfl) (pa_cons (pv 0) (pa_cons pe_int pa_nil))) fun _ _ => rfl) (pa_cons (pe_ix ix_tup (pe_ix ix_list (pv 3) (pe_callK0 k_take hr (by rfl) (pa_cons (pv 0) (pa_cons pe_int pa_nil))) fun _ _ => rfl) pe_int fun _ _ => rfl) pa_nil))) rfl) (pss_cons (ps_set (i := 9) sc_other.nd rfl (Or.inl rfl) (pe_lst (pa_cons pe_non (pa_cons pe_bl (pa_cons pe_bl (pa_cons pe_int (pa_cons (pe_un un_neg pe_int) (pa_cons (pe_op op_add (pv 6) pe_int) (pa_cons pe_str (pa_cons (pv 8) (pa_cons (pv 7) (pa_cons (pe_tup pa_nil) (pa_cons (pe_tup (pa_cons pe_str pa_nil)) (pa_cons (pe_tup (pa_cons pe_str pa_nil)) (pa_cons (pe_tup (pa_cons pe_str (pa_cons (pv 8) pa_nil))) pa_nil))))))))))))))) (pss_cons (ps_set (i := 9) sc_other.nd rfl (Or.inl rfl) (pe_op op_cat (pv 9) (pe_lst (pa_cons (pe_tup (pa_cons pe_str (pa_cons (pv 7) (pa_cons pe_int pa_nil)))) (pa_cons (pe_tup (pa_cons pe_str (pa_cons (pv 7) pa_nil))) (pa_cons (pe_tup (pa_cons pe_str (pa_cons (pe_op op_add_str pe_str (pv 7)) pa_nil))) (pa_cons (pe_tup (pa_cons pe_str (pa_cons pe_str pa_nil))) (pa_cons (pe_tup (pa_cons pe_str (pa_cons (pe_op op_add_str (pv 7) pe_str) pa_nil))) pa_nil)))))))) (pss_cons (ps_set (i := 9) sc_other.nd rfl (Or.inl rfl) (pe_op op_cat (pv 9) (pe_lst (pa_cons (pe_tup (pa_cons pe_str (pa_cons pe_non pa_nil))) (pa_cons (pe_lst (pa_cons pe_str (pa_cons (pv 7) pa_nil))) (pa_cons (pe_tup (pa_cons pe_str (pa_cons (pv 8) (pa_cons (pe_tup pa_nil) pa_nil)))) (pa_cons (pe_tup (pa_cons pe_str (pa_cons (pe_ix ix_list (pv 4) pe_int fun _ _ => rfl) (pa_cons (pe_tup pa_nil) pa_nil)))) (pa_cons (pe_tup (pa_cons pe_str (pa_cons pe_str (pa_cons (pe_tup pa_nil) pa_nil)))) pa_nil)))))))) (pss_cons (ps_set (i := 9) sc_other.nd rfl (Or.inl rfl) (pe_op op_cat (pv 9) (pe_lst (pa_cons (pe_tup (pa_cons pe_str (pa_cons (pe_op op_add_str (pv 8) pe_str) (pa_cons (pe_tup pa_nil) pa_nil)))) (pa_cons (pe_tup (pa_cons pe_str (pa_cons pe_non (pa_cons (pe_tup pa_nil) pa_nil)))) (pa_cons (pe_tup (pa_cons pe_str (pa_cons (pe_tup pa_nil) (pa_cons pe_non pa_nil)))) (pa_cons (pe_tup (pa_cons pe_str (pa_cons (pe_tup pa_nil) (pa_cons (pv 7) pa_nil)))) pa_nil))))))) (pss_cons (ps_set (i := 9) sc_other.nd rfl (Or.inl rfl) (pe_op op_cat (pv 9) (pe_lst (pa_cons (pe_tup (pa_cons pe_str (pa_cons pe_int (pa_cons (pv 7) (pa_cons pe_int pa_nil))))) (pa_cons pe_dnewK (pa_cons (pe_lst pa_nil) (pa_cons (pe_disp (pps_cons pe_str pe_int pps_nil) rfl rfl (by simp) (by decide)) pa_nil))))))) (pss_cons (ps_if (pw_or (pt_val (pe_callB call_isi (by rfl) T.f_isinstance (by decide +kernel) (pa_cons (pv 2) (pa_cons (pe_bltn (v := .ty "int") (by rfl) T.f_int (by decide +kernel) rfl) pa_nil)))) (pw_or1 (pt_cmpR op_eq (pe_ix ix_tup (pv 2) pe_int fun _ _ => rfl) pe_str (nomark _)))).pt (pss_cons (ps_asg (pe_ifExp (pt_val (pe_callB call_isi (by rfl) T.f_isinstance (by decide +kernel) (pa_cons (pv 2) (pa_cons (pe_bltn (v := .ty "int") (by rfl) T.f_int (by decide +kernel) rfl) pa_nil)))) (pe_tup (pa_cons pe_int (pa_cons (pv 2) pa_nil))) (pe_tup (pa_cons (pe_ix ix_tup (pv 2) pe_int fun _ _ => rfl) (pa_cons (pe_ix ix_tup (pv 2) pe_int fun _ _ => rfl) pa_nil)))) (pg_tupC (.inl ⟨rfl, rfl⟩) (pgs_cons (pg_name (i := 10) sc_other.nd rfl (Or.inl rfl)) (pgs_cons (pg_name (i := 11) sc_other.nd rfl (Or.inl rfl)) pgs_nil)))) (pss_cons (ps_set (i := 12) sc_other.nd rfl (Or.inl rfl) (pe_lst (pa_cons (pe_tup (pa_cons pe_str (pa_cons pe_int (pa_cons (pv 7) (pa_cons (pv 11) pa_nil))))) (pa_cons (pe_tup (pa_cons pe_str (pa_cons (pe_un un_neg pe_int) (pa_cons (pv 7) (pa_cons (pv 11) pa_nil))))) (pa_cons (pe_tup (pa_cons pe_str (pa_cons pe_bl (pa_cons (pv 7) (pa_cons (pv 11) pa_nil))))) (pa_cons (pe_tup (pa_cons pe_str (pa_cons (pe_op op_add (pv 6) pe_int) (pa_cons (pv 7) (pa_cons (pv 11) pa_nil))))) pa_nil)))))) (pss_cons (ps_set (i := 12) sc_other.nd rfl (Or.inl rfl) (pe_op op_cat (pv 12) (pe_lst (pa_cons (pe_tup (pa_cons pe_str (pa_cons (pv 10) (pa_cons (pv 7) (pa_cons (pe_op op_add (pv 6) pe_int) pa_nil))))) (pa_cons (pe_tup (pa_cons pe_str (pa_cons (pv 10) (pa_cons (pv 7) (pa_cons (pe_un un_neg pe_int) pa_nil))))) (pa_cons (pe_tup (pa_cons pe_str (pa_cons (pv 10) (pa_cons (pv 7) (pa_cons pe_bl pa_nil))))) (pa_cons (pe_tup (pa_cons pe_str (pa_cons (pv 10) (pa_cons (pv 7) pa_nil)))) pa_nil))))))) (pss_cons (ps_set (i := 12) sc_other.nd rfl (Or.inl rfl) (pe_op op_cat (pv 12) (pe_lst (pa_cons (pe_tup (pa_cons pe_str (pa_cons (pv 10) (pa_cons pe_str (pa_cons (pv 11) pa_nil))))) (pa_cons (pe_tup (pa_cons pe_str (pa_cons (pv 10) (pa_cons (pv 7) (pa_cons (pv 11) (pa_cons (pv 11) pa_nil)))))) (pa_cons (pe_lst (pa_cons pe_str (pa_cons (pv 10) (pa_cons (pv 7) (pa_cons (pv 11) pa_nil))))) (pa_cons (pe_tup (pa_cons pe_str (pa_cons (pv 11) pa_nil))) pa_nil))))))) (pss_cons (ps_set (i := 12) sc_other.nd rfl (Or.inl rfl) (pe_op op_cat (pv 12) (pe_lst (pa_cons (pv 6) (pa_cons (pe_tup (pa_cons pe_str (pa_cons (pv 6) (pa_cons (pv 7) (pa_cons (pv 6) pa_nil))))) (pa_cons (pe_tup (pa_cons pe_str (pa_cons (pv 10) (pa_cons (pe_op op_add_str (pv 7) pe_str) (pa_cons (pv 11) pa_nil))))) (pa_cons pe_str (pa_cons (pe_tup (pa_cons pe_str (pa_cons (pv 10) (pa_cons (pv 7) (pa_cons (pv 11) pa_nil))))) pa_nil)))))))) (pss_one (ps_set (i := 12) sc_other.nd rfl (Or.inl rfl) (pe_op op_cat (pv 12) (pe_lst (pa_cons (pe_tup (pa_cons pe_str (pa_cons (pv 10) (pa_cons pe_non (pa_cons (pv 11) pa_nil))))) (pa_cons (pe_op op_add (pv 6) pe_int) pa_nil))))))))))) (pss_one (ps_if (pt_cmpR op_eq (pe_ix ix_tup (pv 2) pe_int fun _ _ => rfl) pe_str (nomark _)) (pss_cons (ps_par rfl sc_other.nd (i := 13) (j := 14) rfl rfl (by decide) rfl rfl (pa_cons (pe_ix ix_tup (pv 2) pe_int fun _ _ => rfl) (pa_cons (pe_ix ix_tup (pv 2) pe_int fun _ _ => rfl) pa_nil)) rfl) (pss_cons (ps_set (i := 12) sc_other.nd rfl (Or.inl rfl) (pe_lst (pa_cons (pe_tup (pa_cons pe_str (pa_cons (pe_callTy call_list_of (by rfl) T.f_list (by decide +kernel) (pa_cons (pv 13) pa_nil)) (pa_cons (pv 14) pa_nil)))) (pa_cons (pe_tup (pa_cons pe_str (pa_cons (pv 13) (pa_cons pe_str pa_nil)))) (pa_cons (pe_tup (pa_cons pe_str (pa_cons (pv 13) (pa_cons pe_str pa_nil)))) (pa_cons (pe_tup (pa_cons pe_str (pa_cons (pv 13) (pa_cons (pe_ix ix_list (pv 5) pe_int fun _ _ => rfl) pa_nil)))) pa_nil)))))) (pss_cons (ps_set (i := 12) sc_other.nd rfl (Or.inl rfl) (pe_op op_cat (pv 12) (pe_lst (pa_cons (pe_tup (pa_cons pe_str (pa_cons (pv 13) (pa_cons pe_bl pa_nil)))) (pa_cons (pe_lst (pa_cons pe_str (pa_cons (pv 13) (pa_cons (pv 14) pa_nil)))) (pa_cons (pe_tup (pa_cons pe_str (pa_cons (pv 13) pa_nil))) (pa_cons (pe_tup (pa_cons pe_str (pa_cons (pv 13) (pa_cons (pv 14) (pa_cons pe_non pa_nil))))) pa_nil))))))) (pss_cons (ps_set (i := 12) sc_other.nd rfl (Or.inl rfl) (pe_op op_cat (pv 12) (pe_lst (pa_cons (pe_tup (pa_cons pe_str (pa_cons (pv 13) (pa_cons (pv 14) pa_nil)))) (pa_cons (pe_tup (pa_cons pe_str (pa_cons (pv 13) (pa_cons (pe_op op_add_str (pv 7) pe_str) pa_nil)))) (pa_cons (pe_tup (pa_cons pe_str (pa_cons (pe_op op_catA (pv 13) (pe_tup (pa_cons pe_int pa_nil))) (pa_cons (pv 14) pa_nil)))) pa_nil)))))) (pss_one (ps_set (i := 12) sc_other.nd rfl (Or.inl rfl) (pe_op op_cat (pv 12) (pe_lst (pa_cons (pe_tup (pa_cons pe_str (pa_cons pe_non (pa_cons (pv 14) pa_nil)))) (pa_cons (pe_tup (pa_cons pe_str (pa_cons (pe_op op_catA (pv 13) (pe_tup (pa_cons (pe_tup (pa_cons pe_str (pa_cons (pe_ix ix_list (pv 5) pe_int fun _ _ => rfl) pa_nil))) (pa_cons (pe_tup (pa_cons pe_str (pa_cons (pe_ix ix_list (pv 5) pe_int fun _ _ => rfl) pa_nil))) pa_nil)))) (pa_cons (pe_ix ix_list (pv 5) pe_int fun _ _ => rfl) pa_nil)))) (pa_cons (pv 13) pa_nil))))))))))) (pss_cons (ps_par3 rfl sc_other.nd (i := 15) (j := 16) (l := 17) rfl rfl rfl (by decide) (by decide) (by decide) rfl rfl rfl (pa_cons (pe_callK0 k_inner hr (by rfl) (pa_cons (pv 2) pa_nil)) (pa_cons (pe_tup (pa_cons pe_str (pa_cons (pe_ix ix_list (pv 4) pe_int fun _ _ => rfl) (pa_cons (pe_tup pa_nil) pa_nil)))) (pa_cons (pe_tup (pa_cons pe_str (pa_cons (pe_tup pa_nil) (pa_cons pe_non pa_nil)))) pa_nil))) rfl) (pss_cons (ps_set (i := 12) sc_other.nd rfl (Or.inl rfl) (pe_lst (pa_cons (pe_tup (pa_cons pe_str (pa_cons (pv 8) (pa_cons (pe_op op_catA (pv 15) (pe_tup (pa_cons (pv 16) pa_nil))) pa_nil)))) (pa_cons (pe_tup (pa_cons pe_str (pa_cons (pv 8) (pa_cons (pe_slice sl_tupA (pv 15) po_none (po_some (pe_un un_neg pe_int))) pa_nil)))) (pa_cons (pe_tup (pa_cons pe_str (pa_cons (pv 8) (pa_cons (pe_callTy call_list_of (by rfl) T.f_list (by decide +kernel) (pa_cons (pv 15) pa_nil)) pa_nil)))) pa_nil))))) (pss_cons (ps_set (i := 12) sc_other.nd rfl (Or.inl rfl) (pe_op op_cat (pv 12) (pe_lst (pa_cons (pe_lst (pa_cons pe_str (pa_cons (pv 8) (pa_cons (pv 15) pa_nil)))) (pa_cons (pe_tup (pa_cons pe_str (pa_cons (pe_ix ix_list (pv 4) pe_int fun _ _ => rfl) (pa_cons (pv 15) pa_nil)))) (pa_cons (pe_tup (pa_cons pe_str (pa_cons (pe_ix ix_tup (pe_ix ix_list (pv 3) pe_int fun _ _ => rfl) pe_int fun _ _ => rfl) (pa_cons (pv 15) pa_nil)))) pa_nil)))))) (pss_cons (ps_set (i := 12) sc_other.nd rfl (Or.inl rfl) (pe_op op_cat (pv 12) (pe_lst (pa_cons (pe_tup (pa_cons pe_str (pa_cons (pe_ix ix_tup (pe_ix ix_list (pv 3) pe_int fun _ _ => rfl) pe_int fun _ _ => rfl) (pa_cons (pe_tup (pa_cons (pv 16) pa_nil)) pa_nil)))) (pa_cons (pe_tup (pa_cons pe_str (pa_cons (pv 8) (pa_cons (pv 15) pa_nil)))) (pa_cons (pe_tup (pa_cons pe_str (pa_cons (pv 8) (pa_cons (pv 15) (pa_cons (pe_tup pa_nil) pa_nil))))) pa_nil)))))) (pss_cons (ps_set (i := 12) sc_other.nd rfl (Or.inl rfl) (pe_op op_cat (pv 12) (pe_lst (pa_cons (pe_tup (pa_cons pe_str (pa_cons (pv 8) (pa_cons pe_non pa_nil)))) (pa_cons (pe_tup (pa_cons pe_str (pa_cons (pe_op op_add_str (pv 8) pe_str) (pa_cons (pv 15) pa_nil)))) (pa_cons (pe_tup (pa_cons pe_str (pa_cons pe_str (pa_cons (pv 15) pa_nil)))) pa_nil)))))) (pss_cons (ps_set (i := 12) sc_other.nd rfl (Or.inl rfl) (pe_op op_cat (pv 12) (pe_lst (pa_cons (pe_tup (pa_cons pe_str (pa_cons (pe_ix ix_tup (pe_ix ix_list (pv 3) pe_int fun _ _ => rfl) pe_int fun _ _ => rfl) (pa_cons (pe_tup (pa_cons (pv 16) (pa_cons (pv 16) pa_nil))) pa_nil)))) pa_nil)))) (pss_one (ps_set (i := 12) sc_other.nd rfl (Or.inl rfl) (pe_op op_cat (pv 12) (pe_lst (pa_cons (pe_tup (pa_cons pe_str (pa_cons (pe_ix ix_tup (pe_ix ix_list (pv 3) pe_int fun _ _ => rfl) pe_int fun _ _ => rfl) (pa_cons (pe_tup (pa_cons (pv 16) (pa_cons pe_int pa_nil))) pa_nil)))) (pa_cons (pe_tup (pa_cons pe_str (pa_cons (pe_ix ix_tup (pe_ix ix_list (pv 3) pe_int fun _ _ => rfl) pe_int fun _ _ => rfl) (pa_cons (pe_tup (pa_cons (pv 17) pa_nil)) pa_nil)))) (pa_cons (pe_tup (pa_cons pe_str (pa_cons (pe_ix ix_list (pv 5) pe_int fun _ _ => rfl) pa_nil))) pa_nil)))))))))))))))) (pss_one (ps_ret (pe_ifExp (pt_cmpR op_gt (pe_callK0 k_take hr (by rfl) (pa_cons (pv 0) (pa_cons pe_int pa_nil))) pe_int (nomark _)) (pe_ix ix_list (pv 12) (pe_callK0 k_take hr (by rfl) (pa_cons (pv 0) (pa_cons (pe_callB call_len_seq (by rfl) T.f_len (by decide +kernel) (pa_cons (pv 12) pa_nil)) pa_nil))) fun _ _ => rfl) (pe_ix ix_list (pv 9) (pe_callK0 k_take hr (by rfl) (pa_cons (pv 0) (pa_cons pe_int pa_nil))) fun _ _ => rfl)))))))))))), ?_⟩
    have sz := sizeLine_eq
    obtain ⟨xs0, hb0⟩ := hB.at_
    obtain ⟨⟨pr, ps, pw, ur, hw, hpr, hrr, hps, hpw, n1, n2, n3, n4⟩, lq, ly, lz, gq, gy, gz⟩ := id hW
    refine seq_l (asgG_l ⟨_, rfl, wd, _, rfl, SqL.of hw, rfl, _, _, rfl, _, _, rfl, _, _, rfl, rfl, nx_p ?_⟩)
    refine seq_l (par3_l (cons_l ⟨_, _, rfl, rfl, ⟨by decide, by decide, by decide⟩, cons_l ⟨_, rfl, take_l (b := b) (n := 6) (m := m) (fun R r => ⟨_, rfl, r⟩) (fun R r => r) (by decide) (by decide) (by omega) hB fun d1 H1 hd1 x1 hB1 => ?_⟩⟩))
    have hd1' : d1 < zs.length := by omega
    refine ⟨pw, _, (d1 : Int), .str zs[d1], rfl, rfl, SqL.of (x1 _ _ n4 hpw), atI_nat (j := d1) (by rw [List.getElem?_map, List.getElem?_eq_getElem hd1']; rfl), cons_l ⟨_, rfl, take_l (b := b) (n := 6) (m := m + 1) (fun R r => ⟨_, rfl, r⟩) (fun R r => r) (by decide) (by decide) (by omega) hB1 fun d2 H0 hd2 x2 hB2 => ?_⟩⟩
    have x02 := x1.trans x2
    have r_names : Paired (RowAt H0) ur qs := paired_imp (fun _ _ z => z.exl x02 hb0) hrr
    obtain ⟨v2, row, hv2, hrow, t2, rfl, ht2⟩ := paired_at r_names (show d2 < ur.length by rw [r_names.length]; omega)
    have p_names := x02 _ _ n2 hpr
    have p_strange := x02 _ _ n3 hps
    have p_words := x02 _ _ n4 hpw
    refine ⟨pr, _, (d2 : Int), .ref t2, rfl, rfl, SqL.of p_names, atI_nat (j := d2) hv2, t2, _, 0, .str row.1, rfl, rfl, SqT.of ht2, atI_nat (j := 0) rfl, nil_l ⟨_, _, _, rfl, ?_⟩⟩
    have lw := gz _ (List.getElem_mem hd1')
    have ln := nameB_len (gq _ (List.mem_of_getElem? hrow)).1
    have g_names : ∀ q ∈ qs, q.1.length ≤ 1000 := fun q hq => by have := nameB_len (gq q hq).1; omega
    have g_strange : ∀ y ∈ ys, y.length ≤ 1000 := fun y hy => by have := gy y hy; omega
    have g_words : ∀ z ∈ zs, z.length ≤ 1000 := fun z hz => by have := gz z hz; omega
    have hnv0 : Rd H0 nv nt.tr := Rd.box x02 hB hB2 hnv
    generalize zs[d1] = word at lw ⊢
    generalize row.1 = name at ln ⊢
    clear hv2 hrow ht2 hd1' x1 hB1
    refine nx_p (norm_l (σ' := [some (.ref b), some (.ref wd), some nv, some (.ref pr), some (.ref ps), some (.ref pw), some (.int ((10 : Int) ^ (24 : Int).toNat)), some (.str word), some (.str name), none, none, none, none, none, none, none, none, none]) rfl ?_)
    generalize ((10 : Int) ^ (24 : Int).toNat) = M
    have ea0 : Ex H0 H0 := Ex.refl _
    refine (seq_l (asg_l (list_mk (H0 := H0) (n := 1300) (k := 13) (mk_cons (mk_non (by decide)) (mk_cons (mk_bl (by decide)) (mk_cons (mk_bl (by decide)) (mk_cons (mk_int (by decide)) (mk_cons (mk_neg (by decide)) (mk_cons (mk_addI rfl (by decide)) (mk_cons (mk_str (by decide) (by decide)) (mk_cons (mk_v rfl (RdN.str (by decide) (by omega))) (mk_cons (mk_v rfl (RdN.str (by decide) (by omega))) (mk_cons (mk_tup (n := 1) (m := 1300) mk_nil (by decide) (by decide)) (mk_cons (mk_tup (n := 1) (m := 1300) (mk_cons (mk_str (by decide) (by decide)) mk_nil) (by decide) (by decide)) (mk_cons (mk_tup (n := 1) (m := 1300) (mk_cons (mk_str (by decide) (by decide)) mk_nil) (by decide) (by decide)) (mk_cons (mk_tup (n := 1) (m := 1300) (mk_cons (mk_str (by decide) (by decide)) (mk_cons (mk_v rfl (RdN.str (by decide) (by omega))) mk_nil)) (by decide) (by decide)) mk_nil))))))))))))) ea0 (by decide) fun ra0 ca0 Ha0 fa0 ga0 za0 la0 da0 => ?_)))
    have Ea0 : Ex H0 Ha0 := fa0
    refine nx_p (seq_l (asg_l (grow_mk (H0 := H0) (n := 1300) (k := 5) (H := Ha0) rfl ga0 da0 (mk_cons (mk_tup (n := 1) (m := 1300) (mk_cons (mk_str (by decide) (by decide)) (mk_cons (mk_v rfl (RdN.str (by decide) (by omega))) (mk_cons (mk_int (by decide)) mk_nil))) (by decide) (by decide)) (mk_cons (mk_tup (n := 1) (m := 1300) (mk_cons (mk_str (by decide) (by decide)) (mk_cons (mk_v rfl (RdN.str (by decide) (by omega))) mk_nil)) (by decide) (by decide)) (mk_cons (mk_tup (n := 1) (m := 1300) (mk_cons (mk_str (by decide) (by decide)) (mk_cons (mk_addSc rfl (by decide) (Nat.le_trans (Nat.add_le_add_left lw _) (by decide))) mk_nil)) (by decide) (by decide)) (mk_cons (mk_tup (n := 1) (m := 1300) (mk_cons (mk_str (by decide) (by decide)) (mk_cons (mk_str (by decide) (by decide)) mk_nil)) (by decide) (by decide)) (mk_cons (mk_tup (n := 1) (m := 1300) (mk_cons (mk_str (by decide) (by decide)) (mk_cons (mk_addSv rfl (by decide) (Nat.le_trans (Nat.add_le_add_right lw _) (by decide))) mk_nil)) (by decide) (by decide)) mk_nil))))) Ea0 (by rw [la0]; decide) fun ra1 ca1 Ha1 fa1 ga1 za1 la1 da1 => ?_)))
    rw [la0] at la1
    have Ea1 : Ex H0 Ha1 := Ea0.trans fa1
    refine nx_p (seq_l (asg_l (grow_mk (H0 := H0) (n := 1300) (k := 5) (H := Ha1) rfl ga1 da1 (mk_cons (mk_tup (n := 1) (m := 1300) (mk_cons (mk_str (by decide) (by decide)) (mk_cons (mk_non (by decide)) mk_nil)) (by decide) (by decide)) (mk_cons (mk_lst (n := 1) (m := 1300) (mk_cons (mk_str (by decide) (by decide)) (mk_cons (mk_v rfl (RdN.str (by decide) (by omega))) mk_nil)) (by decide) (by decide)) (mk_cons (mk_tup (n := 1) (m := 1300) (mk_cons (mk_str (by decide) (by decide)) (mk_cons (mk_v rfl (RdN.str (by decide) (by omega))) (mk_cons (mk_tup (n := 1) (m := 1) mk_nil (by decide) (by decide)) mk_nil))) (by decide) (by decide)) (mk_cons (mk_tup (n := 1) (m := 1300) (mk_cons (mk_str (by decide) (by decide)) (mk_cons (mk_ix (j := 0) rfl p_strange (by omega) (by decide) g_strange) (mk_cons (mk_tup (n := 1) (m := 1) mk_nil (by decide) (by decide)) mk_nil))) (by decide) (by decide)) (mk_cons (mk_tup (n := 1) (m := 1300) (mk_cons (mk_str (by decide) (by decide)) (mk_cons (mk_str (by decide) (by decide)) (mk_cons (mk_tup (n := 1) (m := 1) mk_nil (by decide) (by decide)) mk_nil))) (by decide) (by decide)) mk_nil))))) Ea1 (by rw [la1]; decide) fun ra2 ca2 Ha2 fa2 ga2 za2 la2 da2 => ?_)))
    rw [la1] at la2
    have Ea2 : Ex H0 Ha2 := Ea1.trans fa2
    refine nx_p (seq_l (asg_l (grow_mk (H0 := H0) (n := 1300) (k := 4) (H := Ha2) rfl ga2 da2 (mk_cons (mk_tup (n := 1) (m := 1300) (mk_cons (mk_str (by decide) (by decide)) (mk_cons (mk_addSv rfl (by decide) (Nat.le_trans (Nat.add_le_add_right ln _) (by decide))) (mk_cons (mk_tup (n := 1) (m := 1) mk_nil (by decide) (by decide)) mk_nil))) (by decide) (by decide)) (mk_cons (mk_tup (n := 1) (m := 1300) (mk_cons (mk_str (by decide) (by decide)) (mk_cons (mk_non (by decide)) (mk_cons (mk_tup (n := 1) (m := 1) mk_nil (by decide) (by decide)) mk_nil))) (by decide) (by decide)) (mk_cons (mk_tup (n := 1) (m := 1300) (mk_cons (mk_str (by decide) (by decide)) (mk_cons (mk_tup (n := 1) (m := 1) mk_nil (by decide) (by decide)) (mk_cons (mk_non (by decide)) mk_nil))) (by decide) (by decide)) (mk_cons (mk_tup (n := 1) (m := 1300) (mk_cons (mk_str (by decide) (by decide)) (mk_cons (mk_tup (n := 1) (m := 1) mk_nil (by decide) (by decide)) (mk_cons (mk_v rfl (RdN.str (by decide) (by omega))) mk_nil))) (by decide) (by decide)) mk_nil)))) Ea2 (by rw [la2]; decide) fun ra3 ca3 Ha3 fa3 ga3 za3 la3 da3 => ?_)))
    rw [la2] at la3
    have Ea3 : Ex H0 Ha3 := Ea2.trans fa3
    refine nx_p (seq_l (asg_l (grow_mk (H0 := H0) (n := 1300) (k := 4) (H := Ha3) rfl ga3 da3 (mk_cons (mk_tup (n := 1) (m := 1300) (mk_cons (mk_str (by decide) (by decide)) (mk_cons (mk_int (by decide)) (mk_cons (mk_v rfl (RdN.str (by decide) (by omega))) (mk_cons (mk_int (by decide)) mk_nil)))) (by decide) (by decide)) (mk_cons (mk_dic0 (by decide)) (mk_cons (mk_lst (n := 1) (m := 1300) mk_nil (by decide) (by decide)) (mk_cons (mk_dic1 (by decide)) mk_nil)))) Ea3 (by rw [la3]; decide) fun ra4 ca4 Ha4 fa4 ga4 za4 la4 da4 => ?_)))
    rw [la3] at la4
    have Ea4 : Ex H0 Ha4 := Ea3.trans fa4
    have hpa := ga4
    have lpa : ca4.length = 31 := la4
    have hnvA := hnv0.ext Ea4
    have p_namesA := Ea4 _ _ p_names
    have p_strangeA := Ea4 _ _ p_strange
    have p_wordsA := Ea4 _ _ p_words
    have r_namesA : Paired (RowAt Ha4) ur qs := Paired.ext (fun _ _ z => z.ext Ea4) r_names
    have hBA := hB2.ex Ea4
    have x0A := x02.trans (Ex.but Ea4)
    have dA := da4
    have nab : ra4 ≠ b := by
      obtain ⟨u, hu⟩ := hB2.at_
      exact (ne_of_none (Ea3 _ _ hu) za4).symm
    clear da3 da2 da1 da0 ga3 ga2 ga1 ga0 p_names p_strange p_words r_names hnv0 fa0 fa1 fa2 fa3 fa4 za0 za1 za2 za3 za4 Ea0 Ea1 Ea2 Ea3 ea0 la0 la1 la2 la3 la4 da4 ga4
    generalize Ha4 = HA at *
    refine nx_p (seq_l (join_l (S := fun σ5 : L2.St => σ5) (R := fun σ5 H5 => σ5[0]? = some (some (.ref b)) ∧ σ5[9]? = some (some (.ref ra4)) ∧ (∃ (pr5 : Addr) (cs : List V), σ5[12]? = some (some (.ref pr5)) ∧ H5 pr5 = some (.lst cs) ∧ pr5 ≠ b ∧ 1 ≤ cs.length ∧ cs.length ≤ 100 ∧ ∀ v ∈ cs, RdN 1300 H5 v) ∧ Ex HA H5) (fun σ5 H5 ⟨s0, s9, ⟨pr5, cs, s12, hcs, nrb, lc1, lc2, hall⟩, e5⟩ => ?_) (fun main => norm_l (σ' := [some (.ref b), some (.ref wd), some nv, some (.ref pr), some (.ref ps), some (.ref pw), some (.int M), some (.str word), some (.str name), some (.ref ra4), none, none, none, none, none, none, none, none]) rfl ?_)))
    · have hB5 := hBA.ex e5
      have hpa5 := e5 _ _ hpa
      have hall9 : ∀ v ∈ ca4, RdN 1300 H5 v := fun v hv => (dA v hv).ext e5
      refine nx_p (ret_l (take_l (b := b) (n := 3) (m := m + 2) (fun R r => ⟨_, s0, r⟩) (fun R r => r) (by decide) (by decide) (by omega) hB5 fun d6 H6 hd6 x6 hB6 => ⟨_, _, rfl, rfl, _, rfl, ?_⟩))
      obtain ⟨u5, hu5⟩ := hB5.at_
      obtain ⟨u6, hu6⟩ := hB6.at_
      have h6 := x6 _ _ nrb hcs
      have hpa6 := x6 _ _ nab hpa5
      dsimp only
      split
      · refine ⟨_, s12, take_l (b := b) (n := cs.length) (m := m + 3) (fun R r => ⟨_, s0, r⟩) (fun R r => ⟨_, s12, pr5, _, rfl, .inl (SqL.of h6), r⟩) lc1 (by omega) (by omega) hB6 fun d7 H7 hd7 x7 hB7 => ?_⟩
        obtain ⟨u7, hu7⟩ := hB7.at_
        exact ⟨pr5, cs, (d7 : Int), cs[d7], rfl, rfl, SqL.of (x7 _ _ nrb h6), atI_nat (j := d7) (List.getElem?_eq_getElem hd7), q _ _ (x0A.trans ((Ex.but e5).trans (x6.trans x7))) (hB7.up (by omega)) (((hall _ (List.getElem_mem hd7)).exb x6 hu5 hu6).exb x7 hu6 hu7)⟩
      · refine ⟨_, s9, take_l (b := b) (n := 31) (m := m + 3) (fun R r => ⟨_, s0, r⟩) (fun R r => r) (by decide) (by decide) (by omega) hB6 fun d7 H7 hd7 x7 hB7 => ?_⟩
        have hd7' : d7 < ca4.length := by omega
        obtain ⟨u7, hu7⟩ := hB7.at_
        exact ⟨ra4, ca4, (d7 : Int), ca4[d7], rfl, rfl, SqL.of (x7 _ _ nab hpa6), atI_nat (j := d7) (List.getElem?_eq_getElem hd7'), q _ _ (x0A.trans ((Ex.but e5).trans (x6.trans x7))) (hB7.up (by omega)) (((hall9 _ (List.getElem_mem hd7')).exb x6 hu5 hu6).exb x7 hu6 hu7)⟩
    · obtain ⟨ub, hub⟩ := hBA.at_
      have branchA : ∀ (t : TS) (D : Ends) (G0 : Hp) (a bb : Int), True := fun _ _ _ _ _ => trivial
      clear hBA x0A q hm hW hw hpr hrr hps hpw hB hb0 dA hpa lpa nab x02 hB2 hnv
      refine ⟨_, rfl, ?_⟩
      dsimp only [tCons, tC, tNil]
      cases nt with
      | int i0 =>
        cases hnvA
        refine Bas.isi (T := "int") (r := true) (.int i0) rfl ⟨_, rfl, ite1 rfl (ite1 rfl ?_)⟩
        refine seq_l (asgG_l ⟨_, rfl, ?_⟩)
        dsimp only [tCons, tC, tNil]
        refine Bas.isi (T := "int") (r := true) (.int i0) rfl ⟨_, rfl, ite1 rfl (tup_l (cons_l (c_l (cons_l ⟨_, rfl, nil_l ⟨by show 2 ≤ sizeLine; decide, fun p hp => ⟨p, _, rfl, SqT.of upd_same, rfl, _, _, rfl, _, _, rfl, rfl, ?_⟩⟩⟩))))⟩
        have exG : Ex HA (upd HA p (.tup [.int 1, .int i0])) := Ex.new hp
        show tSeq _ _ _ _ (upd HA p (.tup [.int 1, .int i0]))
        refine norm_l (σ' := [some (.ref b), some (.ref wd), some (.int i0), some (.ref pr), some (.ref ps), some (.ref pw), some (.int M), some (.str word), some (.str name), some (.ref ra4), some (.int 1), some (.int i0), none, none, none, none, none, none]) rfl ?_
        generalize upd HA p (.tup [.int 1, .int i0]) = G0 at exG ⊢
        have eb0 : Ex G0 G0 := Ex.refl _
        refine (seq_l (asg_l (list_mk (H0 := G0) (n := 1300) (k := 4) (mk_cons (mk_tup (n := 1) (m := 1300) (mk_cons (mk_str (by decide) (by decide)) (mk_cons (mk_int (by decide)) (mk_cons (mk_v rfl (RdN.str (by decide) (by omega))) (mk_cons (mk_v rfl (RdN.int (by decide))) mk_nil)))) (by decide) (by decide)) (mk_cons (mk_tup (n := 1) (m := 1300) (mk_cons (mk_str (by decide) (by decide)) (mk_cons (mk_neg (by decide)) (mk_cons (mk_v rfl (RdN.str (by decide) (by omega))) (mk_cons (mk_v rfl (RdN.int (by decide))) mk_nil)))) (by decide) (by decide)) (mk_cons (mk_tup (n := 1) (m := 1300) (mk_cons (mk_str (by decide) (by decide)) (mk_cons (mk_bl (by decide)) (mk_cons (mk_v rfl (RdN.str (by decide) (by omega))) (mk_cons (mk_v rfl (RdN.int (by decide))) mk_nil)))) (by decide) (by decide)) (mk_cons (mk_tup (n := 1) (m := 1300) (mk_cons (mk_str (by decide) (by decide)) (mk_cons (mk_addI rfl (by decide)) (mk_cons (mk_v rfl (RdN.str (by decide) (by omega))) (mk_cons (mk_v rfl (RdN.int (by decide))) mk_nil)))) (by decide) (by decide)) mk_nil)))) eb0 (by decide) fun rb0 cb0 Hb0 fb0 gb0 zb0 lb0 db0 => ?_)))
        have Eb0 : Ex G0 Hb0 := fb0
        refine nx_p (seq_l (asg_l (grow_mk (H0 := G0) (n := 1300) (k := 4) (H := Hb0) rfl gb0 db0 (mk_cons (mk_tup (n := 1) (m := 1300) (mk_cons (mk_str (by decide) (by decide)) (mk_cons (mk_v rfl (RdN.int (by decide))) (mk_cons (mk_v rfl (RdN.str (by decide) (by omega))) (mk_cons (mk_addI rfl (by decide)) mk_nil)))) (by decide) (by decide)) (mk_cons (mk_tup (n := 1) (m := 1300) (mk_cons (mk_str (by decide) (by decide)) (mk_cons (mk_v rfl (RdN.int (by decide))) (mk_cons (mk_v rfl (RdN.str (by decide) (by omega))) (mk_cons (mk_neg (by decide)) mk_nil)))) (by decide) (by decide)) (mk_cons (mk_tup (n := 1) (m := 1300) (mk_cons (mk_str (by decide) (by decide)) (mk_cons (mk_v rfl (RdN.int (by decide))) (mk_cons (mk_v rfl (RdN.str (by decide) (by omega))) (mk_cons (mk_bl (by decide)) mk_nil)))) (by decide) (by decide)) (mk_cons (mk_tup (n := 1) (m := 1300) (mk_cons (mk_str (by decide) (by decide)) (mk_cons (mk_v rfl (RdN.int (by decide))) (mk_cons (mk_v rfl (RdN.str (by decide) (by omega))) mk_nil))) (by decide) (by decide)) mk_nil)))) Eb0 (by rw [lb0]; decide) fun rb1 cb1 Hb1 fb1 gb1 zb1 lb1 db1 => ?_)))
        rw [lb0] at lb1
        have Eb1 : Ex G0 Hb1 := Eb0.trans fb1
        refine nx_p (seq_l (asg_l (grow_mk (H0 := G0) (n := 1300) (k := 4) (H := Hb1) rfl gb1 db1 (mk_cons (mk_tup (n := 1) (m := 1300) (mk_cons (mk_str (by decide) (by decide)) (mk_cons (mk_v rfl (RdN.int (by decide))) (mk_cons (mk_str (by decide) (by decide)) (mk_cons (mk_v rfl (RdN.int (by decide))) mk_nil)))) (by decide) (by decide)) (mk_cons (mk_tup (n := 1) (m := 1300) (mk_cons (mk_str (by decide) (by decide)) (mk_cons (mk_v rfl (RdN.int (by decide))) (mk_cons (mk_v rfl (RdN.str (by decide) (by omega))) (mk_cons (mk_v rfl (RdN.int (by decide))) (mk_cons (mk_v rfl (RdN.int (by decide))) mk_nil))))) (by decide) (by decide)) (mk_cons (mk_lst (n := 1) (m := 1300) (mk_cons (mk_str (by decide) (by decide)) (mk_cons (mk_v rfl (RdN.int (by decide))) (mk_cons (mk_v rfl (RdN.str (by decide) (by omega))) (mk_cons (mk_v rfl (RdN.int (by decide))) mk_nil)))) (by decide) (by decide)) (mk_cons (mk_tup (n := 1) (m := 1300) (mk_cons (mk_str (by decide) (by decide)) (mk_cons (mk_v rfl (RdN.int (by decide))) mk_nil)) (by decide) (by decide)) mk_nil)))) Eb1 (by rw [lb1]; decide) fun rb2 cb2 Hb2 fb2 gb2 zb2 lb2 db2 => ?_)))
        rw [lb1] at lb2
        have Eb2 : Ex G0 Hb2 := Eb1.trans fb2
        refine nx_p (seq_l (asg_l (grow_mk (H0 := G0) (n := 1300) (k := 5) (H := Hb2) rfl gb2 db2 (mk_cons (mk_v rfl (RdN.int (by decide))) (mk_cons (mk_tup (n := 1) (m := 1300) (mk_cons (mk_str (by decide) (by decide)) (mk_cons (mk_v rfl (RdN.int (by decide))) (mk_cons (mk_v rfl (RdN.str (by decide) (by omega))) (mk_cons (mk_v rfl (RdN.int (by decide))) mk_nil)))) (by decide) (by decide)) (mk_cons (mk_tup (n := 1) (m := 1300) (mk_cons (mk_str (by decide) (by decide)) (mk_cons (mk_v rfl (RdN.int (by decide))) (mk_cons (mk_addSv rfl (by decide) (Nat.le_trans (Nat.add_le_add_right lw _) (by decide))) (mk_cons (mk_v rfl (RdN.int (by decide))) mk_nil)))) (by decide) (by decide)) (mk_cons (mk_str (by decide) (by decide)) (mk_cons (mk_tup (n := 1) (m := 1300) (mk_cons (mk_str (by decide) (by decide)) (mk_cons (mk_v rfl (RdN.int (by decide))) (mk_cons (mk_v rfl (RdN.str (by decide) (by omega))) (mk_cons (mk_v rfl (RdN.int (by decide))) mk_nil)))) (by decide) (by decide)) mk_nil))))) Eb2 (by rw [lb2]; decide) fun rb3 cb3 Hb3 fb3 gb3 zb3 lb3 db3 => ?_)))
        rw [lb2] at lb3
        have Eb3 : Ex G0 Hb3 := Eb2.trans fb3
        refine nx_p ((asg_l (grow_mk (H0 := G0) (n := 1300) (k := 2) (H := Hb3) rfl gb3 db3 (mk_cons (mk_tup (n := 1) (m := 1300) (mk_cons (mk_str (by decide) (by decide)) (mk_cons (mk_v rfl (RdN.int (by decide))) (mk_cons (mk_non (by decide)) (mk_cons (mk_v rfl (RdN.int (by decide))) mk_nil)))) (by decide) (by decide)) (mk_cons (mk_addI rfl (by decide)) mk_nil)) Eb3 (by rw [lb3]; decide) fun rb4 cb4 Hb4 fb4 gb4 zb4 lb4 db4 => ?_)))
        rw [lb3] at lb4
        have Eb4 : Ex G0 Hb4 := Eb3.trans fb4
        exact main _ _ ⟨rfl, rfl, ⟨rb4, cb4, rfl, gb4, (ne_of_none ((exG.trans Eb3) _ _ hub) zb4).symm, by omega, by omega, db4⟩, exG.trans Eb4⟩
      | form x y z =>
        obtain ⟨a1, us, rfl, ha, r⟩ := Rd.tup_inv hnvA
        obtain ⟨v0, v1, v2, v3, rfl, r0, r1, r3⟩ : ∃ v0 v1 v2 v3, us = [v0, v1, v2, v3] ∧ Rd HA v0 (.str "form") ∧ Rd HA v1 (.int x) ∧ Rd HA v3 (.int z) := by cases r with | cons r0 r => cases r with | cons r1 r => cases r with | cons r2 r => cases r with | cons r3 r => cases r; exact ⟨_, _, _, _, rfl, r0, r1, r3⟩
        cases r0
        cases r1
        cases r3
        refine Bas.isi (T := "int") (r := false) (.tup ha) rfl ⟨_, rfl, ite0 (by decide) ⟨_, rfl, a1, _, 0, .str "form", rfl, rfl, SqT.of ha, atI_nat (j := 0) rfl, rfl, _, rfl, ite1 (by decide) ?_⟩⟩
        refine seq_l (asgG_l ⟨_, rfl, ?_⟩)
        dsimp only [tCons, tC, tNil]
        refine Bas.isi (T := "int") (r := false) (.tup ha) rfl ⟨_, rfl, ite0 (by decide) (tup_l (cons_l ⟨_, rfl, a1, _, 1, .int x, rfl, rfl, SqT.of ha, atI_nat (j := 1) rfl, cons_l ⟨_, rfl, a1, _, 3, .int z, rfl, rfl, SqT.of ha, atI_nat (j := 3) rfl, nil_l ⟨by show 2 ≤ sizeLine; decide, fun p hp => ⟨p, _, rfl, SqT.of upd_same, rfl, _, _, rfl, _, _, rfl, rfl, ?_⟩⟩⟩⟩))⟩
        have exG : Ex HA (upd HA p (.tup [.int x, .int z])) := Ex.new hp
        show tSeq _ _ _ _ (upd HA p (.tup [.int x, .int z]))
        refine norm_l (σ' := [some (.ref b), some (.ref wd), some (.ref a1), some (.ref pr), some (.ref ps), some (.ref pw), some (.int M), some (.str word), some (.str name), some (.ref ra4), some (.int x), some (.int z), none, none, none, none, none, none]) rfl ?_
        generalize upd HA p (.tup [.int x, .int z]) = G0 at exG ⊢
        have eb0 : Ex G0 G0 := Ex.refl _
        refine (seq_l (asg_l (list_mk (H0 := G0) (n := 1300) (k := 4) (mk_cons (mk_tup (n := 1) (m := 1300) (mk_cons (mk_str (by decide) (by decide)) (mk_cons (mk_int (by decide)) (mk_cons (mk_v rfl (RdN.str (by decide) (by omega))) (mk_cons (mk_v rfl (RdN.int (by decide))) mk_nil)))) (by decide) (by decide)) (mk_cons (mk_tup (n := 1) (m := 1300) (mk_cons (mk_str (by decide) (by decide)) (mk_cons (mk_neg (by decide)) (mk_cons (mk_v rfl (RdN.str (by decide) (by omega))) (mk_cons (mk_v rfl (RdN.int (by decide))) mk_nil)))) (by decide) (by decide)) (mk_cons (mk_tup (n := 1) (m := 1300) (mk_cons (mk_str (by decide) (by decide)) (mk_cons (mk_bl (by decide)) (mk_cons (mk_v rfl (RdN.str (by decide) (by omega))) (mk_cons (mk_v rfl (RdN.int (by decide))) mk_nil)))) (by decide) (by decide)) (mk_cons (mk_tup (n := 1) (m := 1300) (mk_cons (mk_str (by decide) (by decide)) (mk_cons (mk_addI rfl (by decide)) (mk_cons (mk_v rfl (RdN.str (by decide) (by omega))) (mk_cons (mk_v rfl (RdN.int (by decide))) mk_nil)))) (by decide) (by decide)) mk_nil)))) eb0 (by decide) fun rb0 cb0 Hb0 fb0 gb0 zb0 lb0 db0 => ?_)))
        have Eb0 : Ex G0 Hb0 := fb0
        refine nx_p (seq_l (asg_l (grow_mk (H0 := G0) (n := 1300) (k := 4) (H := Hb0) rfl gb0 db0 (mk_cons (mk_tup (n := 1) (m := 1300) (mk_cons (mk_str (by decide) (by decide)) (mk_cons (mk_v rfl (RdN.int (by decide))) (mk_cons (mk_v rfl (RdN.str (by decide) (by omega))) (mk_cons (mk_addI rfl (by decide)) mk_nil)))) (by decide) (by decide)) (mk_cons (mk_tup (n := 1) (m := 1300) (mk_cons (mk_str (by decide) (by decide)) (mk_cons (mk_v rfl (RdN.int (by decide))) (mk_cons (mk_v rfl (RdN.str (by decide) (by omega))) (mk_cons (mk_neg (by decide)) mk_nil)))) (by decide) (by decide)) (mk_cons (mk_tup (n := 1) (m := 1300) (mk_cons (mk_str (by decide) (by decide)) (mk_cons (mk_v rfl (RdN.int (by decide))) (mk_cons (mk_v rfl (RdN.str (by decide) (by omega))) (mk_cons (mk_bl (by decide)) mk_nil)))) (by decide) (by decide)) (mk_cons (mk_tup (n := 1) (m := 1300) (mk_cons (mk_str (by decide) (by decide)) (mk_cons (mk_v rfl (RdN.int (by decide))) (mk_cons (mk_v rfl (RdN.str (by decide) (by omega))) mk_nil))) (by decide) (by decide)) mk_nil)))) Eb0 (by rw [lb0]; decide) fun rb1 cb1 Hb1 fb1 gb1 zb1 lb1 db1 => ?_)))
        rw [lb0] at lb1
        have Eb1 : Ex G0 Hb1 := Eb0.trans fb1
        refine nx_p (seq_l (asg_l (grow_mk (H0 := G0) (n := 1300) (k := 4) (H := Hb1) rfl gb1 db1 (mk_cons (mk_tup (n := 1) (m := 1300) (mk_cons (mk_str (by decide) (by decide)) (mk_cons (mk_v rfl (RdN.int (by decide))) (mk_cons (mk_str (by decide) (by decide)) (mk_cons (mk_v rfl (RdN.int (by decide))) mk_nil)))) (by decide) (by decide)) (mk_cons (mk_tup (n := 1) (m := 1300) (mk_cons (mk_str (by decide) (by decide)) (mk_cons (mk_v rfl (RdN.int (by decide))) (mk_cons (mk_v rfl (RdN.str (by decide) (by omega))) (mk_cons (mk_v rfl (RdN.int (by decide))) (mk_cons (mk_v rfl (RdN.int (by decide))) mk_nil))))) (by decide) (by decide)) (mk_cons (mk_lst (n := 1) (m := 1300) (mk_cons (mk_str (by decide) (by decide)) (mk_cons (mk_v rfl (RdN.int (by decide))) (mk_cons (mk_v rfl (RdN.str (by decide) (by omega))) (mk_cons (mk_v rfl (RdN.int (by decide))) mk_nil)))) (by decide) (by decide)) (mk_cons (mk_tup (n := 1) (m := 1300) (mk_cons (mk_str (by decide) (by decide)) (mk_cons (mk_v rfl (RdN.int (by decide))) mk_nil)) (by decide) (by decide)) mk_nil)))) Eb1 (by rw [lb1]; decide) fun rb2 cb2 Hb2 fb2 gb2 zb2 lb2 db2 => ?_)))
        rw [lb1] at lb2
        have Eb2 : Ex G0 Hb2 := Eb1.trans fb2
        refine nx_p (seq_l (asg_l (grow_mk (H0 := G0) (n := 1300) (k := 5) (H := Hb2) rfl gb2 db2 (mk_cons (mk_v rfl (RdN.int (by decide))) (mk_cons (mk_tup (n := 1) (m := 1300) (mk_cons (mk_str (by decide) (by decide)) (mk_cons (mk_v rfl (RdN.int (by decide))) (mk_cons (mk_v rfl (RdN.str (by decide) (by omega))) (mk_cons (mk_v rfl (RdN.int (by decide))) mk_nil)))) (by decide) (by decide)) (mk_cons (mk_tup (n := 1) (m := 1300) (mk_cons (mk_str (by decide) (by decide)) (mk_cons (mk_v rfl (RdN.int (by decide))) (mk_cons (mk_addSv rfl (by decide) (Nat.le_trans (Nat.add_le_add_right lw _) (by decide))) (mk_cons (mk_v rfl (RdN.int (by decide))) mk_nil)))) (by decide) (by decide)) (mk_cons (mk_str (by decide) (by decide)) (mk_cons (mk_tup (n := 1) (m := 1300) (mk_cons (mk_str (by decide) (by decide)) (mk_cons (mk_v rfl (RdN.int (by decide))) (mk_cons (mk_v rfl (RdN.str (by decide) (by omega))) (mk_cons (mk_v rfl (RdN.int (by decide))) mk_nil)))) (by decide) (by decide)) mk_nil))))) Eb2 (by rw [lb2]; decide) fun rb3 cb3 Hb3 fb3 gb3 zb3 lb3 db3 => ?_)))
        rw [lb2] at lb3
        have Eb3 : Ex G0 Hb3 := Eb2.trans fb3
        refine nx_p ((asg_l (grow_mk (H0 := G0) (n := 1300) (k := 2) (H := Hb3) rfl gb3 db3 (mk_cons (mk_tup (n := 1) (m := 1300) (mk_cons (mk_str (by decide) (by decide)) (mk_cons (mk_v rfl (RdN.int (by decide))) (mk_cons (mk_non (by decide)) (mk_cons (mk_v rfl (RdN.int (by decide))) mk_nil)))) (by decide) (by decide)) (mk_cons (mk_addI rfl (by decide)) mk_nil)) Eb3 (by rw [lb3]; decide) fun rb4 cb4 Hb4 fb4 gb4 zb4 lb4 db4 => ?_)))
        rw [lb3] at lb4
        have Eb4 : Ex G0 Hb4 := Eb3.trans fb4
        exact main _ _ ⟨rfl, rfl, ⟨rb4, cb4, rfl, gb4, (ne_of_none ((exG.trans Eb3) _ _ hub) zb4).symm, by omega, by omega, db4⟩, exG.trans Eb4⟩
      | lst ts r0 =>
        obtain ⟨a1, us, rfl, ha, r⟩ := Rd.tup_inv hnvA
        obtain ⟨v0, v1, v2, rfl, q0, r1, r2⟩ : ∃ v0 v1 v2, us = [v0, v1, v2] ∧ Rd HA v0 (.str "list") ∧ Rd HA v1 (.tup (Tm.trL ts)) ∧ Rd HA v2 (orest r0) := by cases r with | cons q0 r => cases r with | cons r1 r => cases r with | cons r2 r => cases r; exact ⟨_, _, _, rfl, q0, r1, r2⟩
        cases q0
        obtain ⟨a3, us3, rfl, p_items, x_items⟩ := Rd.tup_inv r1
        have s_items : Tr.szL (Tm.trL ts) ≤ 300 := Nat.le_trans (Tm.szL_le ts) (by simp [Tm.many] at hmany; omega)
        have R_items : RdN 300 HA (.ref a3) := ⟨_, r1, by simp [Tr.sz]; have := Tm.szL_le ts; simp [Tm.many] at hmany; omega⟩
        have R_rest : RdN 1 HA v2 := ⟨_, r2, by rw [orest_sz]; decide⟩
        have lx : us3.length ≤ 1000 := by
          have h1 := x_items.len
          have h2 := szL_len (Tm.trL ts)
          omega
        have p_words := p_wordsA
        have exG : Ex HA HA := Ex.refl HA
        refine Bas.isi (T := "int") (r := false) (.tup ha) rfl ⟨_, rfl, ite0 (by decide) ⟨_, rfl, a1, _, 0, .str "list", rfl, rfl, SqT.of ha, atI_nat (j := 0) rfl, rfl, _, rfl, ite0 (by decide) ⟨_, rfl, a1, _, 0, .str "list", rfl, rfl, SqT.of ha, atI_nat (j := 0) rfl, rfl, _, rfl, ite1 (by decide) ?_⟩⟩⟩
        refine seq_l (par_l (cons_l ⟨_, rfl, a1, _, 1, .ref a3, rfl, rfl, SqT.of ha, atI_nat (j := 1) rfl, cons_l ⟨_, rfl, a1, _, 2, v2, rfl, rfl, SqT.of ha, atI_nat (j := 2) rfl, nil_l ⟨_, _, rfl, nx_p ?_⟩⟩⟩))
        refine norm_l (σ' := [some (.ref b), some (.ref wd), some (.ref a1), some (.ref pr), some (.ref ps), some (.ref pw), some (.int M), some (.str word), some (.str name), some (.ref ra4), none, none, none, some (.ref a3), some v2, none, none, none]) rfl ?_
        have eb0 : Ex HA HA := Ex.refl _
        refine (seq_l (asg_l (list_mk (H0 := HA) (n := 1300) (k := 4) (mk_cons (mk_tup (n := 1) (m := 1300) (mk_cons (mk_str (by decide) (by decide)) (mk_cons (mk_listOf rfl p_items (by decide)) (mk_cons (mk_v rfl (RdN.up R_rest (by decide))) mk_nil))) (by decide) (by decide)) (mk_cons (mk_tup (n := 300) (m := 1300) (mk_cons (mk_str (by decide) (by decide)) (mk_cons (mk_v rfl (RdN.up R_items (by decide))) (mk_cons (mk_str (by decide) (by decide)) mk_nil))) (by decide) (by decide)) (mk_cons (mk_tup (n := 300) (m := 1300) (mk_cons (mk_str (by decide) (by decide)) (mk_cons (mk_v rfl (RdN.up R_items (by decide))) (mk_cons (mk_str (by decide) (by decide)) mk_nil))) (by decide) (by decide)) (mk_cons (mk_tup (n := 300) (m := 1300) (mk_cons (mk_str (by decide) (by decide)) (mk_cons (mk_v rfl (RdN.up R_items (by decide))) (mk_cons (mk_ix (j := 0) rfl p_words (by omega) (by decide) g_words) mk_nil))) (by decide) (by decide)) mk_nil)))) eb0 (by decide) fun rb0 cb0 Hb0 fb0 gb0 zb0 lb0 db0 => ?_)))
        have Eb0 : Ex HA Hb0 := fb0
        refine nx_p (seq_l (asg_l (grow_mk (H0 := HA) (n := 1300) (k := 4) (H := Hb0) rfl gb0 db0 (mk_cons (mk_tup (n := 300) (m := 1300) (mk_cons (mk_str (by decide) (by decide)) (mk_cons (mk_v rfl (RdN.up R_items (by decide))) (mk_cons (mk_bl (by decide)) mk_nil))) (by decide) (by decide)) (mk_cons (mk_lst (n := 300) (m := 1300) (mk_cons (mk_str (by decide) (by decide)) (mk_cons (mk_v rfl (RdN.up R_items (by decide))) (mk_cons (mk_v rfl (RdN.up R_rest (by decide))) mk_nil))) (by decide) (by decide)) (mk_cons (mk_tup (n := 300) (m := 1300) (mk_cons (mk_str (by decide) (by decide)) (mk_cons (mk_v rfl (RdN.up R_items (by decide))) mk_nil)) (by decide) (by decide)) (mk_cons (mk_tup (n := 300) (m := 1300) (mk_cons (mk_str (by decide) (by decide)) (mk_cons (mk_v rfl (RdN.up R_items (by decide))) (mk_cons (mk_v rfl (RdN.up R_rest (by decide))) (mk_cons (mk_non (by decide)) mk_nil)))) (by decide) (by decide)) mk_nil)))) Eb0 (by rw [lb0]; decide) fun rb1 cb1 Hb1 fb1 gb1 zb1 lb1 db1 => ?_)))
        rw [lb0] at lb1
        have Eb1 : Ex HA Hb1 := Eb0.trans fb1
        refine nx_p (seq_l (asg_l (grow_mk (H0 := HA) (n := 1300) (k := 3) (H := Hb1) rfl gb1 db1 (mk_cons (mk_tup (n := 300) (m := 1300) (mk_cons (mk_str (by decide) (by decide)) (mk_cons (mk_v rfl (RdN.up R_items (by decide))) (mk_cons (mk_v rfl (RdN.up R_rest (by decide))) mk_nil))) (by decide) (by decide)) (mk_cons (mk_tup (n := 300) (m := 1300) (mk_cons (mk_str (by decide) (by decide)) (mk_cons (mk_v rfl (RdN.up R_items (by decide))) (mk_cons (mk_addSv rfl (by decide) (Nat.le_trans (Nat.add_le_add_right lw _) (by decide))) mk_nil))) (by decide) (by decide)) (mk_cons (mk_tup (n := 302) (m := 1300) (mk_cons (mk_str (by decide) (by decide)) (mk_cons (mk_cat (n := 1) (s := 300) rfl p_items x_items s_items (mk_cons (mk_int (by decide)) mk_nil) (by decide) (by omega) (by decide)) (mk_cons (mk_v rfl (RdN.up R_rest (by decide))) mk_nil))) (by decide) (by decide)) mk_nil))) Eb1 (by rw [lb1]; decide) fun rb2 cb2 Hb2 fb2 gb2 zb2 lb2 db2 => ?_)))
        rw [lb1] at lb2
        have Eb2 : Ex HA Hb2 := Eb1.trans fb2
        refine nx_p ((asg_l (grow_mk (H0 := HA) (n := 1300) (k := 3) (H := Hb2) rfl gb2 db2 (mk_cons (mk_tup (n := 1) (m := 1300) (mk_cons (mk_str (by decide) (by decide)) (mk_cons (mk_non (by decide)) (mk_cons (mk_v rfl (RdN.up R_rest (by decide))) mk_nil))) (by decide) (by decide)) (mk_cons (mk_tup (n := 307) (m := 1300) (mk_cons (mk_str (by decide) (by decide)) (mk_cons (mk_cat (n := 3) (s := 300) rfl p_items x_items s_items (mk_cons (mk_tup (n := 1) (m := 3) (mk_cons (mk_str (by decide) (by decide)) (mk_cons (mk_ix (j := 0) rfl p_words (by omega) (by decide) g_words) mk_nil)) (by decide) (by decide)) (mk_cons (mk_tup (n := 1) (m := 3) (mk_cons (mk_str (by decide) (by decide)) (mk_cons (mk_ix (j := 2) rfl p_words (by omega) (by decide) g_words) mk_nil)) (by decide) (by decide)) mk_nil)) (by decide) (by omega) (by decide)) (mk_cons (mk_ix (j := 2) rfl p_words (by omega) (by decide) g_words) mk_nil))) (by decide) (by decide)) (mk_cons (mk_v rfl (RdN.up R_items (by decide))) mk_nil))) Eb2 (by rw [lb2]; decide) fun rb3 cb3 Hb3 fb3 gb3 zb3 lb3 db3 => ?_)))
        rw [lb2] at lb3
        have Eb3 : Ex HA Hb3 := Eb2.trans fb3
        exact main _ _ ⟨rfl, rfl, ⟨rb3, cb3, rfl, gb3, (ne_of_none ((exG.trans Eb2) _ _ hub) zb3).symm, by omega, by omega, db3⟩, exG.trans Eb3⟩
      | var z =>
        obtain ⟨t0, ht0⟩ : ∃ t0 : Tm, t0 = .var z := ⟨_, rfl⟩
        obtain ⟨a1, us, rfl, ha, r⟩ := Rd.tup_inv hnvA
        obtain ⟨v0, vr, rfl, r0⟩ : ∃ v0 vr, us = v0 :: vr ∧ Rd HA v0 (.str "var") := by cases r with | cons r0 _ => exact ⟨_, _, rfl, r0⟩
        cases r0
        refine Bas.isi (T := "int") (r := false) (.tup ha) rfl ⟨_, rfl, ite0 (by decide) ⟨_, rfl, a1, _, 0, .str "var", rfl, rfl, SqT.of ha, atI_nat (j := 0) rfl, rfl, _, rfl, ite0 (by decide) ⟨_, rfl, a1, _, 0, .str "var", rfl, rfl, SqT.of ha, atI_nat (j := 0) rfl, rfl, _, rfl, ite0 (by decide) ?_⟩⟩⟩
        have p_strange := p_strangeA
        refine seq_l (par3_l (cons_l ⟨_, rfl, .ref a1, t0, rfl, by rw [ht0]; exact hnvA, fun a3 us3 H3 e3 h3 r3 => ?_⟩))
        refine cons_l ((mk_tup (n := 1) (m := 10) (mk_cons (mk_str (by decide) (by decide)) (mk_cons (mk_ix (j := 1) rfl p_strange (by omega) (by decide) g_strange) (mk_cons (mk_tup (n := 1) (m := 1) mk_nil (by decide) (by decide)) mk_nil))) (by decide) (by decide)) H3 _ e3 fun vl H4 e4 hvl => cons_l ((mk_tup (n := 1) (m := 10) (mk_cons (mk_str (by decide) (by decide)) (mk_cons (mk_tup (n := 1) (m := 1) mk_nil (by decide) (by decide)) (mk_cons (mk_non (by decide)) mk_nil))) (by decide) (by decide)) H4 _ (e3.trans e4) fun ve G0 e5 hve => nil_l ⟨_, _, _, rfl, nx_p ?_⟩))
        have exG : Ex HA G0 := e3.trans (e4.trans e5)
        clear p_strange
        have p_strange := exG _ _ p_strangeA
        have p_words := exG _ _ p_wordsA
        have p_names := exG _ _ p_namesA
        have r_names : Paired (RowAt G0) ur qs := Paired.ext (fun _ _ z => z.ext exG) r_namesA
        have p_args := (e4.trans e5) _ _ h3
        have x_args := r3.ext (e4.trans e5)
        have hml : Tm.manyL t0.inner ≤ 49 := by
          have := t0.inner_many
          rw [← ht0] at hmany
          omega
        have hsz := Tm.szL_le t0.inner
        have s_args : Tr.szL (Tm.trL t0.inner) ≤ 300 := by omega
        have R_args : RdN 300 G0 (.ref a3) := ⟨_, .tup p_args x_args, by simp [Tr.sz]; omega⟩
        have lx : us3.length ≤ 1000 := by
          have h1 := x_args.len
          have h2 := szL_len (Tm.trL t0.inner)
          omega
        have R_leaf : RdN 10 G0 vl := hvl.ext e5
        have R_empty : RdN 10 G0 ve := hve
        refine norm_l (σ' := [some (.ref b), some (.ref wd), some (.ref a1), some (.ref pr), some (.ref ps), some (.ref pw), some (.int M), some (.str word), some (.str name), some (.ref ra4), none, none, none, none, none, some (.ref a3), some vl, some ve]) rfl ?_
        have eb0 : Ex G0 G0 := Ex.refl _
        refine (seq_l (asg_l (list_mk (H0 := G0) (n := 1300) (k := 3) (mk_cons (mk_tup (n := 311) (m := 1300) (mk_cons (mk_str (by decide) (by decide)) (mk_cons (mk_v rfl (RdN.str (by decide) (by omega))) (mk_cons (mk_cat (n := 10) (s := 300) rfl p_args x_args s_args (mk_cons (mk_v rfl (RdN.up R_leaf (by decide))) mk_nil) (by decide) (by omega) (by decide)) mk_nil))) (by decide) (by decide)) (mk_cons (mk_tup (n := 301) (m := 1300) (mk_cons (mk_str (by decide) (by decide)) (mk_cons (mk_v rfl (RdN.str (by decide) (by omega))) (mk_cons (mk_cut rfl p_args x_args (by omega)) mk_nil))) (by decide) (by decide)) (mk_cons (mk_tup (n := 1) (m := 1300) (mk_cons (mk_str (by decide) (by decide)) (mk_cons (mk_v rfl (RdN.str (by decide) (by omega))) (mk_cons (mk_listOf rfl p_args (by decide)) mk_nil))) (by decide) (by decide)) mk_nil))) eb0 (by decide) fun rb0 cb0 Hb0 fb0 gb0 zb0 lb0 db0 => ?_)))
        have Eb0 : Ex G0 Hb0 := fb0
        refine nx_p (seq_l (asg_l (grow_mk (H0 := G0) (n := 1300) (k := 3) (H := Hb0) rfl gb0 db0 (mk_cons (mk_lst (n := 300) (m := 1300) (mk_cons (mk_str (by decide) (by decide)) (mk_cons (mk_v rfl (RdN.str (by decide) (by omega))) (mk_cons (mk_v rfl (RdN.up R_args (by decide))) mk_nil))) (by decide) (by decide)) (mk_cons (mk_tup (n := 300) (m := 1300) (mk_cons (mk_str (by decide) (by decide)) (mk_cons (mk_ix (j := 2) rfl p_strange (by omega) (by decide) g_strange) (mk_cons (mk_v rfl (RdN.up R_args (by decide))) mk_nil))) (by decide) (by decide)) (mk_cons (mk_tup (n := 300) (m := 1300) (mk_cons (mk_str (by decide) (by decide)) (mk_cons (mk_ixn (j := 0) rfl p_names r_names (by omega) (by decide) g_names) (mk_cons (mk_v rfl (RdN.up R_args (by decide))) mk_nil))) (by decide) (by decide)) mk_nil))) Eb0 (by rw [lb0]; decide) fun rb1 cb1 Hb1 fb1 gb1 zb1 lb1 db1 => ?_)))
        rw [lb0] at lb1
        have Eb1 : Ex G0 Hb1 := Eb0.trans fb1
        refine nx_p (seq_l (asg_l (grow_mk (H0 := G0) (n := 1300) (k := 3) (H := Hb1) rfl gb1 db1 (mk_cons (mk_tup (n := 11) (m := 1300) (mk_cons (mk_str (by decide) (by decide)) (mk_cons (mk_ixn (j := 1) rfl p_names r_names (by omega) (by decide) g_names) (mk_cons (mk_tup (n := 10) (m := 11) (mk_cons (mk_v rfl (RdN.up R_leaf (by decide))) mk_nil) (by decide) (by decide)) mk_nil))) (by decide) (by decide)) (mk_cons (mk_tup (n := 300) (m := 1300) (mk_cons (mk_str (by decide) (by decide)) (mk_cons (mk_v rfl (RdN.str (by decide) (by omega))) (mk_cons (mk_v rfl (RdN.up R_args (by decide))) mk_nil))) (by decide) (by decide)) (mk_cons (mk_tup (n := 300) (m := 1300) (mk_cons (mk_str (by decide) (by decide)) (mk_cons (mk_v rfl (RdN.str (by decide) (by omega))) (mk_cons (mk_v rfl (RdN.up R_args (by decide))) (mk_cons (mk_tup (n := 1) (m := 300) mk_nil (by decide) (by decide)) mk_nil)))) (by decide) (by decide)) mk_nil))) Eb1 (by rw [lb1]; decide) fun rb2 cb2 Hb2 fb2 gb2 zb2 lb2 db2 => ?_)))
        rw [lb1] at lb2
        have Eb2 : Ex G0 Hb2 := Eb1.trans fb2
        refine nx_p (seq_l (asg_l (grow_mk (H0 := G0) (n := 1300) (k := 3) (H := Hb2) rfl gb2 db2 (mk_cons (mk_tup (n := 1) (m := 1300) (mk_cons (mk_str (by decide) (by decide)) (mk_cons (mk_v rfl (RdN.str (by decide) (by omega))) (mk_cons (mk_non (by decide)) mk_nil))) (by decide) (by decide)) (mk_cons (mk_tup (n := 300) (m := 1300) (mk_cons (mk_str (by decide) (by decide)) (mk_cons (mk_addSv rfl (by decide) (Nat.le_trans (Nat.add_le_add_right ln _) (by decide))) (mk_cons (mk_v rfl (RdN.up R_args (by decide))) mk_nil))) (by decide) (by decide)) (mk_cons (mk_tup (n := 300) (m := 1300) (mk_cons (mk_str (by decide) (by decide)) (mk_cons (mk_str (by decide) (by decide)) (mk_cons (mk_v rfl (RdN.up R_args (by decide))) mk_nil))) (by decide) (by decide)) mk_nil))) Eb2 (by rw [lb2]; decide) fun rb3 cb3 Hb3 fb3 gb3 zb3 lb3 db3 => ?_)))
        rw [lb2] at lb3
        have Eb3 : Ex G0 Hb3 := Eb2.trans fb3
        refine nx_p (seq_l (asg_l (grow_mk (H0 := G0) (n := 1300) (k := 1) (H := Hb3) rfl gb3 db3 (mk_cons (mk_tup (n := 21) (m := 1300) (mk_cons (mk_str (by decide) (by decide)) (mk_cons (mk_ixn (j := 2) rfl p_names r_names (by omega) (by decide) g_names) (mk_cons (mk_tup (n := 10) (m := 21) (mk_cons (mk_v rfl (RdN.up R_leaf (by decide))) (mk_cons (mk_v rfl (RdN.up R_leaf (by decide))) mk_nil)) (by decide) (by decide)) mk_nil))) (by decide) (by decide)) mk_nil) Eb3 (by rw [lb3]; decide) fun rb4 cb4 Hb4 fb4 gb4 zb4 lb4 db4 => ?_)))
        rw [lb3] at lb4
        have Eb4 : Ex G0 Hb4 := Eb3.trans fb4
        refine nx_p ((asg_l (grow_mk (H0 := G0) (n := 1300) (k := 3) (H := Hb4) rfl gb4 db4 (mk_cons (mk_tup (n := 21) (m := 1300) (mk_cons (mk_str (by decide) (by decide)) (mk_cons (mk_ixn (j := 2) rfl p_names r_names (by omega) (by decide) g_names) (mk_cons (mk_tup (n := 10) (m := 21) (mk_cons (mk_v rfl (RdN.up R_leaf (by decide))) (mk_cons (mk_int (by decide)) mk_nil)) (by decide) (by decide)) mk_nil))) (by decide) (by decide)) (mk_cons (mk_tup (n := 11) (m := 1300) (mk_cons (mk_str (by decide) (by decide)) (mk_cons (mk_ixn (j := 1) rfl p_names r_names (by omega) (by decide) g_names) (mk_cons (mk_tup (n := 10) (m := 11) (mk_cons (mk_v rfl (RdN.up R_empty (by decide))) mk_nil) (by decide) (by decide)) mk_nil))) (by decide) (by decide)) (mk_cons (mk_tup (n := 1) (m := 1300) (mk_cons (mk_str (by decide) (by decide)) (mk_cons (mk_ix (j := 2) rfl p_words (by omega) (by decide) g_words) mk_nil)) (by decide) (by decide)) mk_nil))) Eb4 (by rw [lb4]; decide) fun rb5 cb5 Hb5 fb5 gb5 zb5 lb5 db5 => ?_)))
        rw [lb4] at lb5
        have Eb5 : Ex G0 Hb5 := Eb4.trans fb5
        exact main _ _ ⟨rfl, rfl, ⟨rb5, cb5, rfl, gb5, (ne_of_none ((exG.trans Eb4) _ _ hub) zb5).symm, by omega, by omega, db5⟩, exG.trans Eb5⟩
      | typ n ts =>
        obtain ⟨t0, ht0⟩ : ∃ t0 : Tm, t0 = .typ n ts := ⟨_, rfl⟩
        obtain ⟨a1, us, rfl, ha, r⟩ := Rd.tup_inv hnvA
        obtain ⟨v0, vr, rfl, r0⟩ : ∃ v0 vr, us = v0 :: vr ∧ Rd HA v0 (.str "type") := by cases r with | cons r0 _ => exact ⟨_, _, rfl, r0⟩
        cases r0
        refine Bas.isi (T := "int") (r := false) (.tup ha) rfl ⟨_, rfl, ite0 (by decide) ⟨_, rfl, a1, _, 0, .str "type", rfl, rfl, SqT.of ha, atI_nat (j := 0) rfl, rfl, _, rfl, ite0 (by decide) ⟨_, rfl, a1, _, 0, .str "type", rfl, rfl, SqT.of ha, atI_nat (j := 0) rfl, rfl, _, rfl, ite0 (by decide) ?_⟩⟩⟩
        have p_strange := p_strangeA
        refine seq_l (par3_l (cons_l ⟨_, rfl, .ref a1, t0, rfl, by rw [ht0]; exact hnvA, fun a3 us3 H3 e3 h3 r3 => ?_⟩))
        refine cons_l ((mk_tup (n := 1) (m := 10) (mk_cons (mk_str (by decide) (by decide)) (mk_cons (mk_ix (j := 1) rfl p_strange (by omega) (by decide) g_strange) (mk_cons (mk_tup (n := 1) (m := 1) mk_nil (by decide) (by decide)) mk_nil))) (by decide) (by decide)) H3 _ e3 fun vl H4 e4 hvl => cons_l ((mk_tup (n := 1) (m := 10) (mk_cons (mk_str (by decide) (by decide)) (mk_cons (mk_tup (n := 1) (m := 1) mk_nil (by decide) (by decide)) (mk_cons (mk_non (by decide)) mk_nil))) (by decide) (by decide)) H4 _ (e3.trans e4) fun ve G0 e5 hve => nil_l ⟨_, _, _, rfl, nx_p ?_⟩))
        have exG : Ex HA G0 := e3.trans (e4.trans e5)
        clear p_strange
        have p_strange := exG _ _ p_strangeA
        have p_words := exG _ _ p_wordsA
        have p_names := exG _ _ p_namesA
        have r_names : Paired (RowAt G0) ur qs := Paired.ext (fun _ _ z => z.ext exG) r_namesA
        have p_args := (e4.trans e5) _ _ h3
        have x_args := r3.ext (e4.trans e5)
        have hml : Tm.manyL t0.inner ≤ 49 := by
          have := t0.inner_many
          rw [← ht0] at hmany
          omega
        have hsz := Tm.szL_le t0.inner
        have s_args : Tr.szL (Tm.trL t0.inner) ≤ 300 := by omega
        have R_args : RdN 300 G0 (.ref a3) := ⟨_, .tup p_args x_args, by simp [Tr.sz]; omega⟩
        have lx : us3.length ≤ 1000 := by
          have h1 := x_args.len
          have h2 := szL_len (Tm.trL t0.inner)
          omega
        have R_leaf : RdN 10 G0 vl := hvl.ext e5
        have R_empty : RdN 10 G0 ve := hve
        refine norm_l (σ' := [some (.ref b), some (.ref wd), some (.ref a1), some (.ref pr), some (.ref ps), some (.ref pw), some (.int M), some (.str word), some (.str name), some (.ref ra4), none, none, none, none, none, some (.ref a3), some vl, some ve]) rfl ?_
        have eb0 : Ex G0 G0 := Ex.refl _
        refine (seq_l (asg_l (list_mk (H0 := G0) (n := 1300) (k := 3) (mk_cons (mk_tup (n := 311) (m := 1300) (mk_cons (mk_str (by decide) (by decide)) (mk_cons (mk_v rfl (RdN.str (by decide) (by omega))) (mk_cons (mk_cat (n := 10) (s := 300) rfl p_args x_args s_args (mk_cons (mk_v rfl (RdN.up R_leaf (by decide))) mk_nil) (by decide) (by omega) (by decide)) mk_nil))) (by decide) (by decide)) (mk_cons (mk_tup (n := 301) (m := 1300) (mk_cons (mk_str (by decide) (by decide)) (mk_cons (mk_v rfl (RdN.str (by decide) (by omega))) (mk_cons (mk_cut rfl p_args x_args (by omega)) mk_nil))) (by decide) (by decide)) (mk_cons (mk_tup (n := 1) (m := 1300) (mk_cons (mk_str (by decide) (by decide)) (mk_cons (mk_v rfl (RdN.str (by decide) (by omega))) (mk_cons (mk_listOf rfl p_args (by decide)) mk_nil))) (by decide) (by decide)) mk_nil))) eb0 (by decide) fun rb0 cb0 Hb0 fb0 gb0 zb0 lb0 db0 => ?_)))
        have Eb0 : Ex G0 Hb0 := fb0
        refine nx_p (seq_l (asg_l (grow_mk (H0 := G0) (n := 1300) (k := 3) (H := Hb0) rfl gb0 db0 (mk_cons (mk_lst (n := 300) (m := 1300) (mk_cons (mk_str (by decide) (by decide)) (mk_cons (mk_v rfl (RdN.str (by decide) (by omega))) (mk_cons (mk_v rfl (RdN.up R_args (by decide))) mk_nil))) (by decide) (by decide)) (mk_cons (mk_tup (n := 300) (m := 1300) (mk_cons (mk_str (by decide) (by decide)) (mk_cons (mk_ix (j := 2) rfl p_strange (by omega) (by decide) g_strange) (mk_cons (mk_v rfl (RdN.up R_args (by decide))) mk_nil))) (by decide) (by decide)) (mk_cons (mk_tup (n := 300) (m := 1300) (mk_cons (mk_str (by decide) (by decide)) (mk_cons (mk_ixn (j := 0) rfl p_names r_names (by omega) (by decide) g_names) (mk_cons (mk_v rfl (RdN.up R_args (by decide))) mk_nil))) (by decide) (by decide)) mk_nil))) Eb0 (by rw [lb0]; decide) fun rb1 cb1 Hb1 fb1 gb1 zb1 lb1 db1 => ?_)))
        rw [lb0] at lb1
        have Eb1 : Ex G0 Hb1 := Eb0.trans fb1
        refine nx_p (seq_l (asg_l (grow_mk (H0 := G0) (n := 1300) (k := 3) (H := Hb1) rfl gb1 db1 (mk_cons (mk_tup (n := 11) (m := 1300) (mk_cons (mk_str (by decide) (by decide)) (mk_cons (mk_ixn (j := 1) rfl p_names r_names (by omega) (by decide) g_names) (mk_cons (mk_tup (n := 10) (m := 11) (mk_cons (mk_v rfl (RdN.up R_leaf (by decide))) mk_nil) (by decide) (by decide)) mk_nil))) (by decide) (by decide)) (mk_cons (mk_tup (n := 300) (m := 1300) (mk_cons (mk_str (by decide) (by decide)) (mk_cons (mk_v rfl (RdN.str (by decide) (by omega))) (mk_cons (mk_v rfl (RdN.up R_args (by decide))) mk_nil))) (by decide) (by decide)) (mk_cons (mk_tup (n := 300) (m := 1300) (mk_cons (mk_str (by decide) (by decide)) (mk_cons (mk_v rfl (RdN.str (by decide) (by omega))) (mk_cons (mk_v rfl (RdN.up R_args (by decide))) (mk_cons (mk_tup (n := 1) (m := 300) mk_nil (by decide) (by decide)) mk_nil)))) (by decide) (by decide)) mk_nil))) Eb1 (by rw [lb1]; decide) fun rb2 cb2 Hb2 fb2 gb2 zb2 lb2 db2 => ?_)))
        rw [lb1] at lb2
        have Eb2 : Ex G0 Hb2 := Eb1.trans fb2
        refine nx_p (seq_l (asg_l (grow_mk (H0 := G0) (n := 1300) (k := 3) (H := Hb2) rfl gb2 db2 (mk_cons (mk_tup (n := 1) (m := 1300) (mk_cons (mk_str (by decide) (by decide)) (mk_cons (mk_v rfl (RdN.str (by decide) (by omega))) (mk_cons (mk_non (by decide)) mk_nil))) (by decide) (by decide)) (mk_cons (mk_tup (n := 300) (m := 1300) (mk_cons (mk_str (by decide) (by decide)) (mk_cons (mk_addSv rfl (by decide) (Nat.le_trans (Nat.add_le_add_right ln _) (by decide))) (mk_cons (mk_v rfl (RdN.up R_args (by decide))) mk_nil))) (by decide) (by decide)) (mk_cons (mk_tup (n := 300) (m := 1300) (mk_cons (mk_str (by decide) (by decide)) (mk_cons (mk_str (by decide) (by decide)) (mk_cons (mk_v rfl (RdN.up R_args (by decide))) mk_nil))) (by decide) (by decide)) mk_nil))) Eb2 (by rw [lb2]; decide) fun rb3 cb3 Hb3 fb3 gb3 zb3 lb3 db3 => ?_)))
        rw [lb2] at lb3
        have Eb3 : Ex G0 Hb3 := Eb2.trans fb3
        refine nx_p (seq_l (asg_l (grow_mk (H0 := G0) (n := 1300) (k := 1) (H := Hb3) rfl gb3 db3 (mk_cons (mk_tup (n := 21) (m := 1300) (mk_cons (mk_str (by decide) (by decide)) (mk_cons (mk_ixn (j := 2) rfl p_names r_names (by omega) (by decide) g_names) (mk_cons (mk_tup (n := 10) (m := 21) (mk_cons (mk_v rfl (RdN.up R_leaf (by decide))) (mk_cons (mk_v rfl (RdN.up R_leaf (by decide))) mk_nil)) (by decide) (by decide)) mk_nil))) (by decide) (by decide)) mk_nil) Eb3 (by rw [lb3]; decide) fun rb4 cb4 Hb4 fb4 gb4 zb4 lb4 db4 => ?_)))
        rw [lb3] at lb4
        have Eb4 : Ex G0 Hb4 := Eb3.trans fb4
        refine nx_p ((asg_l (grow_mk (H0 := G0) (n := 1300) (k := 3) (H := Hb4) rfl gb4 db4 (mk_cons (mk_tup (n := 21) (m := 1300) (mk_cons (mk_str (by decide) (by decide)) (mk_cons (mk_ixn (j := 2) rfl p_names r_names (by omega) (by decide) g_names) (mk_cons (mk_tup (n := 10) (m := 21) (mk_cons (mk_v rfl (RdN.up R_leaf (by decide))) (mk_cons (mk_int (by decide)) mk_nil)) (by decide) (by decide)) mk_nil))) (by decide) (by decide)) (mk_cons (mk_tup (n := 11) (m := 1300) (mk_cons (mk_str (by decide) (by decide)) (mk_cons (mk_ixn (j := 1) rfl p_names r_names (by omega) (by decide) g_names) (mk_cons (mk_tup (n := 10) (m := 11) (mk_cons (mk_v rfl (RdN.up R_empty (by decide))) mk_nil) (by decide) (by decide)) mk_nil))) (by decide) (by decide)) (mk_cons (mk_tup (n := 1) (m := 1300) (mk_cons (mk_str (by decide) (by decide)) (mk_cons (mk_ix (j := 2) rfl p_words (by omega) (by decide) g_words) mk_nil)) (by decide) (by decide)) mk_nil))) Eb4 (by rw [lb4]; decide) fun rb5 cb5 Hb5 fb5 gb5 zb5 lb5 db5 => ?_)))
        rw [lb4] at lb5
        have Eb5 : Ex G0 Hb5 := Eb4.trans fb5
        exact main _ _ ⟨rfl, rfl, ⟨rb5, cb5, rfl, gb5, (ne_of_none ((exG.trans Eb4) _ _ hub) zb5).symm, by omega, by omega, db5⟩, exG.trans Eb5⟩
end
end D0

namespace D0
open PySem PySem.Spec PyProof.Rows L2 L2H HotX Evl K9 KM
/-- a value and a kind to be asked about -/
def AskAt (H : Hp) (x : V) : Prop := ∃ (r : Addr) (v : V) (kd : Str), x = .ref r ∧ H r = some (.tup [v, .str kd]) ∧ Kd kd ∧ RdN 1000000 H v
theorem AskAt.ext {H H' : Hp} {x : V} (e : Ex H H') (h : AskAt H x) : AskAt H' x := by
  obtain ⟨r, v, kd, rfl, h1, h2, h3⟩ := h
  exact ⟨r, v, kd, rfl, e _ _ h1, h2, h3.ext e⟩
theorem ask_mono (H H' : Hp) (v : V) (e : Ex H H') (h : AskAt H v) : AskAt H' v := h.ext e
theorem AskAt.exb {b : Addr} {H H' : Hp} {us ws : List V} (e : ExB b H H') (h0 : H b = some (.lst us)) (h1 : H' b = some (.lst ws)) {x : V} (h : AskAt H x) : AskAt H' x := by
  obtain ⟨r, v, kd, rfl, g1, g2, g3⟩ := h
  exact ⟨r, v, kd, rfl, e _ _ (fun z => by rw [z, h0] at g1; cases g1) g1, g2, g3.exb e h0 h1⟩
theorem mk_ask {σ : L2.St} {H0 : Hp} {n : Nat} {te : TE} {kd : Str} (h : Mk σ H0 n te) (hn : n ≤ 1000000) (hk : Kd kd) : MkG σ H0 AskAt (tTup (tCons te (tCons (tC (.str kd)) tNil))) := fun H Q e q =>
  h H _ e fun v H1 e1 hv => ⟨by show 2 ≤ sizeLine; decide, fun p hp => q _ _ (e1.trans (Ex.new hp)) ⟨p, v, kd, rfl, upd_same, hk, (hv.up hn).ext (Ex.new hp)⟩⟩
theorem rdl_rep {H : Hp} {v : V} {t : Tr} (h : Rd H v t) (n : Nat) : RdL H (List.replicate n v) (List.replicate n t) ∧ Tr.szL (List.replicate n t) = n * t.sz := by
  induction n with
  | zero => exact ⟨.nil, by simp [Tr.szL]⟩
  | succ n ih =>
    rw [List.replicate_succ, List.replicate_succ]
    refine ⟨.cons h ih.1, ?_⟩
    simp only [Tr.szL, ih.2, Nat.add_mul]
    omega
/-- for k in range(n): term = ('type', names[j][0], (term,)) -/
theorem wrap_l {K : PySem.W.Frag} {wi : TI} {D : Ends} {H : Hp} {n s j : Nat} {pr : Addr} {ur : List V} {qs : List (Str × Int)} {v0 : V} {o0 : Option V} (S : V → Option V → L2.St) (h9 : ∀ v o, (S v o)[9]? = some (some v)) (h2 : ∀ v o, (S v o)[2]? = some (some (.ref pr)))
    (hset : ∀ v o i v', ((S v o).set 10 (some i)).set 9 (some v') = S v' (some i)) (h9' : ∀ v o i, ((S v o).set 10 (some i))[9]? = some (some v)) (h2' : ∀ v o i, ((S v o).set 10 (some i))[2]? = some (some (.ref pr)))
    (hw : ∀ R : It → Hp → Prop, R (Itr 0 n) H → wi (S v0 o0) H R) (hp : H pr = some (.lst ur)) (hr : Paired (RowAt H) ur qs) (hj : j < qs.length) (g : ∀ q ∈ qs, q.1.length ≤ 1000) (hv : RdN s H v0) (hs : s + 4 * n ≤ 1000000)
    (fin : ∀ v o H', Ex H H' → RdN (s + 4 * n) H' v → D.nx (S v o) H') : tFor wi (gName 10) (tAsg (tTup (tCons (tC (.str "type")) (tCons (tOp (rIxT K) (tOp (rIxL K) (tVar 2) (tC (.int (j : Int)))) (tC (.int 0))) (tCons (tTup (tCons (tVar 9) tNil)) tNil)))) (gName 9)) D (S v0 o0) H := by
  refine forR_by (n := n) (fun i σ1 H1 => ∃ v o, σ1 = S v o ∧ Ex H H1 ∧ RdN (s + 4 * i) H1 v) hw ⟨v0, o0, rfl, Ex.refl H, hv⟩ (fun i σ1 H1 N hi hp1 kN => ?_) (fun σ1 H1 hp1 => ?_)
  · obtain ⟨v, o, rfl, e, hv1⟩ := hp1
    refine asg_l (mkz_tup (H0 := H1) (s := 1 + (1 + ((1 + (s + 4 * i)) + 0))) (m := s + 4 * (i + 1)) (mkz_cons (mk_str (by decide) (by decide)) (mkz_cons (mk_ixn (j := j) (h2' v o _) (e _ _ hp) (Paired.ext (fun _ _ z => z.ext e) hr) hj (by decide) g) (mkz_cons (mkz_tup (s := (s + 4 * i) + 0) (mkz_cons (mk_v (h9' v o _) hv1) mkz_nil) (by omega) (by omega)) mkz_nil))) (by omega) (by omega) H1 _ (Ex.refl H1) fun v' H2 e2 hv' => ?_)
    rw [hset]
    exact kN _ _ ⟨v', _, rfl, e.trans e2, hv'⟩
  · obtain ⟨v, o, rfl, e, hv1⟩ := hp1
    exact fin v o H1 e hv1
section
variable {P : Program} {w : World} {K : PySem.W.Frag} {mg : Str → Option Value} {base : Heap} {f : Addr} {fd : FuncData} {k : Nat}
def spGreat : Sp := fun vs H Q _ => ∃ (b wd : Addr) (m : Nat) (qs : List (Str × Int)) (ys zs : List Str), vs = [.ref b, .ref wd] ∧ m + 5 ≤ 1000 ∧ BoxAt H b m ∧ WorldAt b H wd qs ys zs ∧
  ∀ (p : Addr) (xs : List V) (H' : Hp), ExB b H H' → BoxAt H' b (m + 5) → p ≠ b → H' p = some (.lst xs) → xs.length ≤ 10 → (∀ x ∈ xs, AskAt H' x) → Q (.ref p) H'
abbrev s_great : Stmt := top 51
abbrev N_great : List Str := ["box", "world", "names", "strange", "words", "leaf", "way", "more", "deep", "term", "k", "found", "rest", "sub"]
theorem sc_great : FnScope N_great ["box", "world"] (defScope s_great) := ⟨rfl, rfl, rfl, by decide +kernel, rfl, by decide +kernel, by decide +kernel⟩
theorem ok_great (T : Txt K mg) (k_take : Take P w K mg base k) (F : FunD K "_law_great" "_law_great" (defArgs s_great) (defBody s_great) (defScope s_great) [] [] f fd) (hm : mg "_law_great" = some (.ref f)) : OkC P w K mg base (k + 1) "_law_great" ["box", "world"] spGreat := by
  refine okC_of F hm sc_great (fun _ _ _ _ _ _ us hl => match us, hl with | [_, _], _ => rfl) (fun vs H Q E h => ?_) (fun cdv A outer s H vs Q E hr h => ?_)
  · obtain ⟨b, wd, m, qs, ys, zs, rfl, _⟩ := h
    rfl
  · obtain ⟨b, wd, m, qs, ys, zs, rfl, hm, hB, hW, q⟩ := h
    refine ⟨_, PSs.nox (pss_cons (ps_asg (pv 1) (pg_unl rfl (pgs_cons (pg_name (i := 2) sc_great.nd rfl (Or.inl rfl)) (pgs_cons (pg_name (i := 3) sc_great.nd rfl (Or.inl rfl)) (pgs_cons (pg_name (i := 4) sc_great.nd rfl (Or.inl rfl)) pgs_nil))))) (pss_cons (ps_set (i := 5) sc_great.nd rfl (Or.inr rfl) (pe_ix ix_list (pe_lst (pa_cons (pe_tup (pa_cons pe_str (pa_cons (pe_ix ix_list (pv 3) pe_int fun _ _ => rfl) (pa_cons (pe_tup pa_nil) pa_nil)))) (pa_cons (pe_tup (pa_cons pe_str (pa_cons (pe_ix ix_list (pv 4) pe_int fun _ _ => rfl) pa_nil))) pa_nil))) (pe_callK0 k_take hr (by rfl) (pa_cons (pv 0) (pa_cons pe_int pa_nil))) fun _ _ => rfl)) (pss_cons (ps_par3 rfl sc_great.nd (i := 6) (j := 7) (l := 8) rfl rfl rfl (by decide) (by decide) (by decide) rfl rfl rfl (pa_cons (pe_callK0 k_take hr (by rfl) (pa_cons (pv 0) (pa_cons pe_int pa_nil))) (pa_cons (pe_callK0 k_take hr (by rfl) (pa_cons (pv 0) (pa_cons pe_int pa_nil))) (pa_cons (pe_ix ix_list (pe_lst (pa_cons pe_int (pa_cons pe_int (pa_cons pe_int (pa_cons pe_int pa_nil))))) (pe_callK0 k_take hr (by rfl) (pa_cons (pv 0) (pa_cons pe_int pa_nil))) fun _ _ => rfl) pa_nil))) rfl) (pss_cons (ps_set (i := 9) sc_great.nd rfl (Or.inl rfl) (pv 5)) (pss_cons (ps_for PassesOwn.never rfl (pi_range1 (by rfl) T.f_range (pa_cons pe_int pa_nil)) (pg_name (i := 10) sc_great.nd rfl (Or.inl rfl)) (pss_one (ps_set (i := 9) sc_great.nd rfl (Or.inl rfl) (pe_tup (pa_cons pe_str (pa_cons (pe_ix ix_tup (pe_ix ix_list (pv 2) pe_int fun _ _ => rfl) pe_int fun _ _ => rfl) (pa_cons (pe_tup (pa_cons (pv 9) pa_nil)) pa_nil))))))) (pss_cons (ps_set (i := 11) sc_great.nd rfl (Or.inl rfl) (pe_lst (pa_cons (pe_tup (pa_cons (pv 9) (pa_cons pe_str pa_nil))) (pa_cons (pe_tup (pa_cons (pe_tup (pa_cons pe_str (pa_cons (pe_tup (pa_cons (pv 5) (pa_cons (pv 9) pa_nil))) (pa_cons (pe_ix ix_list (pv 4) pe_int fun _ _ => rfl) pa_nil)))) (pa_cons pe_str pa_nil))) pa_nil)))) (pss_cons (ps_for PassesOwn.never rfl (pi_range1 (by rfl) T.f_range (pa_cons (pe_op op_add (pv 8) pe_int) pa_nil)) (pg_name (i := 10) sc_great.nd rfl (Or.inl rfl)) (pss_one (ps_set (i := 9) sc_great.nd rfl (Or.inl rfl) (pe_tup (pa_cons pe_str (pa_cons (pe_ix ix_tup (pe_ix ix_list (pv 2) pe_int fun _ _ => rfl) pe_int fun _ _ => rfl) (pa_cons (pe_tup (pa_cons (pv 9) pa_nil)) pa_nil))))))) (pss_cons (ps_set (i := 11) sc_great.nd rfl (Or.inl rfl) (pe_op op_cat (pv 11) (pe_lst (pa_cons (pe_tup (pa_cons (pv 9) (pa_cons pe_str pa_nil))) (pa_cons (pe_tup (pa_cons (pe_tup (pa_cons pe_str (pa_cons (pe_tup (pa_cons (pv 5) (pa_cons (pv 9) pa_nil))) (pa_cons pe_non pa_nil)))) (pa_cons pe_str pa_nil))) pa_nil))))) (pss_cons (ps_if (pt_cmpR op_eq (pv 6) pe_int (nomark _)) (pss_cons (ps_set (i := 12) sc_great.nd rfl (Or.inl rfl) (pe_ix ix_list (pe_lst (pa_cons pe_non (pa_cons (pe_ix ix_list (pv 4) pe_int fun _ _ => rfl) pa_nil))) (pe_callK0 k_take hr (by rfl) (pa_cons (pv 0) (pa_cons pe_int pa_nil))) fun _ _ => rfl)) (pss_one (ps_ret (pe_op op_cat (pv 11) (pe_lst (pa_cons (pe_tup (pa_cons (pe_tup (pa_cons pe_str (pa_cons (pe_callTy call_tuple_of (by rfl) T.f_tuple (by decide +kernel) (pa_cons (pe_lc (own := [("k", 10)]) (g := gName 10) rfl sc_great.nd (pi_range1 (by rfl) T.f_range (pa_cons (pe_op op_sub (pe_op op_add pe_int (pv 7)) (pe_callTy call_int1 (by rfl) T.f_int (by decide +kernel) (pa_cons (pe_cmpR op_notN (pv 12) pe_non (nomark _)) pa_nil))) pa_nil)) (blkOk_by (N := N_great) (sc := defScope s_great) (by decide +kernel)) (fun _ _ _ _ _ => pg_name (i := 10) sc_great.nd rfl (Or.inl rfl)) (fun _ _ _ _ _ => pts_nil) (fun _ _ _ _ _ => (pv 5))) pa_nil)) (pa_cons (pv 12) pa_nil)))) (pa_cons pe_str pa_nil))) pa_nil)))))) pss_nil) (pss_cons (ps_set (i := 13) sc_great.nd rfl (Or.inl rfl) (pe_tup (pa_cons pe_str (pa_cons (pe_ix ix_tup (pe_ix ix_list (pv 2) pe_int fun _ _ => rfl) pe_int fun _ _ => rfl) (pa_cons (pe_tup (pa_cons (pv 5) (pa_cons (pv 5) (pa_cons (pv 5) pa_nil)))) pa_nil))))) (pss_cons (ps_par rfl sc_great.nd (i := 13) (j := 9) rfl rfl (by decide) rfl rfl (pa_cons (pe_tup (pa_cons pe_str (pa_cons (pe_ix ix_tup (pe_ix ix_list (pv 2) pe_int fun _ _ => rfl) pe_int fun _ _ => rfl) (pa_cons (pe_tup (pa_cons (pv 13) (pa_cons (pv 13) (pa_cons (pv 13) pa_nil)))) pa_nil)))) (pa_cons (pv 5) pa_nil)) rfl) (pss_cons (ps_for PassesOwn.never rfl (pi_range1 (by rfl) T.f_range (pa_cons pe_int pa_nil)) (pg_name (i := 10) sc_great.nd rfl (Or.inl rfl)) (pss_one (ps_set (i := 9) sc_great.nd rfl (Or.inl rfl) (pe_tup (pa_cons pe_str (pa_cons (pe_ix ix_tup (pe_ix ix_list (pv 2) pe_int fun _ _ => rfl) pe_int fun _ _ => rfl) (pa_cons (pe_ifExp (pt_cmpR op_eq (pv 10) pe_int (nomark _)) (pe_tup (pa_cons (pv 13) (pa_cons (pv 9) (pa_cons (pv 13) pa_nil)))) (pe_tup (pa_cons (pv 9) (pa_cons (pv 13) (pa_cons (pv 13) pa_nil))))) pa_nil))))))) (pss_cons (ps_for PassesOwn.never rfl (pi_range1 (by rfl) T.f_range (pa_cons (pe_op op_add pe_int (pv 7)) pa_nil)) (pg_name (i := 10) sc_great.nd rfl (Or.inl rfl)) (pss_one (ps_set (i := 9) sc_great.nd rfl (Or.inl rfl) (pe_tup (pa_cons pe_str (pa_cons (pe_ix ix_tup (pe_ix ix_list (pv 2) pe_int fun _ _ => rfl) pe_int fun _ _ => rfl) (pa_cons (pe_tup (pa_cons (pv 9) pa_nil)) pa_nil))))))) (pss_one (ps_ret (pe_op op_cat (pv 11) (pe_lst (pa_cons (pe_tup (pa_cons (pv 9) (pa_cons pe_str pa_nil))) pa_nil)))))))))))))))))), ?_⟩
    have sz := sizeLine_eq
    obtain ⟨xs0, hb0⟩ := hB.at_
    obtain ⟨⟨pr, ps, pw, ur, hw, hpr, hrr, hps, hpw, n1, n2, n3, n4⟩, lq, ly, lz, gq, gy, gz⟩ := id hW
    have g_names : ∀ q ∈ qs, q.1.length ≤ 1000 := fun q hq => by have := nameB_len (gq q hq).1; omega
    have g_strange : ∀ y ∈ ys, y.length ≤ 1000 := fun y hy => by have := gy y hy; omega
    have g_words : ∀ z ∈ zs, z.length ≤ 1000 := fun z hz => by have := gz z hz; omega
    refine seq_l (asgG_l ⟨_, rfl, wd, _, rfl, SqL.of hw, rfl, _, _, rfl, _, _, rfl, _, _, rfl, rfl, nx_p ?_⟩)
    refine seq_l (asg_l (op_l ?_))
    refine list_mk (H0 := H) (n := 10) (k := 2) (mk_cons (mk_tup (n := 1) (m := 10) (mk_cons (mk_str (by decide) (by decide)) (mk_cons (mk_ix (j := 0) rfl hps (by omega) (by decide) g_strange) (mk_cons (mk_tup (n := 1) (m := 1) mk_nil (by decide) (by decide)) mk_nil))) (by decide) (by decide)) (mk_cons (mk_tup (n := 1) (m := 10) (mk_cons (mk_str (by decide) (by decide)) (mk_cons (mk_ix (j := 0) rfl hpw (by omega) (by decide) g_words) mk_nil)) (by decide) (by decide)) mk_nil)) (Ex.refl H) (by decide) fun p1 c1 H1 e1 g1 z1 l1 d1 => ?_
    have hB1 := hB.ex e1
    have np1 : p1 ≠ b := (ne_of_none hb0 z1).symm
    refine take_l (b := b) (n := 2) (m := m) (fun R r => ⟨_, rfl, r⟩) (fun R r => r) (by decide) (by decide) (by omega) hB1 fun t1 H2 ht1 x2 hB2 => ?_
    have ht1' : t1 < c1.length := by omega
    obtain ⟨u1, hu1⟩ := hB1.at_
    obtain ⟨u2, hu2⟩ := hB2.at_
    have R_leaf2 := (d1 _ (List.getElem_mem ht1')).exb x2 hu1 hu2
    refine ⟨p1, _, (t1 : Int), c1[t1], rfl, rfl, SqL.of (x2 _ _ np1 g1), atI_nat (j := t1) (List.getElem?_eq_getElem ht1'), nx_p ?_⟩
    generalize c1[t1] = vl at R_leaf2 ⊢
    have x02 := (Ex.but e1).trans x2
    clear d1 g1
    refine seq_l (par3_l (cons_l (take_l (b := b) (n := 2) (m := m + 1) (fun R r => ⟨_, rfl, r⟩) (fun R r => r) (by decide) (by decide) (by omega) hB2 fun way H3 hway x3 hB3 => cons_l (take_l (b := b) (n := 2) (m := m + 2) (fun R r => ⟨_, rfl, r⟩) (fun R r => r) (by decide) (by decide) (by omega) hB3 fun more H4 hmore x4 hB4 => cons_l (op_l (lst_l (cons_l (c_l (cons_l (c_l (cons_l (c_l (cons_l (c_l (nil_l ⟨by show 4 ≤ sizeLine; decide, fun p5 hp5 => ?_⟩)))))))))))))))
    have e5 : Ex H4 (upd H4 p5 (.lst [.int 0, .int 1, .int 60, .int 90])) := Ex.new hp5
    have hpl : upd H4 p5 (.lst [.int 0, .int 1, .int 60, .int 90]) p5 = some (.lst ([0, 1, 60, 90].map fun n : Nat => V.int (n : Int))) := upd_same
    have np5 : p5 ≠ b := by
      obtain ⟨u, hu⟩ := hB4.at_
      exact (ne_of_none hu hp5).symm
    have hB5 := hB4.ex e5
    have x25 : ExB b H2 (upd H4 p5 (.lst [.int 0, .int 1, .int 60, .int 90])) := x3.trans (x4.trans (Ex.but e5))
    generalize upd H4 p5 (.lst [.int 0, .int 1, .int 60, .int 90]) = H5 at hpl hB5 x25 ⊢
    refine take_l (b := b) (n := 4) (m := m + 3) (fun R r => ⟨_, rfl, r⟩) (fun R r => r) (by decide) (by decide) (by omega) hB5 fun t6 H6 ht6 x6 hB6 => ?_
    obtain ⟨dp, hdp, hat⟩ := pick [0, 1, 60, 90] (fun n : Nat => V.int (n : Int)) ht6 rfl (· ≤ 90) (by decide)
    refine ⟨p5, _, (t6 : Int), _, rfl, rfl, SqL.of (x6 _ _ np5 hpl), hat, nil_l ⟨_, _, _, rfl, ?_⟩⟩
    have x26 := x25.trans x6
    have x06 := x02.trans x26
    obtain ⟨u6, hu6⟩ := hB6.at_
    have R_leaf := R_leaf2.exb x26 hu2 hu6
    have r_names : Paired (RowAt H6) ur qs := paired_imp (fun _ _ z => z.exl x06 hb0) hrr
    have p_names := x06 _ _ n2 hpr
    have p_words := x06 _ _ n4 hpw
    clear R_leaf2 hB1 hB2 hB3 hB4 hB5 x3 x4 x25 x6 x02 x2 e1 hrr hpr hps hpw hW hw hu1 hu2 x26
    refine nx_p (norm_l (σ' := [some (.ref b), some (.ref wd), some (.ref pr), some (.ref ps), some (.ref pw), some vl, some (.int (way : Int)), some (.int (more : Int)), some (.int (dp : Int)), none, none, none, none, none]) rfl ?_)
    refine seq_l (asg_l ⟨_, rfl, nx_p ?_⟩)
    refine seq_l (wrap_l (n := 199) (s := 10) (j := 1) (qs := qs) (fun v o => [some (.ref b), some (.ref wd), some (.ref pr), some (.ref ps), some (.ref pw), some vl, some (.int (way : Int)), some (.int (more : Int)), some (.int (dp : Int)), some v, o, none, none, none]) (fun _ _ => rfl) (fun _ _ => rfl) (fun _ _ _ _ => rfl) (fun _ _ _ => rfl) (fun _ _ _ => rfl)
      (fun R h => ⟨199, rfl, by decide, by decide, h⟩) p_names r_names (by omega) g_names R_leaf (by decide) fun v7 o7 H7 e7 R7 => nx_p ?_)
    have p_words7 := e7 _ _ p_words
    refine seq_l (asg_l (list_mkg ask_mono (H0 := H7) (k := 2) (mkg_cons ask_mono (mk_ask (n := 806) (mk_v rfl R7) (by decide) (.inl rfl)) (mkg_cons ask_mono (mk_ask (n := 820) (mkz_tup (s := 1 + ((1 + (10 + (806 + 0))) + (1 + 0))) (mkz_cons (mk_str (by decide) (by decide)) (mkz_cons (mkz_tup (s := 10 + (806 + 0)) (mkz_cons (mk_v rfl (R_leaf.ext e7)) (mkz_cons (mk_v rfl R7) mkz_nil)) (by decide) (by decide)) (mkz_cons (mk_ix (j := 2) rfl p_words7 (by omega) (by decide) g_words) mkz_nil))) (by decide) (by decide)) (by decide) (.inr (.inr rfl))) mkg_nil)) (Ex.refl H7) (by decide) fun p8 c8 H8 e8 g8 z8 l8 d8 => nx_p ?_))
    have e68 := e7.trans e8
    refine seq_l (wrap_l (n := dp + 1) (s := 806) (j := 1) (qs := qs) (fun v o => [some (.ref b), some (.ref wd), some (.ref pr), some (.ref ps), some (.ref pw), some vl, some (.int (way : Int)), some (.int (more : Int)), some (.int (dp : Int)), some v, o, some (.ref p8), none, none]) (fun _ _ => rfl) (fun _ _ => rfl) (fun _ _ _ _ => rfl) (fun _ _ _ => rfl) (fun _ _ _ => rfl)
      (fun R h => ⟨_, rfl, _, _, rfl, rfl, dp + 1, rfl, by omega, by omega, h⟩) (e68 _ _ p_names) (Paired.ext (fun _ _ z => z.ext e68) r_names) (by omega) g_names (R7.ext e8) (by omega) fun v9 o9 H9 e9 R9 => nx_p ?_)
    have e69 := e68.trans e9
    have R9' : RdN 1170 H9 v9 := R9.up (by omega)
    refine seq_l (asg_l (grow_mkg ask_mono (H0 := H9) (k := 2) rfl (e9 _ _ g8) (fun v hv => (d8 v hv).ext e9) (mkg_cons ask_mono (mk_ask (n := 1170) (mk_v rfl R9') (by decide) (.inl rfl)) (mkg_cons ask_mono (mk_ask (n := 1190) (mkz_tup (s := 1 + ((1 + (10 + (1170 + 0))) + (1 + 0))) (mkz_cons (mk_str (by decide) (by decide)) (mkz_cons (mkz_tup (s := 10 + (1170 + 0)) (mkz_cons (mk_v rfl (R_leaf.ext e69)) (mkz_cons (mk_v rfl R9') mkz_nil)) (by decide) (by decide)) (mkz_cons (mk_non (by decide)) mkz_nil))) (by decide) (by decide)) (by decide) (.inr (.inr rfl))) mkg_nil)) (Ex.refl H9) (by rw [l8]; decide) fun p10 c10 H10 e10 g10 z10 l10 d10 => nx_p ?_))
    rw [l8] at l10
    have e610 := e69.trans e10
    have hB10 := hB6.ex e610
    have x010 := x06.trans (Ex.but e610)
    have np10 : p10 ≠ b := (ne_of_none (e69 _ _ hu6) z10).symm
    have R_leaf10 := R_leaf.ext e610
    have p_names10 := e610 _ _ p_names
    have r_names10 : Paired (RowAt H10) ur qs := Paired.ext (fun _ _ z => z.ext e610) r_names
    have p_words10 := e610 _ _ p_words
    obtain ⟨u10, hu10⟩ := hB10.at_
    refine seq_l ⟨_, rfl, rfl, _, rfl, ?_⟩
    clear d8 g8 R9 R9' R7 e7 e8 e9 e10 e68 e69 p_words7
    by_cases hway : (way : Int) = 0
    · refine ite1 (by simp [hway]) ?_
      refine seq_l (asg_l (op_l (list_mk (H0 := H10) (n := 1) (k := 2) (mk_cons (mk_non (by decide)) (mk_cons (mk_ix (j := 2) rfl p_words10 (by omega) (by decide) g_words) mk_nil)) (Ex.refl H10) (by decide) fun p11 c11 H11 e11 g11 z11 l11 d11 => ?_)))
      have hB11 := hB10.ex e11
      have np11 : p11 ≠ b := (ne_of_none hu10 z11).symm
      refine take_l (b := b) (n := 2) (m := m + 4) (fun R r => ⟨_, rfl, r⟩) (fun R r => r) (by decide) (by decide) (by omega) hB11 fun t12 H12 ht12 x12 hB12 => ?_
      have ht12' : t12 < c11.length := by omega
      obtain ⟨u11, hu11⟩ := hB11.at_
      obtain ⟨u12, hu12⟩ := hB12.at_
      have R_rest := (d11 _ (List.getElem_mem ht12')).exb x12 hu11 hu12
      refine ⟨p11, _, (t12 : Int), c11[t12], rfl, rfl, SqL.of (x12 _ _ np11 g11), atI_nat (j := t12) (List.getElem?_eq_getElem ht12'), nx_p ?_⟩
      generalize c11[t12] = vr at R_rest ⊢
      have R_leaf12 := (R_leaf10.ext e11).exb x12 hu11 hu12
      have g12 := x12 _ _ np10 (e11 _ _ g10)
      have d12 : ∀ v ∈ c10, AskAt H12 v := fun v hv => ((d10 v hv).ext e11).exb x12 hu11 hu12
      have x012 := x010.trans ((Ex.but e11).trans x12)
      have hn : ∃ n : Nat, n ≤ 4001 ∧ (4000 + (more : Int)) - (if (!decide (vr = V.non)) = true then 1 else 0) = (n : Int) := by
        split
        · exact ⟨3999 + more, by omega, by omega⟩
        · exact ⟨4000 + more, by omega, by omega⟩
      obtain ⟨n, hn1, hn2⟩ := hn
      refine norm_l (σ' := [some (.ref b), some (.ref wd), some (.ref pr), some (.ref ps), some (.ref pw), some vl, some (.int (way : Int)), some (.int (more : Int)), some (.int (dp : Int)), some v9, o9, some (.ref p10), some vr, none]) rfl ?_
      refine ret_l (grow_mkg ask_mono (H0 := H12) (k := 1) rfl g12 d12 (mkg_cons ask_mono (mk_ask (n := 41000) (mkz_tup (s := 1 + (40011 + (1 + 0))) (mkz_cons (mk_str (by decide) (by decide)) (mkz_cons ?_ (mkz_cons (mk_v rfl R_rest) mkz_nil))) (by decide) (by decide)) (by decide) (.inr (.inr rfl))) mkg_nil) (Ex.refl H12) (by rw [l10]; decide) fun r cs H13 e13 g13 z13 l13 d13 => ?_)
      · intro H13 Q13 e13 q13
        refine call1_l (lc_by (J := Itr 0 n) (n := n) (item := fun i => .int (i : Int)) (fun D j acc H1 => acc = List.replicate j vl) (by omega) (by show 10 < 14; decide) (fun R h => ⟨_, rfl, _, _, rfl, rfl, _, rfl, rfl, .inr ⟨_, rfl, _, _, rfl, rfl, n, by dsimp only; rw [hn2], by omega, by omega, h⟩⟩) walks_rng0 (fun _ _ _ _ _ _ h => h) (fun _ _ => rfl) (fun D j acc H1 C Cf hj hD e ha hp kf kt => ?_) (fun D acc H14 hD e14 ha hp => ?_))
        · subst hp
          unfold tYes
          dsimp only
          rw [if_pos rfl]
          exact ⟨_, rfl, kt _ _ (Ex.refl _) (by rw [List.replicate_succ'])⟩
        · subst hp
          refine ⟨D, _, rfl, .inl ⟨SqL.of ha, fun l hl => ?_⟩⟩
          obtain ⟨tl, htl, stl⟩ := R_leaf12
          obtain ⟨h1, h2⟩ := rdl_rep (htl.ext (e13.trans (e14.trans (Ex.new (o := .tup (List.replicate n vl)) hl)))) n
          refine q13 _ _ (e14.trans (Ex.new hl)) ⟨.tup (List.replicate n tl), .tup upd_same h1, ?_⟩
          simp only [Tr.sz, h2]
          have : n * tl.sz ≤ 4001 * 10 := Nat.mul_le_mul hn1 stl
          omega
      · rw [l10] at l13
        exact q r cs H13 (x012.trans (Ex.but e13)) ((hB12.ex e13).up (by omega)) (ne_of_none hu12 z13).symm g13 (by omega) d13
    · refine ite0 (by simp; omega) (nx_l ?_)
      refine norm_l (σ' := [some (.ref b), some (.ref wd), some (.ref pr), some (.ref ps), some (.ref pw), some vl, some (.int (way : Int)), some (.int (more : Int)), some (.int (dp : Int)), some v9, o9, some (.ref p10), none, none]) rfl ?_
      refine seq_l (asg_l (mkz_tup (H0 := H10) (s := 1 + (1 + (31 + 0))) (m := 34) (mkz_cons (mk_str (by decide) (by decide)) (mkz_cons (mk_ixn (j := 3) rfl p_names10 r_names10 (by omega) (by decide) g_names) (mkz_cons (mkz_tup (s := 10 + (10 + (10 + 0))) (mkz_cons (mk_v rfl R_leaf10) (mkz_cons (mk_v rfl R_leaf10) (mkz_cons (mk_v rfl R_leaf10) mkz_nil))) (by decide) (by decide)) mkz_nil))) (by decide) (by decide) H10 _ (Ex.refl H10) fun s1 H11 e11 Rs1 => nx_p ?_))
      have p_names11 := e11 _ _ p_names10
      have r_names11 : Paired (RowAt H11) ur qs := Paired.ext (fun _ _ z => z.ext e11) r_names10
      refine seq_l (par_l (cons_l (mkz_tup (H0 := H11) (s := 1 + (1 + (103 + 0))) (m := 106) (mkz_cons (mk_str (by decide) (by decide)) (mkz_cons (mk_ixn (j := 3) rfl p_names11 r_names11 (by omega) (by decide) g_names) (mkz_cons (mkz_tup (s := 34 + (34 + (34 + 0))) (mkz_cons (mk_v rfl Rs1) (mkz_cons (mk_v rfl Rs1) (mkz_cons (mk_v rfl Rs1) mkz_nil))) (by decide) (by decide)) mkz_nil))) (by decide) (by decide) H11 _ (Ex.refl H11) fun s2 H12 e12 Rs2 => cons_l ⟨_, rfl, nil_l ⟨_, _, rfl, nx_p ?_⟩⟩)))
      have e1012 := e11.trans e12
      have p_names12 := e12 _ _ p_names11
      have r_names12 : Paired (RowAt H12) ur qs := Paired.ext (fun _ _ z => z.ext e12) r_names11
      refine norm_l (σ' := [some (.ref b), some (.ref wd), some (.ref pr), some (.ref ps), some (.ref pw), some vl, some (.int (way : Int)), some (.int (more : Int)), some (.int (dp : Int)), some vl, o9, some (.ref p10), none, some s2]) rfl ?_
      refine seq_l (forR_by (n := 148) (fun j σ1 H1 => ∃ (v : V) (o : Option V), σ1 = [some (.ref b), some (.ref wd), some (.ref pr), some (.ref ps), some (.ref pw), some vl, some (.int (way : Int)), some (.int (more : Int)), some (.int (dp : Int)), some v, o, some (.ref p10), none, some s2] ∧ Ex H12 H1 ∧ RdN (10 + 216 * j) H1 v) (fun R h => ⟨148, rfl, by decide, by decide, h⟩) ⟨vl, o9, rfl, Ex.refl _, R_leaf10.ext e1012⟩ (fun j σ1 H1 N hj hp1 kN => ?_) (fun σ1 H13 hp1 => ?_))
      · obtain ⟨v, o, rfl, e, hv1⟩ := hp1
        have Rs21 := Rs2.ext e
        refine asg_l (mkz_tup (H0 := H1) (s := 1 + (1 + ((223 + 216 * j) + 0))) (m := 10 + 216 * (j + 1)) (mkz_cons (mk_str (by decide) (by decide)) (mkz_cons (mk_ixn (j := 3) rfl (e _ _ p_names12) (Paired.ext (fun _ _ z => z.ext e) r_names12) (by omega) (by decide) g_names) (mkz_cons (mk_ifeq (x := (j : Int)) rfl (mkz_tup (s := 106 + ((10 + 216 * j) + (106 + 0))) (mkz_cons (mk_v rfl Rs21) (mkz_cons (mk_v rfl hv1) (mkz_cons (mk_v rfl Rs21) mkz_nil))) (by omega) (by omega)) (mkz_tup (s := (10 + 216 * j) + (106 + (106 + 0))) (mkz_cons (mk_v rfl hv1) (mkz_cons (mk_v rfl Rs21) (mkz_cons (mk_v rfl Rs21) mkz_nil))) (by omega) (by omega))) mkz_nil))) (by omega) (by omega) H1 _ (Ex.refl H1) fun v' H2 e2 hv' => ?_)
        exact kN _ _ ⟨v', some (.int (j : Int)), rfl, e.trans e2, hv'⟩
      · obtain ⟨v, o, rfl, e, hv1⟩ := hp1
        have e1013 := e1012.trans e
        refine nx_p (seq_l (wrap_l (n := 3 + more) (s := 31978) (j := 1) (qs := qs) (fun v o => [some (.ref b), some (.ref wd), some (.ref pr), some (.ref ps), some (.ref pw), some vl, some (.int (way : Int)), some (.int (more : Int)), some (.int (dp : Int)), some v, o, some (.ref p10), none, some s2]) (fun _ _ => rfl) (fun _ _ => rfl) (fun _ _ _ _ => rfl) (fun _ _ _ => rfl) (fun _ _ _ => rfl)
          (fun R h => ⟨_, rfl, _, _, rfl, rfl, 3 + more, rfl, by omega, by omega, h⟩) (e _ _ p_names12) (Paired.ext (fun _ _ z => z.ext e) r_names12) (by omega) g_names (hv1.up (by omega)) (by omega) fun v14 o14 H14 e14 R14 => nx_p ?_))
        have e1014 := e1013.trans e14
        refine ret_l (grow_mkg ask_mono (H0 := H14) (k := 1) rfl (e1014 _ _ g10) (fun v hv => (d10 v hv).ext e1014) (mkg_cons ask_mono (mk_ask (n := 32000) (mk_v rfl (R14.up (by omega))) (by decide) (.inl rfl)) mkg_nil) (Ex.refl H14) (by rw [l10]; decide) fun r cs H15 e15 g15 z15 l15 d15 => ?_)
        rw [l10] at l15
        exact q r cs H15 (x010.trans (Ex.but (e1014.trans e15))) ((hB10.ex (e1014.trans e15)).up (by omega)) (ne_of_none (e1014 _ _ hu10) z15).symm g15 (by omega) d15
end
end D0

namespace D0
open PySem PySem.Spec PyProof.Rows L2 L2H HotX Evl K9 KM
theorem kd_kind {kd : Str} (h : Kd kd) : kindV (.str kd) = true := by
  rcases h with h | h | h <;> subst h <;> decide
theorem strs_lk {H : Hp} (zs : List Str) : LkL H (zs.map V.str) (zs.map V.str) zs.length := by
  induction zs with
  | nil => exact .nil
  | cons z zs ih =>
    rw [List.map_cons, List.length_cons, Nat.add_comm]
    exact .cons (.str z) ih
section
variable {P : Program} {w : World} {K : PySem.W.Frag} {mg : Str → Option Value} {base : Heap} {f : Addr} {fd : FuncData} {k : Nat}
def spAsked (C Pt : Addr) : Sp := fun vs H Q _ => ∃ (v : V) (t : Tr) (kd : Str) (x c : Addr) (bn : Bool) (rs : List (Str × Int)), vs = [v, .str kd, .ref x, .ref c, .bl bn] ∧ Rd H v t ∧ t.sz ≤ 1000000 ∧ Kd kd ∧ NamesAt H C x rs ∧ H c = some (.dK (cntK rs)) ∧ TabX H Pt ∧ ∀ H', Ex H H' → Q (.bl true) H'
abbrev IsTerm (P : Program) (w : World) (K : PySem.W.Frag) (mg : Str → Option Value) (base : Heap) (k : Nat) (C Pt : Addr) : Prop := OkR P w K mg base k "is_term" ["value", "kind", "names"] w_is_term (spIsTerm K C Pt)
abbrev s_asked_right : Stmt := top 52
abbrev N_asked_right : List Str := ["value", "kind", "names", "counts", "by_name", "told"]
theorem sc_asked_right : FnScope N_asked_right ["value", "kind", "names", "counts", "by_name"] (defScope s_asked_right) := ⟨rfl, rfl, rfl, by decide +kernel, rfl, by decide +kernel, by decide +kernel⟩
theorem ok_asked_right {C Pt : Addr} (T : Txt K mg) (r_is_term : IsTerm P w K mg base k C Pt) (k_due : OkC P w K mg base k "_law_due" ["value", "kind", "counts"] spLawDue) (F : FunD K "_law_asked_right" "_law_asked_right" (defArgs s_asked_right) (defBody s_asked_right) (defScope s_asked_right) [] [] f fd) (hm : mg "_law_asked_right" = some (.ref f)) : OkC P w K mg base (k + 1) "_law_asked_right" ["value", "kind", "names", "counts", "by_name"] (spAsked C Pt) := by
  refine okC_of F hm sc_asked_right (fun _ _ _ _ _ _ us hl => match us, hl with | [_, _, _, _, _], _ => rfl) (fun vs H Q E h => ?_) (fun cdv A outer s H vs Q E hr h => ?_)
  · obtain ⟨v, t, kd, x, c, bn, rs, rfl, _⟩ := h
    rfl
  · obtain ⟨v, t, kd, x, c, bn, rs, rfl, hv, hsz, hkd, hN, hc, hT, q⟩ := h
    refine ⟨_, (pss_cons (ps_set (i := 5) sc_asked_right.nd rfl (Or.inl rfl) (pe_ifExp (pt_val (pv 4)) (pe_callRK0 (ks := ["names", "value", "kind"]) (ix := [1, 2, 0]) takes_never r_is_term (by decide) hr (by rfl) (pk_cons (pv 2) (pk_cons (pv 0) (pk_cons (pv 1) pk_nil)))) (pe_callR takes_never r_is_term hr (by rfl) (pa_cons (pv 0) (pa_cons (pv 1) (pa_cons (pv 2) pa_nil)))))) (pss_one (ps_ret (pe_ifExp (pt_val (pe_callK0 k_due hr (by rfl) (pa_cons (pv 0) (pa_cons (pv 1) (pa_cons (pv 3) pa_nil))))) (pe_cmpR (op_isB (b := true)) (pv 5) pe_bl (nomark _)) (pe_cmpR (op_isB (b := false)) (pv 5) pe_bl (nomark _)))))), ?_⟩
    have asked : ∀ Q' : VK, (∀ H1, Ex H H1 → Q' (.bl (termT (countOf rs) t kd)) H1) → spIsTerm K C Pt [v, .str kd, .ref x] H Q' (WE (fun _ _ _ _ => False) (start N_asked_right [v, .str kd, .ref x, .ref c, .bl bn])) := fun Q' q' =>
      ⟨v, .str kd, "str", x, rfl, .str kd, fun _ => ⟨t, kd, rs, rfl, hkd, hv, hsz, hN, hT, q'⟩, fun h => by rw [kd_kind hkd] at h; cases h⟩
    refine seq_l (asg_l (joinV_l (fun u H1 => Ex H H1 ∧ u = .bl (termT (countOf rs) t kd)) (fun u H1 ⟨e1, hu⟩ => ?_) (fun Q' hQ' => ?_)))
    · subst hu
      refine nx_p (ret_l ⟨_, rfl, _, rfl, _, rfl, v, t, kd, c, rs, rfl, hv.ext e1, hkd, hsz, e1 _ _ hc, fun H2 e2 => ⟨_, rfl, ?_⟩⟩)
      dsimp only
      split
      · rename_i h
        refine ⟨_, rfl, rfl, .inr ⟨_, rfl⟩, ?_⟩
        rw [h]
        exact q _ (e1.trans e2)
      · rename_i h
        refine ⟨_, rfl, rfl, .inr ⟨_, rfl⟩, ?_⟩
        rw [Bool.not_eq_true] at h
        rw [h]
        exact q _ (e1.trans e2)
    · refine ⟨_, rfl, _, rfl, ?_⟩
      dsimp only
      split
      · exact ⟨_, rfl, _, rfl, _, rfl, rfl, rfl, asked Q' fun H1 e1 => hQ' _ _ ⟨e1, rfl⟩⟩
      · exact ⟨_, rfl, _, rfl, _, rfl, asked Q' fun H1 e1 => hQ' _ _ ⟨e1, rfl⟩⟩
/-- what is handed over as a kind -/
inductive KI (n : Nat) (H : Hp) : V → Prop
  | non : KI n H .non
  | bl (b : Bool) : KI n H (.bl b)
  | int (i : Int) : KI n H (.int i)
  | str (z : Str) : KI n H (.str z)
  | tup {a : Addr} {zs : List Str} : H a = some (.tup (zs.map V.str)) → zs.length ≤ n → KI n H (.ref a)
  | dic {a : Addr} {ks : List (Str × Int)} : H a = some (.dK (cntK ks)) → (ks.map (·.1)).Nodup → ks.length ≤ n → KI n H (.ref a)
  | lst {a : Addr} {zs : List Str} : H a = some (.lst (zs.map V.str)) → zs.length ≤ n → KI n H (.ref a)
theorem KI.up {n m : Nat} {H : Hp} {v : V} (l : n ≤ m) (h : KI n H v) : KI m H v := by
  cases h with
  | non => exact .non
  | bl b => exact .bl b
  | int i => exact .int i
  | str z => exact .str z
  | tup h k => exact .tup h (Nat.le_trans k l)
  | dic h d k => exact .dic h d (Nat.le_trans k l)
  | lst h k => exact .lst h (Nat.le_trans k l)
theorem KI.ext {n : Nat} {H H' : Hp} {v : V} (e : Ex H H') (h : KI n H v) : KI n H' v := by
  cases h with
  | non => exact .non
  | bl b => exact .bl b
  | int i => exact .int i
  | str z => exact .str z
  | tup h k => exact .tup (e _ _ h) k
  | dic h d k => exact .dic (e _ _ h) d k
  | lst h k => exact .lst (e _ _ h) k
theorem KI.exb {n : Nat} {c : Addr} {H H' : Hp} {v : V} {ys zs : List Str} (e : ExB c H H') (h0 : H c = some (.lst (ys.map V.str))) (h1 : H' c = some (.lst (zs.map V.str))) (hz : zs.length ≤ n) (h : KI n H v) : KI n H' v := by
  cases h with
  | non => exact .non
  | bl b => exact .bl b
  | int i => exact .int i
  | str z => exact .str z
  | tup h k => exact .tup (e _ _ (fun z => by rw [z, h0] at h; cases h) h) k
  | dic h d k => exact .dic (e _ _ (fun z => by rw [z, h0] at h; cases h) h) d k
  | @lst a zs' h k =>
    by_cases z : a = c
    · subst z
      exact .lst h1 hz
    · exact .lst (e _ _ z h) k
/-- the value's heap behind the asking: only the value itself may have grown -/
def Kx (n : Nat) (kv : V) (H H' : Hp) : Prop := Ex H H' ∨ ∃ (a : Addr) (ys zs : List Str), kv = .ref a ∧ ExB a H H' ∧ H a = some (.lst (ys.map V.str)) ∧ H' a = some (.lst (zs.map V.str)) ∧ zs.length ≤ n + 1
theorem dic_lk {H : Hp} {a : Addr} {ks : List (Str × Int)} (h : H a = some (.dK (cntK ks))) (nd : (ks.map (·.1)).Nodup) : Lk H (.ref a) (.ref a) (ks.length + 1) := by
  refine .dic h h rfl ?_ ?_
  · unfold cntK
    rw [List.map_map, show ks.map ((fun x : Key × V => x.1) ∘ fun r => (Sum.inr r.1, V.int r.2)) = (ks.map (·.1)).map Sum.inr from by simp, nodup_map fun a b h => by cases h; rfl]
    exact nd
  · clear h nd
    induction ks with
    | nil => exact .nil
    | cons k ks ih =>
      rw [List.length_cons, Nat.add_comm]
      exact .cons (.int k.2) ih
/-- the value and what was kept of it -/
inductive Kp (n : Nat) (H : Hp) (v v2 : V) : Prop
  | lst {a p : Addr} {zs : List Str} (e1 : v = .ref a) (e2 : v2 = .ref p) (h1 : H a = some (.lst (zs.map V.str))) (h2 : H p = some (.lst (zs.map V.str))) (n12 : p ≠ a) (l : zs.length ≤ n) : Kp n H v v2
  | same {s : String} {m : Nat} (e : v2 = v) (h : Bas H v s) (ns : s ≠ "list") (lk : Lk H v v m) (l : m ≤ n + 1) : Kp n H v v2
theorem Kp.ext {n : Nat} {H H' : Hp} {v v2 : V} (e : Ex H H') (h : Kp n H v v2) : Kp n H' v v2 := by
  cases h with
  | lst e1 e2 h1 h2 n12 l => exact .lst e1 e2 (e _ _ h1) (e _ _ h2) n12 l
  | same e2 h ns lk l => exact .same e2 (h.ext e) ns (lk.ext e) l
theorem Kp.lk {n : Nat} {H : Hp} {v v2 : V} (h : Kp n H v v2) : ∃ m, m ≤ n + 1 ∧ Lk H v v2 m := by
  cases h with
  | @lst a p zs e1 e2 h1 h2 n12 l =>
    subst e1 e2
    exact ⟨_, by omega, .lst h1 h2 (strs_lk zs)⟩
  | same e2 h ns lk l =>
    subst e2
    exact ⟨_, l, lk⟩
theorem KI.bas {n : Nat} {H : Hp} {v : V} (h : KI n H v) : (∃ (a : Addr) (zs : List Str), v = .ref a ∧ H a = some (.lst (zs.map V.str)) ∧ zs.length ≤ n) ∨ ∃ s m, Bas H v s ∧ s ≠ "list" ∧ Lk H v v m ∧ m ≤ n + 1 := by
  cases h with
  | non => exact .inr ⟨_, _, .non, by decide, .non, by omega⟩
  | bl b => exact .inr ⟨_, _, .bl b, by decide, .bl b, by omega⟩
  | int i => exact .inr ⟨_, _, .int i, by decide, .int i, by omega⟩
  | str z => exact .inr ⟨_, _, .str z, by decide, .str z, by omega⟩
  | @tup a zs h k => exact .inr ⟨_, _, .tup h, by decide, .tup h h (strs_lk zs), by omega⟩
  | dic h d k => exact .inr ⟨_, _, .dK h, by decide, dic_lk h d, by omega⟩
  | lst h k => exact .inl ⟨_, _, rfl, h, k⟩
theorem ref_kind (a : Addr) : kindV (.ref a) = false := rfl
def spRefused : Sp := fun vs H Q _ => ∃ (v kv : V) (x : Addr) (bn : Bool) (n : Nat), vs = [v, kv, .ref x, .bl bn] ∧ KI n H kv ∧ n ≤ 100 ∧ kindV kv = false ∧ ∀ H', Kx n kv H H' → Q (.bl true) H'
abbrev s_kind_refused : Stmt := top 53
abbrev N_kind_refused : List Str := ["value", "kind", "names", "by_name", "kept", "e"]
theorem sc_kind_refused : FnScope N_kind_refused ["value", "kind", "names", "by_name"] (defScope s_kind_refused) := ⟨rfl, rfl, rfl, by decide +kernel, rfl, by decide +kernel, by decide +kernel⟩
theorem ok_kind_refused {C Pt : Addr} (T : Txt K mg) (E0 : Errs K Hd.errs "ChoiceError" Hd.ini Hd.flds) (te : PySem.W.exmOne K (.ref (He.ga K "InvalidKind")) (.ref (He.ga K "InvalidKind")) = some true) (r_is_term : IsTerm P w K mg base k C Pt) (k_like : Ok P w K mg base k "_law_like" ["told", "due"] spLike) (F : FunD K "_law_kind_refused" "_law_kind_refused" (defArgs s_kind_refused) (defBody s_kind_refused) (defScope s_kind_refused) [] [] f fd) (hm : mg "_law_kind_refused" = some (.ref f)) : OkC P w K mg base (k + 1) "_law_kind_refused" ["value", "kind", "names", "by_name"] spRefused := by
  refine okC_of F hm sc_kind_refused (fun _ _ _ _ _ _ us hl => match us, hl with | [_, _, _, _], _ => rfl) (fun vs H Q E h => ?_) (fun cdv A outer s H vs Q E hr h => ?_)
  · obtain ⟨v, kv, x, bn, n, rfl, _⟩ := h
    rfl
  · obtain ⟨v, kv, x, bn, n, rfl, hk, hn, hkf, q⟩ := h
    refine ⟨_, PSs.nox (pss_cons (ps_set (i := 4) sc_kind_refused.nd rfl (Or.inl rfl) (pe_ifExp (pt_val (pe_callB call_isi (by rfl) T.f_isinstance (by decide +kernel) (pa_cons (pv 1) (pa_cons (pe_bltn (v := .ty "list") (by rfl) T.f_list (by decide +kernel) rfl) pa_nil)))) (pe_callTy call_list_of (by rfl) T.f_list (by decide +kernel) (pa_cons (pv 1) pa_nil)) (pv 1))) (pss_cons (L2N.ps_try_as (i := 5) (Wout := fun _ _ _ _ => False) rfl rfl sc_kind_refused.nd rfl rfl ⟨(by rfl), by decide, .inl (T.g_cls "InvalidKind" (by decide))⟩ takes_never (fun W pn xe tk hp => (by exact (pss_one (ps_if (pt_val (pv 3)) (pss_one (ps_expr (pe_callRK (n := 1) (ks := ["kind", "names"]) (ix := [0, 1]) tk r_is_term (by decide) hr (by rfl) (pa_cons (pv 0) pa_nil) (pk_cons (pv 1) (pk_cons (pv 2) pk_nil))))) (pss_one (ps_expr (pe_callR tk r_is_term hr (by rfl) (pa_cons (pv 0) (pa_cons (pv 1) (pa_cons (pv 2) pa_nil)))))))))) (fun a oe cls d pn hz hf => suite_all (fun oe pn hz hf => (by exact (pss_cons (ps_if (pw_or (pt_not (pt_val (pe_callO k_like (markR hr) (suite_call hz hf) (by rfl) (pa_cons (pe_getE (pv 5)) (pa_cons (pv 4) pa_nil))))) (pw_or1 (pt_not (pt_val (pe_callO k_like (markR hr) (suite_call hz hf) (by rfl) (pa_cons (pv 1) (pa_cons (pv 4) pa_nil))))))).pt (pss_one (ps_ret pe_bl)) pss_nil) (pss_cons (ps_if (pt_val (pe_callB call_isi (by rfl) T.f_isinstance (by decide +kernel) (pa_cons (pv 1) (pa_cons (pe_bltn (v := .ty "list") (by rfl) T.f_list (by decide +kernel) rfl) pa_nil)))) (pss_cons (ps_expr (pe_bm PySem.F.plainAttrs_list PySem.F.slot_list_append PySem.F.type_list_append mt_append (pv 1) (pa_cons pe_str pa_nil))) (pss_one (ps_ret (pe_callO k_like (markR hr) (suite_call hz hf) (by rfl) (pa_cons (pe_getE (pv 5)) (pa_cons (pe_op op_cat (pv 4) (pe_lst (pa_cons pe_str pa_nil))) pa_nil)))))) pss_nil) (pss_one (ps_ret pe_bl)))))) oe pn hz hf)) (pss_one (ps_ret pe_bl)))), ?_⟩
    have sz := sizeLine_eq
    have hN : ("InvalidKind" : Str) ∈ Hd.errs := by decide
    have hC : ("ChoiceError" : Str) ∈ Hd.errs := by decide
    refine seq_l (join_l (α := V) (S := fun a => [some v, some kv, some (.ref x), some (.bl bn), some a, none]) (R := fun a H2 => Ex H H2 ∧ Kp n H2 kv a) (fun v2 H2 ha => ?_) (fun main => ?_))
    · obtain ⟨e2, kp⟩ := ha
      obtain ⟨sb, hsb⟩ : ∃ s, Bas H2 kv s := by
        rcases hk.bas with ⟨a, zs, rfl, ha, _⟩ | ⟨s, m, hb, _⟩
        · exact ⟨_, .lst (e2 _ _ ha)⟩
        · exact ⟨s, hb.ext e2⟩
      cases bn with
      | true =>
        refine nx_p (seq_l (ifB_l ⟨_, rfl, true, rfl, ite1 rfl ?_⟩))
        refine ⟨_, rfl, _, rfl, _, rfl, rfl, rfl, v, kv, sb, x, rfl, hsb, (fun h => by rw [hkf] at h; cases h), fun _ d H3 e3 hd => ?_⟩
        refine ⟨true, te, fun _ a ha oe pn hz hf => ?_, fun z => absurd z (by decide)⟩
        have he : Err ((a, oe) :: pn) H3 a (He.ga K "InvalidKind") (some [("given", kv)]) := ⟨d, .inr ⟨oe, List.mem_cons_self .., ⟨hz.1, hz.2.1⟩, hf⟩, .inr hd⟩
        have kp3 := kp.ext e3
        obtain ⟨m, hm, lk⟩ := kp3.lk
        have fld := E0.fld _ hN "given" (by decide)
        refine seq_l ⟨_, rfl, a, _, _, kv, rfl, he, E0.err _ hN, fld, rfl, _, rfl, kv, v2, m, rfl, by omega, lk, fun H4 e4 => ⟨_, rfl, ite0 (by decide) ?_⟩⟩
        refine ⟨_, rfl, _, rfl, kv, v2, m, rfl, by omega, lk.ext e4, fun H5 e5 => ⟨_, rfl, ite0 (by decide) (nx_l ?_)⟩⟩
        have e35 := e4.trans e5
        have kp5 := kp3.ext e35
        have he5 := he.ext e35
        have e05 : Ex H H5 := e2.trans (e3.trans e35)
        refine seq_l ⟨_, rfl, ?_⟩
        dsimp only [tCons, tC, tNil]
        cases kp5 with
        | @lst a1 p zs r1 r2 h1 h2 n12 l =>
          subst r1 r2
          refine Bas.isi (T := "list") (r := true) (.lst h1) rfl ⟨_, rfl, ite1 rfl ?_⟩
          refine seq_l ⟨_, rfl, .inl ⟨rfl, _, SqL.of h1⟩, a1, _, .str "num", rfl, rfl, h1, by rw [List.length_map]; omega, ?_⟩
          have b6 : ExB a1 H5 (upd H5 a1 (.lst (zs.map V.str ++ [.str "num"]))) := ExB.set
          have hmm : zs.map V.str ++ [V.str "num"] = (zs ++ [("num" : Str)]).map V.str := by rw [List.map_append]; rfl
          have h6 : upd H5 a1 (.lst (zs.map V.str ++ [.str "num"])) a1 = some (.lst ((zs ++ [("num" : Str)]).map V.str)) := by rw [upd_same, hmm]
          have he6 := K9.Err.exb b6 h1 he5
          have h6p := b6 _ _ n12 h2
          generalize upd H5 a1 (.lst (zs.map V.str ++ [.str "num"])) = H6 at b6 h6 he6 h6p ⊢
          refine nx_p (ret_l ⟨_, rfl, a, _, _, .ref a1, rfl, he6, E0.err _ hN, fld, rfl, _, rfl, by show 1 ≤ sizeLine; decide, fun p7 hp7 => ?_⟩)
          refine ⟨p, p7, _, _, rfl, rfl, (Ex.new hp7) _ _ h6p, upd_same, by rw [List.length_map]; show zs.length + 1 ≤ sizeLine; omega, fun p8 hp8 => ?_⟩
          have e8 : Ex H6 (upd (upd H6 p7 (.lst [.str "num"])) p8 (.lst (zs.map V.str ++ [.str "num"]))) := (Ex.new hp7).trans (Ex.new hp8)
          have h8 : upd (upd H6 p7 (.lst [.str "num"])) p8 (.lst (zs.map V.str ++ [.str "num"])) p8 = some (.lst ((zs ++ [("num" : Str)]).map V.str)) := by rw [upd_same, hmm]
          generalize upd (upd H6 p7 (.lst [.str "num"])) p8 (.lst (zs.map V.str ++ [.str "num"])) = H8 at e8 h8 ⊢
          refine ⟨.ref a1, .ref p8, (zs ++ [("num" : Str)]).length + 1, rfl, by simp; omega, .lst (e8 _ _ h6) h8 (strs_lk _), fun H9 e9 => ?_⟩
          have h0 : ∃ ys : List Str, H a1 = some (.lst (ys.map V.str)) := by
            rcases hk.bas with ⟨a', zs', hh, ha', _⟩ | ⟨s, m, hb, ns, _⟩
            · cases hh
              exact ⟨_, ha'⟩
            · have hb5 := hb.ext e05
              cases hb5 with
              | lst _ => exact absurd rfl ns
              | tup h => rw [h] at h1; cases h1
              | dK h => rw [h] at h1; cases h1
          obtain ⟨ys, h0⟩ := h0
          exact q _ (.inr ⟨a1, ys, zs ++ [("num" : Str)], rfl, (Ex.but e05).trans (b6.trans (Ex.but (e8.trans e9))), h0, e9 _ _ (e8 _ _ h6), by simp; omega⟩)
        | @same s5 m5 r2 h ns lk5 l =>
          subst r2
          refine Bas.isi (T := "list") (r := false) h ?_ ⟨_, rfl, ite0 (by decide) (nx_l ?_)⟩
          · cases h <;> first
              | rfl
              | exact absurd rfl ns
          refine ret_l ?_
          exact q H5 (.inl e05)
      | false =>
        refine nx_p (seq_l (ifB_l ⟨_, rfl, false, rfl, ite0 (by decide) ?_⟩))
        refine ⟨_, rfl, _, rfl, _, rfl, v, kv, sb, x, rfl, hsb, (fun h => by rw [hkf] at h; cases h), fun _ d H3 e3 hd => ?_⟩
        refine ⟨true, te, fun _ a ha oe pn hz hf => ?_, fun z => absurd z (by decide)⟩
        have he : Err ((a, oe) :: pn) H3 a (He.ga K "InvalidKind") (some [("given", kv)]) := ⟨d, .inr ⟨oe, List.mem_cons_self .., ⟨hz.1, hz.2.1⟩, hf⟩, .inr hd⟩
        have kp3 := kp.ext e3
        obtain ⟨m, hm, lk⟩ := kp3.lk
        have fld := E0.fld _ hN "given" (by decide)
        refine seq_l ⟨_, rfl, a, _, _, kv, rfl, he, E0.err _ hN, fld, rfl, _, rfl, kv, v2, m, rfl, by omega, lk, fun H4 e4 => ⟨_, rfl, ite0 (by decide) ?_⟩⟩
        refine ⟨_, rfl, _, rfl, kv, v2, m, rfl, by omega, lk.ext e4, fun H5 e5 => ⟨_, rfl, ite0 (by decide) (nx_l ?_)⟩⟩
        have e35 := e4.trans e5
        have kp5 := kp3.ext e35
        have he5 := he.ext e35
        have e05 : Ex H H5 := e2.trans (e3.trans e35)
        refine seq_l ⟨_, rfl, ?_⟩
        dsimp only [tCons, tC, tNil]
        cases kp5 with
        | @lst a1 p zs r1 r2 h1 h2 n12 l =>
          subst r1 r2
          refine Bas.isi (T := "list") (r := true) (.lst h1) rfl ⟨_, rfl, ite1 rfl ?_⟩
          refine seq_l ⟨_, rfl, .inl ⟨rfl, _, SqL.of h1⟩, a1, _, .str "num", rfl, rfl, h1, by rw [List.length_map]; omega, ?_⟩
          have b6 : ExB a1 H5 (upd H5 a1 (.lst (zs.map V.str ++ [.str "num"]))) := ExB.set
          have hmm : zs.map V.str ++ [V.str "num"] = (zs ++ [("num" : Str)]).map V.str := by rw [List.map_append]; rfl
          have h6 : upd H5 a1 (.lst (zs.map V.str ++ [.str "num"])) a1 = some (.lst ((zs ++ [("num" : Str)]).map V.str)) := by rw [upd_same, hmm]
          have he6 := K9.Err.exb b6 h1 he5
          have h6p := b6 _ _ n12 h2
          generalize upd H5 a1 (.lst (zs.map V.str ++ [.str "num"])) = H6 at b6 h6 he6 h6p ⊢
          refine nx_p (ret_l ⟨_, rfl, a, _, _, .ref a1, rfl, he6, E0.err _ hN, fld, rfl, _, rfl, by show 1 ≤ sizeLine; decide, fun p7 hp7 => ?_⟩)
          refine ⟨p, p7, _, _, rfl, rfl, (Ex.new hp7) _ _ h6p, upd_same, by rw [List.length_map]; show zs.length + 1 ≤ sizeLine; omega, fun p8 hp8 => ?_⟩
          have e8 : Ex H6 (upd (upd H6 p7 (.lst [.str "num"])) p8 (.lst (zs.map V.str ++ [.str "num"]))) := (Ex.new hp7).trans (Ex.new hp8)
          have h8 : upd (upd H6 p7 (.lst [.str "num"])) p8 (.lst (zs.map V.str ++ [.str "num"])) p8 = some (.lst ((zs ++ [("num" : Str)]).map V.str)) := by rw [upd_same, hmm]
          generalize upd (upd H6 p7 (.lst [.str "num"])) p8 (.lst (zs.map V.str ++ [.str "num"])) = H8 at e8 h8 ⊢
          refine ⟨.ref a1, .ref p8, (zs ++ [("num" : Str)]).length + 1, rfl, by simp; omega, .lst (e8 _ _ h6) h8 (strs_lk _), fun H9 e9 => ?_⟩
          have h0 : ∃ ys : List Str, H a1 = some (.lst (ys.map V.str)) := by
            rcases hk.bas with ⟨a', zs', hh, ha', _⟩ | ⟨s, m, hb, ns, _⟩
            · cases hh
              exact ⟨_, ha'⟩
            · have hb5 := hb.ext e05
              cases hb5 with
              | lst _ => exact absurd rfl ns
              | tup h => rw [h] at h1; cases h1
              | dK h => rw [h] at h1; cases h1
          obtain ⟨ys, h0⟩ := h0
          exact q _ (.inr ⟨a1, ys, zs ++ [("num" : Str)], rfl, (Ex.but e05).trans (b6.trans (Ex.but (e8.trans e9))), h0, e9 _ _ (e8 _ _ h6), by simp; omega⟩)
        | @same s5 m5 r2 h ns lk5 l =>
          subst r2
          refine Bas.isi (T := "list") (r := false) h ?_ ⟨_, rfl, ite0 (by decide) (nx_l ?_)⟩
          · cases h <;> first
              | rfl
              | exact absurd rfl ns
          refine ret_l ?_
          exact q H5 (.inl e05)
    · refine asg_l ⟨_, rfl, ?_⟩
      dsimp only [tCons, tC, tNil]
      rcases hk.bas with ⟨a, zs, rfl, ha, lz⟩ | ⟨s, m, hb, ns, lk, lm⟩
      · refine Bas.isi (T := "list") (r := true) (.lst ha) rfl ⟨_, rfl, ite1 rfl ⟨_, rfl, a, _, rfl, .inl (SqL.of ha), fun p hp => ?_⟩⟩
        exact main (.ref p) _ ⟨Ex.new hp, .lst rfl rfl ((Ex.new hp) _ _ ha) upd_same (ne_of_none ha hp).symm lz⟩
      · refine Bas.isi (T := "list") (r := false) hb ?_ ⟨_, rfl, ite0 (by decide) ⟨_, rfl, ?_⟩⟩
        · cases hb <;> first | rfl | exact absurd rfl ns
        · exact main kv _ ⟨Ex.refl H, .same rfl hb ns lk lm⟩
end
end D0

namespace D0
open PySem PySem.Spec PyProof.Rows L2 L2H HotX Evl K9 KM
/-- [x for x in .. if test]: nothing is kept; what is written on the way is told by the invariant -/
theorem lcR_none {wi : TI} {i : Nat} {tt : TT} {te : TE} {σ : L2.St} {H H0 : Hp} {Q : VK} {J : It} {n : Nat} {item : Nat → V} (P : Addr → Nat → Hp → Prop)
    (hn : n ≤ sizeLine) (hi : i < σ.length) (hw : ∀ R : It → Hp → Prop, R J H → wi σ H0 R)
    (h0 : ∀ D, H D = none → P D 0 (upd H D (.lst []))) (hD : ∀ D j H1, P D j H1 → H1 D = some (.lst []))
    (go : ∀ D j H1, j < n → P D j H1 → J.go j H1) (yld : ∀ D j H1 x H', j < n → P D j H1 → J.yld j H1 x H' → H' = H1 ∧ x = item j) (stop : ∀ D H1, P D n H1 → J.stop n H1)
    (step : ∀ D j H1 (R : Bool → Hp → Prop), j < n → P D j H1 → (∀ H3, P D (j + 1) H3 → R false H3) → tt ((wipe σ [i]).set i (some (item j))) H1 R)
    (fin : ∀ D H1, P D n H1 → Q (.ref D) H1) : tLc wi (gName i) tt te [i] σ H0 Q := by
  refine hw _ fun D hDn => ?_
  refine ⟨fun j m H1 => m = n - j ∧ j ≤ n ∧ P D j H1, ⟨n - 0, rfl, Nat.zero_le _, h0 D hDn⟩, ?_⟩
  rintro j m H1 ⟨rfl, hj, hp⟩
  by_cases hjn : j = n
  · subst hjn
    exact .inl ⟨stop D H1 hp, fin D H1 hp⟩
  · have hj2 : j < n := by omega
    refine .inr ⟨go D j H1 hj2 hp, fun H' => n - (j + 1) < n - j ∧ j + 1 ≤ n ∧ P D (j + 1) H', ?_, ?_⟩
    · rintro H' ⟨h1, h2, h3⟩
      exact ⟨n - (j + 1), h1, rfl, h2, h3⟩
    · intro x H' hy
      obtain ⟨rfl, rfl⟩ := yld D j H1 x H' hj2 hp hy
      refine ⟨?_, ?_⟩
      · simp [wipe]
      · refine step D j H' _ hj2 hp fun H3 p3 => ?_
        rw [if_neg (by decide)]
        exact ⟨by omega, by omega, p3⟩
/-- what is made as a kind that is none -/
def KG (He : Hp) (H : Hp) (v : V) : Prop := KI 5 H v ∧ kindV v = false ∧ ∀ a, v = .ref a → He a = none
theorem kg_mono {He : Hp} (H H' : Hp) (v : V) (e : Ex H H') (h : KG He H v) : KG He H' v := ⟨h.1.ext e, h.2⟩
theorem kg_new {He H : Hp} {p : Addr} (e : Ex He H) (hp : H p = none) : ∀ a, V.ref p = .ref a → He a = none := fun a h => by
  cases h
  cases hh : He p with
  | none => rfl
  | some o => rw [e _ _ hh] at hp; cases hp
section
variable {σ : L2.St} {He : Hp}
theorem kg_non : MkG σ He (KG He) (tC .non) := fun H Q _ q => q _ H (Ex.refl H) ⟨.non, rfl, fun a h => by cases h⟩
theorem kg_bl {b : Bool} : MkG σ He (KG He) (tC (.bl b)) := fun H Q _ q => q _ H (Ex.refl H) ⟨.bl b, by cases b <;> rfl, fun a h => by cases h⟩
theorem kg_int {j : Int} : MkG σ He (KG He) (tC (.int j)) := fun H Q _ q => q _ H (Ex.refl H) ⟨.int j, by simp [kindV, eqS, Hd.kinds], fun a h => by cases h⟩
theorem kg_pow : MkG σ He (KG He) (tOp (rI CPow fun i j => .int (i ^ j.toNat)) (tC (.int 10)) (tC (.int 19))) := fun H Q _ q => ⟨_, _, rfl, rfl, ⟨by decide, by decide, by decide⟩, q _ H (Ex.refl H) ⟨.int _, by simp [kindV, eqS, Hd.kinds], fun a h => by cases h⟩⟩
theorem kg_str {z : Str} (h : kindV (.str z) = false) : MkG σ He (KG He) (tC (.str z)) := fun H Q _ q => q _ H (Ex.refl H) ⟨.str z, h, fun a h => by cases h⟩
theorem kg_tup0 : MkG σ He (KG He) (tTup tNil) := fun H Q e q => ⟨by show 0 ≤ sizeLine; decide, fun p hp => q _ _ (Ex.new hp) ⟨.tup (zs := []) upd_same (by decide), rfl, kg_new e hp⟩⟩
theorem kg_tup1 {z : Str} : MkG σ He (KG He) (tTup (tCons (tC (.str z)) tNil)) := fun H Q e q => ⟨by show 1 ≤ sizeLine; decide, fun p hp => q _ _ (Ex.new hp) ⟨.tup (zs := [z]) upd_same (by show 1 ≤ 5; decide), rfl, kg_new e hp⟩⟩
theorem kg_lst0 : MkG σ He (KG He) (tLst tNil) := fun H Q e q => ⟨by show 0 ≤ sizeLine; decide, fun p hp => q _ _ (Ex.new hp) ⟨.lst (zs := []) upd_same (by decide), rfl, kg_new e hp⟩⟩
theorem kg_lst1 {z : Str} : MkG σ He (KG He) (tLst (tCons (tC (.str z)) tNil)) := fun H Q e q => ⟨by show 1 ≤ sizeLine; decide, fun p hp => q _ _ (Ex.new hp) ⟨.lst (zs := [z]) upd_same (by show 1 ≤ 5; decide), rfl, kg_new e hp⟩⟩
theorem kg_dic0 : MkG σ He (KG He) tDNewK := fun H Q e q p hp => q _ _ (Ex.new hp) ⟨.dic (ks := []) upd_same .nil (by decide), rfl, kg_new e hp⟩
theorem kg_dic1 {z : Str} {j : Int} : MkG σ He (KG He) (tDisp [(tC (.str z), tC (.int j))]) := fun H Q e q p hp => by
  refine ⟨upd_same, [(.inr z, .int j)], rfl, by show 1 ≤ 15; decide, q _ _ ?_ ⟨.dic (ks := [(z, j)]) upd_same (by simp) (by show 1 ≤ 5; decide), rfl, kg_new e hp⟩⟩
  exact fun a o ha => by rw [upd_ne (ne_of_none ha hp), upd_ne (ne_of_none ha hp)]; exact ha
end
section
variable {P : Program} {w : World} {K : PySem.W.Frag} {mg : Str → Option Value} {base : Heap} {f : Addr} {fd : FuncData} {k : Nat}
def spKinds : Sp := fun vs H Q _ => ∃ (v : V) (x : Addr) (bn : Bool), vs = [v, .ref x, .bl bn] ∧ ∀ H', Ex H H' → Q (.bl true) H'
abbrev s_kinds_right : Stmt := top 54
abbrev N_kinds_right : List Str := ["value", "names", "by_name", "kinds", "kind"]
theorem sc_kinds_right : FnScope N_kinds_right ["value", "names", "by_name"] (defScope s_kinds_right) := ⟨rfl, rfl, rfl, by decide +kernel, rfl, by decide +kernel, by decide +kernel⟩
theorem ok_kinds_right (k_kind_refused : OkC P w K mg base k "_law_kind_refused" ["value", "kind", "names", "by_name"] spRefused) (F : FunD K "_law_kinds_right" "_law_kinds_right" (defArgs s_kinds_right) (defBody s_kinds_right) (defScope s_kinds_right) [] [] f fd) (hm : mg "_law_kinds_right" = some (.ref f)) : OkC P w K mg base (k + 1) "_law_kinds_right" ["value", "names", "by_name"] spKinds := by
  refine okC_of F hm sc_kinds_right (fun _ _ _ _ _ _ us hl => match us, hl with | [_, _, _], _ => rfl) (fun vs H Q E h => ?_) (fun cdv A outer s H vs Q E hr h => ?_)
  · obtain ⟨v, x, bn, rfl, _⟩ := h
    rfl
  · obtain ⟨v, x, bn, rfl, q⟩ := h
    refine ⟨_, PSs.nox (pss_cons (ps_set (i := 3) sc_kinds_right.nd rfl (Or.inl rfl) (pe_lst (pa_cons pe_str (pa_cons pe_str (pa_cons pe_str (pa_cons pe_str (pa_cons pe_non (pa_cons pe_bl (pa_cons pe_int (pa_cons (pe_tup pa_nil) (pa_cons (pe_tup (pa_cons pe_str pa_nil)) (pa_cons (pe_lst (pa_cons pe_str pa_nil)) (pa_cons (pe_lst pa_nil) (pa_cons (pe_disp (pps_cons pe_str pe_int pps_nil) rfl rfl (by simp) (by decide)) (pa_cons pe_dnewK (pa_cons (pe_op op_pow pe_int pe_int) pa_nil)))))))))))))))) (pss_one (ps_ret (pe_cmpR (op_eq0 (huC (roomH_of hr))) (pe_lc (own := [("kind", 4)]) (g := gName 4) rfl sc_kinds_right.nd (pi_list (pv 3)) (blkOk_by (N := N_kinds_right) (sc := defScope s_kinds_right) (by decide +kernel)) (fun _ _ _ _ _ => pg_name (i := 4) sc_kinds_right.nd rfl (Or.inl rfl)) (fun _ _ _ _ _ => (pts_one (pt_not (pt_val (pe_callK0 k_kind_refused hr (by rfl) (pa_cons (pv 0) (pa_cons (pv 4) (pa_cons (pv 1) (pa_cons (pv 2) pa_nil))))))))) (fun _ _ _ _ _ => (pv 4))) (pe_lst pa_nil) (nomark _))))), ?_⟩
    have sz := sizeLine_eq
    refine seq_l (asg_l (list_mkg kg_mono (H0 := H) (k := 14) (mkg_cons kg_mono (kg_str (by decide)) (mkg_cons kg_mono (kg_str (by decide)) (mkg_cons kg_mono (kg_str (by decide)) (mkg_cons kg_mono (kg_str (by decide)) (mkg_cons kg_mono kg_non (mkg_cons kg_mono kg_bl (mkg_cons kg_mono kg_int (mkg_cons kg_mono kg_tup0 (mkg_cons kg_mono kg_tup1 (mkg_cons kg_mono kg_lst1 (mkg_cons kg_mono kg_lst0 (mkg_cons kg_mono kg_dic1 (mkg_cons kg_mono kg_dic0 (mkg_cons kg_mono kg_pow mkg_nil)))))))))))))) (Ex.refl H) (by decide) fun pk c H1 e1 g1 z1 l1 d1 => nx_p ?_))
    have npk : ∀ u ∈ c, u ≠ .ref pk := fun u hu z => by
      subst z
      have hk := (d1 _ hu).1
      generalize hv : V.ref pk = u at hk
      cases hk with
      | non => cases hv
      | bl b => cases hv
      | int i => cases hv
      | str z => cases hv
      | tup h _ => cases hv; rw [g1] at h; cases h
      | dic h _ _ => cases hv; rw [g1] at h; cases h
      | @lst a zs h l =>
        cases hv
        rw [g1] at h
        cases h
        rw [List.length_map] at l1
        omega
    refine ret_l (op_l (lcR_none (H := H1) (J := Itl K pk) (n := c.length) (item := fun i => c.getD i .non)
      (fun D j H2 => Ex H H2 ∧ H2 pk = some (.lst c) ∧ H2 D = some (.lst []) ∧ D ≠ pk ∧ (∀ u ∈ c, u ≠ .ref D) ∧ ∀ u ∈ c, KI (5 + j) H2 u)
      (by omega) (by show 4 < 5; decide) (fun R h => ⟨_, rfl, pk, rfl, ⟨_, SqL.of g1⟩, h⟩) (fun D hD => ?_) (fun D j H2 h => h.2.2.1) (fun D j H2 hj h => ⟨c, c[j], SqL.of h.2.1, List.getElem?_eq_getElem hj⟩) (fun D j H2 y H3 hj h hy => ?_) (fun D H2 h => ⟨c, SqL.of h.2.1, Nat.le_refl _⟩) (fun D j H2 R hj h hR => ?_) (fun D H2 h => ?_)))
    · refine ⟨e1.trans (Ex.new hD), (Ex.new hD) _ _ g1, upd_same, (ne_of_none g1 hD).symm, fun u hu z => ?_, fun u hu => (d1 u hu).1.ext (Ex.new hD)⟩
      subst z
      have hk := (d1 _ hu).1
      generalize hv : V.ref D = u at hk
      cases hk with
      | non => cases hv
      | bl b => cases hv
      | int i => cases hv
      | str z => cases hv
      | tup h _ => cases hv; rw [hD] at h; cases h
      | dic h _ _ => cases hv; rw [hD] at h; cases h
      | lst h l => cases hv; rw [hD] at h; cases h
    · refine ⟨hy.1, ?_⟩
      have z := hy.2 c (SqL.of h.2.1)
      show y = c.getD j .non
      rw [List.getD_eq_getElem?_getD, z]
      rfl
    · obtain ⟨e2, h1, h2, n1, n2, hk⟩ := h
      have hc0 : c.getD j V.non = c[j] := by rw [List.getD_eq_getElem?_getD, List.getElem?_eq_getElem hj]; rfl
      rw [hc0]
      have hm : c[j] ∈ c := List.getElem_mem hj
      refine ⟨_, rfl, _, rfl, _, rfl, _, rfl, v, c[j], x, bn, 5 + j, rfl, hk _ hm, by omega, (d1 _ hm).2.1, fun H3 hx => ⟨_, rfl, hR _ ?_⟩⟩
      rcases hx with e3 | ⟨a, ys, zs, hv, e3, ha, ha3, lz⟩
      · exact ⟨e2.trans e3, e3 _ _ h1, e3 _ _ h2, n1, n2, fun u hu => ((hk u hu).ext e3).up (by omega)⟩
      · have hn := (d1 _ hm).2.2 a hv
        have na : pk ≠ a := fun z => npk _ hm (by rw [hv, z])
        have nD : D ≠ a := fun z => n2 _ hm (by rw [hv, z])
        refine ⟨fun b o hb => ?_, e3 _ _ na h1, e3 _ _ nD h2, n1, n2, fun u hu => ((hk u hu).up (by omega : 5 + j ≤ 5 + (j + 1))).exb e3 ha ha3 (by omega)⟩
        exact e3 _ _ (fun z => by rw [z, hn] at hb; cases hb) (e2 _ _ hb)
    · obtain ⟨e2, h1, h2, n1, n2, hk⟩ := h
      refine ⟨Nat.zero_le _, fun p hp => ⟨D, p, [], rfl, rfl, SqL.of ((Ex.new hp) _ _ h2), SqL.of upd_same, ?_⟩⟩
      exact q _ (e2.trans (Ex.new hp))
end
end D0

namespace D0
open PySem PySem.Spec PyProof.Rows L2 L2H HotX Evl K9 KM
/-- the second list of names: each name with the next one's count -/
def shiftQ (qs : List (Str × Int)) : List (Str × Int) := (List.range 6).map fun k => ((qs.getD k ("", 0)).1, (qs.getD ((k + 1) % 6) ("", 0)).2)
theorem shiftQ_names {qs : List (Str × Int)} (l : qs.length = 6) : (shiftQ qs).map (·.1) = qs.map (·.1) := by
  match qs, l with
  | [a, b, c, d, e, f], _ => rfl
theorem shiftQ_good {qs : List (Str × Int)} (l : qs.length = 6) (g : ∀ q ∈ qs, GoodQ q) : ∀ q ∈ shiftQ qs, GoodQ q := by
  match qs, l with
  | [a, b, c, d, e, f], _ =>
    intro q hq
    have ga := g a (by simp); have gb := g b (by simp); have gc := g c (by simp); have gd := g d (by simp); have ge := g e (by simp); have gf := g f (by simp)
    simp only [shiftQ, show List.range 6 = [0, 1, 2, 3, 4, 5] from rfl, List.map_cons, List.map_nil, List.mem_cons, List.not_mem_nil, or_false] at hq
    rcases hq with rfl | rfl | rfl | rfl | rfl | rfl
    · exact ⟨ga.1, gb.2⟩
    · exact ⟨gb.1, gc.2⟩
    · exact ⟨gc.1, gd.2⟩
    · exact ⟨gd.1, ge.2⟩
    · exact ⟨ge.1, gf.2⟩
    · exact ⟨gf.1, ga.2⟩
theorem NamesAt.exl {H H' : Hp} {C x c : Addr} {rs : List (Str × Int)} {us : List V} (e : ExB c H H') (hc : H c = some (.lst us)) (h : NamesAt H C x rs) : NamesAt H' C x rs := by
  obtain ⟨dx, t, c2, vs, ss, h1, h2, h3, h4, h5, h6⟩ := h
  exact ⟨dx, t, c2, vs, ss, e _ _ (fun z => by rw [z, hc] at h1; cases h1) h1, e _ _ (fun z => by rw [z, hc] at h2; cases h2) h2, Paired.ext (fun _ _ z => z.exl e hc) h3, h4, h5, e _ _ (fun z => by rw [z, hc] at h6; cases h6) h6⟩
/-- [Names(lot), dict(lot)], not at b -/
def HouseAt (C b : Addr) (H : Hp) (v : V) (rs : List (Str × Int)) : Prop := ∃ h x c, v = .ref h ∧ h ≠ b ∧ H h = some (.lst [.ref x, .ref c]) ∧ NamesAt H C x rs ∧ H c = some (.dK (cntK rs))
theorem HouseAt.ext {C b : Addr} {H H' : Hp} {v : V} {rs : List (Str × Int)} (e : Ex H H') (h : HouseAt C b H v rs) : HouseAt C b H' v rs := by
  obtain ⟨h, x, c, rfl, n, h1, h2, h3⟩ := h
  exact ⟨h, x, c, rfl, n, e _ _ h1, h2.ext e, e _ _ h3⟩
theorem HouseAt.exb {C b : Addr} {H H' : Hp} {v : V} {rs : List (Str × Int)} {us : List V} (e : ExB b H H') (hb : H b = some (.lst us)) (h : HouseAt C b H v rs) : HouseAt C b H' v rs := by
  obtain ⟨h, x, c, rfl, n, h1, h2, h3⟩ := h
  exact ⟨h, x, c, rfl, n, e _ _ n h1, h2.exl e hb, e _ _ (fun z => by rw [z, hb] at h3; cases h3) h3⟩
/-- a list that is still being made is written: a house is not there -/
theorem HouseAt.grow {C b D : Addr} {H : Hp} {v : V} {rs : List (Str × Int)} {xs ys : List V} (hD : H D = some (.lst xs)) (h : HouseAt C b H v rs) (nD : v ≠ .ref D) : HouseAt C b (upd H D (.lst ys)) v rs := by
  obtain ⟨h, x, c, rfl, n, h1, h2, h3⟩ := h
  have e : ExB D H (upd H D (.lst ys)) := ExB.set
  exact ⟨h, x, c, rfl, n, e _ _ (fun z => nD (by rw [z])) h1, h2.exl e hD, e _ _ (fun z => by rw [z, hD] at h3; cases h3) h3⟩
theorem good_list {qs : List (Str × Int)} (l : qs.length = 6) (nd : (qs.map (·.1)).Nodup) : onList (some (qs.map some)) = true := by
  simp only [onList, goodL, Bool.and_eq_true, decide_eq_true_eq]
  refine ⟨by rw [List.length_map]; omega, by simp, ?_⟩
  rw [List.map_map]
  exact nd
theorem rows_q {K : PySem.W.Frag} {H : Hp} {us : List V} {qs : List (Str × Int)} (h : Paired (RowAt H) us qs) (g : ∀ q ∈ qs, GoodQ q) : Paired (RowQ nameB K H) us (qs.map some) := by
  induction h with
  | nil => exact .nil
  | cons a b ih =>
    obtain ⟨t, rfl, ht⟩ := a
    have z := g _ (List.mem_cons_self ..)
    exact .cons (.good ht (Nat.le_trans (nameB_len z.1) (by decide)) (by simp only [rowB, onInt, z.1, Bool.true_and, Bool.and_eq_true, decide_eq_true_eq]; exact z.2)) (ih fun q hq => g q (List.mem_cons_of_mem _ hq))
theorem rows_refs {H : Hp} {us : List V} {qs : List (Str × Int)} (h : Paired (RowAt H) us qs) (K : PySem.W.Frag) : ∃ ps : List Addr, us = ps.map V.ref ∧ Paired (fun p kv => SqT K H p [kV kv.1, kv.2]) ps (cntK qs) := by
  induction h with
  | nil => exact ⟨[], rfl, .nil⟩
  | cons a b ih =>
    obtain ⟨t, rfl, ht⟩ := a
    obtain ⟨ps, rfl, hp⟩ := ih
    exact ⟨t :: ps, rfl, .cons (SqT.of ht) hp⟩
theorem merge_new {kvs acc : List (Key × V)} (h : ((acc ++ kvs).map (·.1)).Nodup) : mergeK acc kvs = acc ++ kvs := by
  induction kvs generalizing acc with
  | nil => simp [mergeK]
  | cons p r ih =>
    have hv : valV acc p.1 = none := by
      unfold valV
      rw [List.find?_eq_none.mpr]
      · rfl
      · intro x hx hz
        have hz' : x.1 = p.1 := by simpa using hz
        rw [List.map_append, List.nodup_append] at h
        exact h.2.2 _ (List.mem_map_of_mem hx) _ (List.mem_map_of_mem (List.mem_cons_self ..)) hz'
    have z : mergeK acc (p :: r) = mergeK (putK acc p.1 p.2) r := rfl
    rw [z, putK_new p.2 hv, ih (by rw [List.append_assoc]; exact h), List.append_assoc]
    rfl
theorem merge_cnt {qs : List (Str × Int)} (nd : (qs.map (·.1)).Nodup) : mergeK [] (cntK qs) = cntK qs := by
  refine (merge_new ?_).trans rfl
  rw [List.nil_append]
  unfold cntK
  rw [List.map_map, show (qs.map ((fun x : Key × V => x.1) ∘ fun r => (Sum.inr r.1, V.int r.2))) = (qs.map (·.1)).map Sum.inr from by simp]
  exact (nodup_map fun a b h => by injection h).mpr nd
/-- [x for y in ..] without a test: all that stands is told by the invariant, also of the list that is being made -/
theorem lcD_by {wi : TI} {i : Nat} {te : TE} {σ : L2.St} {H H0 : Hp} {Q : VK} {J : It} {n : Nat} {item : Nat → V} (P : Addr → Nat → List V → Hp → Prop)
    (hn : n ≤ sizeLine) (hi : i < σ.length) (hw : ∀ R : It → Hp → Prop, R J H → wi σ H0 R)
    (h0 : ∀ D, H D = none → P D 0 [] (upd H D (.lst [])))
    (go : ∀ D j acc H1, j < n → P D j acc H1 → J.go j H1) (yld : ∀ D j acc H1 x H', j < n → P D j acc H1 → J.yld j H1 x H' → H' = H1 ∧ x = item j) (stop : ∀ D acc H1, P D n acc H1 → J.stop n H1)
    (step : ∀ D j acc H1 (C : V → Hp → Prop), j < n → P D j acc H1 → (∀ y H4, H4 D = some (.lst acc) → P D (j + 1) (acc ++ [y]) (upd H4 D (.lst (acc ++ [y]))) → C y H4) → te ((wipe σ [i]).set i (some (item j))) H1 C)
    (fin : ∀ D acc H1, P D n acc H1 → Q (.ref D) H1) : tLc wi (gName i) tYes te [i] σ H0 Q := by
  refine hw _ fun D hDn => ?_
  refine ⟨fun j m H1 => m = n - j ∧ j ≤ n ∧ ∃ acc, acc.length ≤ j ∧ P D j acc H1, ⟨n - 0, rfl, Nat.zero_le _, [], Nat.le_refl _, h0 D hDn⟩, ?_⟩
  rintro j m H1 ⟨rfl, hj, acc, hl, hp⟩
  by_cases hjn : j = n
  · subst hjn
    exact .inl ⟨stop D acc H1 hp, fin D acc H1 hp⟩
  · have hj2 : j < n := by omega
    refine .inr ⟨go D j acc H1 hj2 hp, fun H' => n - (j + 1) < n - j ∧ j + 1 ≤ n ∧ ∃ acc, acc.length ≤ j + 1 ∧ P D (j + 1) acc H', ?_, ?_⟩
    · rintro H' ⟨h1, h2, h3⟩
      exact ⟨n - (j + 1), h1, rfl, h2, h3⟩
    · intro x H' hy
      obtain ⟨rfl, rfl⟩ := yld D j acc H1 x H' hj2 hp hy
      refine ⟨?_, ?_⟩
      · simp [wipe]
      · refine step D j acc H' _ hj2 hp fun y H4 hd p4 => ?_
        exact ⟨acc, hd, by omega, by omega, by omega, acc ++ [y], by simp; omega, p4⟩
theorem map_some {α : Type} {xs ys : List α} (h : xs.map some = ys.map some) : xs = ys := by
  induction xs generalizing ys with
  | nil => cases ys with
    | nil => rfl
    | cons _ _ => cases h
  | cons x xs ih => cases ys with
    | nil => cases h
    | cons y ys =>
      rw [List.map_cons, List.map_cons] at h
      injection h with h1 h2
      injection h1 with h1
      rw [h1, ih h2]
/-- what is walked is made first -/
theorem lcE_by {wi : TI} {i : Nat} {tt : TT} {te : TE} {σ : L2.St} {H0 : Hp} {Q : VK} (Pre : It → Hp → Prop) (hw : ∀ R : It → Hp → Prop, (∀ J H, Pre J H → R J H) → wi σ H0 R) (k : ∀ J H, Pre J H → tLc (fun _ _ R => R J H) (gName i) tt te [i] σ H Q) : tLc wi (gName i) tt te [i] σ H0 Q :=
  hw _ fun J H hp => k J H hp
theorem forE_by {wi : TI} {g : TG} {tb : TS} {D : Ends} {σ : L2.St} {H0 : Hp} (Pre : It → Hp → Prop) (hw : ∀ R : It → Hp → Prop, (∀ J H, Pre J H → R J H) → wi σ H0 R) (k : ∀ J H, Pre J H → tFor (fun _ _ R => R J H) g tb D σ H) : tFor wi g tb D σ H0 :=
  hw _ fun J H hp => k J H hp
theorem cutV_take (xs : List V) (n : Nat) : cutV xs none (some (n : Int)) = xs.take n := by
  unfold cutV
  rw [HT.sIx_nat, HT.sIx_none, List.drop_zero, Nat.sub_zero]
  by_cases h : n ≤ xs.length
  · rw [Nat.min_eq_left h]
  · rw [Nat.min_eq_right (by omega), List.take_of_length_le (Nat.le_refl _), List.take_of_length_le (by omega)]
/-- what stands beside the box: the world, the code's table, the houses -/
structure Gd (C Pt b : Addr) (H : Hp) (wd ph : Addr) (qs : List (Str × Int)) (ys zs : List Str) : Prop where
  w : WorldAt b H wd qs ys zs
  t : TabX H Pt
  h : ∃ v0 v1, H ph = some (.lst [v0, v1]) ∧ ph ≠ b ∧ HouseAt C b H v0 qs ∧ HouseAt C b H v1 (shiftQ qs)
theorem Gd.ext {C Pt b : Addr} {H H' : Hp} {wd ph : Addr} {qs : List (Str × Int)} {ys zs : List Str} (e : Ex H H') (h : Gd C Pt b H wd ph qs ys zs) : Gd C Pt b H' wd ph qs ys zs := by
  obtain ⟨v0, v1, h1, n, h2, h3⟩ := h.h
  exact ⟨h.w.ext e, h.t.ext e, v0, v1, e _ _ h1, n, h2.ext e, h3.ext e⟩
theorem Gd.exb {C Pt b : Addr} {H H' : Hp} {wd ph : Addr} {qs : List (Str × Int)} {ys zs : List Str} {m : Nat} (e : ExB b H H') (hB : BoxAt H b m) (h : Gd C Pt b H wd ph qs ys zs) : Gd C Pt b H' wd ph qs ys zs := by
  obtain ⟨v0, v1, h1, n, h2, h3⟩ := h.h
  obtain ⟨us, hu⟩ := hB.at_
  exact ⟨h.w.exb e hB, K9.TabX.exb e hu h.t, v0, v1, e _ _ n h1, n, h2.exb e hu, h3.exb e hu⟩
end D0

namespace D0
open PySem PySem.Spec PyProof.Rows L2 L2H HotX Evl K9 KM
section
variable {P : Program} {w : World} {K : PySem.W.Frag} {mg : Str → Option Value} {base : Heap} {f : Addr} {fd : FuncData} {k : Nat}
def spCell2 (Ph Pa Pt : Addr) : Sp := fun vs H Q _ => ∃ (b : Addr) (c : Bool), vs = [.ref b, .bl c] ∧ BoxAt H b 0 ∧ TabX H Ph ∧ TabX H Pa ∧ TabX H Pt ∧ ∀ H', ExB b H H' → Q (.bl true) H'
abbrev s_cell_right : Stmt := top 55
abbrev N_cell_right : List Str := ["box", "first", "by_name", "rows", "strange", "world", "other", "k", "houses", "lot", "asked", "turn", "kind", "term", "nodes", "place", "spoilt", "names", "counts", "one"]
theorem sc_cell_right : FnScope N_cell_right ["box", "first"] (defScope s_cell_right) := ⟨rfl, rfl, rfl, by decide +kernel, rfl, by decide +kernel, by decide +kernel⟩
theorem ok_cell_right {C Ph Pa Pt : Addr} (T : Txt K mg) (n_Names : NOk P w K mg base k "Names" C ["self", "names"] ["names"] (spNames K C Ph Pa)) (k_take : Take P w K mg base (k + 1))
    (k_names : OkC P w K mg base (k + 1) "_law_names" ["box"] spNamesL) (k_words : OkC P w K mg base (k + 1) "_law_words" ["box", "many"] spWords) (k_term : OkC P w K mg base (k + 1) "_law_term" ["box", "world", "kind", "room", "deep"] spTerm)
    (k_nodes : OkC P w K mg base (k + 1) "_law_nodes" ["term"] spNodes) (k_swapped : Swap P w K mg base (k + 1) 5) (k_other : OkC P w K mg base (k + 1) "_law_other" ["box", "world", "node"] spOther) (k_great : OkC P w K mg base (k + 1) "_law_great" ["box", "world"] spGreat)
    (k_asked_right : OkC P w K mg base (k + 1) "_law_asked_right" ["value", "kind", "names", "counts", "by_name"] (spAsked C Pt)) (k_kinds_right : OkC P w K mg base (k + 1) "_law_kinds_right" ["value", "names", "by_name"] spKinds)
    (F : FunD K "_law_cell_right" "_law_cell_right" (defArgs s_cell_right) (defBody s_cell_right) (defScope s_cell_right) [] [] f fd) (hm : mg "_law_cell_right" = some (.ref f)) : OkC P w K mg base (k + 2) "_law_cell_right" ["box", "first"] (spCell2 Ph Pa Pt) := by
  refine okC_of F hm sc_cell_right (fun _ _ _ _ _ _ us hl => match us, hl with | [_, _], _ => rfl) (fun vs H Q E h => ?_) (fun cdv A outer s H vs Q E hr h => ?_)
  · obtain ⟨b, c, rfl, _⟩ := h
    rfl
  · obtain ⟨b, c, rfl, hB, hTh, hTa, hTt, q⟩ := h
    refine ⟨_, PSs.nox (pss_cons (ps_set (i := 2) sc_cell_right.nd rfl (Or.inr rfl) (pe_cmpR op_eq (pe_callK0 k_take hr (by rfl) (pa_cons (pv 0) (pa_cons pe_int pa_nil))) pe_int (nomark _))) (pss_cons (ps_asg (pe_callK0 k_names hr (by rfl) (pa_cons (pv 0) pa_nil)) (pg_tupC (.inl ⟨rfl, rfl⟩) (pgs_cons (pg_name (i := 3) sc_cell_right.nd rfl (Or.inr rfl)) (pgs_cons (pg_name (i := 4) sc_cell_right.nd rfl (Or.inl rfl)) pgs_nil)))) (pss_cons (ps_set (i := 5) sc_cell_right.nd rfl (Or.inl rfl) (pe_lst (pa_cons (pv 3) (pa_cons (pv 4) (pa_cons (pe_callK0 k_words hr (by rfl) (pa_cons (pv 0) (pa_cons pe_int pa_nil))) pa_nil))))) (pss_cons (ps_setLc (i := 6) (own := [("k", 7)]) (g := gName 7) rfl sc_cell_right.nd rfl rfl rfl (pi_range1 (by rfl) T.f_range (pa_cons pe_int pa_nil)) (blkOk_by (N := N_cell_right) (sc := defScope s_cell_right) (by decide +kernel)) (fun _ _ _ _ _ => pg_name (i := 7) sc_cell_right.nd rfl (Or.inl rfl)) (fun _ _ _ _ _ => pts_nil) (fun _ _ _ _ _ => (pe_tup (pa_cons (pe_ix (show IxR _ (rIxT K) from ix_tup) (pe_ix (show IxR _ (rIxL K) from ix_list) (pv 3) (pv 7) fun _ _ => rfl) pe_int fun _ _ => rfl) (pa_cons (pe_ix (show IxR _ (rIxT K) from ix_tup) (pe_ix (show IxR _ (rIxL K) from ix_list) (pv 3) (pe_op op_mod (pe_callTy call_int1 (by rfl) T.f_int (by decide +kernel) (pa_cons (pe_op op_add (pv 7) pe_int) pa_nil)) pe_int) fun _ _ => rfl) pe_int fun _ _ => rfl) pa_nil))))) (pss_cons (ps_setLc (i := 8) (own := [("lot", 9)]) (g := gName 9) rfl sc_cell_right.nd rfl rfl rfl (pi_list (pe_lst (pa_cons (pv 3) (pa_cons (pe_callTy call_tuple_frz (by rfl) T.f_tuple (by decide +kernel) (pa_cons (pv 6) pa_nil)) pa_nil)))) (blkOk_by (N := N_cell_right) (sc := defScope s_cell_right) (by decide +kernel)) (fun _ _ _ _ _ => pg_name (i := 9) sc_cell_right.nd rfl (Or.inl rfl)) (fun _ _ _ _ _ => pts_nil) (fun _ _ _ _ _ => (pe_lst (pa_cons (pe_makeP takes_never n_Names hr (by rfl) (pa_cons (pv 9) pa_nil)) (pa_cons (pe_callTy (show CallR _ _ (rDictQ K) from call_dictQ rfl) (by rfl) T.f_dict (by decide +kernel) (pa_cons (pv 9) pa_nil)) pa_nil))))) (pss_cons (ps_set (i := 10) sc_cell_right.nd rfl (Or.inl rfl) (pe_lst pa_nil)) (pss_cons (ps_for PassesOwn.never rfl (pi_range1 (by rfl) T.f_range (pa_cons pe_int pa_nil)) (pg_name (i := 11) sc_cell_right.nd rfl (Or.inl rfl)) (pss_cons (ps_set (i := 12) sc_cell_right.nd rfl (Or.inl rfl) (pe_ix ix_list (pe_lst (pa_cons pe_str (pa_cons pe_str (pa_cons pe_str pa_nil)))) (pe_op op_mod (pe_callTy call_int1 (by rfl) T.f_int (by decide +kernel) (pa_cons (pv 11) pa_nil)) pe_int) fun _ _ => rfl)) (pss_cons (ps_set (i := 13) sc_cell_right.nd rfl (Or.inl rfl) (pe_callK0 k_term hr (by rfl) (pa_cons (pv 0) (pa_cons (pv 5) (pa_cons (pv 12) (pa_cons (pe_op op_add pe_int (pe_callK0 k_take hr (by rfl) (pa_cons (pv 0) (pa_cons pe_int pa_nil)))) (pa_cons pe_int pa_nil))))))) (pss_cons (ps_set (i := 14) sc_cell_right.nd rfl (Or.inl rfl) (pe_callK0 k_nodes hr (by rfl) (pa_cons (pv 13) pa_nil))) (pss_cons (ps_set (i := 15) sc_cell_right.nd rfl (Or.inl rfl) (pe_callK0 k_take hr (by rfl) (pa_cons (pv 0) (pa_cons (pe_callB call_len_seq (by rfl) T.f_len (by decide +kernel) (pa_cons (pv 14) pa_nil)) pa_nil)))) (pss_cons (ps_set (i := 16) sc_cell_right.nd rfl (Or.inl rfl) (pe_callK0 k_swapped hr (by rfl) (pa_cons (pv 13) (pa_cons (pe_lst (pa_cons (pv 15) pa_nil)) (pa_cons (pe_callK0 k_other hr (by rfl) (pa_cons (pv 0) (pa_cons (pv 5) (pa_cons (pe_ix ix_list (pv 14) (pv 15) fun _ _ => rfl) pa_nil)))) pa_nil))))) (pss_one (ps_set (i := 10) sc_cell_right.nd rfl (Or.inl rfl) (pe_op op_cat (pv 10) (pe_lst (pa_cons (pe_tup (pa_cons (pv 13) (pa_cons (pv 12) pa_nil))) (pa_cons (pe_tup (pa_cons (pv 16) (pa_cons (pv 12) pa_nil))) (pa_cons (pe_tup (pa_cons (pv 13) (pa_cons (pe_ix ix_list (pe_lst (pa_cons pe_str (pa_cons pe_str (pa_cons pe_str pa_nil)))) (pe_callK0 k_take hr (by rfl) (pa_cons (pv 0) (pa_cons pe_int pa_nil))) fun _ _ => rfl) pa_nil))) pa_nil))))))))))))) (pss_cons (ps_if (pt_val (pv 1)) (pss_one (ps_set (i := 10) sc_cell_right.nd rfl (Or.inl rfl) (pe_op op_cat (pv 10) (pe_callK0 k_great hr (by rfl) (pa_cons (pv 0) (pa_cons (pv 5) pa_nil)))))) pss_nil) (pss_cons (ps_for PassesOwn.never rfl (pi_list (pe_op op_cat (pv 8) (pe_lst (pa_cons (pe_ix ix_list (pv 8) pe_int fun _ _ => rfl) pa_nil)))) (pg_unl rfl (pgs_cons (pg_name (i := 17) sc_cell_right.nd rfl (Or.inr rfl)) (pgs_cons (pg_name (i := 18) sc_cell_right.nd rfl (Or.inr rfl)) pgs_nil))) (pss_cons (ps_if (pt_cmpR (op_ne0 (huC (roomH_of hr))) (pe_lc (own := [("one", 19)]) (g := gName 19) rfl sc_cell_right.nd (pi_list (pv 10)) (blkOk_by (N := N_cell_right) (sc := defScope s_cell_right) (by decide +kernel)) (fun _ _ _ _ _ => pg_name (i := 19) sc_cell_right.nd rfl (Or.inl rfl)) (fun _ _ _ _ _ => (pts_one (pt_not (pt_val (pe_callK0 k_asked_right hr (by rfl) (pa_cons (pe_ix (show IxR _ (rIxT K) from ix_tup) (pv 19) pe_int fun _ _ => rfl) (pa_cons (pe_ix (show IxR _ (rIxT K) from ix_tup) (pv 19) pe_int fun _ _ => rfl) (pa_cons (pv 17) (pa_cons (pv 18) (pa_cons (pv 2) pa_nil)))))))))) (fun _ _ _ _ _ => (pv 19))) (pe_lst pa_nil) (nomark _)) (pss_one (ps_ret pe_bl)) pss_nil) (pss_one (ps_set (i := 10) sc_cell_right.nd rfl (Or.inl rfl) (pe_revL (pe_slice sl_list (pv 10) po_none (po_some pe_int))))))) (pss_one (ps_ret (pe_and (pe_callK0 k_kinds_right hr (by rfl) (pa_cons (pe_ix ix_tup (pe_ix ix_list (pv 10) pe_int fun _ _ => rfl) pe_int fun _ _ => rfl) (pa_cons (pe_ix ix_list (pe_ix ix_list (pv 8) pe_int fun _ _ => rfl) pe_int fun _ _ => rfl) (pa_cons (pv 2) pa_nil)))) (pe_one (pe_callK0 k_kinds_right hr (by rfl) (pa_cons pe_non (pa_cons (pe_ix ix_list (pe_ix ix_list (pv 8) pe_int fun _ _ => rfl) pe_int fun _ _ => rfl) (pa_cons (pe_not (pv 2)) pa_nil))))))))))))))))), ?_⟩
    have sz := sizeLine_eq
    refine seq_l (asg_l (op_l ?_))
    refine take_l (b := b) (n := 2) (m := 0) (fun R r => ⟨_, rfl, r⟩) (fun R r => r) (by decide) (by decide) (by decide) hB fun d0 H1 hd0 x1 hB1 => ⟨rfl, nx_p ?_⟩
    generalize decide (V.int (d0 : Int) = V.int 1) = bn
    refine seq_l (asgG_l ⟨_, rfl, b, 1, rfl, by decide, hB1, fun p pr ps ur qs ys H2 x2 hB2 hp npr nps hpr hrr hps lq ly nd gq gy => ⟨p, _, rfl, SqT.of hp, rfl, _, _, rfl, _, _, rfl, rfl, nx_p ?_⟩⟩)
    refine seq_l (asg_l (lst_l (cons_l (v_l rfl (cons_l (v_l rfl (cons_l ⟨_, rfl, b, 41, 6, rfl, by decide, by decide, hB2, fun pw zs H3 x3 hB3 npw hpw lz gz => nil_l ⟨by show 3 ≤ sizeLine; decide, fun wd hwd => nx_p ?_⟩⟩)))))))
    have e4 : Ex H3 (upd H3 wd (.lst [.ref pr, .ref ps, .ref pw])) := Ex.new hwd
    have hB4 := hB3.ex e4
    obtain ⟨u2, hu2⟩ := hB2.at_
    obtain ⟨u3, hu3⟩ := hB3.at_
    have nwd : wd ≠ b := (ne_of_none hu3 hwd).symm
    have hW : WorldAt b (upd H3 wd (.lst [.ref pr, .ref ps, .ref pw])) wd qs ys zs := ⟨⟨pr, ps, pw, ur, upd_same, e4 _ _ (x3 _ _ npr hpr), paired_imp (fun _ _ z => (z.exl x3 hu2).ext e4) hrr, e4 _ _ (x3 _ _ nps hps), e4 _ _ hpw, nwd, npr, nps, npw⟩, lq, ly, lz, gq, gy, gz⟩
    have x04 : ExB b H (upd H3 wd (.lst [.ref pr, .ref ps, .ref pw])) := x1.trans (x2.trans (x3.trans (Ex.but e4)))
    obtain ⟨u0, hu0⟩ := hB.at_
    have hTh4 := K9.TabX.exb x04 hu0 hTh
    have hTa4 := K9.TabX.exb x04 hu0 hTa
    have hTt4 := K9.TabX.exb x04 hu0 hTt
    have hpr4 := e4 _ _ (x3 _ _ npr hpr)
    have hrr4 : Paired (RowAt (upd H3 wd (.lst [.ref pr, .ref ps, .ref pw]))) ur qs := paired_imp (fun _ _ z => (z.exl x3 hu2).ext e4) hrr
    generalize upd H3 wd (.lst [.ref pr, .ref ps, .ref pw]) = H4 at hB4 hW x04 hTh4 hTa4 hTt4 hpr4 hrr4 ⊢
    clear hB1 hB2 hB3 x1 x2 x3 e4 hp hrr hpr hps hpw hu2 hu3 hu0 hwd hTh hTa hTt
    refine seq_l (asg_l (lc_by (J := Itr 0 6) (n := 6) (item := fun i => .int (i : Int)) (fun D j acc H5 => Paired (RowN D H5) acc ((shiftQ qs).take j)) (by decide) (by show 7 < 20; decide) (fun R h => ⟨6, rfl, by decide, by decide, h⟩) walks_rng0
      (fun D j acc H5 H6 e h => paired_imp (fun _ _ z => z.exb e) h) (fun D hD => .nil) (fun D j acc H5 Cc Cf hj hD e5 ha5 hp5 kf hC => ?_) (fun po co H5 hpo e5 hco hp5 => nx_p ?_)))
    · have r5 : Paired (RowAt H5) ur qs := paired_imp (fun _ _ z => z.ext e5) hrr4
      have p5 := e5 _ _ hpr4
      obtain ⟨v1, r1, hv1, hr1, t1, rfl, ht1⟩ := paired_at r5 (by rw [r5.length, lq]; exact hj)
      obtain ⟨v2, r2, hv2, hr2, t2, rfl, ht2⟩ := paired_at (j := (j + 1) % 6) r5 (by rw [r5.length, lq]; exact Nat.mod_lt _ (by decide))
      unfold tYes
      dsimp only
      rw [if_pos rfl]
      refine tup_l (cons_l ⟨_, rfl, _, rfl, pr, _, (j : Int), .ref t1, rfl, rfl, SqL.of p5, atI_nat (j := j) hv1, t1, _, 0, .str r1.1, rfl, rfl, SqT.of ht1, atI_nat (j := 0) rfl, cons_l ⟨_, rfl, _, rfl, _, _, rfl, rfl, .inl ⟨_, rfl, _, _, rfl, rfl, by show (0 : Int) < 6; decide, ?_⟩⟩⟩)
      have ej : ((j : Int) + 1) % 6 = (((j + 1) % 6 : Nat) : Int) := by omega
      refine ⟨pr, _, ((j : Int) + 1) % 6, .ref t2, rfl, rfl, SqL.of p5, (by rw [ej]; exact atI_nat (j := (j + 1) % 6) hv2), t2, _, 1, .int r2.2, rfl, rfl, SqT.of ht2, atI_nat (j := 1) rfl, nil_l ⟨by show 2 ≤ sizeLine; decide, fun p6 hp6 => ?_⟩⟩
      refine hC _ _ (Ex.new hp6) ?_
      have hs : ((shiftQ qs).take (j + 1)) = (shiftQ qs).take j ++ [(r1.1, r2.2)] := by
        have hl : (shiftQ qs).length = 6 := by simp [shiftQ]
        rw [List.take_succ_eq_append_getElem (by omega)]
        congr 1
        simp [shiftQ, List.getD_eq_getElem?_getD, hr1, hr2]
      rw [hs]
      exact paired_snoc (paired_imp (fun _ _ z => z.exb (Ex.but (Ex.new hp6))) hp5) ⟨p6, rfl, (ne_of_none ha5 hp6).symm, upd_same⟩
    have hq2 : Paired (RowAt H5) co (shiftQ qs) := by
      rw [List.take_of_length_le (by simp [shiftQ])] at hp5
      exact paired_imp (fun _ _ z => z.at_) hp5
    have hB5 := hB4.ex e5
    have hW5 := hW.ext e5
    have hTh5 := hTh4.ext e5
    have hTa5 := hTa4.ext e5
    have hTt5 := hTt4.ext e5
    have hpr5 := e5 _ _ hpr4
    have hrr5 : Paired (RowAt H5) ur qs := paired_imp (fun _ _ z => z.ext e5) hrr4
    have x05 := x04.trans (Ex.but e5)
    clear hp5 hB4 hW hTh4 hTa4 hTt4 hpr4 hrr4 x04 e5
    have hsl : (shiftQ qs).length = 6 := by simp [shiftQ]
    have hsn : ((shiftQ qs).map (·.1)).Nodup := by rw [shiftQ_names lq]; exact nd
    have hsg := shiftQ_good lq gq
    refine seq_l (asg_l (lcE_by (fun J H6 => ∃ (pt pl : Addr) (ot : Obj), J = Itl K pl ∧ Ex H5 H6 ∧ H6 pt = some (.frz ot (.tup co)) ∧ ot.dict = none ∧ H6 pl = some (.lst [.ref pr, .ref pt])) (fun R hR => ?_) (fun J H6 hpre => ?_)))
    · show iList K _ _ _ _
      refine lst_l (cons_l (v_l rfl (cons_l (call1_l (v_l rfl ⟨po, co, rfl, SqL.of hco, fun pt ot hpt hot => nil_l ⟨by show 2 ≤ sizeLine; decide, fun pl hpl => ?_⟩⟩)))))
      exact ⟨pl, rfl, ⟨_, SqL.of upd_same⟩, hR _ _ ⟨pt, pl, ot, rfl, (Ex.new hpt).trans (Ex.new hpl), (Ex.new hpl) _ _ upd_same, hot, upd_same⟩⟩
    obtain ⟨pt, pl, ot, rfl, e6, hpt6, hot, hpl6⟩ := hpre
    have hB6 := hB5.ex e6
    have hW6 := hW5.ext e6
    have hTh6 := hTh5.ext e6
    have hTa6 := hTa5.ext e6
    have hTt6 := hTt5.ext e6
    have hpr6 := e6 _ _ hpr5
    have hrr6 : Paired (RowAt _) ur qs := paired_imp (fun _ _ z => z.ext e6) hrr5
    have hqq6 : Paired (RowAt _) co (shiftQ qs) := paired_imp (fun _ _ z => z.ext e6) hq2
    have x06 := x05.trans (Ex.but e6)
    clear hB5 hW5 hTh5 hTa5 hTt5 hpr5 hrr5 hq2 x05 e6 hco hpo
    have lots : ∀ j, j < 2 → ∃ (a : Addr) (us : List V) (rs : List (Str × Int)), [V.ref pr, .ref pt].getD j .non = .ref a ∧ SeqF H6 a us ∧ (SqL K H6 a us ∨ ∃ o : Obj, o.dict = none ∧ H6 a = some (.frz o (.tup us))) ∧ Paired (RowAt H6) us rs ∧ rs.length = 6 ∧ (rs.map (·.1)).Nodup ∧ (∀ q ∈ rs, GoodQ q) ∧ [qs, shiftQ qs].take (j + 1) = [qs, shiftQ qs].take j ++ [rs] := fun j hj => by
      match j, hj with
      | 0, _ => exact ⟨pr, ur, qs, rfl, .inl (.inl hpr6), .inl (SqL.of hpr6), hrr6, lq, nd, gq, rfl⟩
      | 1, _ => exact ⟨pt, co, shiftQ qs, rfl, .inr ⟨ot, hpt6⟩, .inr ⟨ot, hot, hpt6⟩, hqq6, hsl, hsn, hsg, rfl⟩
    have sq6 : ∀ {H1 : Hp}, Ex H6 H1 → SqL K H1 pl [.ref pr, .ref pt] := fun e => SqL.of (e _ _ hpl6)
    refine lcD_by (H := H6) (J := Itl K pl) (n := 2) (item := fun i => [V.ref pr, .ref pt].getD i .non)
      (fun D j acc H1 => H6 D = none ∧ Ex H6 H1 ∧ H1 D = some (.lst acc) ∧ Paired (HouseAt C b H1) acc ([qs, shiftQ qs].take j) ∧ ∀ v ∈ acc, v ≠ .ref D)
      (by decide) (by show 9 < 20; decide) (fun R h => h) (fun D hD => ⟨hD, Ex.new hD, upd_same, .nil, fun v hv => absurd hv (by simp)⟩)
      (fun D j acc H1 hj h => ⟨_, [V.ref pr, .ref pt][j], sq6 h.2.1, List.getElem?_eq_getElem hj⟩) (fun D j acc H1 y H' hj h hy => ?_) (fun D acc H1 h => ⟨_, sq6 h.2.1, Nat.le_refl _⟩) (fun D j acc H1 Cc hj h hC => ?_) (fun D acc H1 h => ?_)
    · refine ⟨hy.1, ?_⟩
      have z := hy.2 _ (sq6 h.2.1)
      show y = [V.ref pr, .ref pt].getD j .non
      rw [List.getD_eq_getElem?_getD, z]
      rfl
    · obtain ⟨hD6, e1, hD1, hh, nD⟩ := h
      obtain ⟨a, us, rs, hit, hsq, hdq, hrs, l6, nd6, g6, htk⟩ := lots j hj
      rw [hit]
      refine lst_l (cons_l ⟨_, rfl, _, rfl, fun x dx hx hdx hne => ?_⟩)
      have e0 : Ex H1 (upd (upd H1 dx (.own x)) x (.ins C dx [])) := (Ex.new hdx).trans (Ex.new (by rw [upd_ne hne.symm]; exact hx))
      have e60 := e1.trans e0
      refine ⟨x, dx, .ref a, some (rs.map some), rfl, upd_same, .seq (hsq.ext e60) (by rw [hrs.length, l6]; decide) (rows_q (paired_imp (fun _ _ z => z.ext e60) hrs) g6), hTh6.ext e60, hTa6.ext e60, fun rs' H7 ho1 ho nd' ex hNm => ⟨rfl, ?_⟩, fun ho => by rw [good_list l6 nd6] at ho; cases ho⟩
      have hrr : rs' = rs := by
        have z : rs.map some = rs'.map some := Option.some.inj ho1
        exact (map_some z).symm
      subst hrr
      have e17 : Ex H1 H7 := ExB.new ((Ex.but e0).trans ex) hx
      have e67 := e1.trans e17
      obtain ⟨ps2, rfl, hps2⟩ := rows_refs (paired_imp (fun _ _ z => z.ext e67) hrs) K
      refine cons_l ⟨_, rfl, a, ps2, cntK rs', rfl, ?_, hps2, fun pc hpc => nil_l ⟨by show 2 ≤ sizeLine; decide, fun ph hph => ?_⟩⟩
      · rcases hdq with z | ⟨o, hdn, z⟩
        · exact .inl (SqL.ext e67 z)
        · exact .inr ⟨o, hdn, e67 _ _ z⟩
      rw [merge_cnt nd6] at hph ⊢
      have e7 : Ex H7 (upd (upd H7 pc (.dK (cntK rs'))) ph (.lst [.ref x, .ref pc])) := (Ex.new hpc).trans (Ex.new hph)
      have e19 := e17.trans e7
      have hph9 : upd (upd H7 pc (.dK (cntK rs'))) ph (.lst [.ref x, .ref pc]) ph = some (.lst [.ref x, .ref pc]) := upd_same
      have hpc9 : upd (upd H7 pc (.dK (cntK rs'))) ph (.lst [.ref x, .ref pc]) pc = some (.dK (cntK rs')) := (Ex.new hph) _ _ upd_same
      have hD7 : upd H7 pc (.dK (cntK rs')) D = some (.lst acc) := (Ex.new hpc) _ _ (e17 _ _ hD1)
      have nph : ph ≠ D := (ne_of_none hD7 hph).symm
      have hb7 := (((hB6.ex e1).ex e17).ex (Ex.new (o := .dK (cntK rs')) hpc)).at_
      obtain ⟨ub, hb7⟩ := hb7
      have npb : ph ≠ b := (ne_of_none hb7 hph).symm
      generalize upd (upd H7 pc (.dK (cntK rs'))) ph (.lst [.ref x, .ref pc]) = H9 at e7 e19 hph9 hpc9 ⊢
      have hD9 := e19 _ _ hD1
      refine hC _ _ hD9 ⟨hD6, ?_, upd_same, ?_, ?_⟩
      · exact fun q o h => by rw [upd_ne (ne_of_none h hD6)]; exact e19 _ _ (e1 _ _ h)
      · rw [htk]
        have new : HouseAt C b H9 (.ref ph) rs' := ⟨ph, x, pc, rfl, npb, hph9, hNm.ext e7, hpc9⟩
        refine paired_snoc ?_ (new.grow hD9 (fun z => nph (by cases z; rfl)))
        have old : ∀ {vs : List V} {ls : List (List (Str × Int))}, Paired (HouseAt C b H1) vs ls → (∀ v ∈ vs, v ≠ .ref D) → Paired (HouseAt C b (upd H9 D (.lst (acc ++ [.ref ph])))) vs ls := fun h n => by
          induction h with
          | nil => exact .nil
          | cons a _ ih => exact .cons ((a.ext e19).grow hD9 (n _ (List.mem_cons_self ..))) (ih fun v hv => n v (List.mem_cons_of_mem _ hv))
        exact old hh nD
      · intro v hv
        rcases List.mem_append.mp hv with z | z
        · exact nD v z
        · rw [List.mem_singleton.mp z]
          exact fun z => nph (by cases z; rfl)
    · obtain ⟨hD6, e1, hD1, hh, nD⟩ := h
      have hh' : Paired (HouseAt C b H1) acc [qs, shiftQ qs] := hh
      obtain ⟨v0, v1, rfl, hv0, hv1⟩ : ∃ v0 v1, acc = [v0, v1] ∧ HouseAt C b H1 v0 qs ∧ HouseAt C b H1 v1 (shiftQ qs) := by
        cases hh' with
        | cons a h2 => cases h2 with
          | cons a2 h3 => cases h3; exact ⟨_, _, rfl, a, a2⟩
      have nDb : D ≠ b := fun z => by
        obtain ⟨ub, hub⟩ := hB6.at_
        rw [z, hub] at hD6
        cases hD6
      have G1 : Gd C Pt b H1 wd D qs ys zs := ⟨hW6.ext e1, hTt6.ext e1, v0, v1, hD1, nDb, hv0, hv1⟩
      have hB1 := hB6.ex e1
      have x01 := x06.trans (Ex.but e1)
      clear hh hh' lots sq6 hB6 hW6 hTh6 hTa6 hTt6 hpr6 hrr6 hqq6 hpt6 hpl6 x06 e1 hD6
      refine nx_p (norm_l (σ' := [some (.ref b), some (.bl c), some (.bl bn), some (.ref pr), some (.ref ps), some (.ref wd), some (.ref po), none, some (.ref D), none, none, none, none, none, none, none, none, none, none, none]) rfl ?_)
      refine seq_l (asg_l (lst_l (nil_l ⟨Nat.zero_le _, fun pa hpa => nx_p ?_⟩)))
      have eA : Ex H1 (upd H1 pa (.lst [])) := Ex.new hpa
      have npa : pa ≠ b := by
        obtain ⟨ub, hub⟩ := hB1.at_
        exact (ne_of_none hub hpa).symm
      have hpa2 : upd H1 pa (.lst []) pa = some (.lst []) := upd_same
      have G2 := G1.ext eA
      have hB2 := hB1.ex eA
      have x02 := x01.trans (Ex.but eA)
      generalize upd H1 pa (.lst []) = H2 at eA hpa2 G2 hB2 x02 ⊢
      clear G1 hB1 x01 hpa eA hD1 hv0 hv1
      refine seq_l (forR_by (n := 6) (fun j σ1 H3 => ∃ (o11 o12 o13 o14 o15 o16 : Option V) (pa : Addr) (as : List V) (m : Nat), σ1 = [some (.ref b), some (.bl c), some (.bl bn), some (.ref pr), some (.ref ps), some (.ref wd), some (.ref po), none, some (.ref D), none, some (.ref pa), o11, o12, o13, o14, o15, o16, none, none, none] ∧
          ExB b H H3 ∧ m ≤ 51 + 135 * j ∧ BoxAt H3 b m ∧ Gd C Pt b H3 wd D qs ys zs ∧ pa ≠ b ∧ H3 pa = some (.lst as) ∧ as.length = 3 * j ∧ ∀ x ∈ as, AskAt H3 x)
        (fun R h => ⟨6, rfl, by decide, by decide, h⟩) ⟨_, _, _, _, _, _, pa, [], 51, rfl, x02, Nat.le_refl _, hB2, G2, npa, hpa2, rfl, fun x hx => absurd hx (by simp)⟩ (fun j σ1 H3 N hj hp3 kN => ?_) (fun σ1 H3 hp3 => nx_p ?_))
      · obtain ⟨o11, o12, o13, o14, o15, o16, pa, as, m, rfl, x3, hm, hB3, G3, npa, hpa3, las, asks⟩ := hp3
        refine norm_l (σ' := [some (.ref b), some (.bl c), some (.bl bn), some (.ref pr), some (.ref ps), some (.ref wd), some (.ref po), none, some (.ref D), none, some (.ref pa), some (.int (j : Int)), o12, o13, o14, o15, o16, none, none, none]) rfl ?_
        obtain ⟨kd, hkd, hat⟩ := pick [("type" : Str), "types", "num"] V.str (d := j % 3) (n := 3) (Nat.mod_lt _ (by decide)) rfl Kd (by
          intro x hx
          simp only [List.mem_cons, List.not_mem_nil, or_false] at hx
          rcases hx with rfl | rfl | rfl
          · exact .inl rfl
          · exact .inr (.inr rfl)
          · exact .inr (.inl rfl))
        have ej : (j : Int) % 3 = ((j % 3 : Nat) : Int) := by omega
        refine seq_l (asg_l (op_l (lst_l (cons_l (c_l (cons_l (c_l (cons_l (c_l (nil_l ⟨by show 3 ≤ sizeLine; decide, fun pk hpk => ?_⟩))))))))))
        refine ⟨_, rfl, .inl ⟨_, rfl, _, _, rfl, rfl, by show (0 : Int) < 3; decide, pk, _, (j : Int) % 3, .str kd, rfl, rfl, SqL.of upd_same, (by rw [ej]; exact hat), nx_p ?_⟩⟩
        have e4 : Ex H3 (upd H3 pk (.lst [.str "type", .str "types", .str "num"])) := Ex.new hpk
        have hB4 := hB3.ex e4
        have G4 := G3.ext e4
        have hpa4 := e4 _ _ hpa3
        have asks4 : ∀ x ∈ as, AskAt _ x := fun x hx => (asks x hx).ext e4
        have x4 := x3.trans (Ex.but e4)
        show tSeq _ _ _ _ (upd H3 pk (.lst [.str "type", .str "types", .str "num"]))
        generalize upd H3 pk (.lst [.str "type", .str "types", .str "num"]) = H4 at hB4 G4 hpa4 asks4 x4 ⊢
        clear hB3 G3 hpa3 asks x3 e4
        refine seq_l (asg_l ⟨_, rfl, _, rfl, _, rfl, op_l (c_l (take_l (b := b) (n := 30) (m := m) (fun R r => ⟨_, rfl, r⟩) (fun R r => r) (by decide) (by decide) (by omega) hB4 fun r H5 hr5 x5 hB5 => ?_))⟩)
        refine ⟨_, _, rfl, rfl, b, wd, kd, 1 + r, m + 1, qs, ys, zs, ?_, by omega, by omega, by omega, hB5, (G4.exb x5 hB4).w, fun v t H6 x6 hB6 ht many dp => nx_p ?_⟩
        · rw [Int.natCast_add]
          rfl
        refine seq_l (asg_l ⟨_, rfl, v, t, rfl, ht, by omega, fun pn us ts H7 e7 hpn0 hpn hus hts hall => nx_p ?_⟩)
        have hB7 := hB6.ex e7
        obtain ⟨u6, hu6⟩ := hB6.at_
        have npn : pn ≠ b := (ne_of_none hu6 hpn0).symm
        have x47 : ExB b H4 H7 := x5.trans (x6.trans (Ex.but e7))
        have G7 := G4.exb x47 hB4
        obtain ⟨u4, hu4⟩ := hB4.at_
        obtain ⟨u7, hu7⟩ := hB7.at_
        have hpa7 := x47 _ _ npa hpa4
        have asks7 : ∀ x ∈ as, AskAt H7 x := fun x hx => (asks4 x hx).exb x47 hu4 hu7
        have ht7 := ht.ext e7
        have x7 := x4.trans x47
        have lus : us.length = ts.length := by
          have z := hus.len
          rw [trL_len] at z
          exact z
        have tpos := t.pos
        clear G4 hpa4 asks4 x4 x5 x6 x47 hu4 hu6 hB4 hB5 hB6 ht e7 hpn0
        refine norm_l (σ' := [some (.ref b), some (.bl c), some (.bl bn), some (.ref pr), some (.ref ps), some (.ref wd), some (.ref po), none, some (.ref D), none, some (.ref pa), some (.int (j : Int)), some (.str kd), some v, some (.ref pn), o15, o16, none, none, none]) rfl ?_
        refine seq_l (asg_l (take_l (b := b) (n := us.length) (m := m + 1 + 4 * (1 + r) + 8) (fun R r => ⟨_, rfl, r⟩) (fun R r => ⟨_, rfl, pn, us, rfl, .inl (SqL.of hpn), r⟩) (by omega) (by omega) (by omega) hB7 fun pl H8 hpl x8 hB8 => nx_p ?_))
        have hpn8 := x8 _ _ npn hpn
        have G8 := G7.exb x8 hB7
        have hpa8 := x8 _ _ npa hpa7
        obtain ⟨u8, hu8⟩ := hB8.at_
        have asks8 : ∀ x ∈ as, AskAt H8 x := fun x hx => (asks7 x hx).exb x8 hu7 hu8
        have ht8 := ht7.exb x8 hu7 hu8
        have hus8 := hus.exb x8 hu7 hu8
        have x08 := x7.trans x8
        clear G7 hpa7 asks7 ht7 hus x7 x8 hB7 hu7 hpn
        have hplt : pl < ts.length := by omega
        have hpus : pl < us.length := hpl
        have hnode : Rd H8 us[pl] (ts[pl]).tr := by
          have z := hus8.at_ hpus
          rw [trL_getD ts hplt, List.getD_eq_getElem?_getD, List.getElem?_eq_getElem hpus] at z
          exact z
        obtain ⟨hm1, hm2⟩ := hall _ (List.getElem_mem hplt)
        refine seq_l (asg_l ⟨_, rfl, lst_l (cons_l (v_l rfl (nil_l ⟨by show 1 ≤ sizeLine; decide, fun a ha => ?_⟩)))⟩)
        have e9 : Ex H8 (upd H8 a (.lst [.int (pl : Int)])) := Ex.new ha
        have ha9 : upd H8 a (.lst [.int (pl : Int)]) a = some (.lst [.int (pl : Int)]) := upd_same
        have hB9 := hB8.ex e9
        have nab : a ≠ b := (ne_of_none hu8 ha).symm
        have G9 := G8.ext e9
        show tCons _ _ _ (upd H8 a (.lst [.int (pl : Int)])) _
        generalize upd H8 a (.lst [.int (pl : Int)]) = H9 at e9 ha9 hB9 G9 ⊢
        refine cons_l ⟨_, rfl, _, rfl, op_l (v_l rfl (v_l rfl ⟨pn, us, (pl : Int), us[pl], rfl, rfl, SqL.of (e9 _ _ hpn8), atI_nat (j := pl) (List.getElem?_eq_getElem hpus), ?_⟩))⟩
        refine ⟨b, wd, us[pl], ts[pl], m + 1 + 4 * (1 + r) + 8 + 1, qs, ys, zs, rfl, by omega, hB9, G9.w, hnode.ext e9, by omega, fun u H10 x10 hB10 hu => nil_l ?_⟩
        obtain ⟨ut, hut, usz⟩ := hu
        obtain ⟨u9, hu9⟩ := hB9.at_
        obtain ⟨u10, hu10⟩ := hB10.at_
        have ht10 := (ht8.ext e9).exb x10 hu9 hu10
        refine ⟨v, u, a, (pl : Int), t, ut, rfl, ht10, dp, by omega, x10 _ _ nab ha9, hut, fun sv st i' H11 x11 ha11 hst ssz => nx_p ?_⟩
        have hpa9 := e9 _ _ hpa8
        have x811 : ExB b H8 H11 := by
          intro q o nq hq
          exact x11 _ _ (ne_of_none hq ha) (x10 _ _ nq (e9 _ _ hq))
        have hB11 : BoxAt H11 b (m + 1 + 4 * (1 + r) + 8 + 1 + 4) := by
          obtain ⟨g', m', c', w', hh, rr⟩ := hB10
          exact ⟨g', m', c', w', x11 _ _ (Ne.symm nab) hh, rr⟩
        have hT11 : RdN 1000000 H11 v := by
          have z := t.sz_le
          exact ⟨_, ht10.exb x11 (x10 _ _ nab ha9) ha11, by omega⟩
        have hS11 : RdN 1000000 H11 sv := by
          refine ⟨st, hst, ?_⟩
          have z : t.many * (ut.sz + 5) ≤ 40 * 1305 := Nat.mul_le_mul (by omega) (by omega)
          omega
        obtain ⟨u11, hu11⟩ := hB11.at_
        have G11 := G8.exb x811 hB8
        have hpa11 := x811 _ _ npa hpa8
        have asks11 : ∀ x ∈ as, AskAt H11 x := fun x hx => (asks8 x hx).exb x811 hu8 hu11
        have x011 := x08.trans x811
        clear G8 G9 hB8 hB9 hB10 x10 x11 hpa8 hpa9 asks8 x811 x08 hu8 hu9 hu10 ht8 ht10 hnode hus8 hall hpn8 e9 ha9 ha11 hst hut ha
        refine norm_l (σ' := [some (.ref b), some (.bl c), some (.bl bn), some (.ref pr), some (.ref ps), some (.ref wd), some (.ref po), none, some (.ref D), none, some (.ref pa), some (.int (j : Int)), some (.str kd), some v, some (.ref pn), some (.int (pl : Int)), some sv, none, none, none]) rfl ?_
        refine asg_l (op_l (v_l rfl (lst_l (cons_l (tup_l (cons_l (v_l rfl (cons_l (v_l rfl (nil_l ⟨by show 2 ≤ sizeLine; decide, fun p1 hp1 => ?_⟩))))))))))
        refine cons_l (tup_l (cons_l (v_l rfl (cons_l (v_l rfl (nil_l ⟨by show 2 ≤ sizeLine; decide, fun p2 hp2 => ?_⟩))))))
        refine cons_l (tup_l (cons_l (v_l rfl (cons_l (op_l (lst_l (cons_l (c_l (cons_l (c_l (cons_l (c_l (nil_l ⟨by show 3 ≤ sizeLine; decide, fun pk hpk => ?_⟩)))))))))))))
        have e13 : Ex H11 (upd (upd (upd H11 p1 (.tup [v, .str kd])) p2 (.tup [sv, .str kd])) pk (.lst [.str "type", .str "types", .str "num"])) := (Ex.new hp1).trans ((Ex.new hp2).trans (Ex.new hpk))
        have h1 : upd (upd (upd H11 p1 (.tup [v, .str kd])) p2 (.tup [sv, .str kd])) pk (.lst [.str "type", .str "types", .str "num"]) p1 = some (.tup [v, .str kd]) := ((Ex.new hp2).trans (Ex.new hpk)) _ _ upd_same
        have h2 : upd (upd (upd H11 p1 (.tup [v, .str kd])) p2 (.tup [sv, .str kd])) pk (.lst [.str "type", .str "types", .str "num"]) p2 = some (.tup [sv, .str kd]) := (Ex.new hpk) _ _ upd_same
        have hk3 : upd (upd (upd H11 p1 (.tup [v, .str kd])) p2 (.tup [sv, .str kd])) pk (.lst [.str "type", .str "types", .str "num"]) pk = some (.lst ([("type" : Str), "types", "num"].map V.str)) := upd_same
        have npk : pk ≠ b := (ne_of_none (((Ex.new hp1).trans (Ex.new hp2)) _ _ hu11) hpk).symm
        show tCallB _ _ _ (upd (upd (upd H11 p1 (.tup [v, .str kd])) p2 (.tup [sv, .str kd])) pk (.lst [.str "type", .str "types", .str "num"])) _
        generalize upd (upd (upd H11 p1 (.tup [v, .str kd])) p2 (.tup [sv, .str kd])) pk (.lst [.str "type", .str "types", .str "num"]) = H13 at e13 h1 h2 hk3 ⊢
        have hB13 := hB11.ex e13
        refine take_l (b := b) (n := 3) (m := m + 1 + 4 * (1 + r) + 8 + 1 + 4) (fun R r => ⟨_, rfl, r⟩) (fun R r => r) (by decide) (by decide) (by omega) hB13 fun d3 H14 hd3 x14 hB14 => ?_
        obtain ⟨k3, hk3d, hat3⟩ := pick [("type" : Str), "types", "num"] V.str (d := d3) (n := 3) hd3 rfl Kd (by
          intro x hx
          simp only [List.mem_cons, List.not_mem_nil, or_false] at hx
          rcases hx with rfl | rfl | rfl
          · exact .inl rfl
          · exact .inr (.inr rfl)
          · exact .inr (.inl rfl))
        obtain ⟨u13, hu13⟩ := hB13.at_
        obtain ⟨u14, hu14⟩ := hB14.at_
        have a1 : AskAt H14 (.ref p1) := AskAt.exb x14 hu13 hu14 ⟨p1, v, kd, rfl, h1, hkd, hT11.ext e13⟩
        have a2 : AskAt H14 (.ref p2) := AskAt.exb x14 hu13 hu14 ⟨p2, sv, kd, rfl, h2, hkd, hS11.ext e13⟩
        have hT14 := (hT11.ext e13).exb x14 hu13 hu14
        refine ⟨pk, _, (d3 : Int), .str k3, rfl, rfl, SqL.of (x14 _ _ npk hk3), hat3, nil_l ⟨by show 2 ≤ sizeLine; decide, fun p3 hp3 => nil_l ⟨by show 3 ≤ sizeLine; decide, fun pl2 hpl2 => ?_⟩⟩⟩
        have x1114 : ExB b H11 H14 := (Ex.but e13).trans x14
        have hpa14 := x1114 _ _ npa hpa11
        have G14 := G11.exb x1114 hB11
        have asks14 : ∀ x ∈ as, AskAt H14 x := fun x hx => (asks11 x hx).exb x1114 hu11 hu14
        have x014 := x011.trans x1114
        have e16 : Ex H14 (upd (upd H14 p3 (.tup [v, .str k3])) pl2 (.lst [.ref p1, .ref p2, .ref p3])) := (Ex.new hp3).trans (Ex.new hpl2)
        have a3 : AskAt (upd (upd H14 p3 (.tup [v, .str k3])) pl2 (.lst [.ref p1, .ref p2, .ref p3])) (.ref p3) := ⟨p3, v, k3, rfl, (Ex.new hpl2) _ _ upd_same, hk3d, hT14.ext e16⟩
        have sz := sizeLine_eq
        refine ⟨pa, pl2, as, [.ref p1, .ref p2, .ref p3], rfl, rfl, e16 _ _ hpa14, upd_same, by show as.length + 3 ≤ sizeLine; omega, fun pr2 hpr2 => ?_⟩
        have e17 : Ex H14 (upd (upd (upd H14 p3 (.tup [v, .str k3])) pl2 (.lst [.ref p1, .ref p2, .ref p3])) pr2 (.lst (as ++ [.ref p1, .ref p2, .ref p3]))) := e16.trans (Ex.new hpr2)
        refine kN _ _ ⟨_, _, _, _, _, _, pr2, as ++ [.ref p1, .ref p2, .ref p3], m + 1 + 4 * (1 + r) + 8 + 1 + 4 + 1, rfl, x014.trans (Ex.but e17), by omega, hB14.ex e17, G14.ext e17, (ne_of_none (e16 _ _ hu14) hpr2).symm, upd_same, by rw [List.length_append, las]; show 3 * j + 3 = 3 * (j + 1); omega, fun x hx => ?_⟩
        rcases List.mem_append.mp hx with z | z
        · exact (asks14 x z).ext e17
        · simp only [List.mem_cons, List.not_mem_nil, or_false] at z
          rcases z with rfl | rfl | rfl
          · exact a1.ext e17
          · exact a2.ext e17
          · exact a3.ext (Ex.new hpr2)
      · obtain ⟨o11, o12, o13, o14, o15, o16, pa, as, m, rfl, x3, hm, hB3, G3, npa, hpa3, las, asks⟩ := hp3
        have sz := sizeLine_eq
        refine seq_l (join_l (α := Addr) (S := fun pa => [some (.ref b), some (.bl c), some (.bl bn), some (.ref pr), some (.ref ps), some (.ref wd), some (.ref po), none, some (.ref D), none, some (.ref pa), o11, o12, o13, o14, o15, o16, none, none, none])
          (R := fun pa H5 => ExB b H H5 ∧ Gd C Pt b H5 wd D qs ys zs ∧ ∃ as, H5 pa = some (.lst as) ∧ 18 ≤ as.length ∧ as.length ≤ 28 ∧ ∀ x ∈ as, AskAt H5 x) (fun pa H5 ha5 => ?_) (fun main => ?_))
        · obtain ⟨x5, G5, as5, hpa5, l18, l28, asks5⟩ := ha5
          clear hpa3 asks las hB3 G3 x3
          obtain ⟨v0, v1, hD5, nDb5, hv0, hv1⟩ := G5.h
          have hT5 := G5.t
          refine nx_p (seq_l (forE_by (fun J H6 => ∃ pl, J = Itl K pl ∧ Ex H5 H6 ∧ H6 pl = some (.lst [v0, v1, v0])) (fun R hR => ?_) (fun J H6 hpre => ?_)))
          · show iList K _ _ _ _
            refine op_l (v_l rfl (lst_l (cons_l (op_l (v_l rfl (c_l ⟨D, _, 0, v0, rfl, rfl, SqL.of hD5, atI_nat (j := 0) rfl, nil_l ⟨by show 1 ≤ sizeLine; decide, fun p1 hp1 => ?_⟩⟩))))))
            have e6 : Ex H5 (upd H5 p1 (.lst [v0])) := Ex.new hp1
            refine ⟨D, p1, [v0, v1], [v0], rfl, rfl, e6 _ _ hD5, upd_same, by show 3 ≤ sizeLine; omega, fun p2 hp2 => ?_⟩
            exact ⟨p2, rfl, ⟨_, SqL.of upd_same⟩, hR _ _ ⟨p2, rfl, e6.trans (Ex.new hp2), upd_same⟩⟩
          obtain ⟨pl, rfl, e6, hpl6⟩ := hpre
          have hh : ∀ j, j < 3 → ∃ rs, HouseAt C b H6 ([v0, v1, v0].getD j .non) rs := fun j hj => by
            match j, hj with
            | 0, _ => exact ⟨_, hv0.ext e6⟩
            | 1, _ => exact ⟨_, hv1.ext e6⟩
            | 2, _ => exact ⟨_, hv0.ext e6⟩
          have hpa6 := e6 _ _ hpa5
          have hT6 := hT5.ext e6
          have asks6 : ∀ x ∈ as5, AskAt H6 x := fun x hx => (asks5 x hx).ext e6
          refine forG_by (J := Itl K pl) (n := 3) (item := fun i => [v0, v1, v0].getD i .non) (fun j σ1 H7 => ∃ (pa : Addr) (as : List V) (o17 o18 : Option V), σ1 = [some (.ref b), some (.bl c), some (.bl bn), some (.ref pr), some (.ref ps), some (.ref wd), some (.ref po), none, some (.ref D), none, some (.ref pa), o11, o12, o13, o14, o15, o16, o17, o18, none] ∧
              H7 pa = some (.lst as) ∧ 18 ≤ as.length ∧ as.length ≤ 28 ∧ ∀ x ∈ as, AskAt H7 x)
            (fun R h => h) (walks_list (SqL.of hpl6)) ⟨pa, as5, none, none, rfl, hpa6, l18, l28, asks6⟩ (fun j σ1 H7 N hj e7 hp7 kN => ?_) (fun σ1 H7 e7 hp7 => nx_p ?_)
          · obtain ⟨pa, as, o17, o18, rfl, hpa7, l18, l28, asks7⟩ := hp7
            obtain ⟨rs, h, x, cc, hit, nhb, hh1, hN1, hc1⟩ := hh j hj
            rw [hit]
            refine ⟨h, _, rfl, SqL.of (e7 _ _ hh1), rfl, _, _, rfl, _, _, rfl, rfl, ?_⟩
            refine norm_l (σ' := [some (.ref b), some (.bl c), some (.bl bn), some (.ref pr), some (.ref ps), some (.ref wd), some (.ref po), none, some (.ref D), none, some (.ref pa), o11, o12, o13, o14, o15, o16, some (.ref x), some (.ref cc), none]) rfl ?_
            refine seq_l (ifs_op (lc_none (J := Itl K pa) (n := as.length) (item := fun i => as.getD i .non) (by omega) (by show 19 < 20; decide) (fun R h => ⟨_, rfl, pa, rfl, ⟨_, SqL.of hpa7⟩, h⟩) (walks_list (SqL.of hpa7)) (fun i G7 R hi e8 hR => ?_) (fun D8 G7 hD8 e8 h8 => ⟨Nat.zero_le _, fun p8 hp8 => ⟨D8, p8, [], rfl, rfl, SqL.of ((Ex.new hp8) _ _ h8), SqL.of upd_same, _, rfl, ite0 (by decide) (nx_l ?_)⟩⟩)))
            · have hv0' : as.getD i V.non = as[i] := by rw [List.getD_eq_getElem?_getD, List.getElem?_eq_getElem hi]; rfl
              rw [hv0']
              obtain ⟨r, v, kd, hr1, hr2, hkd, t, hRd, hsz⟩ := (asks7 _ (List.getElem_mem hi)).ext e8
              rw [hr1]
              have e68 := e7.trans e8
              exact ⟨_, rfl, r, _, 0, v, rfl, rfl, SqT.of hr2, atI_nat (j := 0) rfl, _, rfl, r, _, 1, .str kd, rfl, rfl, SqT.of hr2, atI_nat (j := 1) rfl, _, rfl, _, rfl, _, rfl, v, t, kd, x, cc, bn, rs, rfl, hRd, hsz, hkd, hN1.ext e68, e68 _ _ hc1, hT6.ext e68, fun G8 e8 => ⟨_, rfl, hR _ e8⟩⟩
            · have e79 : Ex H7 (upd G7 p8 (.lst [])) := e8.trans (Ex.new hp8)
              refine asg_l ⟨_, rfl, 18, rfl, pa, as, rfl, SqL.of (e79 _ _ hpa7), fun p9 hp9 => ⟨p9, _, rfl, SqL.of upd_same, fun p10 hp10 => ?_⟩⟩
              have e710 := (e79.trans (Ex.new (o := .lst (cutV as none (some 18))) hp9)).trans (Ex.new (o := .lst (cutV as none (some 18)).reverse) hp10)
              refine kN _ _ e710 ⟨p10, (cutV as none (some 18)).reverse, _, _, rfl, upd_same, ?_, ?_, fun y hy => ?_⟩
              · rw [List.length_reverse, show (some (18 : Int)) = some ((18 : Nat) : Int) from rfl, cutV_take, List.length_take]; omega
              · rw [List.length_reverse, show (some (18 : Int)) = some ((18 : Nat) : Int) from rfl, cutV_take, List.length_take]; omega
              · rw [List.mem_reverse, show (some (18 : Int)) = some ((18 : Nat) : Int) from rfl, cutV_take] at hy
                exact (asks7 y (List.mem_of_mem_take hy)).ext e710
          · obtain ⟨pa, as, o17, o18, rfl, hpa7, l18, l28, asks7⟩ := hp7
            have e57 := e6.trans e7
            obtain ⟨r, v, kd, hr1, hr2, hkd, hRN⟩ := asks7 (as[0]) (List.getElem_mem (by omega))
            obtain ⟨h0, x0, c0, rfl, n0, hh0, hN0, hc0⟩ := hv0.ext e57
            obtain ⟨h1, x1, c1, rfl, n1, hh1, hN1, hc1⟩ := hv1.ext e57
            have hD7 := e57 _ _ hD5
            have at0 : atI as 0 = some (.ref r) := by
              rw [← hr1]
              exact atI_nat (j := 0) (List.getElem?_eq_getElem (by omega))
            refine ret_l ⟨_, rfl, pa, _, 0, .ref r, rfl, rfl, SqL.of hpa7, at0, r, _, 0, v, rfl, rfl, SqT.of hr2, atI_nat (j := 0) rfl, _, rfl, D, _, 0, .ref h0, rfl, rfl, SqL.of hD7, atI_nat (j := 0) rfl, h0, _, 0, .ref x0, rfl, rfl, SqL.of hh0, atI_nat (j := 0) rfl, _, rfl, v, x0, bn, rfl, fun H8 e8 => ⟨_, rfl, ite1 rfl ?_⟩⟩
            refine ⟨_, rfl, D, _, 1, .ref h1, rfl, rfl, SqL.of (e8 _ _ hD7), atI_nat (j := 1) rfl, h1, _, 0, .ref x1, rfl, rfl, SqL.of (e8 _ _ hh1), atI_nat (j := 0) rfl, _, rfl, _, rfl, .non, x1, !bn, rfl, fun H9 e9 => ?_⟩
            exact q _ (x5.trans (Ex.but (e57.trans (e8.trans e9))))
        · cases c with
          | true =>
            refine ifB_l ⟨_, rfl, true, rfl, ite1 rfl (asg_l (op_l (v_l rfl ⟨_, rfl, _, rfl, b, wd, m, qs, ys, zs, rfl, by omega, hB3, G3.w, fun p xs H4 x4 hB4 np hp lxs hxs => ⟨pa, p, as, xs, rfl, rfl, x4 _ _ npa hpa3, hp, by omega, fun r hr => main r _ ?_⟩⟩)))⟩
            obtain ⟨u3, hu3⟩ := hB3.at_
            obtain ⟨u4, hu4⟩ := hB4.at_
            have e5 : Ex H4 (upd H4 r (.lst (as ++ xs))) := Ex.new hr
            refine ⟨x3.trans (x4.trans (Ex.but e5)), (G3.exb x4 hB3).ext e5, as ++ xs, upd_same, by rw [List.length_append]; omega, by rw [List.length_append]; omega, fun x hx => ?_⟩
            rcases List.mem_append.mp hx with z | z
            · exact ((asks x z).exb x4 hu3 hu4).ext e5
            · exact (hxs x z).ext e5
          | false =>
            exact ifB_l ⟨_, rfl, false, rfl, ite0 (by decide) (nx_l (main pa _ ⟨x3, G3, as, hpa3, by omega, by omega, asks⟩))⟩
end
end D0

namespace D0
open PySem PySem.Spec PyProof.Rows L2 L2H HotX Evl K9 KM
section
variable {P : Program} {w : World} {K : PySem.W.Frag} {mg : Str → Option Value} {base : Heap} {f : Addr} {fd : FuncData} {k : Nat}
def spLaw (K : PySem.W.Frag) (Ph Pa Pt : Addr) : Sp := fun vs H Q _ => ∃ (a : Addr) (ns : List Int), vs = [.ref a] ∧ ns.length ≤ 63 ∧ SqL K H a (ns.map V.int) ∧ TabX H Ph ∧ TabX H Pa ∧ TabX H Pt ∧ ∀ H', Ex H H' → Q (.bl true) H'
abbrev s_law : Stmt := top 56
abbrev N_law : List Str := ["script", "k"]
theorem sc_law : FnScope N_law ["script"] (defScope s_law) := ⟨rfl, rfl, rfl, by decide +kernel, rfl, by decide +kernel, by decide +kernel⟩
theorem ok_law {Ph Pa Pt : Addr} (T : Txt K mg) (k_box : OkC P w K mg base k "_law_box" ["great"] spBox) (k_cell : OkC P w K mg base k "_law_cell" ["script", "k"] (spCellD K))
    (k_cell_right : OkC P w K mg base k "_law_cell_right" ["box", "first"] (spCell2 Ph Pa Pt)) (F : FunD K "law" "law" (defArgs s_law) (defBody s_law) (defScope s_law) [] [] f fd) (hm : mg "law" = some (.ref f)) :
    FnOk P w K mg base CX0 (k + 1) f fd ["script"] (spLaw K Ph Pa Pt) := by
  refine F.ok sc_law (fun vs H Q E h => ?_) (fun cdv A outer s H vs Q E' hr h => ?_)
  · obtain ⟨a, ns, rfl, _⟩ := h
    rfl
  · obtain ⟨a, ns, rfl, hn, ha, hTh, hTa, hTt, q⟩ := h
    refine ⟨_, PSs.nox (pss_cons (ps_for PassesOwn.never rfl (pi_range1 (by rfl) T.f_range (pa_cons (pe_callB (call_max2 rfl) (by rfl) T.f_max (by decide +kernel) (pa_cons pe_int (pa_cons (pe_callB (call_min2 rfl) (by rfl) T.f_min (by decide +kernel) (pa_cons pe_int (pa_cons (pe_callB call_len_seq (by rfl) T.f_len (by decide +kernel) (pa_cons (pv 0) pa_nil)) pa_nil))) pa_nil))) pa_nil)) (pg_name (i := 1) sc_law.nd rfl (Or.inl rfl)) (pss_one (ps_if (pt_not (pt_val (pe_callK0 k_cell_right hr (by rfl) (pa_cons (pe_callK0 k_box hr (by rfl) (pa_cons (pe_callK0 k_cell hr (by rfl) (pa_cons (pv 0) (pa_cons (pv 1) pa_nil))) pa_nil)) (pa_cons (pe_cmpR op_eq (pv 1) pe_int (nomark _)) pa_nil))))) (pss_one (ps_ret pe_bl)) pss_nil))) (pss_one (ps_ret pe_bl))), ?_⟩
    have sz := sizeLine_eq
    have hN : ∃ n : Nat, n ≤ 63 ∧ (if (if ((((ns.map V.int).length : Nat) : Int) < 5) then (((ns.map V.int).length : Nat) : Int) else 5) > 2 then (if ((((ns.map V.int).length : Nat) : Int) < 5) then (((ns.map V.int).length : Nat) : Int) else 5) else (2 : Int)) = (n : Int) := by
      rw [List.length_map]
      refine ⟨(if (if ((ns.length : Int) < 5) then (ns.length : Int) else 5) > 2 then (if ((ns.length : Int) < 5) then (ns.length : Int) else 5) else (2 : Int)).toNat, ?_, ?_⟩ <;> split <;> split <;> omega
    obtain ⟨N, hN1, hN2⟩ := hN
    refine seq_l (for_by (J := Itr 0 N) (n := N) (item := fun i => .int (i : Int)) (fun _ σ' _ => ∃ x1, σ' = [some (.ref a), x1]) (fun R h => ?_) walks_rng0 ⟨_, rfl⟩ (fun j σ1 G0 Nx hj g0 hP kN => ?_) (fun σ1 G0 g0 hP => nx_p (ret_l (q _ g0))))
    · refine ⟨_, rfl, a, _, rfl, .inl ha, _, _, rfl, _, _, rfl, _, rfl, ?_, ?_, ?_⟩
      · rw [hN2]; omega
      · rw [hN2]; omega
      · rw [hN2, Int.toNat_natCast]
        exact h
    obtain ⟨x1, rfl⟩ := hP
    refine ifNotB_l ⟨_, rfl, _, rfl, a, ns, j, rfl, SqL.ext g0 ha, fun i G1 e1 => ⟨i, rfl, fun b G2 hb2 e2 bx0 => ?_⟩⟩
    have hb0 : G0 b = none := by
      cases hz : G0 b with
      | none => rfl
      | some o =>
        rw [e1 _ _ hz] at hb2
        cases hb2
    have e02 : Ex G0 G2 := e1.trans e2
    have e12 := g0.trans e02
    refine ⟨_, rfl, rfl, b, decide (V.int (j : Int) = V.int 0), rfl, bx0, hTh.ext e12, hTa.ext e12, hTt.ext e12, fun G3 x3 => ⟨_, rfl, ite0 (by decide) (nx_l ?_)⟩⟩
    exact kN _ _ (ExB.new ((Ex.but e02).trans x3) hb0) ⟨_, rfl⟩
end
end D0

namespace D0
open PySem PySem.Spec PyProof.Rows L2 L2H HotX Evl K9 KM
section
variable {P : Program} {w : World} {K : PySem.W.Frag} {mg : Str → Option Value} {base : Heap} {f : Addr} {fd : FuncData} {k : Nat}
theorem ok_type0 (F : FunD K "_law_type" "_law_type" (defArgs s_type) (defBody s_type) (defScope s_type) [] [] f fd) (hm : mg "_law_type" = some (.ref f)) : OkC P w K mg base (k + 1) "_law_type" ["box", "world", "room", "deep"] (spType 0) := by
  exact okC_of F hm sc_type (fun _ _ _ _ _ _ us hl => match us, hl with | [_, _, _, _], _ => rfl) (fun vs H Q E h => h.elim) (fun cdv A outer s H vs Q E hr h => h.elim)
end
end D0

namespace D0
open PySem PySem.Spec PyProof.Rows L2 L2H HotX Evl K9 KM
theorem sql_tabs {K : PySem.W.Frag} {cs : List (Addr × Addr)} {H : Hp} {a : Addr} {xs : List V} (ht : ∀ p ∈ cs, H p.2 = some (.tbl #[])) (h : SqL K H a xs) : SqL K (tabsX cs H) a xs := by
  have same : ∀ b u, H b = some u → (∀ qs, u ≠ .tbl qs) → tabsX cs H b = some u := fun b u e hu => by
    unfold tabsX
    rw [if_neg (fun hm => by
      obtain ⟨p, hp, e2⟩ := List.mem_map.mp hm
      rw [← e2, ht p hp] at e
      exact hu _ (Option.some.inj e).symm)]
    exact e
  rcases h with h | h
  · rcases h with h | ⟨o, h⟩
    · exact .inl (.inl (same _ _ h fun _ z => by cases z))
    · exact .inl (.inr ⟨o, same _ _ h fun _ z => by cases z⟩)
  · exact .inr h
theorem code_of {K : PySem.W.Frag} {x q : Str} {p : Str × Option Str} {params : Arguments} {body : List Stmt} {scope : Scope} {fd : FuncData} (F : FunD K x q params body scope [] [] (He.fAd K p) fd) : fd.code = .ref (He.codeOf K p) := by
  obtain ⟨oc, od, dV, kV, doc, pm, an, cdv, ct, osl, rfl, lk, hcd, _, _⟩ := F.ex
  obtain ⟨c, rfl⟩ := He.codeIn_ref hcd
  rw [He.codeOf_eq lk rfl]
section
variable {P : Program} {w : World} {K : PySem.W.Frag} {h : Heap} {mg : Str → Option Value}
theorem glo_at (X : K.In h) (G : h.Ns mainGlobals mg) (c : He.SaysX Hd.fa Hd.fn [] Hd.tf Hd.ex w h K) (i : Nat) {x : Str} (e : Hd.fa[i]? = some (.glo x)) : mg x = some (.ref (He.ga K x)) := He.glo_ok X G (c.t.d.fact i e)
theorem free_at (X : K.In h) (G : h.Ns mainGlobals mg) (c : He.SaysX Hd.fa Hd.fn [] Hd.tf Hd.ex w h K) (i : Nat) {x : Str} (e : Hd.fa[i]? = some (.free x)) : mg x = none := He.free_ok X G (c.t.d.fact i e)
theorem str_at (X : K.In h) (G : h.Ns mainGlobals mg) (c : He.SaysX Hd.fa Hd.fn [] Hd.tf Hd.ex w h K) (i : Nat) {x z : Str} (e : Hd.fa[i]? = some (.str x z)) : ∃ t, mg x = some (.str z t) := He.str_ok X G (c.t.d.fact i e)
theorem int_at (X : K.In h) (G : h.Ns mainGlobals mg) (c : He.SaysX Hd.fa Hd.fn [] Hd.tf Hd.ex w h K) (i : Nat) {x : Str} {z : Int} (e : Hd.fa[i]? = some (.int x z)) : ∃ t, mg x = some (.int z t) := He.int_ok X G (c.t.d.fact i e)
theorem txt (X : K.In h) (G : h.Ns mainGlobals mg) (c : He.SaysX Hd.fa Hd.fn [] Hd.tf Hd.ex w h K) : Txt K mg :=
  ⟨(free_at X G c 61 rfl), (free_at X G c 65 rfl), (free_at X G c 63 rfl), (free_at X G c 74 rfl), (free_at X G c 68 rfl), (free_at X G c 76 rfl), (free_at X G c 64 rfl), (free_at X G c 67 rfl), (free_at X G c 75 rfl), (free_at X G c 69 rfl), (free_at X G c 70 rfl), (free_at X G c 72 rfl), (free_at X G c 66 rfl), (free_at X G c 60 rfl), List.forall_mem_cons.mpr ⟨(glo_at X G c 56 rfl), List.forall_mem_cons.mpr ⟨(glo_at X G c 57 rfl), List.forall_mem_cons.mpr ⟨(glo_at X G c 58 rfl), fun x hx => absurd hx (by simp)⟩⟩⟩⟩
theorem more4 (c : He.SaysX Hd.fa Hd.fn [] Hd.tf Hd.ex w h K) : K9.errsB Hd.errs "ChoiceError" Hd.ini Hd.flds K = true ∧ He.tupB K "TERM_KINDS" (Hd.kinds.map He.Dv.str) = true ∧ PySem.W.exmOne K (.ref (He.ga K "InvalidKind")) (.ref (He.ga K "InvalidKind")) = some true := by
  have m := c.more
  unfold Hd.ex at m
  simp only [Bool.and_eq_true, beq_iff_eq] at m
  exact ⟨m.1.1, m.1.2, m.2⟩
theorem txt2 (X : K.In h) (G : h.Ns mainGlobals mg) (c : He.SaysX Hd.fa Hd.fn [] Hd.tf Hd.ex w h K) : Txt2 K mg := ⟨(free_at X G c 62 rfl), (free_at X G c 73 rfl), (str_at X G c 0 rfl), (str_at X G c 1 rfl), (str_at X G c 2 rfl), (str_at X G c 3 rfl), (int_at X G c 5 rfl), (int_at X G c 6 rfl)⟩
theorem txt3 (X : K.In h) (G : h.Ns mainGlobals mg) (c : He.SaysX Hd.fa Hd.fn [] Hd.tf Hd.ex w h K) : Txt3 K mg := ⟨(free_at X G c 77 rfl), (free_at X G c 71 rfl), (int_at X G c 7 rfl), (int_at X G c 8 rfl), (int_at X G c 9 rfl)⟩
theorem txt4 (X : K.In h) (G : h.Ns mainGlobals mg) (c : He.SaysX Hd.fa Hd.fn [] Hd.tf Hd.ex w h K) : Txt4 K mg := by
  refine ⟨(glo_at X G c 4 rfl), fun H => ?_⟩
  have z := He.tupB_ok (more4 c).2.1 H
  rw [List.map_map] at z
  exact z
theorem nclass (c : He.SaysX Hd.fa Hd.fn [] Hd.tf Hd.ex w h K) : NClass K (He.ga K "Names") := ⟨He.cls_ok (c.t.d.fact 10 rfl), He.noat_ok (c.t.d.fact 13 rfl), He.noat_ok (c.t.d.fact 14 rfl)⟩
theorem facts {f : Addr} (X : K.In h) (G : h.Ns mainGlobals mg) (hfa : mg ("law" : Str) = some (.ref f)) (c : He.SaysX Hd.fa Hd.fn [] Hd.tf Hd.ex w h K) :
    ∃ fd : FuncData, (∀ (s : Shared) (v : Value), BindsTo s fd ⟨[v], []⟩ [("script", v)]) ∧ ∀ base : Heap, K.In base → base.Ns mainGlobals mg → TabK base mg (He.cT K ("has_only", none)).1 (He.cT K ("has_only", none)).2 → TabK base mg (He.cT K ("are_name_rows", none)).1 (He.cT K ("are_name_rows", none)).2 →
      FnOk P w K mg base CX0 11 f fd ["script"] (spLaw K (He.cT K ("has_only", none)).2 (He.cT K ("are_name_rows", none)).2 (He.cT K ("has_only", none)).2) := by
  obtain ⟨m1, m2, te⟩ := more4 c
  have E : Errs K Hd.errs "ChoiceError" Hd.ini Hd.flds := errs_of m1
  have T := txt X G c
  have T2 := txt2 X G c
  have T3 := txt3 X G c
  have T4 := txt4 X G c
  have cl := nclass c
  obtain ⟨fd_has_only, F_has_only⟩ := c.t.d.def_ 0 (d := Hd.d_has_only) rfl
  obtain ⟨fd_is_type_name, F_is_type_name⟩ := c.t.d.def_ 1 (d := Hd.d_is_type_name) rfl
  obtain ⟨fd_is_variable, F_is_variable⟩ := c.t.d.def_ 2 (d := Hd.d_is_variable) rfl
  obtain ⟨fd_is_whole, F_is_whole⟩ := c.t.d.def_ 3 (d := Hd.d_is_whole) rfl
  obtain ⟨fd_is_number, F_is_number⟩ := c.t.d.def_ 4 (d := Hd.d_is_number) rfl
  obtain ⟨fd_is_name_row, F_is_name_row⟩ := c.t.d.def_ 5 (d := Hd.d_is_name_row) rfl
  obtain ⟨fd_are_name_rows, F_are_name_rows⟩ := c.t.d.def_ 6 (d := Hd.d_are_name_rows) rfl
  obtain ⟨fd_type_parts, F_type_parts⟩ := c.t.d.def_ 7 (d := Hd.d_type_parts) rfl
  obtain ⟨fd_form_parts, F_form_parts⟩ := c.t.d.def_ 8 (d := Hd.d_form_parts) rfl
  obtain ⟨fd_list_parts, F_list_parts⟩ := c.t.d.def_ 9 (d := Hd.d_list_parts) rfl
  obtain ⟨fd_parts_of, F_parts_of⟩ := c.t.d.def_ 10 (d := Hd.d_parts_of) rfl
  obtain ⟨fd_scan, F_scan⟩ := c.t.d.def_ 11 (d := Hd.d_scan) rfl
  obtain ⟨fd_check_kind, F_check_kind⟩ := c.t.d.def_ 12 (d := Hd.d_check_kind) rfl
  obtain ⟨fd_is_term, F_is_term⟩ := c.t.d.def_ 13 (d := Hd.d_is_term) rfl
  obtain ⟨fd_Lcell, F_Lcell⟩ := c.t.d.def_ 14 (d := Hd.d__law_cell) rfl
  obtain ⟨fd_Lbox, F_Lbox⟩ := c.t.d.def_ 15 (d := Hd.d__law_box) rfl
  obtain ⟨fd_Ltake, F_Ltake⟩ := c.t.d.def_ 16 (d := Hd.d__law_take) rfl
  obtain ⟨fd_Llike, F_Llike⟩ := c.t.d.def_ 17 (d := Hd.d__law_like) rfl
  obtain ⟨fd_Lsigns, F_Lsigns⟩ := c.t.d.def_ 18 (d := Hd.d__law_signs) rfl
  obtain ⟨fd_Lnames, F_Lnames⟩ := c.t.d.def_ 19 (d := Hd.d__law_names) rfl
  obtain ⟨fd_Lwords, F_Lwords⟩ := c.t.d.def_ 20 (d := Hd.d__law_words) rfl
  obtain ⟨fd_Ltype, F_Ltype⟩ := c.t.d.def_ 21 (d := Hd.d__law_type) rfl
  obtain ⟨fd_Llist, F_Llist⟩ := c.t.d.def_ 22 (d := Hd.d__law_list) rfl
  obtain ⟨fd_Lnum, F_Lnum⟩ := c.t.d.def_ 23 (d := Hd.d__law_num) rfl
  obtain ⟨fd_Lterm, F_Lterm⟩ := c.t.d.def_ 24 (d := Hd.d__law_term) rfl
  obtain ⟨fd_Lname_due, F_Lname_due⟩ := c.t.d.def_ 25 (d := Hd.d__law_name_due) rfl
  obtain ⟨fd_Lvariable_due, F_Lvariable_due⟩ := c.t.d.def_ 26 (d := Hd.d__law_variable_due) rfl
  obtain ⟨fd_Linteger_due, F_Linteger_due⟩ := c.t.d.def_ 27 (d := Hd.d__law_integer_due) rfl
  obtain ⟨fd_Lnode, F_Lnode⟩ := c.t.d.def_ 28 (d := Hd.d__law_node) rfl
  obtain ⟨fd_Ldue, F_Ldue⟩ := c.t.d.def_ 29 (d := Hd.d__law_due) rfl
  obtain ⟨fd_Linner, F_Linner⟩ := c.t.d.def_ 30 (d := Hd.d__law_inner) rfl
  obtain ⟨fd_Lnodes, F_Lnodes⟩ := c.t.d.def_ 31 (d := Hd.d__law_nodes) rfl
  obtain ⟨fd_Lswapped, F_Lswapped⟩ := c.t.d.def_ 32 (d := Hd.d__law_swapped) rfl
  obtain ⟨fd_Lother, F_Lother⟩ := c.t.d.def_ 33 (d := Hd.d__law_other) rfl
  obtain ⟨fd_Lgreat, F_Lgreat⟩ := c.t.d.def_ 34 (d := Hd.d__law_great) rfl
  obtain ⟨fd_Lasked_right, F_Lasked_right⟩ := c.t.d.def_ 35 (d := Hd.d__law_asked_right) rfl
  obtain ⟨fd_Lkind_refused, F_Lkind_refused⟩ := c.t.d.def_ 36 (d := Hd.d__law_kind_refused) rfl
  obtain ⟨fd_Lkinds_right, F_Lkinds_right⟩ := c.t.d.def_ 37 (d := Hd.d__law_kinds_right) rfl
  obtain ⟨fd_Lcell_right, F_Lcell_right⟩ := c.t.d.def_ 38 (d := Hd.d__law_cell_right) rfl
  obtain ⟨fd_Names___init__, F_Names___init__⟩ := c.t.d.def_ 42 (d := Hd.d_Names___init__) rfl
  obtain ⟨fd_Names_count_of, F_Names_count_of⟩ := c.t.d.def_ 43 (d := Hd.d_Names_count_of) rfl
  obtain ⟨fd_InvalidNames___init__, F_InvalidNames___init__⟩ := c.t.d.def_ 40 (d := Hd.d_InvalidNames___init__) rfl
  obtain ⟨fd_InvalidKind___init__, F_InvalidKind___init__⟩ := c.t.d.def_ 41 (d := Hd.d_InvalidKind___init__) rfl
  obtain ⟨fd, F⟩ := c.t.d.def_ 39 (d := Hd.d_law) rfl
  have e := hfa.symm.trans (glo_at X G c 55 rfl)
  cases e
  have bnd := FunD.bindsA (ps := ["script"]) F fun _ _ _ _ _ _ us hl => match us, hl with | [_], _ => rfl
  refine ⟨fd, fun s v => bnd s [v] rfl, fun base _ _ TBh TBa => ?_⟩
  have iv := ini_InvalidNames (P := P) (w := w) (mg := mg) (base := base) E (glo_at X G c 57 rfl) F_InvalidNames___init__
  have ik := ini_InvalidKind (P := P) (w := w) (mg := mg) (base := base) E (glo_at X G c 58 rfl) F_InvalidKind___init__
  have has := ok_has_only (P := P) (w := w) (base := base) (k := 0) T2 TBh (code_of F_has_only) F_has_only (glo_at X G c 16 rfl)
  have ist := ok_is_type_name (P := P) (w := w) (base := base) (k := 2) T T2 has F_is_type_name (glo_at X G c 17 rfl)
  have isv := ok_is_variable (P := P) (w := w) (base := base) (k := 2) T T2 has F_is_variable (glo_at X G c 18 rfl)
  have whole := ok_is_whole (P := P) (w := w) (base := base) (k := 0) T F_is_whole (glo_at X G c 19 rfl)
  have wholeV := ok_is_wholeV (P := P) (w := w) (base := base) (k := 0) T F_is_whole (glo_at X G c 19 rfl)
  have num := ok_is_number (P := P) (w := w) (base := base) (k := 1) T3.great wholeV F_is_number (glo_at X G c 20 rfl)
  have row := ok_is_name_row (P := P) (w := w) (base := base) (k := 3) T T2 ist.c (whole.mono (by decide)) F_is_name_row (glo_at X G c 21 rfl)
  have rows := ok_are_name_rows (P := P) (w := w) (base := base) (k := 4) T T2 TBa (code_of F_are_name_rows) row F_are_name_rows (glo_at X G c 22 rfl)
  have fnn := fn_Names (P := P) (w := w) (mg := mg) (base := base) (k := 7) T T2 E ⟨iv⟩ (by decide) cl (rows.mono (by decide)) F_Names___init__
  have nn : NOk P w K mg base 8 "Names" (He.ga K "Names") ["self", "names"] ["names"] (spNames K (He.ga K "Names") (He.cT K ("has_only", none)).2 (He.cT K ("are_name_rows", none)).2) :=
    ⟨(glo_at X G c 59 rfl), _, _, He.mkr_ok (c.t.d.fact 11 rfl), fnn, kbn_of F_Names___init__ fun _ _ _ _ _ _ us ws hu hw => match us, ws, hu, hw with | [_, _], [], _, _ => rfl, kbn_of F_Names___init__ fun _ _ _ _ _ _ us ws hu hw => match us, ws, hu, hw with | [_], [_], _, _ => rfl⟩
  have cnt := m_count_of (P := P) (w := w) (mg := mg) (base := base) (k := 2) cl (He.meth_ok (c.t.d.fact 12 rfl)) F_Names_count_of
  have tp := ok_type_parts (P := P) (w := w) (base := base) (k := 3) T ist.c isv.c cnt F_type_parts (glo_at X G c 23 rfl)
  have fp := ok_form_parts (P := P) (w := w) (base := base) (k := 3) T (num.mono (by decide)) isv.c F_form_parts (glo_at X G c 24 rfl)
  have lp := ok_list_parts (P := P) (w := w) (base := base) (k := 3) T isv.c F_list_parts (glo_at X G c 25 rfl)
  have po := ok_parts_of (P := P) (w := w) (base := base) (k := 4) T (num.mono (by decide)) tp fp lp F_parts_of (glo_at X G c 26 rfl)
  have scn := ok_scan (P := P) (w := w) (base := base) (k := 5) T T3 po F_scan (glo_at X G c 27 rfl)
  have ck := ok_check_kind (P := P) (w := w) (base := base) (k := 5) T4 ⟨ik⟩ (by decide) F_check_kind (glo_at X G c 28 rfl)
  have itm := ok_is_term (P := P) (w := w) (base := base) (k := 6) ck scn F_is_term (glo_at X G c 29 rfl)
  have x_cell := ok_cell (P := P) (w := w) (base := base) (k := 0) T F_Lcell (glo_at X G c 30 rfl)
  have x_box := ok_box (P := P) (w := w) (base := base) (k := 0) T F_Lbox (glo_at X G c 31 rfl)
  have x_take := ok_take (P := P) (w := w) (base := base) (k := 0) T F_Ltake (glo_at X G c 32 rfl)
  have x_like := ok_like (P := P) (w := w) (base := base) (k := 0) T F_Llike (glo_at X G c 33 rfl)
  have x_signs := ok_signs (P := P) (w := w) (base := base) (k := 1) T x_take F_Lsigns (glo_at X G c 34 rfl)
  have x_words := ok_words (P := P) (w := w) (base := base) (k := 2) T (x_take.mono (by decide)) x_signs F_Lwords (glo_at X G c 36 rfl)
  have x_names := ok_names (P := P) (w := w) (base := base) (k := 2) T (x_take.mono (by decide)) x_signs F_Lnames (glo_at X G c 35 rfl)
  have x_type0 := ok_type0 (P := P) (w := w) (base := base) (k := 0)  F_Ltype (glo_at X G c 37 rfl)
  have x_type1 := ok_type (P := P) (w := w) (base := base) (d := 0) (k := 1) T x_take x_type0 F_Ltype (glo_at X G c 37 rfl)
  have x_type2 := ok_type (P := P) (w := w) (base := base) (d := 1) (k := 2) T (x_take.mono (by decide)) x_type1 F_Ltype (glo_at X G c 37 rfl)
  have x_type3 := ok_type (P := P) (w := w) (base := base) (d := 2) (k := 3) T (x_take.mono (by decide)) x_type2 F_Ltype (glo_at X G c 37 rfl)
  have x_type4 := ok_type (P := P) (w := w) (base := base) (d := 3) (k := 4) T (x_take.mono (by decide)) x_type3 F_Ltype (glo_at X G c 37 rfl)
  have x_list := ok_list (P := P) (w := w) (base := base) (k := 5) T (x_take.mono (by decide)) x_type4 F_Llist (glo_at X G c 38 rfl)
  have x_num := ok_num (P := P) (w := w) (base := base) (k := 1) T x_take F_Lnum (glo_at X G c 39 rfl)
  have x_term := ok_term (P := P) (w := w) (base := base) (k := 6) T (x_type4.mono (by decide)) x_list (x_num.mono (by decide)) F_Lterm (glo_at X G c 40 rfl)
  have x_name_due := ok_name_due (P := P) (w := w) (base := base) (k := 0) T T3 F_Lname_due (glo_at X G c 41 rfl)
  have x_variable_due := ok_variable_due (P := P) (w := w) (base := base) (k := 0) T T3 F_Lvariable_due (glo_at X G c 42 rfl)
  have x_integer_due := ok_integer_due (P := P) (w := w) (base := base) (k := 0) T F_Linteger_due (glo_at X G c 43 rfl)
  have x_node := ok_node (P := P) (w := w) (base := base) (k := 1) T x_integer_due x_name_due x_variable_due F_Lnode (glo_at X G c 44 rfl)
  have x_due := ok_due (P := P) (w := w) (base := base) (k := 2) T x_node F_Ldue (glo_at X G c 45 rfl)
  have x_inner := ok_inner (P := P) (w := w) (base := base) (k := 0) T F_Linner (glo_at X G c 46 rfl)
  have x_nodes := ok_nodes (P := P) (w := w) (base := base) (k := 1) T x_inner F_Lnodes (glo_at X G c 47 rfl)
  have x_sw0 := ok_swapped0 (P := P) (w := w) (base := base) (k := 0)  F_Lswapped (glo_at X G c 48 rfl)
  have x_sw1 := ok_swapped (P := P) (w := w) (base := base) (d := 0) (k := 1) T x_inner x_sw0 F_Lswapped (glo_at X G c 48 rfl)
  have x_sw2 := ok_swapped (P := P) (w := w) (base := base) (d := 1) (k := 2) T (x_inner.mono (by decide)) x_sw1 F_Lswapped (glo_at X G c 48 rfl)
  have x_sw3 := ok_swapped (P := P) (w := w) (base := base) (d := 2) (k := 3) T (x_inner.mono (by decide)) x_sw2 F_Lswapped (glo_at X G c 48 rfl)
  have x_sw4 := ok_swapped (P := P) (w := w) (base := base) (d := 3) (k := 4) T (x_inner.mono (by decide)) x_sw3 F_Lswapped (glo_at X G c 48 rfl)
  have x_sw5 := ok_swapped (P := P) (w := w) (base := base) (d := 4) (k := 5) T (x_inner.mono (by decide)) x_sw4 F_Lswapped (glo_at X G c 48 rfl)
  have x_other := ok_other (P := P) (w := w) (base := base) (k := 1) T x_take x_inner F_Lother (glo_at X G c 49 rfl)
  have x_great := ok_great (P := P) (w := w) (base := base) (k := 1) T x_take F_Lgreat (glo_at X G c 50 rfl)
  have x_asked := ok_asked_right (P := P) (w := w) (base := base) (k := 7) T itm (x_due.mono (by decide)) F_Lasked_right (glo_at X G c 51 rfl)
  have x_refused := ok_kind_refused (P := P) (w := w) (base := base) (k := 7) T E te itm (x_like.mono (by decide)) F_Lkind_refused (glo_at X G c 52 rfl)
  have x_kinds := ok_kinds_right (P := P) (w := w) (base := base) (k := 8) x_refused F_Lkinds_right (glo_at X G c 53 rfl)
  have x_cr := ok_cell_right (P := P) (w := w) (base := base) (k := 8) T nn (x_take.mono (by decide)) (x_names.mono (by decide)) (x_words.mono (by decide)) (x_term.mono (by decide)) (x_nodes.mono (by decide)) (x_sw5.mono (by decide)) (x_other.mono (by decide)) (x_great.mono (by decide)) (x_asked.mono (by decide)) x_kinds F_Lcell_right (glo_at X G c 54 rfl)
  exact ok_law (P := P) (w := w) (base := base) (k := 10) T (x_box.mono (by decide)) (x_cell.mono (by decide)) x_cr F (glo_at X G c 55 rfl)
end
end D0
open PySem PySem.W PySem.Calls PyProof.Rows
theorem PySem.Challenge.cw_mostspecial_k02_terms_judged_holds : PySem.Challenge.rw_mostspecial_k02_terms_judged.Holds := by
  w_on; o_law
  refine HandSHeadRun.head_any (r := OpenLaw.row PySem.Challenge.rw_mostspecial_k02_terms_judged) (q := view (OpenLaw.row PySem.Challenge.rw_mostspecial_k02_terms_judged).prog [56]) (H := Hd.hk) (ob := Hd.ob) (M := 20000) (loose := Hd.lo) (d := HandSHeadRun.topDef (OpenLaw.row PySem.Challenge.rw_mostspecial_k02_terms_judged).prog 56) (kwd := []) Hd.ob_eq
    (by kernel_rfl) (fun s => by kernel_rfl) Hd.run (by kernel_rfl) (by kernel_rfl) (by kernel_rfl) (by rfl) (by first | assumption | decide +kernel) (by decide +kernel) ⟨rfl, rfl, rfl, rfl, rfl, by decide +kernel⟩ ?hw ?hc
  case hw => w_witness2
  case hc =>
    refine LamX.walk_ofTsE (l := PySem.Challenge.rw_mostspecial_k02_terms_judged) (n := 63) (k := 11) (x := "script") (CX := fun _ => L2.CX0) rfl (by decide) (by kernel_rfl) ⟨rfl, by decide, by decide⟩ ?F (fun _ _ _ _ _ z => z)
    intro w mg fa h Y G hmg0
    obtain ⟨K, KX, c⟩ := Y
    have hmg : mg ("law" : PySem.Str) = some (.ref fa) := by
      have e : (HandSHeadRun.topDef (OpenLaw.row PySem.Challenge.rw_mostspecial_k02_terms_judged).prog 56).name = ("law" : PySem.Str) := by kernel_rfl
      rw [← e]
      exact hmg0
    obtain ⟨fd, hb, hF⟩ := D0.facts (P := (PySem.Challenge.rw_mostspecial_k02_terms_judged).prog) (w := w) KX G hmg c
    have hd := c.hd
    have hout := c.out
    have hemp := c.empty
    refine ⟨K, KX, fd, Hd.tf.map (He.cT K), K9.spT (Hd.tf.map (He.cT K)) (D0.spLaw K (He.cT K ("has_only", none)).2 (He.cT K ("are_name_rows", none)).2 (He.cT K ("has_only", none)).2), fun p hp => ?_, fun p hp => ?_, fun p hp => ?_, hb, fun H a ns hl _ ht hS => ?_, fun base hK hG hT => ?_⟩
    · obtain ⟨q, hq, rfl⟩ := List.mem_map.mp hp
      exact hemp q hq
    · obtain ⟨q, hq, rfl⟩ := List.mem_map.mp hp
      exact hout q hq
    · obtain ⟨q, hq, rfl⟩ := List.mem_map.mp hp
      exact codeHd_of_K KX (hd q hq)
    · have tx : ∀ q ∈ Hd.tf, K9.TabX (K9.tabsX (Hd.tf.map (He.cT K)) H) (He.cT K q).2 := fun q hq => by
        unfold K9.TabX K9.tabsX
        rw [if_pos (List.mem_map.mpr ⟨_, List.mem_map.mpr ⟨q, hq, rfl⟩, rfl⟩)]
      refine ⟨ht, a, ns, rfl, hl, D0.sql_tabs ht hS, tx _ (by simp [Hd.tf]), tx _ (by simp [Hd.tf]), tx _ (by simp [Hd.tf]), fun H' e => ⟨fun p hp => ?_, fun _ => rfl⟩⟩
      obtain ⟨q, hq, rfl⟩ := List.mem_map.mp hp
      exact (tx q hq).ext e
    · have tk : ∀ q ∈ Hd.tf, K9.TabK base mg (He.cT K q).1 (He.cT K q).2 := fun q hq => by
        have z := hT _ (List.mem_map.mpr ⟨q, hq, rfl⟩)
        refine ⟨z.code, ?_⟩
        obtain ⟨bm, ob, h1, h2, h3, h4⟩ := z.bm
        exact ⟨bm, ob, h1, h2, h4.2⟩
      exact K9.fn_tabs _ (hF base hK hG (tk _ (by simp [Hd.tf])) (tk _ (by simp [Hd.tf])))

