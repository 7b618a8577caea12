import PyProof.Rows.All
import Wide.All
import OpenK.AllK
import Wide.FinOn
import HandS.ForMost
import HandS.Exc
import HandS.ExcInit
import HandS.Evl
import HandS.ExcOwn
import HandS.HotCalls
import HandS.Defaults
import HandS.IsInst
import HandS.Comp
import HandS.Iter
import PyProof.NeKinds
import PyProof.EqAt
import KE.KExcIs
import HandS.ExcField
import HandS.ExcValue
import HandS.ExcCtx
import HandS.Wide
import HandS.TupLe
import HandS.Style
import HandS.HeadHook4
import HandS.DeepEq
import HandS.WordsDict
import KE.KStateDown
import Lean
import HandS.Base
import HandS.Call
import HandS.Ends
import HandS.More
import HandS.Words
import HandS.WordsExc
import HandS.Head0
import HandS.Head1
import HandS.Head2
import HandS.HeadEnd
import HandS.HeadHook1
import HandS.HeadHook2
import HandS.WideBits
import HandS.NoneIn
import HandS.Small
import PySem.Challenge.RW_mostspecial_k00_errors
set_option Elab.async false
set_option linter.all false
set_option maxRecDepth 100000
set_option maxHeartbeats 0
namespace PySem
namespace K9
open PySem.W PySem.Calls PyProof.Rows PySem.HandSPX
section
variable {M : Model} {A : Around} {E : Value → Shared → Prop} {h : Heap} {g : Array GenState} {d : Drawn} {t : Nat} {os : OsState}
variable {nm q : Str} {C N : Addr} {bs bm bmB : List Value} {hdct : Bool} {sn : List Str} {sub : List Value} {ab : Bool} {col : Option Bool} {dd : Option Addr} {k0 k1 k2 k3 k5 : Option Value} {B newId initId : String}
theorem chk_kw (F : ExcBaseFacts B newId initId bmB) (hT : ∀ X : String, bm.contains (.type X) = bmB.contains (.type X))
    {rest : List Value} {kw : List (Str × Value)} {Q : Unit → Shared → Prop}
    (hC : h.get? C = some (excClassObj nm q C N bs bm hdct sn sub ab col dd k0 k1 k2 k3 k5 newId))
    (hq : Q () ⟨h, g, d, t, os⟩) :
    wpAny M A (checkBuiltinCall newId ⟨.ref C :: rest, kw⟩) Q E ⟨h, g, d, t, os⟩ := by
  have inB : (Value.ref C :: bm).contains (.type B) = true := by
    rw [List.contains_cons, hT, F.hasB]
    exact Bool.or_true _
  have ns := F.noStar
  simp only [checkBuiltinCall, F.newKind, F.newSplit, F.newRow]
  repeat (first
    | refine wpAny_loadPart_at hC ?_
    | (refine wpAny_isSubtype_exc hC ?_
       rw [inB])
    | refine wpAny_staticBase_exc hC ?_
    | refine wpAny_madeBy_exc hC ?_
    | simp only [bne_self_eq_false, Bool.false_eq_true, if_false]
    | wp_step)
  exact hq
end
section
variable {prog : Program} {w : World} {A : Around} {E : Value → Shared → Prop} {R : Result → Shared → Prop} {h : Heap} {g : Array GenState} {d : Drawn} {t : Nat} {os : OsState}
variable {nm q : Str} {C N : Addr} {bs bm bmB : List Value} {hdct : Bool} {sn : List Str} {sub : List Value} {ab : Bool} {col : Option Bool} {dd : Option Addr} {k0 k1 k2 k3 k5 : Option Value} {B newId initId : String}
/-- the raw maker, keywords beside: they are passed over -/
theorem maker_kw (F : ExcBaseFacts B newId initId bmB) (hT : ∀ X : String, bm.contains (.type X) = bmB.contains (.type X))
    {rest : List Value} {kw : List (Str × Value)}
    (hC : h.get? C = some (excClassObj nm q C N bs bm hdct sn sub ab col dd k0 k1 k2 k3 k5 newId)) (room : rest.length ≤ sizeLine)
    (hq : R (.ok (.ret (.ref (h.objs.size + 1)))) ⟨(h.push (kdv_tup rest)).push (excO C h.objs.size), g, d, t, os⟩) :
    codeAny (model prog w) A (.builtin newId ⟨.ref C :: rest, kw⟩) R ⟨h, g, d, t, os⟩ := by
  have ends := F.ends
  have inB : (Value.ref C :: bm).contains (.type B) = true := by
    rw [List.contains_cons, hT, F.hasB]
    exact Bool.or_true _
  have noA : (Value.ref C :: bm).contains (.type "AttributeError") = false := by
    rw [List.contains_cons, hT, F.noAttr]
    rfl
  have noN : (Value.ref C :: bm).contains (.type "NameError") = false := by
    rw [List.contains_cons, hT, F.noName]
    rfl
  refine codeAny_builtinAt F.entry ?_
  unfold Builtin.«BaseException.__new__»
  refine wpAt_bind ?_
  show wpAt _ _ _ (stack >>= _) _ _ _
  refine wpAt_bind (wpAt_stack fun p below => wpAt_of_wpAny ?_)
  wp_walk
  refine wpAt_of_wpAny ?_
  rw [F.owner]
  repeat (first
    | with_reducible refine wpAny_madeHere_exc F.canon hC ?_
    | with_reducible refine wpAny_loadPart_at hC ?_
    | (with_reducible refine wpAny_isSubtype_exc hC ?_
       first
         | rw [inB]
         | rw [noA]
         | rw [noN])
    | wp_step)
  show R _ _
  rw [Heap.size_push]
  exact hq
/-- C(.., k = v ..): type.__call__, the maker, the own __init__ -/
theorem typeCall_kw (F : ExcBaseFacts B newId initId bmB) (hT : ∀ X : String, bm.contains (.type X) = bmB.contains (.type X))
    {rest : List Value} {kw : List (Str × Value)} {fI : Addr} {Q : Fin → Shared → Prop}
    (hC : h.get? C = some (excClassObj nm q C N bs bm hdct sn sub ab col dd k0 k1 k2 k3 k5 newId))
    (hi : Looks (model prog w) h (typeLookup (.ref C) "__init__") (some (.ref fI)))
    (hb : ∀ self, Looks (model prog w) h (bindSpecial (.ref fI) self) (.ref fI, [self])) (room : rest.length ≤ sizeLine)
    (hq : codeAny (model prog w) A (.call (.ref fI) ⟨.ref (h.objs.size + 1) :: rest, kw⟩)
      (fun r s' => match r with
        | .ok (.ret v) => v = .none ∧ Q (.done (.ret (.ref (h.objs.size + 1)))) s'
        | .ok _ => False
        | .error e => E e s')
      ⟨(h.push (kdv_tup rest)).push (excO C h.objs.size), g, d, t, os⟩) :
    wpAny (model prog w) A (Builtin.«type.__call__» ⟨.ref C :: rest, kw⟩) Q E ⟨h, g, d, t, os⟩ := by
  repeat (first
    | with_reducible refine wpAny_loadPart_at hC ?_
    | with_reducible refine wpAny_madeBy_exc hC ?_
    | wp_step)
  refine codeAny_call_builtin_code (Code.quiet_builtin _ F.quiet) (chk_kw F hT hC ?_)
  refine maker_kw F hT hC room ?_
  show wpAny _ _ _ _ _ _
  have keep : ∀ b o, h.get? b = some o → ((h.push (kdv_tup rest)).push (excO C h.objs.size)).get? b = some o :=
    fun b o e => Heap.get?_push_of_some _ (Heap.get?_push_of_some _ e)
  have hC2 := keep _ _ hC
  have new : ((h.push (kdv_tup rest)).push (excO C h.objs.size)).get? (h.objs.size + 1) = some (excO C h.objs.size) := by
    heap_get
  have self : (Value.ref C :: bm).contains (.ref C) = true := by simp
  have i2 := hi.keeps keep
  have b2 := (hb (.ref (h.objs.size + 1))).keeps keep
  unfold isInstance
  repeat (first
    | with_reducible refine wpAny_loadPart_at new ?_
    | (with_reducible refine wpAny_isSubtype_exc hC2 ?_
       rw [self])
    | wp_step)
  show wpAny _ _ (typeLookup (.ref C) _) _ _ _
  refine i2.at ?_
  refine wpAny_holding (wpAny_bind (b2.at ?_))
  refine wpAny_bind (wpAny_call (codeAny_mono hq fun r s' z => ?_))
  rcases r with e | (v | _ | _ | _) <;> first
    | exact z
    | exact z.elim
    | skip
  obtain ⟨e, z⟩ := z
  subst e
  first
    | exact wpAny_pure (wpAny_pure z)
    | (wp_walk
       exact z)
theorem call_kw (F : ExcBaseFacts B newId initId bmB) (hT : ∀ X : String, bm.contains (.type X) = bmB.contains (.type X))
    {rest : List Value} {kw : List (Str × Value)} {fI : Addr}
    (hC : h.get? C = some (excClassObj nm q C N bs bm hdct sn sub ab col dd k0 k1 k2 k3 k5 newId))
    (hi : Looks (model prog w) h (typeLookup (.ref C) "__init__") (some (.ref fI)))
    (hb : ∀ self, Looks (model prog w) h (bindSpecial (.ref fI) self) (.ref fI, [self])) (room : rest.length ≤ sizeLine)
    (hq : codeAny (model prog w) (A.under (.builtin "type.__call__" ⟨.ref C :: rest, kw⟩)) (.call (.ref fI) ⟨.ref (h.objs.size + 1) :: rest, kw⟩)
      (InitBack (h.objs.size + 1) R) ⟨(h.push (kdv_tup rest)).push (excO C h.objs.size), g, d, t, os⟩) :
    codeAny (model prog w) A (.call (.ref C) ⟨rest, kw⟩) R ⟨h, g, d, t, os⟩ := by
  have e1 := tc_lookup
  have e2 := tc_bind (.ref C)
  have ty : (⟨h, g, d, t, os⟩ : Shared).TypeIs (.ref C) "type" := ⟨_, hC, rfl⟩
  refine codeAny_of_tree ?_
  show wpAny _ _ (callAny (.ref C) _) _ _ _
  repeat (any_goals (first
    | assumption
    | with_reducible refine wpAny_loadPart_at hC ?_
    | wp_step))
  refine ⟨rfl, ?_⟩
  refine codeAny_call_builtin_at (Code.quiet_builtin _ (by decide +kernel)) entry_typeCall
    (wpAny_check_type_call_sub hC (typeCall_kw F hT hC hi hb room ?_))
  refine codeAny_mono hq fun r s' z => ?_
  rcases r with e | (v | _ | _ | _) <;> exact z
end
end K9
end PySem

namespace K9
open PySem PySem.Spec PyProof.Rows L2 L2H HotX Evl
abbrev St := L2.St
/-! ### bodies that run where nothing is handled, or where one exception is: the pin p -/
abbrev Pin := Option (Addr × Obj)
/-- nothing is handled and nothing pinned, or an exception that is pinned is handled -/
def Mood (X : Cx) : Prop := (X.calm = true ∧ X.pn = []) ∨ HotC X
/-- the pin that a callee sees -/
def CallC (X : Cx) (p : Pin) : Prop := (X.calm = true ∧ p = none) ∨ ∃ o, p = some o ∧ Hot1 X.A o ∧ o ∈ X.pn
/-- a def's context, in both cases -/
abbrev cxB (P : Program) (w : World) (K : PySem.W.Frag) (mg : Str → Option Value) (base : Heap) (N : List Str) (qual : Str) (scope : Scope) (f : Addr) (cd : Value)
    (A : Around) (outer : List Env) (s : Shared) (H : Hp) (E : XK) (c : Bool) (l : List (Addr × Obj)) : Cx :=
  { cxOf CX0 P w K mg base N qual scope f cd A outer s H E with calm := c, pn := l }
structure FnB (P : Program) (w : World) (K : PySem.W.Frag) (mg : Str → Option Value) (base : Heap) (k : Nat) (f : Addr) (fd : FuncData) (ps : List Str) (sp : Pin → Sp) : Prop where
  len : ∀ p vs H Q E, sp p vs H Q E → vs.length = ps.length
  cold : FnOk P w K mg base CX0 k f fd ps (sp none)
  hot : ∀ (p : Addr × Obj) (A : Around) (outer : List Env) (s : Shared) (H : Hp) (args : Args) (us : List Value) (vs : List V) (Q : VK) (E : XK),
    RoomH k A → Hot1 A p → PinOk outer H s p → Env0 P w K mg base A outer s H → BindsTo s fd args (ps.zip us) → Vals vs us → sp (some p) vs H Q E →
    codeAny (model P w) A (.call (.ref f) args) (CR CX0 outer P w H s Q E) s
theorem FnB.mono {P : Program} {w : World} {K : PySem.W.Frag} {mg : Str → Option Value} {base : Heap} {j k : Nat} {f : Addr} {fd : FuncData} {ps : List Str} {sp : Pin → Sp}
    (F : FnB P w K mg base j f fd ps sp) (h : j ≤ k) : FnB P w K mg base k f fd ps sp :=
  ⟨F.len, F.cold.mono h, fun p A outer s H args us vs Q E hr => F.hot p A outer s H args us vs Q E (hr.mono h)⟩
/-- a def by its body, for both -/
theorem fnB_of {P : Program} {w : World} {K : PySem.W.Frag} {mg : Str → Option Value} {base : Heap} {k : Nat} {f : Addr} {name qual : Str} {params : Arguments} {body : List Stmt} {scope : Scope}
    {dV kV doc pm cdv ct oc : Value} {an od : Option Addr} {osl : Array (Option Value)} {N ps : List Str} {sp : Pin → Sp}
    (lk : K.lookup f = some ⟨oc, od, .func (PySem.W.fnOf name qual params body scope dV kV doc pm an cdv ct), osl⟩) (hcd : PySem.W.codeIn K cdv qual = true) (S : FnScope N ps scope)
    (len : ∀ p vs H Q E, sp p vs H Q E → vs.length = ps.length)
    (hbody : ∀ (A : Around) (outer : List Env) (s : Shared) (H : Hp) (vs : List V) (Q : VK) (E : XK) (p : Pin) (c : Bool),
      Mood (cxB P w K mg base N qual scope f cdv A outer s H E c p.toList) → CallC (cxB P w K mg base N qual scope f cdv A outer s H E c p.toList) p →
      RoomH k (A.deeper (envOfC qual scope s.heap.objs.size f cdv)) → sp p vs H Q E →
      ∃ t, PSs (cxB P w K mg base N qual scope f cdv A outer s H E c p.toList) body t ∧ t { nx := fun _ H' => Q .non H', rt := Q } (start N vs) H) :
    FnB P w K mg base (k + 1) f (PySem.W.fnOf name qual params body scope dV kV doc pm an cdv ct) ps sp := by
  refine ⟨len, ?_, ?_⟩
  · refine fn_of lk hcd S (len none) fun A outer s H vs Q E hr hsp => ?_
    exact hbody A outer s H vs Q E none true (.inl ⟨rfl, rfl⟩) (.inl ⟨rfl, rfl⟩) (roomH_of hr) hsp
  · intro p A outer s H args us vs Q E hr hot hpin e0 hb r hsp
    have hl := len _ _ _ _ _ hsp
    have KX : K.In s.heap := e0.mod.kin.keeps fun b o e => (e0.bs b o e).1
    have lim : s.heap.NoLimit := e0.mod.nolimit.keeps fun b o e => (e0.bs b o e).1
    have kinds : ∀ y ∈ ps.zip us, scope.names.lookup y.1 = some .local ∨
        (scope.names.lookup y.1 = some .cell ∧ ((cellsFrom (s.heap.objs.size + 1) scope.names []).lookup y.1).isSome = true) := by
      rintro ⟨n, v⟩ hy
      rcases S.par n (List.of_mem_zip hy).1 with q | q
      · exact .inl q
      · exact .inr ⟨q, PySem.W.cellsFrom_some _ _ _ (.inl q)⟩
    refine codeAny_call_function hr.depth (KX _ _ lk) rfl S.co S.gen rfl (PySem.W.codeRec_of KX hcd) (hb _ _ _ _ ?_)
    refine wpAny_newFunctionEnv_cells S.kind kinds fun env he s1 x => ?_
    subst he
    refine ⟨lim.keeps x.toInCall.keep, codeAny_func ?_⟩
    have hc : HotC (cxB P w K mg base N qual scope f cdv A outer s H E false [p]) := ⟨p, hot, List.mem_singleton.mpr rfl⟩
    obtain ⟨t, ht, hq⟩ := hbody A outer s H vs Q E (some p) false (.inr hc) (.inr ⟨p, rfl, hot, List.mem_singleton.mpr rfl⟩) (hr.deeper _) hsp
    have I : Inv (cxB P w K mg base N qual scope f cdv A outer s H E false [p]) [] (start N vs) H s1 :=
      inv_startH (CX := CX0) S hpin e0 hl r x
    refine wpAny_mono (ht.run [] s1 (start N vs) H _ I hq) (fun fl s' hs => ?_) fun e s' hs => hs
    have done : ∀ {σ' : St} {H' : Hp} {v : V} {u : Value}, Inv (cxB P w K mg base N qual scope f cdv A outer s H E false [p]) [] σ' H' s' →
        RelV v u → Q v H' → CE outer P w H s Q u s' := fun {σ' H' v u} J rv q => ⟨v, H', J.os, J.bare, J.base, J.hok, rv, q⟩
    cases fl with
    | ret u =>
      obtain ⟨v, σ', H', J, rv, q⟩ := hs
      exact done J rv q
    | next =>
      obtain ⟨σ', H', J, q⟩ := hs
      exact done (v := V.non) (u := Value.none) J rfl q
    | brk =>
      obtain ⟨_, _, _, q⟩ := hs
      exact q.elim
    | cont =>
      obtain ⟨_, _, _, q⟩ := hs
      exact q.elim
/-! ### the call of such a def -/
section
variable {X : Cx} {k : Nat} {f : Addr} {fd : FuncData} {ps : List Str} {sp : Pin → Sp} {x : Str} {q pos : Pos} {e : Expr} {es : List Expr} {t : TA}
theorem runB {p : Pin} {pins : List (Addr × Obj)} {σ : St} {H : Hp} {s : Shared} {Q : VK} {us : List Value} {vs : List V} {args : Args} (F : FnB X.prog X.w X.K X.mg X.base k f fd ps sp) (hr : RoomH k X.A)
    (hc : CallC X p) (hb : BindsTo s fd args (ps.zip us)) (I : Inv X pins σ H s) (r : Vals vs us) (h : sp p vs H Q E0) :
    codeAny (model X.prog X.w) X.A (.call (.ref f) args) (fun r s' => match r with
      | .ok (.ret u) => EP X pins σ Q u s'
      | .ok _ => False
      | .error e => X.xe e s') s := by
  have fin : ∀ (r : Result) (s' : Shared), CR CX0 X.stack X.prog X.w H s Q E0 r s' → (match r with
      | .ok (.ret u) => EP X pins σ Q u s'
      | .ok _ => False
      | .error e => X.xe e s') := by
    intro r s' hq
    cases r with
    | error e => exact False.elim hq
    | ok fl =>
      cases fl with
      | ret u => exact I.after hq
      | next => exact False.elim hq
      | brk => exact False.elim hq
      | cont => exact False.elim hq
  rcases hc with ⟨hc, rfl⟩ | ⟨o, rfl, hot, hp⟩
  · have rm : Room k X.A := ⟨I.ok.hd hc, hr.dp, hr.un⟩
    exact codeAny_mono (F.cold.run X.A X.stack s H args us vs Q E0 rm I.env0 hb r h) fin
  · have P1 := I.pin o (List.mem_append_left _ hp)
    have pin : PinOk X.stack H s o := ⟨P1.1, P1.2.1, fun hm => by
      rcases List.mem_cons.mp (I.stkSub o.1 hm) with z | z
      · exact P1.2.2.1 z
      · exact P1.2.2.2.1 z, P1.2.2.2.2⟩
    exact codeAny_mono (F.hot o X.A X.stack s H args us vs Q E0 hr hot pin I.env0 hb r h) fin
/-- f(e, ..) -/
def tCallB (sp : Sp) (t : TA) : TE := fun σ H Q => t σ H fun vs H1 => sp vs H1 Q E0
theorem pe_callC {p : Pin} (F : FnB X.prog X.w X.K X.mg X.base k f fd ps sp) (hr : RoomH k X.A) (hc : CallC X p) (hg : Gl X x) (hm : X.mg x = some (.ref f)) (hk : PySem.W.keepIn X.K (.ref f) = true)
    (hb : Binds X.K fd ps []) (ha : PA X (e :: es) t) (hdb : (x == ("__debug__" : Str)) = false := by decide)
    (he : starEach (e :: es) X.env = (false, eval e X.env) :: starEach es X.env := by rfl) (hpl : (backTo pos (starEach es X.env)).any (·.1) = false := by rfl) :
    PE X (.Call (.Name x q) (e :: es) [] pos) (tCallB (sp p) t) := by
  refine ⟨fun pins s σ H Q I h => ?_⟩
  refine wpAny_Call_Name_kw (ld_glob I hg hm ?_ hdb)
  refine PySem.W.callWith_K (h₀ := X.base) I.ok.mod.kin hk (thn (ha.run pos pins s σ H _ I h) fun us s1 ⟨vs, H1, I1, r, q1⟩ => ⟨I1.kIn, ?_⟩) he hpl
  have hl : us.length = ps.length := by
    rw [← r.length]
    exact F.len _ _ _ _ _ q1
  have b := hb s1 us I1.kIn (by rw [List.append_nil]; exact hl)
  rw [List.append_nil] at b
  refine wpAny_call (codeAny_mono (runB F hr hc b I1 r q1) fun r s' z => ?_)
  cases r with
  | error e => exact z
  | ok fl => cases fl <;> exact z
end
end K9

namespace PySem
namespace K9S
open PySem.Spec PyProof.Rows HotX
section
variable {prog : Program} {w : World} {A : Around} {E : Value → Shared → Prop} {s : Shared}
/-- StopIteration, made and raised where x1 is handled, then caught by next -/
theorem stop_hot {x1 : Addr} {P : Fin → Shared → Prop} {Q : Option Value → Shared → Prop} (hot : HotAt A x1 s.heap)
    (hQ : ∀ h', (∀ b o, s.heap.get? b = some o → h'.get? b = some o) → Q none { s with heap := h' }) :
    wpAny (model prog w) A.in1 Builtin.SmallTypes.stopIteration P (fun e s' => wpAny (model prog w) A (do
      let yes ← isInstance e (.type "StopIteration")
      if yes = true then pure none else throw e) Q E s') s := by
  obtain ⟨hh, o1, vs1, h1, d1, c1⟩ := hot
  show wpAny _ _ (newExc (.type "StopIteration") [] >>= _) _ _ _
  refine wpAny_bind ?_
  simp only [newExc, newTuple]
  refine wpAny_bind (wpAny_newObj_type ?_ (by size_fits))
  refine wpAny_bind (m := firstArgMember _ _) (wpAny_of_eq (a := Value.none) (by
    first
      | rfl
      | (simp only [firstArgMember]; rfl)) ?_)
  refine wpAny_newObj_type ?_ (by size_fits)
  refine raiseNew_hot ⟨hh, o1, vs1, Heap.get?_push_of_some _ (Heap.get?_push_of_some _ h1), d1, c1⟩ (Nat.ne_of_lt (Heap.lt_size (Heap.get?_push_of_some _ h1))) (Heap.get?_push_size _ rfl) rfl (by
    first
      | (simp; done)
      | (simp; omega)
      | (simp only [Array.size_append]; simp; omega)) ?_
  refine wpAny_bind (wpAny_isInstance (T := "StopIteration") (b := true) ⟨_, Heap.get?_update_self _ (Heap.get?_push_size _ rfl) rfl, rfl⟩ isSubtype_stop ?_)
  refine wpAny_pure (hQ _ fun b o e => ?_)
  rw [Heap.get?_update_other _ _ (Nat.ne_of_gt (Heap.lt_size (Heap.get?_push_of_some _ e)))]
  exact Heap.get?_push_of_some _ (Heap.get?_push_of_some _ e)
/-- an object other than the one that was updated -/
theorem past {h : Heap} {it b : Addr} {f : Obj → Obj} {o : Obj} (ne : b ≠ it) (e : h.get? b = some o) : (h.update it f).get? b = some o := by
  rw [Heap.get?_update_other h f (Ne.symm ne)]
  exact e
theorem tuple_end_hot {it t x1 : Addr} {i : Nat} {items : Array Value} {Q : Option Value → Shared → Prop} (hot : HotAt A x1 s.heap) (ne : x1 ≠ it)
    (hit : s.heap.IsTupleIter it t i) (ht : s.heap.IsTuple t items) (hx : items[i]? = none)
    (hQ : ∀ h', Heap.ExtBut it s.heap h' → Q none { s with heap := h' }) : wpAny (model prog w) A (pyNext (.ref it)) Q E s := by
  obtain ⟨hh, o1, vs1, h1, d1, c1⟩ := hot
  obtain ⟨o, ho, hc, hd⟩ := id hit
  obtain ⟨ol, hol, _, nl, hdl⟩ := ht
  unfold pyNext
  refine wpAny_bind (wpAny_attempt (wpAny_callSpecial?_slot (name := Str.ofString "__next__") hit.typeIs F.slot_tuple_iterator_next
    (wpAny_call_entry F.slot_tuple_iterator_next hit.typeIs F.entry_tuple_iterator_next ?_ (F.args_tuple_iterator_next_1 _))))
  show wpAny _ _ (field (.ref it) 0 >>= _) _ _ s
  refine wpAny_bind (wpAny_field ho hd (x := .ref t) rfl ?_)
  show wpAny _ _ (if (Value.ref t == Value.none) = true then _ else _) _ _ s
  rw [if_neg (show ¬ ((Value.ref t == Value.none) = true) from Bool.false_ne_true)]
  show wpAny _ _ (field (.ref it) 1 >>= _) _ _ s
  refine wpAny_bind (wpAny_field ho hd (x := .int i 0) rfl ?_)
  show wpAny _ _ (seqItems? (.ref t) >>= _) _ _ s
  refine wpAny_bind (wpAny_seqItems hol hdl ?_)
  simp only [Int.toNat_natCast, hx]
  refine wpAny_bind (wpAny_rule (wpAny_bind (wpAny_setField ho hd (by simp) ?_)))
  exact stop_hot (x1 := x1) ⟨hh, o1, vs1, past ne h1, d1, c1⟩ fun h' k => hQ h' fun b o hb e => k b o (past hb e)
theorem list_end_hot {it t x1 : Addr} {i : Nat} {items : Array Value} {Q : Option Value → Shared → Prop} (hot : HotAt A x1 s.heap) (ne : x1 ≠ it)
    (hit : s.heap.IsListIter it t i) (ht : s.heap.IsList t items) (hx : items[i]? = none)
    (hQ : ∀ h', Heap.ExtBut it s.heap h' → Q none { s with heap := h' }) : wpAny (model prog w) A (pyNext (.ref it)) Q E s := by
  obtain ⟨hh, o1, vs1, h1, d1, c1⟩ := hot
  obtain ⟨o, ho, hc, hd⟩ := id hit
  obtain ⟨ol, hol, _, nl, hdl⟩ := ht
  unfold pyNext
  refine wpAny_bind (wpAny_attempt (wpAny_callSpecial?_slot (name := Str.ofString "__next__") hit.typeIs slot_listiter_next
    (wpAny_call_entry slot_listiter_next hit.typeIs entry_listiter_next ?_ (args_listiter_next _))))
  show wpAny _ _ (field (.ref it) 0 >>= _) _ _ s
  refine wpAny_bind (wpAny_field ho hd (x := .ref t) rfl ?_)
  show wpAny _ _ (if (Value.ref t == Value.none) = true then _ else _) _ _ s
  rw [if_neg (show ¬ ((Value.ref t == Value.none) = true) from Bool.false_ne_true)]
  show wpAny _ _ (field (.ref it) 1 >>= _) _ _ s
  refine wpAny_bind (wpAny_field ho hd (x := .int i 0) rfl ?_)
  show wpAny _ _ (seqItems? (.ref t) >>= _) _ _ s
  refine wpAny_bind (wpAny_seqItems hol hdl ?_)
  simp only [Int.toNat_natCast, hx]
  refine wpAny_bind (wpAny_rule (wpAny_bind (wpAny_setField ho hd (by simp) ?_)))
  exact stop_hot (x1 := x1) ⟨hh, o1, vs1, past ne h1, d1, c1⟩ fun h' k => hQ h' fun b o hb e => k b o (past hb e)
end
section
variable {prog : Program} {w : World} {A : Around} {E : Value → Shared → Prop} {s : Shared} {K : Type} [DecidableEq K] {knd : KeyKind prog w K}
theorem dict_end_hot {it d x1 : Addr} {i ep : Nat} {kvs : List (K × Value)} {Q : Option Value → Shared → Prop} (hot : HotAt A x1 s.heap) (ne : x1 ≠ it) (hit : s.heap.IsKeyIter it d i kvs.length ep)
    (hm : s.heap.DictAt knd d kvs ep) (hx : kvs[i]? = none)
    (hQ : ∀ h', Heap.ExtBut it s.heap h' → Q none { s with heap := h' }) : wpAny (model prog w) A (pyNext (.ref it)) Q E s := by
  obtain ⟨hh, o1, vs1, h1, d1, c1⟩ := hot
  obtain ⟨o, ho, hc, hd⟩ := id hit
  obtain ⟨od, es, hod, hcd, hdd, hk, hp, hn⟩ := id hm
  unfold pyNext
  refine wpAny_bind (wpAny_attempt (wpAny_callSpecial?_slot (name := Str.ofString "__next__") hit.typeIs F.slot_dict_keyiterator_next
    (wpAny_call_entry F.slot_dict_keyiterator_next hit.typeIs F.entry_dict_keyiterator_next ?_ (F.args_dict_keyiterator_next_1 _))))
  refine wpAny_bind (wpAny_pure (wpAny_bind (wpAny_bind ?_)))
  first
    | refine wpAny_bind (wpAny_typeNameOfWhole_keyiter hit.typeIs (wpAny_pure ?_))
    | refine wpAny_bind (wpAny_typeNameOf_keyiter hit.typeIs (wpAny_pure ?_))
  refine wpAny_bind (wpAny_fieldsOf ho hd ?_)
  have own : Builtin.Dict_items.ownsTuple "dict_keyiterator" = false := by decide
  simp only [own, Bool.false_eq_true, if_false]
  show wpAny _ _ (if (Value.ref d == Value.none) = true then _ else _) _ _ s
  rw [if_neg (show ¬ ((Value.ref d == Value.none) = true) from Bool.false_ne_true)]
  refine wpAny_bind (wpAny_pure (wpAny_bind (wpAny_dictEntries hod hdd ?_)))
  have many : es.size = kvs.length := by
    rw [← hp.length]
    simp
  rw [if_neg (by rw [many]; simp)]
  refine wpAny_bind (wpAny_pure (wpAny_bind (wpAny_dictEpoch hod hdd ?_)))
  rw [if_neg (by simp)]
  refine wpAny_pure ?_
  have over : es.size ≤ i := by
    rw [many]
    simpa using hx
  simp only [show ¬ ((i : Int) < 0) from by omega, if_false, Int.toNat_natCast, Array.getElem?_eq_none over]
  refine wpAny_bind ?_
  first
    | refine wpAny_bind (wpAny_typeNameOfWhole_keyiter hit.typeIs (wpAny_pure ?_))
    | refine wpAny_bind (wpAny_typeNameOf_keyiter hit.typeIs (wpAny_pure ?_))
  show wpAny _ _ (setField (.ref it) 0 .none >>= _) _ _ s
  refine wpAny_bind (wpAny_setField ho hd (by simp) ?_)
  exact stop_hot (x1 := x1) ⟨hh, o1, vs1, past ne h1, d1, c1⟩ fun h' k => hQ h' fun b o hb e => k b o (past hb e)
end
end K9S
end PySem

namespace K9
open PySem PySem.Spec PyProof.Rows L2 L2H HotX Evl
theorem hot_pin {X : Cx} {pins : List (Addr × Obj)} {σ : St} {H : Hp} {s : Shared} (c : HotC X) (I : Inv X pins σ H s) : ∃ p : Addr × Obj, p ∈ X.pn ∧ HotAt X.A p.1 s.heap := by
  obtain ⟨p, ⟨hh, vs, e1, c1⟩, hp⟩ := c
  exact ⟨p, hp, hh, p.2, vs, (I.pin p (List.mem_append_left _ hp)).1, e1, c1⟩
section
variable {P : Program} {w : World} {K : PySem.W.Frag} {tg : Expr}
theorem turnH_list (a it : Addr) : TurnH P w K tg (Itl K a) [it] it (fun i h => h.IsListIter it a i) where
  mem := by simp
  obj := (turn_list (P := P) (w := w) (K := K) (tg := tg) a it).obj
  keep := (turn_list (P := P) (w := w) (K := K) (tg := tg) a it).keep
  item := by
    intro X hP hw hK hc i pins s σ H E I hf st hg
    subst hP hw hK
    obtain ⟨xs, x, hq, hx⟩ := hg
    obtain ⟨its, rv, p, hz⟩ := I.list hq
    obtain ⟨u, hu, ru⟩ := rv.get hx
    obtain ⟨f0, f1, f2, f3, f4, f5⟩ := hf it (by simp)
    refine wpAny_pyNext_list_item st p.isList (x := u) (by simpa using hu) fun h' st' sb => ?_
    have J : Inv X pins σ H { s with heap := h' } := I.turned (t' := s.toks) (fun b o hb e => (sb.2 b hb).trans e) f0 f1 f3 f4 f5
    obtain ⟨o, e, c, d⟩ := id st'
    refine ⟨u, rfl, go_of (s := { s with heap := h' }) e c d (by decide) ⟨x, H, J, ru, ⟨rfl, fun ys hy => ?_⟩, st', fun b hb => (hf b hb).1⟩⟩
    rw [I.list_inj hy hq]
    exact hx
  done := by
    intro X hP hw hK hc i pins s σ H E I hf st hg
    subst hP hw hK
    obtain ⟨xs, hq, hx⟩ := hg
    obtain ⟨its, rv, p, hz⟩ := I.list hq
    obtain ⟨f0, f1, f2, f3, f4, f5⟩ := hf it (by simp)
    obtain ⟨q, hq2, hot⟩ := hot_pin hc I
    have hl := rv.length
    exact PySem.K9S.list_end_hot hot (f5 q (List.mem_append_left _ hq2)) st p.isList (by simp; omega) fun h' eb =>
      ⟨rfl, I.turned (t' := s.toks) (fun b o hb e => eb b o hb e) f0 f1 f3 f4 f5⟩
  self := (turn_list (P := P) (w := w) (K := K) (tg := tg) a it).self
theorem turnH_tuple (a it : Addr) : TurnH P w K tg (Itt K a) [it] it (fun i h => h.IsTupleIter it a i) where
  mem := by simp
  obj := (turn_tuple (P := P) (w := w) (K := K) (tg := tg) a it).obj
  keep := (turn_tuple (P := P) (w := w) (K := K) (tg := tg) a it).keep
  item := by
    intro X hP hw hK hc i pins s σ H E I hf st hg
    subst hP hw hK
    obtain ⟨xs, x, hq, hx⟩ := hg
    obtain ⟨its, rv, p, hz⟩ := I.tuple hq
    obtain ⟨u, hu, ru⟩ := rv.get hx
    obtain ⟨f0, f1, f2, f3, f4, f5⟩ := hf it (by simp)
    refine wpAny_pyNext_tuple_item st (show s.heap.IsTuple a its.toArray from p) (x := u) (by simpa using hu) fun h' st' sb => ?_
    have J : Inv X pins σ H { s with heap := h' } := I.turned (t' := s.toks) (fun b o hb e => (sb.2 b hb).trans e) f0 f1 f3 f4 f5
    obtain ⟨o, e, c, d⟩ := id st'
    refine ⟨u, rfl, go_of (s := { s with heap := h' }) e c d (by decide) ⟨x, H, J, ru, ⟨rfl, fun ys hy => ?_⟩, st', fun b hb => (hf b hb).1⟩⟩
    rw [I.tuple_inj hy hq]
    exact hx
  done := by
    intro X hP hw hK hc i pins s σ H E I hf st hg
    subst hP hw hK
    obtain ⟨xs, hq, hx⟩ := hg
    obtain ⟨its, rv, p, hz⟩ := I.tuple hq
    obtain ⟨f0, f1, f2, f3, f4, f5⟩ := hf it (by simp)
    obtain ⟨q, hq2, hot⟩ := hot_pin hc I
    have hl := rv.length
    exact PySem.K9S.tuple_end_hot hot (f5 q (List.mem_append_left _ hq2)) st (show s.heap.IsTuple a its.toArray from p) (by simp; omega) fun h' eb =>
      ⟨rfl, I.turned (t' := s.toks) (fun b o hb e => eb b o hb e) f0 f1 f3 f4 f5⟩
  self := (turn_tuple (P := P) (w := w) (K := K) (tg := tg) a it).self
theorem turnH_keys {d : Addr} {o : Obj} {es : Array DictEntry} {ep : Nat} {kvs : List (Key × V)} (it : Addr) (hod : o.data = .dict es ep) :
    TurnH P w K tg (Itk d o kvs) [it] it (fun i h => h.IsKeyIter it d i kvs.length ep) where
  mem := by simp
  obj := (turn_keys (P := P) (w := w) (K := K) (tg := tg) (d := d) (kvs := kvs) it hod).obj
  keep := (turn_keys (P := P) (w := w) (K := K) (tg := tg) (d := d) (kvs := kvs) it hod).keep
  item := by
    intro X hP hw hK hc i pins s σ H E I hf st hg
    subst hP hw hK
    obtain ⟨hd, hi⟩ := hg
    obtain ⟨f0, f1, f2, f3, f4, f5⟩ := hf it (by simp)
    obtain ⟨hs, hgd, hx, es', ep', vs, hdt, hsz, kv, hm⟩ := I.frzK hd
    obtain ⟨rfl, rfl⟩ := dict_ep hod hdt
    obtain ⟨⟨k, v⟩, hkv⟩ : ∃ p, kvs[i]? = some p := ⟨kvs[i], List.getElem?_eq_getElem hi⟩
    obtain ⟨u, hu, ru⟩ := kv_get kv hkv
    have hl : kvs.length = vs.length := Paired.length kv
    rw [hl] at st
    refine wpAny_pyNext_dict_item st hm hu fun key h' hkey st' sb => ?_
    have J : Inv X pins σ H { s with heap := h' } := I.turned (t' := s.toks) (fun b ob hb e => (sb.2 b hb).trans e) f0 f1 f3 f4 f5
    obtain ⟨oi, e, c, dd⟩ := id st'
    refine ⟨key, rfl, go_of (s := { s with heap := h' }) e c dd (by decide) ⟨kV k, H, J, relV_key (show keyIs k key = true from hkey), ⟨rfl, k, v, hkv, rfl⟩, ?_, fun b hb => (hf b hb).1⟩⟩
    show h'.IsKeyIter it d (i + 1) kvs.length _
    rw [hl]
    exact st'
  done := by
    intro X hP hw hK hc i pins s σ H E I hf st hg
    subst hP hw hK
    obtain ⟨hd, hi⟩ := hg
    obtain ⟨f0, f1, f2, f3, f4, f5⟩ := hf it (by simp)
    obtain ⟨hs, hgd, hx, es', ep', vs, hdt, hsz, kv, hm⟩ := I.frzK hd
    obtain ⟨rfl, rfl⟩ := dict_ep hod hdt
    obtain ⟨q, hq2, hot⟩ := hot_pin hc I
    have hl : kvs.length = vs.length := Paired.length kv
    rw [hl] at st hi
    exact PySem.K9S.dict_end_hot hot (f5 q (List.mem_append_left _ hq2)) st hm (List.getElem?_eq_none hi) fun h' eb =>
      ⟨rfl, I.turned (t' := s.toks) (fun b ob hb e => eb b ob hb e) f0 f1 f3 f4 f5⟩
  self := (turn_keys (P := P) (w := w) (K := K) (tg := tg) (d := d) (kvs := kvs) it hod).self
end
section
variable {X : Cx} {tg : Expr}
theorem pieH_one {pins : List (Addr × Obj)} {σ : St} {H : Hp} {s : Shared} {R : It → Hp → Prop} {J : It} {tn : Nat → Heap → Prop} {o : Obj} (I : Inv X pins σ H s)
    (T : TurnH X.prog X.w X.K tg J [s.heap.objs.size] s.heap.objs.size tn) (t0 : tn 0 (s.heap.push o)) (q : R J H) :
    PIEH X pins σ tg R (.ref s.heap.objs.size) { s with heap := s.heap.push o } := by
  refine ⟨s.heap.objs.size, [s.heap.objs.size], tn, J, H, rfl, I.kept (t' := s.toks) fun b u e => Heap.get?_push_of_some _ e, T, t0, fun b hb => ?_, q⟩
  have e : b = s.heap.objs.size := by simpa using hb
  subst e
  exact I.fpOk (Nat.le_refl _) (I.hok.fresh (Nat.le_refl _))
theorem piH_list {l : Expr} {tl : TE} (hl : PE X l tl) : PIH X tg l (iList X.K tl) := by
  refine ⟨fun pins s σ H R I h => ?_⟩
  refine thn (hl.run pins s σ H _ I h) fun v s1 ⟨x, H1, I1, r1, a, e, ⟨xs, hq⟩, q⟩ => ?_
  subst e
  cases r1
  obtain ⟨its, rv, p, hz⟩ := I1.list hq
  exact wpAny_pyIter_list p.isList (pieH_one I1 (turnH_list a _) ⟨_, Heap.get?_push_size _ rfl, rfl, rfl⟩ q)
theorem piH_tup {l : Expr} {tl : TE} (hl : PE X l tl) : PIH X tg l (iTup X.K tl) := by
  refine ⟨fun pins s σ H R I h => ?_⟩
  refine thn (hl.run pins s σ H _ I h) fun v s1 ⟨x, H1, I1, r1, a, e, ⟨xs, hq⟩, q⟩ => ?_
  subst e
  cases r1
  obtain ⟨its, rv, p, hz⟩ := I1.tuple hq
  exact wpAny_pyIter_tuple (show s1.heap.IsTuple a its.toArray from p) (pieH_one I1 (turnH_tuple a _) ⟨_, Heap.get?_push_size _ rfl, rfl, rfl⟩ q)
/-- the keys of a locked dict of keys that are ints or texts -/
def iKeyK (td : TE) : TI := fun σ H R => td σ H fun x H1 => ∃ d o, x = .ref d ∧ ∃ kvs, H1 d = some (.frz o (.dK kvs)) ∧ R (Itk d o kvs) H1
theorem pi_keyK {l : Expr} {td : TE} (hl : PE X l td) : PI X tg l (iKeyK td) := by
  refine ⟨fun pins s σ H R I h => ?_⟩
  refine thn (hl.run pins s σ H _ I h) fun u s1 ⟨x, H1, I1, rx, d, o, ex, kvs, hd, q⟩ => ?_
  subst ex
  obtain rfl : u = Value.ref d := rx
  obtain ⟨hs, hgd, hx, es, ep, vs, hdt, hsz, kv, hm⟩ := I1.frzK hd
  refine iter_keys hs hgd hx hdt (pi_one (tk := s1.toks) I1 _ (turn_keys _ hdt) ⟨_, Heap.get?_push_size _ rfl, rfl, ?_⟩ q)
  rw [hsz] <;> rfl
theorem piH_keyK {l : Expr} {td : TE} (hl : PE X l td) : PIH X tg l (iKeyK td) := by
  refine ⟨fun pins s σ H R I h => ?_⟩
  refine thn (hl.run pins s σ H _ I h) fun u s1 ⟨x, H1, I1, rx, d, o, ex, kvs, hd, q⟩ => ?_
  subst ex
  obtain rfl : u = Value.ref d := rx
  obtain ⟨hs, hgd, hx, es, ep, vs, hdt, hsz, kv, hm⟩ := I1.frzK hd
  refine iter_keys hs hgd hx hdt (pieH_one I1 (turnH_keys _ hdt) ⟨_, Heap.get?_push_size _ rfl, rfl, ?_⟩ q)
  rw [hsz] <;> rfl
end
/-! ### a list comprehension, in both moods -/
/-- the block's context: the pins stay -/
abbrev blkC (X : Cx) (s : Shared) (H : Hp) (scope : Scope) (ce : Env) (fp : List Addr) : Cx := { X.blk s H scope ce fp with pn := X.pn }
section
variable {X : Cx} {pins : List (Addr × Obj)} {σ σ' : St} {H H' : Hp} {s s' : Shared} {scope : Scope} {ce : Env} {fp : List Addr}
/-- the same state, with the pins of the def borne along -/
theorem blk_pins (I : Inv (X.blk s H scope ce fp) [] σ' H' s') (hp : ∀ p ∈ X.pn, s'.heap.get? p.1 = some p.2 ∧ H' p.1 = none ∧ p.1 ≠ ce.locals ∧ p.1 ∉ frs X.stack ∧ ∀ v, p.2.data ≠ .cell v) :
    Inv (blkC X s H scope ce fp) [] σ' H' s' :=
  ⟨⟨I.ok.mod, I.ok.kind, I.ok.glob, I.ok.blt, I.ok.above, I.ok.inj, I.ok.has, I.ok.cab, I.ok.hd, I.ok.frames, I.ok.stk, I.ok.exf, I.ok.bs, I.ok.bsz, I.ok.noex, I.ok.exfs, I.ok.funs, I.ok.frf⟩,
    I.os, I.bare, I.base, I.loc, I.cell, I.free, I.freeC, (fun p h => by
      rcases List.mem_append.mp h with h | h
      · exact hp p h
      · cases h), I.hok, I.len⟩
end
section
variable {X : Cx} {elt tg iter : Expr} {ifs : List Expr} {scope : Scope} {own : List (Str × Nat)} {pos : Pos} {wi : TI} {g : TG} {tt : TT} {te : TE}
theorem pe_lcH (hc : HotC X) (hN : X.N.Nodup) (hi : PIH X tg iter wi) (ok : BlkOk X.N X.env.scope scope own)
    (hg : ∀ (s : Shared) (H : Hp) (C : Addr) (cl : List (Str × Addr)) (fp : List Addr), PG (blkC X s H scope (compEnvC scope cl C X.env) fp) tg g)
    (ht : ∀ (s : Shared) (H : Hp) (C : Addr) (cl : List (Str × Addr)) (fp : List Addr), PTs (blkC X s H scope (compEnvC scope cl C X.env) fp) ifs tt)
    (he : ∀ (s : Shared) (H : Hp) (C : Addr) (cl : List (Str × Addr)) (fp : List Addr), PE (blkC X s H scope (compEnvC scope cl C X.env) fp) elt te)
    (hs : ∀ x, foldedSetIterable iter X.env x = pure x := by intro _; rfl) :
    PE X (.ListComp elt [⟨tg, iter, ifs, 0⟩] scope pos) (tLc wi g tt te (own.map (·.2))) := by
  refine ⟨fun pins s σ H Q I h => ?_⟩
  rw [eval_ListComp]
  have caps : ∀ y ∈ scope.names, y.2 = .free → ∃ c, X.env.cells.lookup y.1 = some c := fun y hy e => by
    rcases ok.free y hy e with k | k
    · exact I.ok.has _ (.inl k)
    · exact I.ok.has _ (.inr k)
  refine wpAny_comprehension_free (use := none) rfl hs (closure_ok caps) ok.kind (fun y hy e => by rw [ok.uniq y hy, e])
    (thn (hi.run pins s σ H _ I h) fun xv s1 hx => thn hx fun itv s2 h2 => ?_)
  obtain ⟨it, fp, tn, J, H2, e, I2, T, st2, f2, q⟩ := h2
  subst e
  refine wpAny_newObj_type (newEnv_comp ?_) (by show 0 ≤ sizeLine; decide)
  generalize hD : s2.heap.objs.size = D
  have freeD : H2 D = none := I2.hok.fresh (Nat.le_of_eq hD)
  obtain ⟨W, ⟨m0, w0⟩, turn⟩ := q D freeD
  generalize hs3 : ({ s2 with heap := s2.heap.push { cls := .type "list", data := .seq ([] : List Value).toArray } } : Shared) = s3
  have h3 : s3.heap = s2.heap.push { cls := .type "list", data := .seq ([] : List Value).toArray } := by rw [← hs3]
  have I3 : Inv X pins σ (upd H2 D (.lst [])) s3 := by
    rw [← hs3]
    refine I2.laid (t' := s2.toks) (fun b o e => Heap.get?_push_of_some _ e) (Nat.le_of_eq hD) ⟨Nat.zero_le _, [], 0, .nil, ?_⟩
    rw [← hD]
    exact Heap.get?_push_size _ rfl
  have below : ∀ b ∈ fp, b < s2.heap.objs.size := fun b hb => by
    obtain ⟨o, e, _⟩ := T.obj _ _ st2 b hb
    exact Heap.lt_size e
  have f3 : ∀ b ∈ fp, FpOk X pins (upd H2 D (.lst [])) b ∧ b < s3.heap.objs.size := fun b hb => by
    have lt := below b hb
    constructor
    · refine ⟨?_, (f2 b hb).2⟩
      rw [upd_ne (by rw [← hD]; exact Nat.ne_of_lt lt)]
      exact (f2 b hb).1
    · rw [h3, Heap.size_push]
      exact Nat.lt_succ_of_lt lt
  have st3 : tn 0 s3.heap := T.keep _ _ _ st2 fun b _ o e => by
    rw [h3]
    exact Heap.get?_push_of_some _ e
  have I4 := block_start I3 ok hN f3
  have pg := hg s3 (upd H2 D (.lst [])) s3.heap.objs.size (cellsFrom (s3.heap.objs.size + 1) scope.names (cloFrom X.env.cells scope.names [])) fp
  have pt := ht s3 (upd H2 D (.lst [])) s3.heap.objs.size (cellsFrom (s3.heap.objs.size + 1) scope.names (cloFrom X.env.cells scope.names [])) fp
  have pe := he s3 (upd H2 D (.lst [])) s3.heap.objs.size (cellsFrom (s3.heap.objs.size + 1) scope.names (cloFrom X.env.cells scope.names [])) fp
  show codeAny _ _ (.compStart (.ListComp elt [⟨tg, iter, ifs, 0⟩] scope pos) 0 (.ref it) (.ref D) (compEnvC scope (cellsFrom (s3.heap.objs.size + 1) scope.names (cloFrom X.env.cells scope.names [])) s3.heap.objs.size X.env)) _ { s3 with heap := pushCells (s3.heap.push { cls := .type "dict", data := .dict #[] }) scope.names }
  have nfp : ∀ b ∈ fp, (upd H2 D (.lst [])) b = none := fun b hb => (f3 b hb).1.1
  generalize hce : compEnvC scope (cellsFrom (s3.heap.objs.size + 1) scope.names (cloFrom X.env.cells scope.names [])) s3.heap.objs.size X.env = ce at I4 pg pt pe ⊢
  have cL : ce.locals = s3.heap.objs.size := by
    subst hce
    rfl
  have nfr : ∀ p ∈ X.pn, p.1 ≠ ce.locals ∧ p.1 ∉ frs X.stack := fun p hp => by
    have z := I3.pin p (List.mem_append_left _ hp)
    refine ⟨?_, fun hm => ?_⟩
    · rw [cL]
      exact Nat.ne_of_lt (Heap.lt_size z.1)
    · rcases List.mem_cons.mp (I3.stkSub p.1 hm) with y | y
      · exact z.2.2.1 y
      · exact z.2.2.2.1 y
  generalize hH3 : upd H2 D (.lst []) = H3 at I3 I4 pg pt pe w0 nfp f3
  generalize hs4 : ({ s3 with heap := pushCells (s3.heap.push { cls := .type "dict", data := .dict #[] }) scope.names } : Shared) = s4 at I4 ⊢
  have st4 : tn 0 s4.heap := T.keep _ _ _ st3 fun b _ o e => by
    rw [← hs4]
    exact pushCells_keeps _ _ _ _ (Heap.get?_push_of_some _ e)
  have J4 : Inv (blkC X s3 H3 scope ce fp) [] (wipe σ (own.map (·.2))) H3 s4 := by
    refine blk_pins I4 fun p hp => ?_
    have z := I3.pin p (List.mem_append_left _ hp)
    refine ⟨?_, z.2.1, (nfr p hp).1, (nfr p hp).2, z.2.2.2.2⟩
    rw [← hs4]
    exact pushCells_keeps _ _ _ _ (Heap.get?_push_of_some _ z.1)
  have hotB : HotC (blkC X s3 H3 scope ce fp) := hc
  have stat : ∀ {σ' : St} {H' : Hp} {s' : Shared}, Inv (blkC X s3 H3 scope ce fp) [] σ' H' s' → (∀ b ∈ fp, H' b = none) → ∀ b ∈ fp, FpOk (blkC X s3 H3 scope ce fp) [] H' b := fun {σ' H' s'} I' hn b hb =>
    ⟨hn b hb, (I'.ok.exf b hb).1, I'.ok.exfs b hb, .inl hb, fun x c e => (I'.ok.exf b hb).2 x c e, fun p hp => by
      rcases List.mem_append.mp hp with y | y
      · exact (f3 b hb).1.2.2.2.2.2 p (List.mem_append_left _ y)
      · cases y⟩
  have loop : codeAny (model X.prog X.w) X.A (.compLoop (.ListComp elt [⟨tg, iter, ifs, 0⟩] scope pos) 0 (.ref it) (.ref D) ce) (compPost (model X.prog X.w) X.A X.xe none (EP X pins σ Q) (.ref D) s3.heap.objs.size) s4 := by
    refine compLoop_any (fun n s' => ∃ i H', Inv (blkC X s3 H3 scope ce fp) [] (wipe σ (own.map (·.2))) H' s' ∧ tn i s'.heap ∧ (∀ b ∈ fp, H' b = none) ∧ W i n H') ?_ m0 ⟨0, H3, J4, st4, nfp, w0⟩
    rintro n s5 ⟨i, H5, I5, st5, n5, w5⟩
    rcases turn i n H5 w5 with ⟨stop, qq⟩ | ⟨go, Nx, hNx, step⟩
    · refine thnF (T.done (blkC X s3 H3 scope ce fp) rfl rfl rfl hotB i [] s5 _ H5 (fun _ _ => False) I5 (stat I5 n5) st5 stop) fun r s6 ⟨hr, I6⟩ => ?_
      subst hr
      have I7 : Inv X pins σ H5 s6 := I3.call' (ch := fp) I6.os I6.base I6.hok I6.bare fun b hb =>
        ⟨(f3 b hb).1.2.2.2.1, (f3 b hb).1.2.1, (f3 b hb).1.2.2.2.2.1, (f3 b hb).1.2.2.2.2.2⟩
      have nC : H5 s3.heap.objs.size = none := by
        have z : H5 ce.locals = none := I6.free
        rw [cL] at z
        exact z
      obtain ⟨m, hn, _⟩ := I6.loc
      have hn : s6.heap.Ns ce.locals m := hn
      rw [cL] at hn
      refine ⟨m, hn, fun h'' sb => ?_⟩
      obtain ⟨y0, y1, y2, y3, y4, y5⟩ := I3.fpOk (Nat.le_refl _) nC
      exact ⟨.ref D, H5, I7.turned (t' := s6.toks) (fun b o hb e => (sb.2 b hb).trans e) y0 y1 y3 y4 y5, rfl, qq⟩
    · refine thnF (T.item (blkC X s3 H3 scope ce fp) rfl rfl rfl hotB i [] s5 _ H5 (fun _ _ => False) I5 (stat I5 n5) st5 go) fun r s6 ⟨u, hr, h6⟩ => ?_
      subst hr
      refine thnF h6 fun _ s7 ⟨x, H7, I7, r7, y7, st7, n7⟩ => ?_
      have I7' := I7.pinned (stat I7 n7) (T.obj _ _ st7)
      refine thnF (pg.run _ s7 _ H7 x u _ I7' r7 (step x H7 y7)) fun _ s8 ⟨σ8, H8, I8, hw8, q8⟩ => ?_
      refine thnF (pt.run _ s8 σ8 H8 _ I8 q8) fun b s9 ⟨H9, I9, q9⟩ => ?_
      have next : ∀ {s' : Shared} {H' : Hp}, Inv (blkC X s3 H3 scope ce fp) ([] ++ pinsAt fp s7.heap) σ8 H' s' → Nx H' →
          ∃ m, m < n ∧ ∃ i H', Inv (blkC X s3 H3 scope ce fp) [] (wipe σ (own.map (·.2))) H' s' ∧ tn i s'.heap ∧ (∀ b ∈ fp, H' b = none) ∧ W i m H' := fun {s' H'} I' nx => by
        obtain ⟨m', hm, w'⟩ := hNx H' nx
        have still : ∀ b ∈ fp, ∀ o, s7.heap.get? b = some o → s'.heap.get? b = some o ∧ H' b = none := fun b hb o e =>
          let z := I'.pin (b, o) (List.mem_append_right _ (List.mem_append_right _ (mem_pinsAt hb e)))
          ⟨z.1, z.2.1⟩
        have hl : (wipe σ (own.map (·.2))).length = σ8.length := by rw [← hw8, wipe_length]
        refine ⟨m', hm, i + 1, H', (I'.unpinned (pins := [])).weak hl (fun j v e => ?_), T.keep _ _ _ st7 fun b hb o e => (still b hb o e).1, fun b hb => ?_, w'⟩
        · rw [← hw8] at e
          exact (wipe_some e).1
        · obtain ⟨o, e, _⟩ := T.obj _ _ st7 b hb
          exact (still b hb o e).2
      cases b with
      | false =>
        simp only [Bool.false_eq_true, if_false] at q9 ⊢
        exact next I9 q9
      | true =>
        simp only [if_true] at q9 ⊢
        refine thnF (pe.run _ s9 σ8 H9 _ I9 q9) fun z s10 ⟨yv, H10, I10, r10, acc, hD10, hz10, nx⟩ => ?_
        exact app_ok (X := blkC X s3 H3 scope ce fp) I10 hD10 hz10 r10 fun s11 I11 => next I11 nx
  exact codeAny_compStart_list loop (T.self X.A 0 _ _ _ st4 loop)
theorem pe_lcC (hc : Mood X) (hN : X.N.Nodup) (hi : X.calm = true → PI X tg iter wi) (hiH : HotC X → PIH X tg iter wi) (ok : BlkOk X.N X.env.scope scope own)
    (hg : ∀ (s : Shared) (H : Hp) (C : Addr) (cl : List (Str × Addr)) (fp : List Addr), PG (blkC X s H scope (compEnvC scope cl C X.env) fp) tg g)
    (ht : ∀ (s : Shared) (H : Hp) (C : Addr) (cl : List (Str × Addr)) (fp : List Addr), PTs (blkC X s H scope (compEnvC scope cl C X.env) fp) ifs tt)
    (he : ∀ (s : Shared) (H : Hp) (C : Addr) (cl : List (Str × Addr)) (fp : List Addr), PE (blkC X s H scope (compEnvC scope cl C X.env) fp) elt te)
    (hs : ∀ x, foldedSetIterable iter X.env x = pure x := by intro _; rfl) :
    PE X (.ListComp elt [⟨tg, iter, ifs, 0⟩] scope pos) (tLc wi g tt te (own.map (·.2))) := by
  rcases hc with ⟨hc, hp⟩ | hc
  · have e : ∀ (s : Shared) (H : Hp) (ce : Env) (fp : List Addr), blkC X s H scope ce fp = X.blk s H scope ce fp := fun s H ce fp => by
      unfold blkC
      rw [hp]
    refine pe_lc hc hN (hi hc) ok (fun s H C cl fp => ?_) (fun s H C cl fp => ?_) (fun s H C cl fp => ?_) hs
    · rw [← e]
      exact hg s H C cl fp
    · rw [← e]
      exact ht s H C cl fp
    · rw [← e]
      exact he s H C cl fp
  · exact pe_lcH hc hN (hiH hc) ok hg ht he hs
end
end K9

namespace PySem
namespace K9S
open PySem.Spec PyProof.Rows HotX
section
variable {prog : Program} {w : World} {A : Around} {E : Value → Shared → Prop} {s : Shared}
theorem unpack_hot {x1 t : Addr} {items : Array Value} {targets : List (Bool × (Value → Sem Unit))} {Q : Unit → Shared → Prop} (hot : HotAt A x1 s.heap) (ht : IsTup s.heap t items)
    (hn : targets.length = items.size) (star : targets.findIdx? (·.1) = none)
    (h : ∀ h', Heap.ExtBut s.heap.objs.size s.heap h' → wpAny (model prog w) A (assignInOrder (targets.map (·.2)) items.toList) Q E { s with heap := h' }) :
    wpAny (model prog w) A (unpack (.ref t) targets) Q E s := by
  obtain ⟨hh, o1, vs1, h1, d1, c1⟩ := hot
  have lt : t < s.heap.objs.size := by
    obtain ⟨o, ho, _⟩ := ht
    exact Heap.lt_size ho
  have ne := Nat.ne_of_lt lt
  have ne1 := Nat.ne_of_lt (Heap.lt_size h1)
  unfold unpack
  rw [hn, star]
  refine wpAny_bind (wpAny_holding ?_)
  unfold unpackItems
  refine wpAny_bind ?_
  unfold notIterableAtAll
  refine wpAny_bind (wpAny_specialOf ht.typeIs slot_tuple_iter.lookup (wpAny_pure ?_))
  simp only [Bool.false_eq_true, if_false]
  refine wpAny_bind (wpAny_holding (iter_tuple ht (wpAny_bind (wpAny_holding
    (draw_tuple ne items.size 0 _ _ ⟨_, Heap.get?_push_size _ rfl, rfl, rfl⟩ (ht.push _) (by omega) fun ha it1 sb1 => ?_)))))
  have all : List.take items.size (List.drop 0 items.toList) = items.toList := by
    rw [List.drop_zero]
    exact List.take_of_length_le (by simp)
  rw [all, if_neg (by simp)]
  have ht1 : IsTup ha t items := (ht.push _).extBut sb1.extBut ne
  have k1 : ha.get? x1 = some o1 := sb1.extBut x1 o1 ne1 (Heap.get?_push_of_some _ h1)
  refine wpAny_bind (wpAny_holding (tuple_end_hot (x1 := x1) (i := 0 + items.size) (items := items) ⟨hh, o1, vs1, k1, d1, c1⟩ ne1 it1 ht1 (by simp) fun hb eb => ?_))
  simp only [Option.isSome_none, Bool.false_eq_true, if_false]
  exact wpAny_pure (h hb fun b o hb' e => eb b o hb' (sb1.extBut b o hb' (Heap.get?_push_of_some _ e)))
theorem assign_tuple_hot {x1 : Addr} {env : Env} {elts : List Expr} {k} {pos : Pos} {t : Addr} {items : Array Value} {Q : Unit → Shared → Prop} (hot : HotAt A x1 s.heap) (ht : IsTup s.heap t items)
    (hn : (assignEach elts env).length = items.size) (star : (assignEach elts env).findIdx? (·.1) = none)
    (h : ∀ h', Heap.ExtBut s.heap.objs.size s.heap h' → wpAny (model prog w) A (assignInOrder ((assignEach elts env).map (·.2)) items.toList) Q E { s with heap := h' }) :
    wpAny (model prog w) A (assign (.Tuple elts k pos) env (.ref t)) Q E s := by
  rw [assign_Tuple]
  exact wpAny_bind (wpAny_standAt (unpack_hot hot ht hn star h))
end
end K9S
end PySem
namespace K9
open PySem PySem.Spec PyProof.Rows L2 L2H HotX Evl
section
variable {X : Cx} {pos : Pos}
/-- (a, b, ..) = a tuple of that length, in both moods -/
theorem pg_tupC {es : List Expr} {k : Nat} {t : TGs} {n : Nat} (hc : Mood X) (h : PGs X es t)
    (hn : (assignEach es X.env).length = n := by rfl) (hst : (assignEach es X.env).findIdx? (·.1) = none := by rfl) : PG X (.Tuple es k pos) (gTup X.K n t) := by
  rcases hc with ⟨hc, _⟩ | hc
  · exact pg_tup hc h hn hst
  · refine ⟨fun pins s σ H v u Q I r ⟨a, xs, e1, hq, hl, hw⟩ => ?_⟩
    subst e1
    cases r
    obtain ⟨its, rv, ht, hz⟩ := I.tuple hq
    obtain ⟨p, hp, hot⟩ := hot_pin hc I
    refine PySem.K9S.assign_tuple_hot hot ht (by simp [hn, ← hl, rv.length]) hst fun h' hx => ?_
    have J : Inv X pins σ H { s with heap := h' } := I.kept (t' := s.toks) fun b o e => hx b o (Nat.ne_of_lt (Heap.lt_size e)) e
    exact h.run pins _ σ H xs _ Q J (by simpa using rv) hw
/-! ### a list against the empty list -/
def rEq0 (K : PySem.W.Frag) : R2 := fun x y H Q => ∃ a b xs, x = .ref a ∧ y = .ref b ∧ SqL K H a xs ∧ SqL K H b [] ∧ Q (.bl xs.isEmpty) H
def rNe0 (K : PySem.W.Frag) : R2 := fun x y H Q => ∃ a b xs, x = .ref a ∧ y = .ref b ∧ SqL K H a xs ∧ SqL K H b [] ∧ Q (.bl (!xs.isEmpty)) H
theorem op_eq0 (hu : X.A.units + 64 < cLine) : OpR X (compareOp .Eq) (rEq0 X.K) := by
  intro pins s σ H x y v u Q I rx ry ⟨a, b, xs, ex, ey, ha, hb, q⟩
  subst ex ey
  obtain rfl : v = Value.ref a := rx
  obtain rfl : u = Value.ref b := ry
  obtain ⟨i1, r1, p1, z1⟩ := I.list ha
  obtain ⟨i2, r2, p2, z2⟩ := I.list hb
  have hu' : X.A.units < cLine := by omega
  cases r2
  cases r1 with
  | nil => exact SeqAt.RcAt.lists (e := fun _ => true) p1.isList p2.isList rfl hu' (fun j h1 => absurd h1 (by simp)) X.prog X.w _ _ ⟨.bl true, H, I, rfl, q⟩
  | cons r rr => exact SeqAt.RcAt.lists_lengths p1.isList p2.isList (by simp) hu' X.prog X.w _ _ ⟨.bl false, H, I, rfl, q⟩
theorem op_ne0 (hu : X.A.units + 64 < cLine) : OpR X (compareOp .NotEq) (rNe0 X.K) := by
  intro pins s σ H x y v u Q I rx ry ⟨a, b, xs, ex, ey, ha, hb, q⟩
  subst ex ey
  obtain rfl : v = Value.ref a := rx
  obtain rfl : u = Value.ref b := ry
  obtain ⟨i1, r1, p1, z1⟩ := I.list ha
  obtain ⟨i2, r2, p2, z2⟩ := I.list hb
  have hu' : X.A.units < cLine := by omega
  cases r2
  cases r1 with
  | nil => exact SeqAt.RcNeAt.lists (e := fun _ => true) p1.isList p2.isList rfl hu' (fun j h1 => absurd h1 (by simp)) X.prog X.w _ _ ⟨.bl false, H, I, rfl, q⟩
  | cons r rr => exact SeqAt.RcNeAt.lists_lengths p1.isList p2.isList (by simp) hu' X.prog X.w _ _ ⟨.bl true, H, I, rfl, q⟩
end
end K9

namespace K9
open PySem PySem.Spec PyProof.Rows L2 L2H HotX Evl
/-! ### errors as values -/
/-- at a stands an error of the class at C: tracked, or the one that is handled -/
def EAt (l : List (Addr × Obj)) (H : Hp) (a C : Addr) (d : Option Addr) : Prop :=
  H a = some (exo a C d) ∨ ∃ oe, (a, oe) ∈ l ∧ Zc (.ref C) d oe ∧ ∃ vs, oe.data = .fields vs
/-- at d stands a dict of these fields -/
def FAt (H : Hp) (d : Addr) (fs : List (Str × V)) : Prop := H d = some (exd d fs) ∨ H d = some (.xd fs)
/-- an error with its fields, none if it has no dict -/
def Err (l : List (Addr × Obj)) (H : Hp) (a C : Addr) : Option (List (Str × V)) → Prop
  | none => EAt l H a C none
  | some fs => ∃ d, EAt l H a C (some d) ∧ FAt H d fs
theorem FAt.ext {H H' : Hp} {d : Addr} {fs : List (Str × V)} (e : Ex H H') (h : FAt H d fs) : FAt H' d fs := by
  rcases h with h | h
  · exact .inl (e _ _ h)
  · exact .inr (e _ _ h)
theorem EAt.ext {l : List (Addr × Obj)} {H H' : Hp} {a C : Addr} {d : Option Addr} (e : Ex H H') (h : EAt l H a C d) : EAt l H' a C d := by
  rcases h with h | h
  · exact .inl (e _ _ h)
  · exact .inr h
theorem Err.ext {l : List (Addr × Obj)} {H H' : Hp} {a C : Addr} {o : Option (List (Str × V))} (e : Ex H H') (h : Err l H a C o) : Err l H' a C o := by
  cases o with
  | none => exact EAt.ext e h
  | some fs =>
    obtain ⟨d, h1, h2⟩ := h
    exact ⟨d, h1.ext e, h2.ext e⟩
/-- what the written part says of an error's class -/
structure ErrC (K : PySem.W.Frag) (C : Addr) : Prop where
  ox : OexC K C
  xf : XfC K C
  cl : (PySem.W.clsIn K C).isSome = true
  ha : PySem.W.findIn K (.ref C) "__class__" = some (some (.builtin "object.__class__"))
  hn : PySem.W.specialIn K (.builtin "object.__class__") "__get__" = some (some (.builtin "getset_descriptor.__get__"))
  ht : PySem.W.takesIn K (.builtin "object.__class__") = some true
  hm : PySem.W.mroIn K C (.type "object") = some true
section
variable {X : Cx} {pins : List (Addr × Obj)} {σ : St} {H : Hp} {s : Shared} {a C d : Addr} {fs : List (Str × V)}
theorem FAt.ns (I : Inv X pins σ H s) (h : FAt H d fs) : ∃ mA, s.heap.Ns1 d mA ∧ ∀ f, RelO (fs.lookup f) (mA f) := by
  rcases h with h | h
  · exact exd_at I.hok h
  · exact (show ObjOk X.prog X.w H s.heap d (.xd fs) from I.hok d _ h)
theorem EAt.obj {d : Option Addr} (I : Inv X pins σ H s) (h : EAt X.pn H a C d) : ∃ ox, s.heap.get? a = some ox ∧ ox.cls = .ref C ∧ ox.dict = d ∧ PySem.W.notCls ox = true := by
  rcases h with h | ⟨oe, hp, hz, vs, hd⟩
  · obtain ⟨t1, e⟩ := exo_at I.hok h
    exact ⟨_, e, rfl, rfl, rfl⟩
  · refine ⟨oe, (I.pin (a, oe) (List.mem_append_left _ hp)).1, hz.1, hz.2, ?_⟩
    unfold PySem.W.notCls
    rw [hd] <;> rfl
theorem Err.inst {o : Option (List (Str × V))} (I : Inv X pins σ H s) (h : Err X.pn H a C o) : ∃ ox od, PySem.W.InstAt s.heap a ox C od := by
  cases o with
  | none =>
    obtain ⟨ox, e, h1, h2, h3⟩ := EAt.obj I h
    refine ⟨ox, none, e, h1, h3, ?_⟩
    rw [h2]
    trivial
  | some fs =>
    obtain ⟨d, h, hf⟩ := h
    obtain ⟨ox, e, h1, h2, h3⟩ := EAt.obj I h
    obtain ⟨mA, hns, _⟩ := hf.ns I
    obtain ⟨od, ho, _⟩ := lookIn_ns hns
    refine ⟨ox, some od, e, h1, h3, ?_⟩
    rw [h2]
    exact ho
/-- e.f of an error -/
def tGetE (K : PySem.W.Frag) (l : List (Addr × Obj)) (f : Str) (te : TE) : TE := fun σ H Q => te σ H fun x H1 =>
  ∃ (a C : Addr) (fs : List (Str × V)) (v : V), x = .ref a ∧ Err l H1 a C (some fs) ∧ ErrC K C ∧ PySem.W.findIn K (.ref C) f = some none ∧ fs.lookup f = some v ∧ Q v H1
theorem pe_getE {e : Expr} {te : TE} {pos : Pos} {n : Str} (he : PE X e te) (hb : attributeBase e n X.env (eval e X.env) = eval e X.env := by rfl) :
    PE X (.Attribute e n pos) (tGetE X.K X.pn n te) := by
  refine ⟨fun pins s σ H Q I h => ?_⟩
  refine attr_of hb (thn (he.run pins s σ H _ I h) fun u s1 hh => ?_)
  obtain ⟨x, H1, I1, rx, a, C, fs, v, ex, ⟨d, h1, hf⟩, T, hno, l, q⟩ := hh
  subst ex
  obtain rfl : u = Value.ref a := rx
  obtain ⟨ox, e1, e2, e3, e4⟩ := EAt.obj I1 h1
  obtain ⟨mA, hns, hr⟩ := hf.ns I1
  obtain ⟨od, ho, hl⟩ := lookIn_ns hns
  obtain ⟨u, hu, ru⟩ := RelO.some_of (v := v) (o := mA n) (by
    rw [← l]
    exact hr n)
  have J : PySem.W.InstAt s1.heap a ox C (some od) := ⟨e1, e2, e4, by
    rw [e3]
    exact ho⟩
  exact HandSPX.exc_get I1.kIn J T.xf.ga T.xf.gg T.xf.exC (PySem.W.findObj_own T.xf.hdC hno rfl (by rw [hl, hu])) (handed_of ru) ⟨v, H1, I1.tok _, ru, q⟩
/-- isinstance(e, c) and isinstance(e, (c1, c2, ..)) of an error -/
def rIsE1 (K : PySem.W.Frag) (l : List (Addr × Obj)) : List V → Hp → VK → Prop := fun xs H Q =>
  ∃ (a C : Addr) (o : Option (List (Str × V))) (c : V) (u : Value) (b : Bool), xs = [.ref a, c] ∧ Err l H a C o ∧ ErrC K C ∧ ClsV c u ∧ PySem.W.kitOne K (.ref C) u = some b ∧ Q (.bl b) H
def rIsET (K : PySem.W.Frag) (l : List (Addr × Obj)) : List V → Hp → VK → Prop := fun xs H Q =>
  ∃ (a C tp : Addr) (o : Option (List (Str × V))) (cs : List V) (us : List Value) (b : Bool), xs = [.ref a, .ref tp] ∧ Err l H a C o ∧ ErrC K C ∧ H tp = some (.tup cs) ∧ Paired ClsV cs us ∧
    PySem.W.kitAny K (.ref C) us = some b ∧ Q (.bl b) H
theorem call_isE1 : CallR X (.builtin "isinstance") (rIsE1 X.K X.pn) := by
  intro pins s σ H xs us Q I r ⟨a, C, o, c, u, b, ex, he, T, k, e, q⟩
  subst ex
  obtain ⟨u1, u2, rfl, r1, r2⟩ := vals2 r
  cases (show u1 = Value.ref a from r1)
  have e2 := k.eq r2
  subst e2
  obtain ⟨ox, od, J⟩ := Err.inst I he
  exact PySem.W.kia_one (PySem.W.kitx_exc (gt := none) T.cl T.xf.ga T.xf.gg T.xf.exC T.ha T.hn T.ht T.hm) I.kIn J e (fun z => nomatch z) fun tk => ⟨.bl b, H, I.tok tk, rfl, q⟩
theorem call_isET : CallR X (.builtin "isinstance") (rIsET X.K X.pn) := by
  intro pins s σ H xs us Q I r ⟨a, C, tp, o, cs, ws, b, ex, he, T, hT, k, e, q⟩
  subst ex
  obtain ⟨u1, u2, rfl, r1, r2⟩ := vals2 r
  cases (show u1 = Value.ref a from r1)
  cases (show u2 = Value.ref tp from r2)
  obtain ⟨ox, od, J⟩ := Err.inst I he
  obtain ⟨_, its, rv, ob, h1, h2, n, h3⟩ := (show ObjOk X.prog X.w H s.heap tp (.tup cs) from I.hok tp _ hT)
  have e3 := ClsV.all k rv
  subst e3
  obtain ⟨oc, od2, dt, sl⟩ := ob
  simp only at h2 h3
  subst h2 h3
  exact PySem.W.kia_tup (PySem.W.kitx_exc (gt := none) T.cl T.xf.ga T.xf.gg T.xf.exC T.ha T.hn T.ht T.hm) I.kIn J h1 e (fun z => nomatch z) fun tk => ⟨.bl b, H, I.tok tk, rfl, q⟩
end
/-! ### C(.., k = v ..): an error made, not raised -/
/-- what __init__ asks and leaves: the error at a gets the fields fs, in a dict of its own -/
def spErr (C : Addr) (ns : List Str) : Sp := fun vs H Q _ => ∃ (a : Addr) (us : List V), vs = .ref a :: us ∧ us.length = ns.length ∧ H a = some (exo a C none) ∧
  ∀ (d : Addr) (H' : Hp), H d = none → (∀ b o, b ≠ a → H b = some o → H' b = some o) → H' a = some (exo a C (some d)) → H' d = some (exd d (ns.zip us).reverse) → Q .non H'
def tNewE (C : Addr) (n m : Nat) (ns : List Str) (gV : List V → List V → List V) (t tk : TA) : TE := fun σ H Q => t σ H fun vs H1 => tk σ H1 fun zs H2 => vs.length = n ∧ zs.length = m ∧
  ∃ us, (∀ x, gV (x :: vs) zs = x :: us) ∧ us.length = ns.length ∧ ∀ (a d : Addr) (H3 : Hp), H2 a = none → H2 d = none → Ex H2 H3 → H3 a = some (exo a C (some d)) → H3 d = some (exd d (ns.zip us).reverse) → Q (.ref a) H3
section
variable {X : Cx} {k n : Nat} {fI C : Addr} {fd : FuncData} {ps ks ns : List Str} {x : Str} {p pos : Pos} {e : Expr} {es : List Expr} {kws : List Keyword} {t tk : TA} {g : List Value → List Value → List Value} {gV : List V → List V → List V}
theorem run_newE {pins : List (Addr × Obj)} {σ : St} {H : Hp} {s : Shared} {Q : VK} {us ws : List Value} {vs zs : List V} (T : OexC X.K C) (iC : PySem.W.findIn X.K (.ref C) "__init__" = some (some (.ref fI))) (tI : PySem.W.typeIn X.K (.ref fI) = some (.type "function"))
    (F1 : FnOk X.prog X.w X.K X.mg X.base CX0 k fI fd ps (spErr C ns)) (hr : RoomH (k + 1) X.A) (hc : X.calm = true) (hn : n ≤ 1000) (hb : KBn X.K fd ps (n + 1) ks g gV)
    (I : Inv X pins σ H s) (r : Vals vs us) (rz : Vals zs ws) (l1 : vs.length = n) (l2 : zs.length = ks.length)
    (h : ∃ us, (∀ x, gV (x :: vs) zs = x :: us) ∧ us.length = ns.length ∧ ∀ (a d : Addr) (H3 : Hp), H a = none → H d = none → Ex H H3 → H3 a = some (exo a C (some d)) → H3 d = some (exd d (ns.zip us).reverse) → Q (.ref a) H3) :
    wpAny (model X.prog X.w) X.A (call (.ref C) us (ks.zip ws)) (EP X pins σ Q) X.xe s := by
  obtain ⟨nm, q, N, bs, bm, sn, sub, ab, col, dd, k0, k1, k2, k3, k5, hC, hbm⟩ := T.cls
  obtain ⟨zs2, hz, lz, hq⟩ := h
  have rm : Room (k + 1) X.A := ⟨I.ok.hd hc, hr.dp, hr.un⟩
  obtain ⟨hp, gg, dr, tk, os⟩ := s
  have new : H (hp.objs.size + 1) = none := I.hok.fresh (Nat.le_succ _)
  have keep : ∀ b o, hp.get? b = some o → ((hp.push (PySem.W.kdv_tup us)).push (PySem.HandSPX.excO C hp.objs.size)).get? b = some o := fun b o e => Heap.get?_push_of_some _ (Heap.get?_push_of_some _ e)
  have hget : ((hp.push (PySem.W.kdv_tup us)).push (PySem.HandSPX.excO C hp.objs.size)).get? (hp.objs.size + 1) = some (PySem.HandSPX.excO C hp.objs.size) := by heap_get
  have I2 : Inv X pins σ (upd H (hp.objs.size + 1) (exo (hp.objs.size + 1) C none)) ⟨(hp.push (PySem.W.kdv_tup us)).push (PySem.HandSPX.excO C hp.objs.size), gg, dr, tk, os⟩ :=
    I.laid (t' := tk) keep (Nat.le_succ _) (exo_ok hget)
  have r2 : Vals (V.ref (hp.objs.size + 1) :: zs2) (g (Value.ref (hp.objs.size + 1) :: us) ws) := by
    have y := hb.rel (vs := V.ref (hp.objs.size + 1) :: vs) (us := Value.ref (hp.objs.size + 1) :: us) (.cons rfl r) rz
    rw [hz] at y
    exact y
  have n1 : (Value.ref (hp.objs.size + 1) :: us).length = n + 1 := by rw [List.length_cons, ← r.length, l1]
  have room : us.length ≤ sizeLine := by
    rw [← r.length, l1, sizeLine_eq]
    omega
  have sp : spErr C ns (V.ref (hp.objs.size + 1) :: zs2) (upd H (hp.objs.size + 1) (exo (hp.objs.size + 1) C none)) (fun v H2 => v = .non ∧ Q (.ref (hp.objs.size + 1)) H2) E0 := by
    refine ⟨_, zs2, rfl, lz, upd_same, fun d H' hd k1 ha hd2 => ⟨rfl, hq _ d H' new ?_ (fun b o e => k1 b o ?_ ?_) ha hd2⟩⟩
    · by_cases z : d = hp.objs.size + 1
      · rw [z, upd_same] at hd
        cases hd
      · rw [upd_ne z] at hd
        exact hd
    · exact ne_of_none e new
    · rw [upd_ne (ne_of_none e new)]
      exact e
  refine wpAny_call (PySem.K9.call_kw PySem.F.excBase_ValueError (fun Y => PySem.HandSPX.refsVE_contains Y bm hbm) (I.kIn _ _ hC) (PySem.W.looks_findIn I.kIn iC) (fun self => PySem.W.bind_fn I.kIn self tI) room
    (codeAny_mono (F1.run _ X.stack _ _ ⟨Value.ref (hp.objs.size + 1) :: us, ks.zip ws⟩ _ _ _ E0 (rm.make C us (ks.zip ws)) (I2.env0.make C us (ks.zip ws)) (hb.to _ _ ws I2.kIn n1 (rz.length.symm.trans l2)) r2 sp) fun r s' hq' => ?_))
  cases r with
  | error e => exact False.elim hq'
  | ok fl =>
    cases fl with
    | ret u =>
      obtain ⟨v, H', I3, rv, ev, q3⟩ := I2.after hq'
      subst ev
      exact ⟨rv, V.ref (hp.objs.size + 1), H', I3, rfl, q3⟩
    | next => exact False.elim hq'
    | brk => exact False.elim hq'
    | cont => exact False.elim hq'
/-- C(k = v, ..) -/
theorem pe_newE0 (T : OexC X.K C) (iC : PySem.W.findIn X.K (.ref C) "__init__" = some (some (.ref fI))) (tI : PySem.W.typeIn X.K (.ref fI) = some (.type "function"))
    (F1 : FnOk X.prog X.w X.K X.mg X.base CX0 k fI fd ps (spErr C ns)) (hr : RoomH (k + 1) X.A) (hc : X.calm = true) (hg : Gl X x) (hm : X.mg x = some (.ref C)) (hb : KBn X.K fd ps 1 ks g gV) (hkw : PK X kws tk)
    (hall : (backToKw pos (keywordEach kws X.env)).all (·.1.isSome) = true := by rfl) (hks : (backToKw pos (keywordEach kws X.env)).filterMap (·.1) = ks := by rfl)
    (hdb : (x == ("__debug__" : Str)) = false := by decide)
    (hpl : ((backTo pos (starEach [] X.env)).any (·.1) || (backToKw pos (keywordEach kws X.env)).any (·.1.isNone)) = false := by rfl) :
    PE X (.Call (.Name x p) [] kws pos) (tNewE C 0 ks.length ns gV tNil tk) := by
  refine ⟨fun pins s σ H Q I h => ?_⟩
  refine wpAny_Call_Name_kw (ld_glob I hg hm ?_ hdb)
  refine PySem.W.callWith_KW0 (h₀ := X.base) I.ok.mod.kin T.kC hall ?_ hpl
  refine thn (hkw.run pos pins s σ H _ I h) fun ws s2 ⟨zs, H2, I2, rz, l1, l2, q2⟩ => ⟨I2.kIn, ?_⟩
  rw [hks]
  exact run_newE (us := []) (vs := []) T iC tI F1 hr hc (by omega) hb I2 .nil rz rfl l2 q2
/-- C(e, .., k = v, ..) -/
theorem pe_newEK (hn : n ≤ 1000) (T : OexC X.K C) (iC : PySem.W.findIn X.K (.ref C) "__init__" = some (some (.ref fI))) (tI : PySem.W.typeIn X.K (.ref fI) = some (.type "function"))
    (F1 : FnOk X.prog X.w X.K X.mg X.base CX0 k fI fd ps (spErr C ns)) (hr : RoomH (k + 1) X.A) (hc : X.calm = true) (hg : Gl X x) (hm : X.mg x = some (.ref C)) (hb : KBn X.K fd ps (n + 1) ks g gV) (ha : PA X (e :: es) t) (hkw : PK X kws tk)
    (hall : (backToKw pos (keywordEach kws X.env)).all (·.1.isSome) = true := by rfl) (hks : (backToKw pos (keywordEach kws X.env)).filterMap (·.1) = ks := by rfl)
    (hdb : (x == ("__debug__" : Str)) = false := by decide) (he : starEach (e :: es) X.env = (false, eval e X.env) :: starEach es X.env := by rfl)
    (hpl : ((backTo pos (starEach (e :: es) X.env)).any (·.1) || (backToKw pos (keywordEach kws X.env)).any (·.1.isNone)) = false := by rfl) :
    PE X (.Call (.Name x p) (e :: es) kws pos) (tNewE C n ks.length ns gV t tk) := by
  refine ⟨fun pins s σ H Q I h => ?_⟩
  refine wpAny_Call_Name_kw (ld_glob I hg hm ?_ hdb)
  refine PySem.W.callWith_KW (h₀ := X.base) I.ok.mod.kin T.kC hall (thn (ha.run pos pins s σ H _ I h) fun us s1 ⟨vs, H1, I1, r, q⟩ => ?_) hpl he
  refine thn (hkw.run pos pins s1 σ H1 _ I1 q) fun ws s2 ⟨zs, H2, I2, rz, l1, l2, q2⟩ => ⟨I2.kIn, ?_⟩
  rw [hks]
  exact run_newE T iC tI F1 hr hc hn hb I2 r rz l1 l2 q2
/-- C(), C a class over ValueError without an own __init__ -/
def tNewX (C : Addr) : TE := fun _ H Q => ∀ (a : Addr) (H1 : Hp), H a = none → Ex H H1 → H1 a = some (exo a C none) → Q (.ref a) H1
theorem pe_newX {bmB : List Value} {B newId initId : String} (F : ExcBaseFacts B newId initId bmB) (q : PySem.W.excIn X.K C bmB newId = true) (gC : X.mg x = some (.ref C)) (kC : PySem.W.keepIn X.K (.ref C) = true) (hg : Gl X x)
    (hdb : (x == ("__debug__" : Str)) = false := by decide) : PE X (.Call (.Name x p) [] [] pos) (tNewX C) := by
  refine ⟨fun pins s σ H Q I h => ?_⟩
  refine wpAny_Call_Name_kw (ld_glob I hg gC ?_ hdb)
  refine PySem.W.callWith_K0 I.kIn kC ?_
  show wpAny _ _ (call (.ref C) []) _ _ _
  obtain ⟨bm, N, nm, qn, bs, hdct, sn, sub, ab, col, dd, k0, k1, k2, k3, k5, mN, hC, hN, hni, T⟩ := exc_obj I.kIn q
  refine wpAny_call_exc_subT F T hC hN hni (fun h' a hm => ?_) (Nat.zero_le _)
  have hn : H a = none := I.hok.gone hm.new
  obtain ⟨t, ht, _, _⟩ := hm.there
  exact ⟨.ref a, upd H a (exo a C none), I.laidN hm.keeps hm.new hn (exo_ok ht), rfl, h a _ hn (Ex.new hn) upd_same⟩
end
end K9

namespace K9
open PySem PySem.Spec PyProof.Rows L2 L2H HotX Evl
/-! ### raise C(.., k = v ..) where nothing is handled -/
def tMkE (C : Addr) (n m : Nat) (ns : List Str) (gV : List V → List V → List V) (t tk : TA) : St → Hp → XK → Prop := fun σ H Q => t σ H fun vs H1 => tk σ H1 fun zs H2 => vs.length = n ∧ zs.length = m ∧
  ∃ us, (∀ x, gV (x :: vs) zs = x :: us) ∧ us.length = ns.length ∧ ∀ (d : Addr) (H3 : Hp), H2 d = none → Ex H2 H3 → H3 d = some (.xd (ns.zip us).reverse) → Q (.ref C) (some d) H3
section
variable {X : Cx} {k n : Nat} {fI C : Addr} {fd : FuncData} {ps ks ns : List Str} {x : Str} {p pos : Pos} {e : Expr} {es : List Expr} {kws : List Keyword} {t tk : TA} {g : List Value → List Value → List Value} {gV : List V → List V → List V}
theorem run_mkE {pins : List (Addr × Obj)} {σ : St} {H : Hp} {s : Shared} {Q : XK} {us ws : List Value} {vs zs : List V} (T : OexC X.K C) (iC : PySem.W.findIn X.K (.ref C) "__init__" = some (some (.ref fI))) (tI : PySem.W.typeIn X.K (.ref fI) = some (.type "function"))
    (F1 : FnOk X.prog X.w X.K X.mg X.base CX0 k fI fd ps (spErr C ns)) (hr : RoomH (k + 1) X.A) (hc : X.calm = true) (hn : n ≤ 1000) (hb : KBn X.K fd ps (n + 1) ks g gV)
    (I : Inv X pins σ H s) (r : Vals vs us) (rz : Vals zs ws) (l1 : vs.length = n) (l2 : zs.length = ks.length)
    (h : ∃ us, (∀ x, gV (x :: vs) zs = x :: us) ∧ us.length = ns.length ∧ ∀ (d : Addr) (H3 : Hp), H d = none → Ex H H3 → H3 d = some (.xd (ns.zip us).reverse) → Q (.ref C) (some d) H3) :
    wpAny (model X.prog X.w) X.A (call (.ref C) us (ks.zip ws)) (L2N.MkP X pins σ Q) X.xe s := by
  obtain ⟨nm, q, N, bs, bm, sn, sub, ab, col, dd, k0, k1, k2, k3, k5, hC, hbm⟩ := T.cls
  obtain ⟨zs2, hz, lz, hq⟩ := h
  have rm : Room (k + 1) X.A := ⟨I.ok.hd hc, hr.dp, hr.un⟩
  obtain ⟨hp, gg, dr, tk, os⟩ := s
  have new : H (hp.objs.size + 1) = none := I.hok.fresh (Nat.le_succ _)
  have keep : ∀ b o, hp.get? b = some o → ((hp.push (PySem.W.kdv_tup us)).push (PySem.HandSPX.excO C hp.objs.size)).get? b = some o := fun b o e => Heap.get?_push_of_some _ (Heap.get?_push_of_some _ e)
  have hget : ((hp.push (PySem.W.kdv_tup us)).push (PySem.HandSPX.excO C hp.objs.size)).get? (hp.objs.size + 1) = some (PySem.HandSPX.excO C hp.objs.size) := by heap_get
  have I2 : Inv X pins σ (upd H (hp.objs.size + 1) (exo (hp.objs.size + 1) C none)) ⟨(hp.push (PySem.W.kdv_tup us)).push (PySem.HandSPX.excO C hp.objs.size), gg, dr, tk, os⟩ :=
    I.laid (t' := tk) keep (Nat.le_succ _) (exo_ok hget)
  have r2 : Vals (V.ref (hp.objs.size + 1) :: zs2) (g (Value.ref (hp.objs.size + 1) :: us) ws) := by
    have y := hb.rel (vs := V.ref (hp.objs.size + 1) :: vs) (us := Value.ref (hp.objs.size + 1) :: us) (.cons rfl r) rz
    rw [hz] at y
    exact y
  have n1 : (Value.ref (hp.objs.size + 1) :: us).length = n + 1 := by rw [List.length_cons, ← r.length, l1]
  have room : us.length ≤ sizeLine := by
    rw [← r.length, l1, sizeLine_eq]
    omega
  have sp : spErr C ns (V.ref (hp.objs.size + 1) :: zs2) (upd H (hp.objs.size + 1) (exo (hp.objs.size + 1) C none))
      (fun v H2 => v = .non ∧ ∃ (d : Addr), H2 (hp.objs.size + 1) = some (exo (hp.objs.size + 1) C (some d)) ∧ H2 d = some (exd d (ns.zip zs2).reverse) ∧ H d = none ∧ Q (.ref C) (some d) (upd (del H2 (hp.objs.size + 1)) d (.xd (ns.zip zs2).reverse))) E0 := by
    refine ⟨_, zs2, rfl, lz, upd_same, fun d H' hd k1 ha hd2 => ?_⟩
    have nd : d ≠ hp.objs.size + 1 := fun z => by
      rw [z, upd_same] at hd
      cases hd
    have hd0 : H d = none := by
      rw [upd_ne nd] at hd
      exact hd
    refine ⟨rfl, d, ha, hd2, hd0, hq d _ hd0 (fun b o e => ?_) upd_same⟩
    have nb : b ≠ hp.objs.size + 1 := ne_of_none e new
    rw [upd_ne (ne_of_none e hd0), del_ne nb]
    refine k1 b o nb ?_
    rw [upd_ne nb]
    exact e
  refine wpAny_call (PySem.K9.call_kw PySem.F.excBase_ValueError (fun Y => PySem.HandSPX.refsVE_contains Y bm hbm) (I.kIn _ _ hC) (PySem.W.looks_findIn I.kIn iC) (fun self => PySem.W.bind_fn I.kIn self tI) room
    (codeAny_mono (F1.run _ X.stack _ _ ⟨Value.ref (hp.objs.size + 1) :: us, ks.zip ws⟩ _ _ _ E0 (rm.make C us (ks.zip ws)) (I2.env0.make C us (ks.zip ws)) (hb.to _ _ ws I2.kIn n1 (rz.length.symm.trans l2)) r2 sp) fun r s' hq' => ?_))
  cases r with
  | error e => exact False.elim hq'
  | ok fl =>
    cases fl with
    | ret u =>
      obtain ⟨v, H2, os2, bare2, un2, hok2, rv, ev, d, ea, ed, hd1, q2⟩ := hq'
      subst ev
      obtain ⟨h2, g2, d2, t2, os'⟩ := s'
      obtain ⟨t0, G, J, kG, ge, hoe, na⟩ := mk_end0 (d2 := d2) (t2 := t2) I (Nat.le_succ _) keep un2 hok2 os2 bare2 ea ed hd1
      exact ⟨rv, hp.objs.size + 1, _, _, ⟨G, g2, d2, t2, os'⟩, _, .ref C, some d, rfl, J, kG, ge, hoe, ⟨rfl, rfl, fun vs e => by cases e; rfl⟩, rfl, rfl, na, rfl, bare2, raises_own T.exC T.tyC, q2⟩
    | next => exact False.elim hq'
    | brk => exact False.elim hq'
    | cont => exact False.elim hq'
theorem pmk_E0 (T : OexC X.K C) (iC : PySem.W.findIn X.K (.ref C) "__init__" = some (some (.ref fI))) (tI : PySem.W.typeIn X.K (.ref fI) = some (.type "function"))
    (F1 : FnOk X.prog X.w X.K X.mg X.base CX0 k fI fd ps (spErr C ns)) (hr : RoomH (k + 1) X.A) (hc : X.calm = true) (hg : Gl X x) (hm : X.mg x = some (.ref C)) (hb : KBn X.K fd ps 1 ks g gV) (hkw : PK X kws tk)
    (hall : (backToKw pos (keywordEach kws X.env)).all (·.1.isSome) = true := by rfl) (hks : (backToKw pos (keywordEach kws X.env)).filterMap (·.1) = ks := by rfl)
    (hdb : (x == ("__debug__" : Str)) = false := by decide)
    (hpl : ((backTo pos (starEach [] X.env)).any (·.1) || (backToKw pos (keywordEach kws X.env)).any (·.1.isNone)) = false := by rfl) :
    L2N.PMk X (.Call (.Name x p) [] kws pos) (tMkE C 0 ks.length ns gV tNil tk) := by
  intro pins s σ H Q I h
  refine wpAny_Call_Name_kw (ld_glob I hg hm ?_ hdb)
  refine PySem.W.callWith_KW0 (h₀ := X.base) I.ok.mod.kin T.kC hall ?_ hpl
  refine thn (hkw.run pos pins s σ H _ I h) fun ws s2 ⟨zs, H2, I2, rz, l1, l2, q2⟩ => ⟨I2.kIn, ?_⟩
  rw [hks]
  exact run_mkE (us := []) (vs := []) T iC tI F1 hr hc (by omega) hb I2 .nil rz rfl l2 q2
theorem pmk_EK (hn : n ≤ 1000) (T : OexC X.K C) (iC : PySem.W.findIn X.K (.ref C) "__init__" = some (some (.ref fI))) (tI : PySem.W.typeIn X.K (.ref fI) = some (.type "function"))
    (F1 : FnOk X.prog X.w X.K X.mg X.base CX0 k fI fd ps (spErr C ns)) (hr : RoomH (k + 1) X.A) (hc : X.calm = true) (hg : Gl X x) (hm : X.mg x = some (.ref C)) (hb : KBn X.K fd ps (n + 1) ks g gV) (ha : PA X (e :: es) t) (hkw : PK X kws tk)
    (hall : (backToKw pos (keywordEach kws X.env)).all (·.1.isSome) = true := by rfl) (hks : (backToKw pos (keywordEach kws X.env)).filterMap (·.1) = ks := by rfl)
    (hdb : (x == ("__debug__" : Str)) = false := by decide) (he : starEach (e :: es) X.env = (false, eval e X.env) :: starEach es X.env := by rfl)
    (hpl : ((backTo pos (starEach (e :: es) X.env)).any (·.1) || (backToKw pos (keywordEach kws X.env)).any (·.1.isNone)) = false := by rfl) :
    L2N.PMk X (.Call (.Name x p) (e :: es) kws pos) (tMkE C n ks.length ns gV t tk) := by
  intro pins s σ H Q I h
  refine wpAny_Call_Name_kw (ld_glob I hg hm ?_ hdb)
  refine PySem.W.callWith_KW (h₀ := X.base) I.ok.mod.kin T.kC hall (thn (ha.run pos pins s σ H _ I h) fun us s1 ⟨vs, H1, I1, r, q⟩ => ?_) hpl he
  refine thn (hkw.run pos pins s1 σ H1 _ I1 q) fun ws s2 ⟨zs, H2, I2, rz, l1, l2, q2⟩ => ⟨I2.kIn, ?_⟩
  rw [hks]
  exact run_mkE T iC tI F1 hr hc hn hb I2 r rz l1 l2 q2
theorem pmk_X {bmB : List Value} {B newId initId : String} (F : ExcBaseFacts B newId initId bmB) (q : PySem.W.excIn X.K C bmB newId = true) (gC : X.mg x = some (.ref C)) (kC : PySem.W.keepIn X.K (.ref C) = true) (r : Raises X (.ref C)) (hg : Gl X x)
    (hdb : (x == ("__debug__" : Str)) = false := by decide) : L2N.PMk X (.Call (.Name x p) [] [] pos) (fun _ H Q => Q (.ref C) none H) := by
  intro pins s σ H Q I h
  refine wpAny_Call_Name_kw (ld_glob I hg gC ?_ hdb)
  refine PySem.W.callWith_K0 I.kIn kC ?_
  show wpAny _ _ (call (.ref C) []) _ _ _
  obtain ⟨bm, N, nm, qn, bs, hdct, sn, sub, ab, col, dd, k0, k1, k2, k3, k5, mN, hC, hN, hni, T⟩ := exc_obj I.kIn q
  refine wpAny_call_exc_subT F T hC hN hni (fun h' a hm => ?_) (Nat.zero_le _)
  exact L2N.mk_of I hm r h (I.hok.gone hm.new)
end
/-- the suite of a caught error: its mood, the pin that its callees see -/
theorem suite_hot {X : Cx} {a : Addr} {oe : Obj} {cls : Value} {d : Option Addr} {pn : List (Addr × Obj)} (hz : L2N.Zn cls d oe) (hf : ∃ vs, oe.data = .fields vs) : HotC (X.suite a ((a, oe) :: pn)) := by
  obtain ⟨vs, hd⟩ := hf
  exact ⟨(a, oe), ⟨rfl, vs, hd, hz.2.2 vs hd⟩, List.mem_cons_self⟩
theorem suite_call {X : Cx} {a : Addr} {oe : Obj} {cls : Value} {d : Option Addr} {pn : List (Addr × Obj)} (hz : L2N.Zn cls d oe) (hf : ∃ vs, oe.data = .fields vs) : CallC (X.suite a ((a, oe) :: pn)) (some (a, oe)) := by
  obtain ⟨vs, hd⟩ := hf
  exact .inr ⟨(a, oe), rfl, ⟨rfl, vs, hd, hz.2.2 vs hd⟩, List.mem_cons_self⟩
end K9

namespace K9
open PySem PySem.Spec PyProof.Rows L2 L2H HotX Evl
/-! ### a def that stands in the module and keeps its promise, in both moods -/
def Ok (P : Program) (w : World) (K : PySem.W.Frag) (mg : Str → Option Value) (base : Heap) (k : Nat) (x : Str) (ps : List Str) (sp : Pin → Sp) : Prop :=
  ∃ f fd, FnB P w K mg base k f fd ps sp ∧ mg x = some (.ref f) ∧ PySem.W.keepIn K (.ref f) = true ∧ Binds K fd ps []
theorem Ok.mono {P : Program} {w : World} {K : PySem.W.Frag} {mg : Str → Option Value} {base : Heap} {j k : Nat} {x : Str} {ps : List Str} {sp : Pin → Sp} (o : Ok P w K mg base j x ps sp) (h : j ≤ k) :
    Ok P w K mg base k x ps sp := by
  obtain ⟨f, fd, F, r⟩ := o
  exact ⟨f, fd, F.mono h, r⟩
theorem ok_of {P : Program} {w : World} {K : PySem.W.Frag} {mg : Str → Option Value} {base : Heap} {k : Nat} {x : Str} {params : Arguments} {body : List Stmt} {scope : Scope} {f : Addr} {fd : FuncData} {N ps : List Str} {sp : Pin → Sp}
    (F : FunD K x x params body scope [] [] f fd) (hm : mg x = some (.ref f)) (S : FnScope N ps scope)
    (hb : ∀ (kV doc pm : Value) (an : Option Addr) (cdv ct : Value) (us : List Value), us.length = ps.length → bindArgs (PySem.W.fnOf x x params body scope .none kV doc pm an cdv ct) ⟨us, []⟩ = pure (ps.zip us))
    (len : ∀ p vs H Q E, sp p vs H Q E → vs.length = ps.length)
    (hbody : ∀ (cdv : Value) (A : Around) (outer : List Env) (s : Shared) (H : Hp) (vs : List V) (Q : VK) (E : XK) (p : Pin) (c : Bool),
      Mood (cxB P w K mg base N x scope f cdv A outer s H E c p.toList) → CallC (cxB P w K mg base N x scope f cdv A outer s H E c p.toList) p →
      RoomH k (A.deeper (envOfC x scope s.heap.objs.size f cdv)) → sp p vs H Q E →
      ∃ t, PSs (cxB P w K mg base N x scope f cdv A outer s H E c p.toList) body t ∧ t { nx := fun _ H' => Q .non H', rt := Q } (start N vs) H) :
    Ok P w K mg base (k + 1) x ps sp := by
  have bn := F.bindsN (ps := ps) hb
  obtain ⟨oc, od, dV, kV, doc, pm, an, cdv, ct, osl, rfl, lk, hcd, _, _⟩ := F.ex
  exact ⟨f, _, fnB_of lk hcd S len (fun A outer s H vs Q E p c hc hp hr hsp => hbody cdv A outer s H vs Q E p c hc hp hr hsp), hm, F.kp, bn⟩
/-- the call of such a def -/
theorem pe_callO {X : Cx} {k : Nat} {x : Str} {ps : List Str} {sp : Pin → Sp} {p : Pin} {q pos : Pos} {e : Expr} {es : List Expr} {t : TA} (o : Ok X.prog X.w X.K X.mg X.base k x ps sp) (hr : RoomH k X.A) (hc : CallC X p)
    (hg : Gl X x) (ha : PA X (e :: es) t) (hdb : (x == ("__debug__" : Str)) = false := by decide)
    (he : starEach (e :: es) X.env = (false, eval e X.env) :: starEach es X.env := by rfl) (hpl : (backTo pos (starEach es X.env)).any (·.1) = false := by rfl) :
    PE X (.Call (.Name x q) (e :: es) [] pos) (tCallB (sp p) t) := by
  obtain ⟨f, fd, F, hm, hk, hb⟩ := o
  exact pe_callC F hr hc hg hm hk hb ha hdb he hpl
end K9
namespace K9
open PySem PySem.Spec PyProof.Rows L2 L2H HotX Evl
/-! ### a def that is called where nothing is handled -/
def OkC (P : Program) (w : World) (K : PySem.W.Frag) (mg : Str → Option Value) (base : Heap) (k : Nat) (x : Str) (ps : List Str) (sp : Sp) : Prop :=
  ∃ f fd, FnOk P w K mg base CX0 k f fd ps sp ∧ mg x = some (.ref f) ∧ PySem.W.keepIn K (.ref f) = true ∧ Binds K fd ps []
theorem OkC.mono {P : Program} {w : World} {K : PySem.W.Frag} {mg : Str → Option Value} {base : Heap} {j k : Nat} {x : Str} {ps : List Str} {sp : Sp} (o : OkC P w K mg base j x ps sp) (h : j ≤ k) :
    OkC P w K mg base k x ps sp := by
  obtain ⟨f, fd, F, r⟩ := o
  exact ⟨f, fd, F.mono h, r⟩
theorem Ok.cold {P : Program} {w : World} {K : PySem.W.Frag} {mg : Str → Option Value} {base : Heap} {k : Nat} {x : Str} {ps : List Str} {sp : Pin → Sp} (o : Ok P w K mg base k x ps sp) : OkC P w K mg base k x ps (sp none) := by
  obtain ⟨f, fd, F, r⟩ := o
  exact ⟨f, fd, F.cold, r⟩
theorem okC_of {P : Program} {w : World} {K : PySem.W.Frag} {mg : Str → Option Value} {base : Heap} {k : Nat} {x : Str} {params : Arguments} {body : List Stmt} {scope : Scope} {f : Addr} {fd : FuncData} {N ps : List Str} {sp : Sp}
    (F : FunD K x x params body scope [] [] f fd) (hm : mg x = some (.ref f)) (S : FnScope N ps scope)
    (hb : ∀ (kV doc pm : Value) (an : Option Addr) (cdv ct : Value) (us : List Value), us.length = ps.length → bindArgs (PySem.W.fnOf x x params body scope .none kV doc pm an cdv ct) ⟨us, []⟩ = pure (ps.zip us))
    (len : ∀ vs H Q E, sp vs H Q E → vs.length = ps.length)
    (hbody : ∀ (cdv : Value) (A : Around) (outer : List Env) (s : Shared) (H : Hp) (vs : List V) (Q : VK) (E : XK), Room k (A.deeper (envOfC x scope s.heap.objs.size f cdv)) → sp vs H Q E →
      ∃ t, PSs (cxOf CX0 P w K mg base N x scope f cdv A outer s H E) body t ∧ t { nx := fun _ H' => Q .non H', rt := Q } (start N vs) H) :
    OkC P w K mg base (k + 1) x ps sp := by
  refine ⟨f, fd, F.ok S len fun cdv A outer s H vs Q E hr h => ?_, hm, F.kp, F.bindsN (ps := ps) hb⟩
  exact hbody cdv A outer s H vs Q E hr h
theorem pe_callK0 {X : Cx} {k : Nat} {x : Str} {ps : List Str} {sp : Sp} {q pos : Pos} {e : Expr} {es : List Expr} {t : TA} (o : OkC X.prog X.w X.K X.mg X.base k x ps sp) (hr : Room k X.A)
    (hg : Gl X x) (ha : PA X (e :: es) t) (hdb : (x == ("__debug__" : Str)) = false := by decide)
    (he : starEach (e :: es) X.env = (false, eval e X.env) :: starEach es X.env := by rfl) (hpl : (backTo pos (starEach es X.env)).any (·.1) = false := by rfl) :
    PE X (.Call (.Name x q) (e :: es) [] pos) (tCallB sp t) := by
  obtain ⟨f, fd, F, hm, hk, hb⟩ := o
  have e2 : tCallB sp t = tCall sp [] E0 t := by
    funext σ H Q
    show t σ H (fun vs H1 => sp vs H1 Q E0) = t σ H (fun vs H1 => sp (vs ++ []) H1 Q E0)
    simp only [List.append_nil]
  rw [e2]
  exact pe_call F hr hg hm hk hb .nil pass0 ha hdb he hpl
end K9

namespace K9
open PySem PySem.Spec PyProof.Rows L2 L2H HotX Evl
/-! ### the classes of errors, told by one Bool of the written part -/
def oexB (K : PySem.W.Frag) (C : Addr) : Bool :=
  match K.lookup C with
  | some ⟨.type t, _, .cls ⟨_, _, .ref C' :: bm, _, _, hd, _, _, _, _, hdel⟩, ⟨[_, _, _, _, some (.builtin n), _]⟩⟩ => t == "type" && C' == C && n == "ValueError.__new__" && hd && !hdel && PySem.HandSPX.refsVE bm
  | _ => false
theorem oexB_of {K : PySem.W.Frag} {C : Addr} (h : oexB K C = true) : ∃ nm q N bs bm sn sub ab col dd k0 k1 k2 k3 k5,
    K.lookup C = some (excClassObj nm q C N bs bm true sn sub ab col dd k0 k1 k2 k3 k5 "ValueError.__new__") ∧ PySem.HandSPX.refsVE bm = true := by
  unfold oexB at h
  split at h
  · rename_i t dd nm bs C' bm N q hd sn sub ab col hdel k0 k1 k2 k3 n k5 hl
    simp only [Bool.and_eq_true, beq_iff_eq, Bool.not_eq_true'] at h
    obtain ⟨⟨⟨⟨⟨rfl, rfl⟩, rfl⟩, rfl⟩, rfl⟩, hb⟩ := h
    exact ⟨nm, q, N, bs, bm, sn, sub, ab, col, dd, k0, k1, k2, k3, k5, hl, hb⟩
  · cases h
def errB (K : PySem.W.Frag) (C : Addr) : Bool :=
  oexB K C && decide (PySem.W.findIn K (.ref C) "__setattr__" = some (some (.builtin "object.__setattr__"))) && decide (PySem.W.subIn K (.ref C) (.type "BaseException") = some true) &&
  decide (PySem.W.typeIn K (.ref C) = some (.type "type")) && PySem.W.keepIn K (.ref C) && decide (PySem.W.findIn K (.ref C) "__getattribute__" = some (some (.builtin "BaseException.__getattribute__"))) &&
  decide (PySem.W.findIn K (.ref C) "__getattr__" = some none) && PySem.W.hasDictIn K C && (PySem.W.clsIn K C).isSome && decide (PySem.W.findIn K (.ref C) "__class__" = some (some (.builtin "object.__class__"))) &&
  decide (PySem.W.mroIn K C (.type "object") = some true)
def spcB (K : PySem.W.Frag) : Bool :=
  decide (PySem.W.specialIn K (.builtin "object.__class__") "__get__" = some (some (.builtin "getset_descriptor.__get__"))) && decide (PySem.W.takesIn K (.builtin "object.__class__") = some true)
theorem errC_of {K : PySem.W.Frag} {C : Addr} (h : errB K C = true) (hs : spcB K = true) : ErrC K C := by
  simp only [errB, spcB, Bool.and_eq_true, decide_eq_true_eq] at h hs
  obtain ⟨⟨⟨⟨⟨⟨⟨⟨⟨⟨h0, h1⟩, h2⟩, h3⟩, h4⟩, h5⟩, h6⟩, h7⟩, h8⟩, h9⟩, h10⟩ := h
  exact ⟨⟨oexB_of h0, h1, h2, h3, h4⟩, ⟨h5, h6, h2, h7⟩, h8, h9, hs.1, hs.2, h10⟩
/-- the facts of a module's own errors: cs their names, top the one over all of them, ini those with an own __init__, fs the fields -/
structure Errs (K : PySem.W.Frag) (cs : List Str) (tp : Str) (ini fs : List Str) : Prop where
  err : ∀ x ∈ cs, ErrC K (He.ga K x)
  fld : ∀ x ∈ cs, ∀ f ∈ fs, PySem.W.findIn K (.ref (He.ga K x)) f = some none
  init : ∀ x ∈ ini, PySem.W.findIn K (.ref (He.ga K x)) "__init__" = some (some (.ref (He.fAd K (x, some "__init__"))))
  fn : ∀ x ∈ ini, PySem.W.typeIn K (.ref (He.fAd K (x, some "__init__"))) = some (.type "function")
  kit : ∀ x ∈ cs, ∀ y ∈ cs, PySem.W.kitOne K (.ref (He.ga K x)) (.ref (He.ga K y)) = some (decide (x = y) || decide (y = tp))
  kve : ∀ x ∈ cs, PySem.W.kitOne K (.ref (He.ga K x)) (.type "ValueError") = some true
def errsB (cs : List Str) (tp : Str) (ini fs : List Str) (K : PySem.W.Frag) : Bool :=
  spcB K && cs.all (fun x => errB K (He.ga K x)) && cs.all (fun x => fs.all fun f => decide (PySem.W.findIn K (.ref (He.ga K x)) f = some none)) &&
  ini.all (fun x => decide (PySem.W.findIn K (.ref (He.ga K x)) "__init__" = some (some (.ref (He.fAd K (x, some "__init__")))))) &&
  ini.all (fun x => decide (PySem.W.typeIn K (.ref (He.fAd K (x, some "__init__"))) = some (.type "function"))) &&
  cs.all (fun x => cs.all fun y => decide (PySem.W.kitOne K (.ref (He.ga K x)) (.ref (He.ga K y)) = some (decide (x = y) || decide (y = tp)))) &&
  cs.all (fun x => decide (PySem.W.kitOne K (.ref (He.ga K x)) (.type "ValueError") = some true))
theorem errs_of {cs : List Str} {tp : Str} {ini fs : List Str} {K : PySem.W.Frag} (h : errsB cs tp ini fs K = true) : Errs K cs tp ini fs := by
  simp only [errsB, Bool.and_eq_true, List.all_eq_true, decide_eq_true_eq] at h
  obtain ⟨⟨⟨⟨⟨⟨h0, h1⟩, h2⟩, h3⟩, h4⟩, h5⟩, h6⟩ := h
  exact ⟨fun x hx => errC_of (h1 x hx) h0, h2, h3, h4, h5, h6⟩
/-- isinstance of several of them -/
theorem Errs.any {K : PySem.W.Frag} {cs : List Str} {tp : Str} {ini fs : List Str} (E : Errs K cs tp ini fs) {x : Str} (hx : x ∈ cs) (ys : List Str) (hy : ∀ y ∈ ys, y ∈ cs) (ht : ∀ y ∈ ys, y ≠ tp) :
    PySem.W.kitAny K (.ref (He.ga K x)) (ys.map fun y => .ref (He.ga K y)) = some (decide (x ∈ ys)) := by
  induction ys with
  | nil => rfl
  | cons y r ih =>
    have h1 := E.kit x hx y (hy y List.mem_cons_self)
    have h2 := ih (fun z hz => hy z (List.mem_cons_of_mem _ hz)) (fun z hz => ht z (List.mem_cons_of_mem _ hz))
    have h3 : decide (y = tp) = false := decide_eq_false (ht y List.mem_cons_self)
    rw [h3, Bool.or_false] at h1
    by_cases e : x = y
    · subst e
      rw [decide_eq_true rfl] at h1
      simp [PySem.W.kitAny, h1]
    · rw [decide_eq_false e] at h1
      simp [PySem.W.kitAny, h1, h2, e]
end K9

namespace K9
open PySem PySem.Spec PyProof.Rows L2 L2H HotX Evl
/-! ### __init__ by its fields -/
section
variable {K : PySem.W.Frag} {C : Addr} {vs : List V} {H : Hp} {Q : VK} {E : XK} {f1 f2 f3 f4 n1 n2 n3 n4 : Str}
theorem up2 {H : Hp} {a d : Addr} {o : HO} (hd : H d = none) (ne : d ≠ a) {u : HO} : ∀ b o', b ≠ a → H b = some o' → upd (upd H d u) a o b = some o' := fun b o' nb e => by
  rw [upd_ne nb, upd_ne (ne_of_none e hd)]
  exact e
theorem ini1 (T : OexC K C) (h1 : PySem.W.findIn K (.ref C) f1 = some none) (h : spErr C [f1] vs H Q E) :
    tOst K f1 (tVar 0) (tVar 1) { nx := fun _ H' => Q .non H', rt := Q } (start ["self", n1] vs) H := by
  obtain ⟨a, us, rfl, hl, ha, q⟩ := h
  match us, hl with
  | [u], _ =>
    refine ⟨_, rfl, _, rfl, a, C, rfl, T, h1, .inl ⟨ha, fun d hd ne => ?_⟩⟩
    refine q d _ hd (up2 hd ne) upd_same ?_
    rw [upd_ne ne, upd_same]
    rfl
theorem ini2 (T : OexC K C) (h1 : PySem.W.findIn K (.ref C) f1 = some none) (h2 : PySem.W.findIn K (.ref C) f2 = some none) (h : spErr C [f1, f2] vs H Q E) :
    tSeq (tOst K f1 (tVar 0) (tVar 1)) (tOst K f2 (tVar 0) (tVar 2)) { nx := fun _ H' => Q .non H', rt := Q } (start ["self", n1, n2] vs) H := by
  obtain ⟨a, us, rfl, hl, ha, q⟩ := h
  match us, hl with
  | [u1, u2], _ =>
    refine ⟨_, rfl, _, rfl, a, C, rfl, T, h1, .inl ⟨ha, fun d hd ne => ?_⟩⟩
    refine ⟨_, rfl, _, rfl, a, C, rfl, T, h2, .inr ⟨d, _, upd_same, by rw [upd_ne ne, upd_same], (by show (1 : Nat) ≤ 900; decide), ?_⟩⟩
    refine q d _ hd (fun b o nb e => ?_) ?_ ?_
    · rw [upd_ne (ne_of_none e hd)]
      exact up2 hd ne b o nb e
    · rw [upd_ne (Ne.symm ne), upd_same]
    · rw [upd_same]
      rfl
theorem ini3 (T : OexC K C) (h1 : PySem.W.findIn K (.ref C) f1 = some none) (h2 : PySem.W.findIn K (.ref C) f2 = some none) (h3 : PySem.W.findIn K (.ref C) f3 = some none) (h : spErr C [f1, f2, f3] vs H Q E) :
    tSeq (tOst K f1 (tVar 0) (tVar 1)) (tSeq (tOst K f2 (tVar 0) (tVar 2)) (tOst K f3 (tVar 0) (tVar 3))) { nx := fun _ H' => Q .non H', rt := Q } (start ["self", n1, n2, n3] vs) H := by
  obtain ⟨a, us, rfl, hl, ha, q⟩ := h
  match us, hl with
  | [u1, u2, u3], _ =>
    refine ⟨_, rfl, _, rfl, a, C, rfl, T, h1, .inl ⟨ha, fun d hd ne => ?_⟩⟩
    refine ⟨_, rfl, _, rfl, a, C, rfl, T, h2, .inr ⟨d, _, upd_same, by rw [upd_ne ne, upd_same], (by show (1 : Nat) ≤ 900; decide), ?_⟩⟩
    refine ⟨_, rfl, _, rfl, a, C, rfl, T, h3, .inr ⟨d, _, by rw [upd_ne (Ne.symm ne), upd_same], upd_same, (by show (2 : Nat) ≤ 900; decide), ?_⟩⟩
    refine q d _ hd (fun b o nb e => ?_) ?_ ?_
    · rw [upd_ne (ne_of_none e hd), upd_ne (ne_of_none e hd)]
      exact up2 hd ne b o nb e
    · rw [upd_ne (Ne.symm ne), upd_ne (Ne.symm ne), upd_same]
    · rw [upd_same]
      rfl
theorem ini4 (T : OexC K C) (h1 : PySem.W.findIn K (.ref C) f1 = some none) (h2 : PySem.W.findIn K (.ref C) f2 = some none) (h3 : PySem.W.findIn K (.ref C) f3 = some none) (h4 : PySem.W.findIn K (.ref C) f4 = some none) (h : spErr C [f1, f2, f3, f4] vs H Q E) :
    tSeq (tOst K f1 (tVar 0) (tVar 1)) (tSeq (tOst K f2 (tVar 0) (tVar 2)) (tSeq (tOst K f3 (tVar 0) (tVar 3)) (tOst K f4 (tVar 0) (tVar 4)))) { nx := fun _ H' => Q .non H', rt := Q } (start ["self", n1, n2, n3, n4] vs) H := by
  obtain ⟨a, us, rfl, hl, ha, q⟩ := h
  match us, hl with
  | [u1, u2, u3, u4], _ =>
    refine ⟨_, rfl, _, rfl, a, C, rfl, T, h1, .inl ⟨ha, fun d hd ne => ?_⟩⟩
    refine ⟨_, rfl, _, rfl, a, C, rfl, T, h2, .inr ⟨d, _, upd_same, by rw [upd_ne ne, upd_same], (by show (1 : Nat) ≤ 900; decide), ?_⟩⟩
    refine ⟨_, rfl, _, rfl, a, C, rfl, T, h3, .inr ⟨d, _, by rw [upd_ne (Ne.symm ne), upd_same], upd_same, (by show (2 : Nat) ≤ 900; decide), ?_⟩⟩
    refine ⟨_, rfl, _, rfl, a, C, rfl, T, h4, .inr ⟨d, _, by rw [upd_ne (Ne.symm ne), upd_ne (Ne.symm ne), upd_same], upd_same, (by show (3 : Nat) ≤ 900; decide), ?_⟩⟩
    refine q d _ hd (fun b o nb e => ?_) ?_ ?_
    · rw [upd_ne (ne_of_none e hd), upd_ne (ne_of_none e hd), upd_ne (ne_of_none e hd)]
      exact up2 hd ne b o nb e
    · rw [upd_ne (Ne.symm ne), upd_ne (Ne.symm ne), upd_ne (Ne.symm ne), upd_same]
    · rw [upd_same]
      rfl
end
theorem spErr_len {C : Addr} {ns : List Str} (vs : List V) (H : Hp) (Q : VK) (E : XK) (h : spErr C ns vs H Q E) : vs.length = ns.length + 1 := by
  obtain ⟨a, us, rfl, hl, _⟩ := h
  simp [hl]
end K9

namespace K9
open PySem PySem.Spec PyProof.Rows L2 L2H HotX Evl
/-! ### arguments by position and by name, in any order -/
def gP (ix : List Nat) (us ws : List Value) : List Value := us ++ ix.map fun i => ws.getD i .none
def gPV (ix : List Nat) (vs zs : List V) : List V := vs ++ ix.map fun i => zs.getD i .non
theorem vals_getD {zs : List V} {ws : List Value} (r : Vals zs ws) (i : Nat) : RelV (zs.getD i .non) (ws.getD i .none) := by
  induction r generalizing i with
  | nil => rfl
  | cons h r ih =>
    cases i with
    | zero => exact h
    | succ i => exact ih i
theorem gP_rel {ix : List Nat} {vs zs : List V} {us ws : List Value} (r : Vals vs us) (rz : Vals zs ws) : Vals (gPV ix vs zs) (gP ix us ws) := by
  refine Vals.append r ?_
  induction ix with
  | nil => exact .nil
  | cons i ix ih => exact .cons (vals_getD rz i) ih
theorem kbn_of {K : PySem.W.Frag} {x qual : Str} {params : Arguments} {body : List Stmt} {scope : Scope} {kws : List (Str × V)} {f : Addr} {fd : FuncData} {ps ks : List Str} {n : Nat} {ix : List Nat}
    (F : FunD K x qual params body scope [] kws f fd)
    (hb : ∀ (kV doc pm : Value) (an : Option Addr) (cdv ct : Value) (us ws : List Value), us.length = n → ws.length = ks.length →
      bindArgs (PySem.W.fnOf x qual params body scope .none kV doc pm an cdv ct) ⟨us, ks.zip ws⟩ = pure (ps.zip (gP ix us ws))) : KBn K fd ps n ks (gP ix) (gPV ix) := by
  refine ⟨fun s us ws hk hu hw => ?_, gP_rel⟩
  obtain ⟨oc, od, dV, kV, doc, pm, an, cdv, ct, osl, rfl, lk, hc, hd, hkw⟩ := F.ex
  rcases hd with ⟨_, rfl⟩ | ⟨z, _⟩
  · intro M A E Q q
    rw [hb kV doc pm an cdv ct us ws hu hw]
    exact wpAny_pure q
  · exact absurd rfl z
/-! ### a module's own class of errors with its __init__ -/
structure Ini (P : Program) (w : World) (K : PySem.W.Frag) (mg : Str → Option Value) (base : Heap) (x : Str) (ns : List Str) (ways : List (Nat × List Str × List Nat)) : Prop where
  err : ErrC K (He.ga K x)
  ic : PySem.W.findIn K (.ref (He.ga K x)) "__init__" = some (some (.ref (He.fAd K (x, some "__init__"))))
  ti : PySem.W.typeIn K (.ref (He.fAd K (x, some "__init__"))) = some (.type "function")
  gl : mg x = some (.ref (He.ga K x))
  ok : ∃ fd, FnOk P w K mg base CX0 1 (He.fAd K (x, some "__init__")) fd ("self" :: ns) (spErr (He.ga K x) ns) ∧ ∀ q ∈ ways, KBn K fd ("self" :: ns) q.1 q.2.1 (gP q.2.2) (gPV q.2.2)
section
variable {X : Cx} {n : Nat} {ns ks : List Str} {ix : List Nat} {ways : List (Nat × List Str × List Nat)} {x : Str} {p pos : Pos} {e : Expr} {es : List Expr} {kws : List Keyword} {t tk : TA}
theorem pe_iniK (i : Ini X.prog X.w X.K X.mg X.base x ns ways) (hq : (n + 1, ks, ix) ∈ ways) (hr : RoomH 2 X.A) (hc : X.calm = true) (hg : Gl X x) (ha : PA X (e :: es) t) (hkw : PK X kws tk) (hn : n ≤ 1000 := by decide)
    (hall : (backToKw pos (keywordEach kws X.env)).all (·.1.isSome) = true := by rfl) (hks : (backToKw pos (keywordEach kws X.env)).filterMap (·.1) = ks := by rfl)
    (hdb : (x == ("__debug__" : Str)) = false := by decide) (he : starEach (e :: es) X.env = (false, eval e X.env) :: starEach es X.env := by rfl)
    (hpl : ((backTo pos (starEach (e :: es) X.env)).any (·.1) || (backToKw pos (keywordEach kws X.env)).any (·.1.isNone)) = false := by rfl) :
    PE X (.Call (.Name x p) (e :: es) kws pos) (tNewE (He.ga X.K x) n ks.length ns (gPV ix) t tk) := by
  obtain ⟨fd, F, hb⟩ := i.ok
  exact pe_newEK hn i.err.ox i.ic i.ti F hr hc hg i.gl (hb _ hq) ha hkw hall hks hdb he hpl
theorem pe_ini0 (i : Ini X.prog X.w X.K X.mg X.base x ns ways) (hq : (1, ks, ix) ∈ ways) (hr : RoomH 2 X.A) (hc : X.calm = true) (hg : Gl X x) (hkw : PK X kws tk)
    (hall : (backToKw pos (keywordEach kws X.env)).all (·.1.isSome) = true := by rfl) (hks : (backToKw pos (keywordEach kws X.env)).filterMap (·.1) = ks := by rfl)
    (hdb : (x == ("__debug__" : Str)) = false := by decide)
    (hpl : ((backTo pos (starEach [] X.env)).any (·.1) || (backToKw pos (keywordEach kws X.env)).any (·.1.isNone)) = false := by rfl) :
    PE X (.Call (.Name x p) [] kws pos) (tNewE (He.ga X.K x) 0 ks.length ns (gPV ix) tNil tk) := by
  obtain ⟨fd, F, hb⟩ := i.ok
  exact pe_newE0 i.err.ox i.ic i.ti F hr hc hg i.gl (hb _ hq) hkw hall hks hdb hpl
theorem pmk_iniK (i : Ini X.prog X.w X.K X.mg X.base x ns ways) (hq : (n + 1, ks, ix) ∈ ways) (hr : RoomH 2 X.A) (hc : X.calm = true) (hg : Gl X x) (ha : PA X (e :: es) t) (hkw : PK X kws tk) (hn : n ≤ 1000 := by decide)
    (hall : (backToKw pos (keywordEach kws X.env)).all (·.1.isSome) = true := by rfl) (hks : (backToKw pos (keywordEach kws X.env)).filterMap (·.1) = ks := by rfl)
    (hdb : (x == ("__debug__" : Str)) = false := by decide) (he : starEach (e :: es) X.env = (false, eval e X.env) :: starEach es X.env := by rfl)
    (hpl : ((backTo pos (starEach (e :: es) X.env)).any (·.1) || (backToKw pos (keywordEach kws X.env)).any (·.1.isNone)) = false := by rfl) :
    L2N.PMk X (.Call (.Name x p) (e :: es) kws pos) (tMkE (He.ga X.K x) n ks.length ns (gPV ix) t tk) := by
  obtain ⟨fd, F, hb⟩ := i.ok
  exact pmk_EK hn i.err.ox i.ic i.ti F hr hc hg i.gl (hb _ hq) ha hkw hall hks hdb he hpl
theorem pmk_ini0 (i : Ini X.prog X.w X.K X.mg X.base x ns ways) (hq : (1, ks, ix) ∈ ways) (hr : RoomH 2 X.A) (hc : X.calm = true) (hg : Gl X x) (hkw : PK X kws tk)
    (hall : (backToKw pos (keywordEach kws X.env)).all (·.1.isSome) = true := by rfl) (hks : (backToKw pos (keywordEach kws X.env)).filterMap (·.1) = ks := by rfl)
    (hdb : (x == ("__debug__" : Str)) = false := by decide)
    (hpl : ((backTo pos (starEach [] X.env)).any (·.1) || (backToKw pos (keywordEach kws X.env)).any (·.1.isNone)) = false := by rfl) :
    L2N.PMk X (.Call (.Name x p) [] kws pos) (tMkE (He.ga X.K x) 0 ks.length ns (gPV ix) tNil tk) := by
  obtain ⟨fd, F, hb⟩ := i.ok
  exact pmk_E0 i.err.ox i.ic i.ti F hr hc hg i.gl (hb _ hq) hkw hall hks hdb hpl
end
/-! ### several errors made into a list -/
def ErrsAt (K : PySem.W.Frag) (l : List (Addr × Obj)) (H : Hp) : List V → List (Str × List (Str × V)) → Prop := Paired fun r q => ∃ a, r = .ref a ∧ Err l H a (He.ga K q.1) (some q.2)
theorem ErrsAt.ext {K : PySem.W.Frag} {l : List (Addr × Obj)} {H H' : Hp} {rs : List V} {qs : List (Str × List (Str × V))} (e : Ex H H') (h : ErrsAt K l H rs qs) : ErrsAt K l H' rs qs :=
  by
  induction h with
  | nil => exact .nil
  | cons r _ ih =>
    obtain ⟨a, e1, e2⟩ := r
    exact .cons ⟨a, e1, e2.ext e⟩ ih
theorem ErrsAt.app {K : PySem.W.Frag} {l : List (Addr × Obj)} {H : Hp} {rs rs' : List V} {qs qs' : List (Str × List (Str × V))} (h : ErrsAt K l H rs qs) (h' : ErrsAt K l H rs' qs') : ErrsAt K l H (rs ++ rs') (qs ++ qs') := by
  induction h with
  | nil => exact h'
  | cons a _ ih => exact .cons a ih
/-- te makes the error q, whatever lies there; t makes these -/
def Mk1 (K : PySem.W.Frag) (l : List (Addr × Obj)) (σ : St) (te : TE) (q : Str × List (Str × V)) : Prop := ∀ (H : Hp) (Q : VK), (∀ (a : Addr) (H' : Hp), Ex H H' → Err l H' a (He.ga K q.1) (some q.2) → Q (.ref a) H') → te σ H Q
def MkL (K : PySem.W.Frag) (l : List (Addr × Obj)) (σ : St) (t : TA) (qs : List (Str × List (Str × V))) : Prop := ∀ (H : Hp) (Q : List V → Hp → Prop), (∀ (rs : List V) (H' : Hp), Ex H H' → ErrsAt K l H' rs qs → Q rs H') → t σ H Q
theorem mk_nil {K : PySem.W.Frag} {l : List (Addr × Obj)} {σ : St} : MkL K l σ tNil [] := fun H Q q => q [] H (Ex.refl H) .nil
theorem mk_cons {K : PySem.W.Frag} {l : List (Addr × Obj)} {σ : St} {te : TE} {t : TA} {q : Str × List (Str × V)} {qs : List (Str × List (Str × V))} (h : Mk1 K l σ te q) (hs : MkL K l σ t qs) : MkL K l σ (tCons te t) (q :: qs) := fun H Q k =>
  h H _ fun a H1 e1 r1 => hs H1 _ fun rs H2 e2 r2 => k _ H2 (e1.trans e2) (.cons ⟨a, rfl, r1.ext e2⟩ r2)
/-- arguments that are values told by the slots -/
def Vs (σ : St) (t : TA) (vs : List V) : Prop := ∀ (H : Hp) (Q : List V → Hp → Prop), Q vs H → t σ H Q
theorem vs_nil {σ : St} : Vs σ tNil [] := fun H Q q => q
theorem vs_var {σ : St} {i : Nat} {v : V} {t : TA} {vs : List V} (h : σ[i]? = some (some v)) (ht : Vs σ t vs) : Vs σ (tCons (tVar i) t) (v :: vs) := fun H Q q => ⟨v, h, ht H _ q⟩
theorem mk_new {K : PySem.W.Frag} {l : List (Addr × Obj)} {σ : St} {x : Str} {n m : Nat} {ns : List Str} {ix : List Nat} {t tk : TA} {vs zs us : List V} (h : Vs σ t vs) (hk : Vs σ tk zs) (hn : vs.length = n) (hm : zs.length = m) (hu : gPV ix vs zs = us) (hl : us.length = ns.length) :
    Mk1 K l σ (tNewE (He.ga K x) n m ns (gPV ix) t tk) (x, (ns.zip us).reverse) := fun H Q q =>
  h H _ (hk H _ ⟨hn, hm, us, fun y => by rw [← hu]; rfl, hl, fun a d H3 ha hd e e1 e2 => q a H3 e ⟨d, .inl e1, .inl e2⟩⟩)
end K9

namespace K9
open PySem PySem.Spec PyProof.Rows L2 L2H HotX Evl
/-! ### what a walk tells: n items, the heap stays -/
/-- all but D stands -/
def ExB (D : Addr) (H H' : Hp) : Prop := ∀ a o, a ≠ D → H a = some o → H' a = some o
theorem ExB.refl {D : Addr} {H : Hp} : ExB D H H := fun _ _ _ e => e
theorem ExB.trans {D : Addr} {H H1 H2 : Hp} (e : ExB D H H1) (e' : ExB D H1 H2) : ExB D H H2 := fun a o n h => e' a o n (e a o n h)
theorem Ex.but {D : Addr} {H H' : Hp} (e : Ex H H') : ExB D H H' := fun a o _ h => e a o h
theorem ExB.set {D : Addr} {H : Hp} {o : HO} : ExB D H (upd H D o) := fun a o' n h => by
  rw [upd_ne n]
  exact h
theorem ExB.new {D : Addr} {H H' : Hp} (e : ExB D H H') (h : H D = none) : Ex H H' := fun a o h1 => e a o (ne_of_none h1 h) h1
structure Walks (J : It) (n : Nat) (item : Nat → V) (H : Hp) : Prop where
  go : ∀ (i : Nat) (H1 : Hp), Ex H H1 → i < n → J.go i H1
  yld : ∀ (i : Nat) (H1 : Hp) (x : V) (H' : Hp), Ex H H1 → i < n → J.yld i H1 x H' → H' = H1 ∧ x = item i
  stop : ∀ (H1 : Hp), Ex H H1 → J.stop n H1
theorem walks_rng {lo : Int} {n : Nat} {H : Hp} : Walks (Itr lo n) n (fun i => .int (lo + (i : Int))) H :=
  ⟨fun _ _ _ h => h, fun _ _ _ _ _ _ h => h, fun _ _ => Nat.le_refl _⟩
theorem walks_rng0 {n : Nat} {H : Hp} : Walks (Itr 0 n) n (fun i => .int (i : Int)) H :=
  ⟨fun _ _ _ h => h, fun i _ _ _ _ _ h => ⟨h.1, by rw [h.2, Int.zero_add]⟩, fun _ _ => Nat.le_refl _⟩
theorem SqL.ext {K : PySem.W.Frag} {H H' : Hp} {a : Addr} {xs : List V} (e : Ex H H') (h : SqL K H a xs) : SqL K H' a xs := by
  rcases h with h | h
  · rcases h with h | ⟨o, h⟩
    · exact .inl (.inl (e _ _ h))
    · exact .inl (.inr ⟨o, e _ _ h⟩)
  · exact .inr h
theorem walks_list {K : PySem.W.Frag} {a : Addr} {xs : List V} {H : Hp} (h : SqL K H a xs) : Walks (Itl K a) xs.length (fun i => xs.getD i .non) H := by
  refine ⟨fun i H1 e hi => ⟨xs, xs[i], SqL.ext e h, List.getElem?_eq_getElem hi⟩, fun i H1 x H' e hi hy => ?_, fun H1 e => ⟨xs, SqL.ext e h, Nat.le_refl _⟩⟩
  refine ⟨hy.1, ?_⟩
  have z := hy.2 xs (SqL.ext e h)
  show x = xs.getD i .non
  rw [List.getD_eq_getElem?_getD, z]
  rfl
/-! ### a list comprehension, by an invariant of what is made so far -/
theorem lc_by {wi : TI} {i : Nat} {tt : TT} {te : TE} {σ : St} {H : Hp} {Q : VK} {J : It} {n : Nat} {item : Nat → V} (P : Addr → Nat → List V → Hp → Prop)
    (hn : n ≤ sizeLine) (hi : i < σ.length) (hw : ∀ R : It → Hp → Prop, R J H → wi σ H R) (wk : Walks J n item H)
    (mono : ∀ D j acc H1 H2, ExB D H1 H2 → P D j acc H1 → P D j acc H2) (h0 : ∀ D, H D = none → P D 0 [] H)
    (step : ∀ D j acc H1 (C : V → Hp → Prop) (Cf : Hp → Prop), j < n → H D = none → Ex H H1 → H1 D = some (.lst acc) → P D j acc H1 → (∀ H3, Ex H1 H3 → P D (j + 1) acc H3 → Cf H3) → (∀ y H4, Ex H1 H4 → P D (j + 1) (acc ++ [y]) H4 → C y H4) →
      tt ((wipe σ [i]).set i (some (item j))) H1 fun b H3 => if b = true then te ((wipe σ [i]).set i (some (item j))) H3 C else Cf H3)
    (fin : ∀ D acc H1, H D = none → Ex H H1 → H1 D = some (.lst acc) → P D n acc H1 → Q (.ref D) H1) : tLc wi (gName i) tt te [i] σ H Q := by
  refine hw _ fun D hD => ?_
  refine ⟨fun j m H1 => m = n - j ∧ j ≤ n ∧ Ex H H1 ∧ ∃ acc, H1 D = some (.lst acc) ∧ acc.length ≤ j ∧ P D j acc H1, ⟨n - 0, rfl, Nat.zero_le _, Ex.new hD, [], upd_same, Nat.le_refl _, mono _ _ _ _ _ ExB.set (h0 D hD)⟩, ?_⟩
  rintro j m H1 ⟨rfl, hj, e, acc, ha, hl, hp⟩
  by_cases hjn : j = n
  · subst hjn
    exact .inl ⟨wk.stop H1 e, fin D acc H1 hD e ha hp⟩
  · have hj2 : j < n := by omega
    refine .inr ⟨wk.go j H1 e hj2, fun H' => n - (j + 1) < n - j ∧ j + 1 ≤ n ∧ Ex H H' ∧ ∃ acc, H' D = some (.lst acc) ∧ acc.length ≤ j + 1 ∧ P D (j + 1) acc H', ?_, ?_⟩
    · rintro H' ⟨h1, h2, h3⟩
      exact ⟨n - (j + 1), h1, rfl, h2, h3⟩
    · intro x H' hy
      obtain ⟨rfl, rfl⟩ := wk.yld j H1 x H' e hj2 hy
      refine ⟨?_, ?_⟩
      · simp [wipe]
      · refine step D j acc H' _ _ hj2 hD e ha hp (fun H3 e3 p3 => ?_) (fun y H4 e4 p4 => ?_)
        · exact ⟨by omega, by omega, e.trans e3, acc, e3 _ _ ha, by omega, p3⟩
        · have hd := e4 _ _ ha
          refine ⟨acc, hd, by omega, by omega, by omega, ?_, acc ++ [y], upd_same, by simp; omega, mono _ _ _ _ _ ExB.set p4⟩
          exact ExB.new (fun a o na h => (by rw [upd_ne na]; exact (e.trans e4) a o h)) hD
/-- nothing is kept: the list is empty -/
theorem lc_none {wi : TI} {i : Nat} {tt : TT} {te : TE} {σ : St} {H : Hp} {Q : VK} {J : It} {n : Nat} {item : Nat → V} (hn : n ≤ sizeLine) (hi : i < σ.length) (hw : ∀ R : It → Hp → Prop, R J H → wi σ H R) (wk : Walks J n item H)
    (step : ∀ j H1 (R : Bool → Hp → Prop), j < n → Ex H H1 → (∀ H3, Ex H1 H3 → R false H3) → tt ((wipe σ [i]).set i (some (item j))) H1 R)
    (fin : ∀ D H1, H D = none → Ex H H1 → H1 D = some (.lst []) → Q (.ref D) H1) : tLc wi (gName i) tt te [i] σ H Q := by
  refine lc_by (fun _ _ acc _ => acc = []) hn hi hw wk (fun _ _ _ _ _ _ h => h) (fun _ _ => rfl) (fun D j acc H1 C Cf hj hD e ha hp kf kt => ?_) (fun D acc H1 hD e ha hp => ?_)
  · refine step j H1 _ hj e fun H3 e3 => ?_
    rw [if_neg (by decide)]
    exact kf H3 e3 hp
  · subst hp
    exact fin D H1 hD e ha
/-- what is kept is told ahead: the heap stays in the test -/
theorem lc_keep {wi : TI} {i : Nat} {tt : TT} {te : TE} {σ : St} {H : Hp} {Q : VK} {J : It} {n : Nat} {item : Nat → V} (keep : Nat → Bool) (val : Nat → V) (hn : n ≤ sizeLine) (hi : i < σ.length) (hw : ∀ R : It → Hp → Prop, R J H → wi σ H R) (wk : Walks J n item H)
    (test : ∀ j H1 (R : Bool → Hp → Prop), j < n → Ex H H1 → R (keep j) H1 → tt ((wipe σ [i]).set i (some (item j))) H1 R)
    (elem : ∀ j H1 (R : V → Hp → Prop), j < n → Ex H H1 → R (val j) H1 → te ((wipe σ [i]).set i (some (item j))) H1 R)
    (fin : ∀ D H1, H D = none → Ex H H1 → H1 D = some (.lst (((List.range n).filter keep).map val)) → Q (.ref D) H1) : tLc wi (gName i) tt te [i] σ H Q := by
  refine lc_by (fun _ j acc _ => acc = ((List.range j).filter keep).map val) hn hi hw wk (fun _ _ _ _ _ _ h => h) (fun _ _ => rfl) (fun D j acc H1 C Cf hj hD e ha hp kf kt => ?_) (fun D acc H1 hD e ha hp => ?_)
  · refine test j H1 _ hj e ?_
    cases hk : keep j with
    | true =>
      rw [if_pos rfl]
      refine elem j H1 _ hj e (kt _ _ (Ex.refl _) ?_)
      rw [hp, List.range_succ, List.filter_append, List.map_append]
      simp [hk]
    | false =>
      rw [if_neg (by decide)]
      refine kf _ (Ex.refl _) ?_
      rw [hp, List.range_succ, List.filter_append]
      simp [hk]
  · subst hp
    exact fin D H1 hD e ha
/-! ### found = found + [..] -/
theorem grow_step {σ : St} {H : Hp} {j : Nat} {q : Addr} {bs : List V} {t : TA} {R : VK} {n : Nat} {Pc : List V → Hp → Prop} (hv : σ[j]? = some (some (.ref q))) (hq : H q = some (.lst bs)) (ht : ∀ Q : List V → Hp → Prop, (∀ cs H', Ex H H' → Pc cs H' → Q cs H') → t σ H Q)
    (len : ∀ cs H', Pc cs H' → cs.length = n) (hs : bs.length + n ≤ sizeLine)
    (k : ∀ (p : Addr) (cs : List V) (H1 H' : Hp), Ex H H1 → Pc cs H1 → Ex H1 H' → H' p = some (.lst (bs ++ cs)) → R (.ref p) H') : tOp rCat (tVar j) (tLst t) σ H R := by
  refine ⟨_, hv, ht _ fun cs H1 e pc => ?_⟩
  have hl := len _ _ pc
  refine ⟨by omega, fun p hp => ⟨q, p, bs, cs, rfl, rfl, ?_, upd_same, by omega, fun r hr => ?_⟩⟩
  · exact (e.trans (Ex.new hp)) _ _ hq
  · exact k r cs H1 _ e pc ((Ex.new hp).trans (Ex.new hr)) upd_same
/-! ### isinstance of an error, again and again -/
def BlL (K : PySem.W.Frag) (l : List (Addr × Obj)) (σ : St) (a C : Addr) (o : Option (List (Str × V))) (t : TA) (bs : List V) : Prop := ∀ (H : Hp) (Q : List V → Hp → Prop), Err l H a C o → Q bs H → t σ H Q
theorem bl_nil {K : PySem.W.Frag} {l : List (Addr × Obj)} {σ : St} {a C : Addr} {o : Option (List (Str × V))} : BlL K l σ a C o tNil [] := fun H Q _ q => q
theorem bl_cons {K : PySem.W.Frag} {l : List (Addr × Obj)} {σ : St} {a : Addr} {o : Option (List (Str × V))} {cs ini fs : List Str} {tp x y : Str} {i : Nat} {t : TA} {bs : List V} (E : Errs K cs tp ini fs) (hv : σ[i]? = some (some (.ref a))) (hx : x ∈ cs) (hy : y ∈ cs) (ht : y ≠ tp)
    (h : BlL K l σ a (He.ga K x) o t bs) : BlL K l σ a (He.ga K x) o (tCons (tCB (rIsE1 K l) (tCons (tVar i) (tCons (tC (.ref (He.ga K y))) tNil))) t) (.bl (decide (x = y)) :: bs) := fun H Q he q => by
  refine ⟨_, hv, a, _, o, _, _, _, rfl, he, E.err x hx, .own _, E.kit x hx y hy, ?_⟩
  rw [decide_eq_false ht, Bool.or_false]
  exact h H _ he q
theorem seq_asg {te : TE} {j : Nat} {r : TS} {D} {σ : St} {H : Hp} (h : te σ H fun v H1 => r D (σ.set j (some v)) H1) : tSeq (tAsg te (gName j)) r D σ H := h
theorem op_l {r : R2} {ta tb : TE} {σ : St} {H : Hp} {Q : VK} (h : ta σ H fun x H1 => tb σ H1 fun y H2 => r x y H2 Q) : tOp r ta tb σ H Q := h
theorem ret_l {te : TE} {D} {σ : St} {H : Hp} (h : te σ H fun v H1 => D.rt v H1) : tRet te D σ H := h
theorem nx_l {nx bk ct : St → Hp → Prop} {rt : VK} {σ : St} {H : Hp} (h : nx σ H) : tNext { nx := nx, rt := rt, bk := bk, ct := ct } σ H := h
theorem BlL.use {K : PySem.W.Frag} {l : List (Addr × Obj)} {σ : St} {a C : Addr} {o : Option (List (Str × V))} {t : TA} {H : Hp} {Q : List V → Hp → Prop} (bs : List V) (h : BlL K l σ a C o t bs) (he : Err l H a C o) (q : Q bs H) : t σ H Q := h H Q he q
theorem BlL.tlst {K : PySem.W.Frag} {l : List (Addr × Obj)} {σ : St} {a C : Addr} {o : Option (List (Str × V))} {t : TA} {H : Hp} {Q : VK} (bs : List V) (h : BlL K l σ a C o t bs) (he : Err l H a C o) (q : bs.length ≤ sizeLine ∧ ∀ p, H p = none → Q (.ref p) (upd H p (.lst bs))) : tLst t σ H Q := h H _ he q
theorem BlL.lst {K : PySem.W.Frag} {l : List (Addr × Obj)} {σ : St} {a C : Addr} {o : Option (List (Str × V))} {t : TA} {bs : List V} (h : BlL K l σ a C o t bs) {H : Hp} (he : Err l H a C o) : ∀ Q : List V → Hp → Prop, (∀ cs H', Ex H H' → cs = bs → Q cs H') → t σ H Q :=
  fun Q q => h H Q he (q bs H (Ex.refl H) rfl)
end K9

namespace K9
open PySem PySem.Spec PyProof.Rows L2 L2H HotX Evl
theorem op_isB {X : Cx} {b : Bool} : OpR X (compareOp .Is) (fun x y H Q => y = .bl b ∧ (x = .non ∨ ∃ c, x = .bl c) ∧ Q (.bl (decide (x = .bl b))) H) := by
  rintro pins s σ H x y v u Q I rx ry ⟨rfl, hx, q⟩
  obtain rfl : u = Value.bool b := ry
  rcases hx with rfl | ⟨c, rfl⟩
  · obtain rfl : v = Value.none := rx
    refine wpAny_is_plain (by cases b <;> rfl) (Q := EP X pins σ Q) ⟨_, H, I, ?_, q⟩
    cases b <;> rfl
  · obtain rfl : v = Value.bool c := rx
    refine wpAny_is_plain (by cases b <;> cases c <;> rfl) (Q := EP X pins σ Q) ⟨.bl (decide (V.bl c = .bl b)), H, I, ?_, q⟩
    cases c <;> cases b <;> rfl
/-- len of a list, a tuple, a dict -/
def rLenA (K : PySem.W.Frag) : List V → Hp → VK → Prop := fun xs H Q => (∃ p ys, xs = [.ref p] ∧ (SqL K H p ys ∨ SqT K H p ys) ∧ Q (.int ((ys.length : Nat) : Int)) H) ∨ ∃ a kvs, xs = [V.ref a] ∧ H a = some (.dK kvs) ∧ Q (.int ((kvs.length : Nat) : Int)) H
theorem call_lenA {X : Cx} : CallR X (.builtin "len") (rLenA X.K) := by
  intro pins s σ H xs us Q I r h
  rcases h with h | h
  · exact call_len_seq pins s σ H xs us Q I r h
  · exact call_lenD pins s σ H xs us Q I r h
/-! ### two values of one shape: lists, tuples, dicts of equal ones, with their weight -/
mutual
inductive Lk (H : Hp) : V → V → Nat → Prop
  | non : Lk H .non .non 1
  | bl (b : Bool) : Lk H (.bl b) (.bl b) 1
  | int (i : Int) : Lk H (.int i) (.int i) 1
  | str (z : Str) : Lk H (.str z) (.str z) 1
  | lst {a b : Addr} {vs us : List V} {n : Nat} : H a = some (.lst vs) → H b = some (.lst us) → LkL H vs us n → Lk H (.ref a) (.ref b) (n + 1)
  | tup {a b : Addr} {vs us : List V} {n : Nat} : H a = some (.tup vs) → H b = some (.tup us) → LkL H vs us n → Lk H (.ref a) (.ref b) (n + 1)
  | dic {a b : Addr} {ks ls : List (Key × V)} {n : Nat} : H a = some (.dK ks) → H b = some (.dK ls) → ks.map (·.1) = ls.map (·.1) → (ls.map (·.1)).Nodup → LkL H (ks.map (·.2)) (ls.map (·.2)) n → Lk H (.ref a) (.ref b) (n + 1)
inductive LkL (H : Hp) : List V → List V → Nat → Prop
  | nil : LkL H [] [] 0
  | cons {v u : V} {vs us : List V} {n m : Nat} : Lk H v u n → LkL H vs us m → LkL H (v :: vs) (u :: us) (n + m)
end
theorem Lk.pos {H : Hp} {v u : V} {n : Nat} (h : Lk H v u n) : 1 ≤ n := by
  cases h <;> omega
mutual
theorem Lk.ext {H H' : Hp} (e : Ex H H') {v u : V} {n : Nat} (h : Lk H v u n) : Lk H' v u n :=
  match h with
  | .non => .non
  | .bl b => .bl b
  | .int i => .int i
  | .str z => .str z
  | .lst h1 h2 h3 => .lst (e _ _ h1) (e _ _ h2) (h3.ext e)
  | .tup h1 h2 h3 => .tup (e _ _ h1) (e _ _ h2) (h3.ext e)
  | .dic h1 h2 h4 h5 h3 => .dic (e _ _ h1) (e _ _ h2) h4 h5 (h3.ext e)
theorem LkL.ext {H H' : Hp} (e : Ex H H') {vs us : List V} {n : Nat} (h : LkL H vs us n) : LkL H' vs us n :=
  match h with
  | .nil => .nil
  | .cons h1 h2 => .cons (h1.ext e) (h2.ext e)
end
theorem LkL.get {H : Hp} {vs us : List V} {n : Nat} (h : LkL H vs us n) : ∃ ns : List Nat, vs.length = us.length ∧ ns.length = us.length ∧ ns.sum = n ∧ us.length ≤ n ∧ ∀ i, i < us.length → Lk H (vs.getD i .non) (us.getD i .non) (ns.getD i 0) := by
  induction vs generalizing us n with
  | nil =>
    cases h
    exact ⟨[], rfl, rfl, rfl, Nat.le_refl _, fun i hi => absurd hi (by simp)⟩
  | cons v vs ih =>
    cases h with
    | @cons _ u _ us k m h1 h2 =>
      obtain ⟨ns, e1, e2, e3, e4, h3⟩ := ih h2
      have p := h1.pos
      refine ⟨k :: ns, by simp [e1], by simp [e2], by simp [e3], by simp; omega, fun i hi => ?_⟩
      cases i with
      | zero => exact h1
      | succ i => exact h3 i (by simpa using hi)
/-! ### the stack of pairs that are still to be compared -/
structure It4 where
  r : Addr
  v : V
  u : V
  n : Nat
def refs (st : List It4) : List V := st.map fun q => .ref q.r
def wt (st : List It4) : Nat := (st.map fun q => q.n).sum
def StOk (H0 H' : Hp) (L : Addr) (st : List It4) : Prop := ∀ q ∈ st, q.r ≠ L ∧ H' q.r = some (.tup [q.v, q.u]) ∧ Lk H0 q.v q.u q.n
theorem StOk.ext {H0 H' H2 : Hp} {L : Addr} {st : List It4} (e : ExB L H' H2) (h : StOk H0 H' L st) : StOk H0 H2 L st := fun q hq => by
  obtain ⟨h1, h2, h3⟩ := h q hq
  exact ⟨h1, e _ _ h1 h2, h3⟩
theorem StOk.app {H0 H' : Hp} {L : Addr} {st st' : List It4} (h : StOk H0 H' L st) (h' : StOk H0 H' L st') : StOk H0 H' L (st ++ st') := fun q hq => by
  rcases List.mem_append.mp hq with z | z
  · exact h q z
  · exact h' q z
theorem wt_app {st st' : List It4} : wt (st ++ st') = wt st + wt st' := by simp [wt]
theorem wt_len {H0 H' : Hp} {L : Addr} {st : List It4} (h : StOk H0 H' L st) : st.length ≤ wt st := by
  induction st with
  | nil => exact Nat.le_refl _
  | cons q r ih =>
    have h1 := (h q List.mem_cons_self).2.2.pos
    have h2 := ih fun z hz => h z (List.mem_cons_of_mem _ hz)
    simp [wt] at h2 ⊢
    omega
/-! ### dicts -/
def itemK (ls : List (Key × V)) (i : Nat) : V := (ls.map fun q => kV q.1).getD i .non
theorem itemK_at {ls : List (Key × V)} {i : Nat} {k : Key} {v : V} (h : ls[i]? = some (k, v)) : itemK ls i = kV k := by
  unfold itemK
  rw [List.getD_eq_getElem?_getD, List.getElem?_map, h]
  rfl
theorem walks_key {d : Addr} {o : Obj} {ls : List (Key × V)} {H : Hp} (h : H d = some (.frz o (.dK ls))) : Walks (Itk d o ls) ls.length (itemK ls) H := by
  refine ⟨fun i H1 e hi => ⟨e _ _ h, hi⟩, fun i H1 x H' e hi hy => ?_, fun H1 e => ⟨e _ _ h, Nat.le_refl _⟩⟩
  obtain ⟨h1, k, v, h2, h3⟩ := hy
  exact ⟨h1, by rw [h3, itemK_at h2]⟩
theorem valV_at {ks : List (Key × V)} (hd : (ks.map (·.1)).Nodup) {i : Nat} {k : Key} {v : V} (h : ks[i]? = some (k, v)) : valV ks k = some v := by
  induction ks generalizing i with
  | nil => simp at h
  | cons q r ih =>
    rw [List.map_cons, List.nodup_cons] at hd
    cases i with
    | zero =>
      simp at h
      subst h
      simp [valV]
    | succ i =>
      have h2 : r[i]? = some (k, v) := by simpa using h
      have ne : q.1 ≠ k := fun z => hd.1 (by
        rw [z]
        exact List.mem_map.mpr ⟨(k, v), List.mem_of_getElem? h2, rfl⟩)
      have := ih hd.2 h2
      unfold valV at this ⊢
      rw [List.find?_cons_of_neg (by simpa using ne)]
      exact this
/-- the i-th key of two dicts of the same keys, its value in each -/
theorem dic_at {ks ls : List (Key × V)} (hk : ks.map (·.1) = ls.map (·.1)) (hd : (ls.map (·.1)).Nodup) {i : Nat} (hi : i < ls.length) :
    ∃ k, itemK ls i = kV k ∧ valV ks k = some ((ks.map (·.2)).getD i .non) ∧ valV ls k = some ((ls.map (·.2)).getD i .non) := by
  have hl : ks.length = ls.length := by
    have := congrArg List.length hk
    simpa using this
  have hi2 : i < ks.length := by omega
  have e : ks[i].1 = ls[i].1 := by
    have h1 : (ks.map (·.1))[i]? = some ks[i].1 := by rw [List.getElem?_map, List.getElem?_eq_getElem hi2]; rfl
    have h2 : (ls.map (·.1))[i]? = some ls[i].1 := by rw [List.getElem?_map, List.getElem?_eq_getElem hi]; rfl
    rw [hk, h2] at h1
    exact (Option.some.inj h1).symm
  refine ⟨ls[i].1, itemK_at (v := ls[i].2) (by rw [List.getElem?_eq_getElem hi]), ?_, ?_⟩
  · have h := valV_at (by rw [hk]; exact hd) (i := i) (k := ks[i].1) (v := ks[i].2) (by rw [List.getElem?_eq_getElem hi2])
    rw [← e, h, List.getD_eq_getElem?_getD, List.getElem?_map, List.getElem?_eq_getElem hi2]
    rfl
  · have h := valV_at hd (i := i) (k := ls[i].1) (v := ls[i].2) (by rw [List.getElem?_eq_getElem hi])
    rw [h, List.getD_eq_getElem?_getD, List.getElem?_map, List.getElem?_eq_getElem hi]
    rfl
/-- a dict is read also where it is locked -/
theorem rd_lock {H H' : Hp} {a b : Addr} {o : Obj} {ks ls : List (Key × V)} (ha : H a = some (.dK ks)) (hb : H b = some (.dK ls)) (e : Ex (upd H b (.frz o (.dK ls))) H') : Rd H' a (.dK ks) := by
  by_cases z : a = b
  · subst z
    rw [hb] at ha
    cases ha
    exact .inr ⟨o, e _ _ upd_same⟩
  · exact .inl (e _ _ (by rw [upd_ne z]; exact ha))
theorem ex_lock {H H' : Hp} {b : Addr} {o : Obj} {u : HO} (hb : H b = some u) (e : Ex (upd H b (.frz o u)) H') : Ex H (upd H' b u) := fun a w h => by
  by_cases z : a = b
  · subst z
    rw [hb] at h
    cases h
    exact upd_same
  · rw [upd_ne z]
    exact e _ _ (by rw [upd_ne z]; exact h)
/-! ### the pairs that a list comprehension makes -/
def Made (H0 : Hp) (L : Addr) (vs us : List V) (ns : List Nat) (D : Addr) (j : Nat) (acc : List V) (H' : Hp) : Prop :=
  ∃ its : List It4, acc = refs its ∧ its.map (·.n) = (List.range j).map (fun i => ns.getD i 0) ∧ ∀ q ∈ its, q.r ≠ D ∧ q.r ≠ L ∧ H' q.r = some (.tup [q.v, q.u]) ∧ Lk H0 q.v q.u q.n
theorem Made.nil {H0 : Hp} {L : Addr} {vs us : List V} {ns : List Nat} {D : Addr} {H' : Hp} : Made H0 L vs us ns D 0 [] H' := ⟨[], rfl, rfl, fun q hq => absurd hq (by simp)⟩
theorem Made.mono {H0 : Hp} {L : Addr} {vs us : List V} {ns : List Nat} {D : Addr} {j : Nat} {acc : List V} {H1 H2 : Hp} (e : ExB D H1 H2) (h : Made H0 L vs us ns D j acc H1) : Made H0 L vs us ns D j acc H2 := by
  obtain ⟨its, h1, h2, h3⟩ := h
  refine ⟨its, h1, h2, fun q hq => ?_⟩
  obtain ⟨a, b, c, d⟩ := h3 q hq
  exact ⟨a, b, e _ _ a c, d⟩
theorem Made.next {H0 : Hp} {L : Addr} {vs us : List V} {ns : List Nat} {D : Addr} {j : Nat} {acc : List V} {H1 : Hp} {t : Addr} {o oL : HO} (h : Made H0 L vs us ns D j acc H1) (ht : H1 t = none) (hD : H1 D = some o) (hL : H1 L = some oL)
    (lk : Lk H0 (vs.getD j .non) (us.getD j .non) (ns.getD j 0)) : Made H0 L vs us ns D (j + 1) (acc ++ [.ref t]) (upd H1 t (.tup [vs.getD j .non, us.getD j .non])) := by
  obtain ⟨its, rfl, h2, h3⟩ := h
  refine ⟨its ++ [⟨t, vs.getD j .non, us.getD j .non, ns.getD j 0⟩], by simp [refs], by rw [List.range_succ]; simp [h2], fun q hq => ?_⟩
  rcases List.mem_append.mp hq with z | z
  · obtain ⟨a, b, c, d⟩ := h3 q z
    exact ⟨a, b, by rw [upd_ne (ne_of_none c ht)]; exact c, d⟩
  · obtain rfl := List.mem_singleton.mp z
    exact ⟨(ne_of_none hD ht).symm, (ne_of_none hL ht).symm, upd_same, lk⟩
theorem Made.wt {H0 : Hp} {L : Addr} {vs us : List V} {ns : List Nat} {D : Addr} {acc : List V} {H1 : Hp} (h : Made H0 L vs us ns D ns.length acc H1) : ∃ its : List It4, acc = refs its ∧ K9.wt its = ns.sum ∧ StOk H0 H1 L its := by
  obtain ⟨its, h1, h2, h3⟩ := h
  refine ⟨its, h1, ?_, fun q hq => (h3 q hq).2⟩
  unfold K9.wt
  rw [h2]
  congr 1
  refine List.ext_getElem (by simp) fun i h4 h5 => ?_
  simp [List.getD_eq_getElem?_getD, List.getElem?_eq_getElem h5]
theorem cons_l {te : TE} {t : TA} {σ : L2.St} {H : Hp} {Q : List V → Hp → Prop} (h : te σ H fun x H1 => t σ H1 fun xs H2 => Q (x :: xs) H2) : tCons te t σ H Q := h
theorem getD_at {vs : List V} {j : Nat} (h : j < vs.length) : vs[j]? = some (vs.getD j .non) := by
  rw [List.getD_eq_getElem?_getD, List.getElem?_eq_getElem h]
  rfl
theorem ite0 {c : Prop} [Decidable c] {A B : Prop} (h : ¬ c) (b : B) : if c then A else B := by
  rw [if_neg h]
  exact b
theorem ite1 {c : Prop} [Decidable c] {A B : Prop} (h : c) (b : A) : if c then A else B := by
  rw [if_pos h]
  exact b
end K9

namespace K9
open PySem PySem.Spec PyProof.Rows L2 L2H HotX Evl
/-! ### isinstance of an error or of another value -/
def rIsA (K : PySem.W.Frag) (l : List (Addr × Obj)) : List V → Hp → VK → Prop := fun xs H Q => rIsE1 K l xs H Q ∨ rIsi K xs H Q
theorem call_isA {X : Cx} : CallR X (.builtin "isinstance") (rIsA X.K X.pn) := by
  intro pins s σ H xs us Q I r h
  rcases h with h | h
  · exact call_isE1 pins s σ H xs us Q I r h
  · exact call_isi pins s σ H xs us Q I r h
theorem kit_ty {K : PySem.W.Frag} {C : Addr} {T : String} (E : ErrC K C) (h : PySem.W.subIn K (.type T) (.ref C) = some false) : PySem.W.kitOne K (.type T) (.ref C) = some false := by
  unfold PySem.W.kitOne PySem.W.kitCls
  rw [if_neg (by
    intro z
    have := eq_of_beq z
    cases this)]
  simp only [E.cl, E.ox.tyC, beq_self_eq_true, Bool.and_self, if_true]
  exact h
theorem Lk.ty1 {K : PySem.W.Frag} {H : Hp} {v u : V} {n : Nat} (h : Lk H v u n) (C : Addr) : ∃ T, TyX K H v (.type T) ∧ PySem.W.subIn K (.type T) (.ref C) = some false := by
  cases h with
  | non => exact ⟨_, .base .non, rfl⟩
  | bl b => exact ⟨_, .base (.bl _), rfl⟩
  | int i => exact ⟨_, .base (.int _), rfl⟩
  | str z => exact ⟨_, .base (.str _), rfl⟩
  | lst ha hb _ => exact ⟨_, .base (.lst ha), rfl⟩
  | tup ha hb _ => exact ⟨_, .base (.tup ha), rfl⟩
  | dic ha hb _ _ _ => exact ⟨_, .base (.dK ha), rfl⟩
theorem Lk.ty2 {K : PySem.W.Frag} {H : Hp} {v u : V} {n : Nat} (h : Lk H v u n) (C : Addr) : ∃ T, TyX K H u (.type T) ∧ PySem.W.subIn K (.type T) (.ref C) = some false := by
  cases h with
  | non => exact ⟨_, .base .non, rfl⟩
  | bl b => exact ⟨_, .base (.bl _), rfl⟩
  | int i => exact ⟨_, .base (.int _), rfl⟩
  | str z => exact ⟨_, .base (.str _), rfl⟩
  | lst ha hb _ => exact ⟨_, .base (.lst hb), rfl⟩
  | tup ha hb _ => exact ⟨_, .base (.tup hb), rfl⟩
  | dic ha hb _ _ _ => exact ⟨_, .base (.dK hb), rfl⟩
/-! ### what more pins change: nothing -/
theorem Err.more {l : List (Addr × Obj)} {H : Hp} {a C : Addr} {o : Option (List (Str × V))} (h : Err [] H a C o) : Err l H a C o := by
  have t : ∀ d, EAt [] H a C d → EAt l H a C d := fun d h => by
    rcases h with h | ⟨oe, hp, _⟩
    · exact .inl h
    · cases hp
  cases o with
  | none => exact t _ h
  | some fs =>
    obtain ⟨d, h1, h2⟩ := h
    exact ⟨d, t _ h1, h2⟩
/-! ### a list of four numbers that changes to another one -/
def Four (H : Hp) (b : Addr) : Prop := ∃ (g m c : Int) (w : Bool), H b = some (.lst [.int g, .bl w, .int m, .int c])
theorem same_at {H : Hp} {a1 a2 : Addr} {o1 o2 : HO} (hv : V.ref a1 = V.ref a2) (ha : H a1 = some o1) (hb : H a2 = some o2) : o1 = o2 := by
  cases hv
  rw [ha] at hb
  exact Option.some.inj hb
theorem four_n {g m c : Int} {w : Bool} {H : Hp} {n : Nat} {us : List V} (hs : LkL H [.int g, .bl w, .int m, .int c] us n) : n = 1 + (1 + (1 + (1 + 0))) := by
  cases hs with
  | cons h hs => cases h with
    | int => cases hs with
      | cons h hs => cases h with
        | bl => cases hs with
          | cons h hs => cases h with
            | int => cases hs with
              | cons h hs => cases h with
                | int => cases hs with
                  | nil => rfl
theorem four_lst {H H' : Hp} {b : Addr} (e : ExB b H H') (h0 : Four H b) (h1 : Four H' b) {a1 a2 : Addr} {vs us : List V} {n : Nat} (hv : V.ref a1 = V.ref a2) (ha : H a1 = some (.lst vs)) (hb : H a2 = some (.lst us)) (hs : LkL H vs us n) (ih : LkL H' vs us n) : Lk H' (.ref a1) (.ref a2) (n + 1) := by
  cases hv
  by_cases z : a1 = b
  · subst z
    obtain ⟨g, m, c, w, x⟩ := h0
    obtain ⟨g', m', c', w', x'⟩ := h1
    rw [x] at ha
    cases ha
    rw [four_n hs]
    exact .lst x' x' (.cons (.int _) (.cons (.bl _) (.cons (.int _) (.cons (.int _) .nil))))
  · exact .lst (e _ _ z ha) (e _ _ z hb) ih
theorem not_four {H : Hp} {a b : Addr} {o : HO} (h0 : Four H b) (ha : H a = some o) (no : ∀ vs, o ≠ .lst vs) : a ≠ b := fun z => by
  obtain ⟨g, m, c, w, x⟩ := h0
  rw [z, x] at ha
  exact no _ (Option.some.inj ha).symm
mutual
theorem Lk.four {H H' : Hp} {b : Addr} (e : ExB b H H') (h0 : Four H b) (h1 : Four H' b) {v u : V} {n : Nat} (h : Lk H v u n) (hv : v = u) : Lk H' v u n :=
  match h with
  | .non => .non
  | .bl b => .bl b
  | .int i => .int i
  | .str z => .str z
  | .lst ha hb hs => four_lst e h0 h1 hv ha hb hs (hs.four e h0 h1 (HO.lst.inj (same_at hv ha hb)))
  | .tup ha hb hs => .tup (e _ _ (not_four h0 ha fun _ => nofun) ha) (e _ _ (not_four h0 hb fun _ => nofun) hb) (hs.four e h0 h1 (HO.tup.inj (same_at hv ha hb)))
  | .dic ha hb hk hd hs => .dic (e _ _ (not_four h0 ha fun _ => nofun) ha) (e _ _ (not_four h0 hb fun _ => nofun) hb) hk hd (hs.four e h0 h1 (congrArg (List.map (·.2)) (HO.dK.inj (same_at hv ha hb))))
theorem LkL.four {H H' : Hp} {b : Addr} (e : ExB b H H') (h0 : Four H b) (h1 : Four H' b) {vs us : List V} {n : Nat} (h : LkL H vs us n) (hv : vs = us) : LkL H' vs us n :=
  match h with
  | .nil => .nil
  | .cons h2 h3 => .cons (h2.four e h0 h1 (List.cons.inj hv).1) (h3.four e h0 h1 (List.cons.inj hv).2)
end
theorem Err.four {l : List (Addr × Obj)} {H H' : Hp} {b a C : Addr} {o : Option (List (Str × V))} (e : ExB b H H') (h0 : Four H b) (h : Err l H a C o) : Err l H' a C o := by
  obtain ⟨g, m, c, w, x⟩ := h0
  have t : ∀ d, EAt l H a C d → EAt l H' a C d := fun d h => by
    rcases h with h | h
    · refine .inl (e _ _ (fun z => ?_) h)
      rw [z, x] at h
      cases h
    · exact .inr h
  cases o with
  | none => exact t _ h
  | some fs =>
    obtain ⟨d, h1, h2⟩ := h
    refine ⟨d, t _ h1, ?_⟩
    rcases h2 with h2 | h2
    · refine .inl (e _ _ (fun z => ?_) h2)
      rw [z, x] at h2
      cases h2
    · refine .inr (e _ _ (fun z => ?_) h2)
      rw [z, x] at h2
      cases h2
end K9

namespace K9
open PySem PySem.Spec PyProof.Rows L2 L2H HotX Evl
/-! ### a for loop, by an invariant -/
theorem for_by {wi : TI} {i : Nat} {tb : TS} {D} {σ : L2.St} {H : Hp} {J : It} {n : Nat} {item : Nat → V} (P : Nat → L2.St → Hp → Prop) (hw : ∀ R : It → Hp → Prop, R J H → wi σ H R) (wk : Walks J n item H) (h0 : P 0 σ H)
    (step : ∀ (j : Nat) (σ1 : L2.St) (H1 : Hp) (N : L2.St → Hp → Prop), j < n → Ex H H1 → P j σ1 H1 → (∀ σ2 H2, Ex H1 H2 → P (j + 1) σ2 H2 → N σ2 H2) → tb { nx := N, rt := D.rt, bk := D.nx, ct := N } (σ1.set i (some (item j))) H1)
    (fin : ∀ σ1 H1, Ex H H1 → P n σ1 H1 → D.nx σ1 H1) : tFor wi (gName i) tb D σ H := by
  refine hw _ ⟨fun j m σ1 H1 => m = n - j ∧ j ≤ n ∧ Ex H H1 ∧ P j σ1 H1, ⟨n - 0, rfl, Nat.zero_le _, Ex.refl H, h0⟩, ?_⟩
  rintro j m σ1 H1 ⟨rfl, hj, e, hp⟩
  by_cases hjn : j = n
  · subst hjn
    exact .inl ⟨wk.stop H1 e, fin σ1 H1 e hp⟩
  · have hj2 : j < n := by omega
    refine .inr ⟨wk.go j H1 e hj2, fun σ' H' => n - (j + 1) < n - j ∧ j + 1 ≤ n ∧ Ex H H' ∧ P (j + 1) σ' H', ?_, ?_⟩
    · rintro σ' H' ⟨h1, h2, h3⟩
      exact ⟨n - (j + 1), h1, rfl, h2, h3⟩
    · intro x H' hy
      obtain ⟨rfl, rfl⟩ := wk.yld j H1 x H' e hj2 hy
      exact step j σ1 H' _ hj2 e hp fun σ2 H2 e2 p2 => ⟨by omega, by omega, e.trans e2, p2⟩
theorem paired_get {α β : Type} {R : α → β → Prop} {xs : List α} {ys : List β} (h : Paired R xs ys) {j : Nat} {y : β} (e : ys[j]? = some y) : ∃ x, xs[j]? = some x ∧ R x y := by
  induction h generalizing j with
  | nil => simp at e
  | cons r _ ih =>
    cases j with
    | zero =>
      simp at e
      subst e
      exact ⟨_, rfl, r⟩
    | succ j =>
      simp at e
      obtain ⟨x, h1, h2⟩ := ih e
      exact ⟨x, by simpa using h1, h2⟩
theorem ErrsAt.get {K : PySem.W.Frag} {l : List (Addr × Obj)} {H : Hp} {rs : List V} {qs : List (Str × List (Str × V))} (h : ErrsAt K l H rs qs) {j : Nat} {q : Str × List (Str × V)} (e : qs[j]? = some q) : ∃ a, rs[j]? = some (.ref a) ∧ Err l H a (He.ga K q.1) (some q.2) := by
  obtain ⟨x, h1, a, rfl, h2⟩ := paired_get h e
  exact ⟨a, h1, h2⟩
theorem nx_p {nx bk ct : L2.St → Hp → Prop} {rt : VK} {σ : L2.St} {H : Hp} (h : nx σ H) : ({ nx := nx, rt := rt, bk := bk, ct := ct } : Ends).nx σ H := h
theorem ifs_op {r : R2} {ta tb : TE} {t u : TS} {D : Ends} {σ : L2.St} {H : Hp} (h : ta σ H fun x H1 => tb σ H1 fun y H2 => r x y H2 fun z H3 => ∃ c, z = .bl c ∧ if c = true then t D σ H3 else u D σ H3) : tIfS (tTest (tOp r ta tb)) t u D σ H := h
/-! ### the suite of an except: whatever object was caught -/
theorem suite_all {X : Cx} {a : Addr} {cls : Value} {d : Option Addr} {b : List Stmt} {t : Obj → List (Addr × Obj) → TS} (h : ∀ (oe : Obj) (pn : List (Addr × Obj)), L2N.Zn cls d oe → (∃ vs, oe.data = .fields vs) → PSs (X.suite a ((a, oe) :: pn)) b (t oe pn))
    (oe : Obj) (pn : List (Addr × Obj)) (hz : L2N.Zn cls d oe) (hf : ∃ vs, oe.data = .fields vs) : PSs (X.suite a ((a, oe) :: pn)) b (fun D σ H => ∀ (oe : Obj) (pn : List (Addr × Obj)), L2N.Zn cls d oe → (∃ vs, oe.data = .fields vs) → t oe pn D σ H) :=
  ⟨fun pins s σ H D I g => (h oe pn hz hf).run pins s σ H D I (g oe pn hz hf)⟩
theorem markR {k : Nat} {A : Around} {o : Option Value} (hr : Room k A) : RoomH k (A.mark o) := ⟨hr.dp, hr.un⟩
theorem takes_never {X : Cx} : L2N.Takes X (fun _ _ _ _ => False) := fun u s' ⟨_, _, _, _, _, _, _, _, _, _, _, _, _, _, _, _, h⟩ => h.elim
/-- the caught error, with its fields -/
theorem caught_err {H : Hp} {a C d : Addr} {oe : Obj} {fs : List (Str × V)} (hz : L2N.Zn (.ref C) (some d) oe) (hf : ∃ vs, oe.data = .fields vs) (h : H d = some (.xd fs)) : Err [(a, oe)] H a C (some fs) :=
  ⟨d, .inr ⟨oe, List.mem_singleton.mpr rfl, ⟨hz.1, hz.2.1⟩, hf⟩, .inr h⟩
theorem caught_err0 {H : Hp} {a C : Addr} {oe : Obj} (hz : L2N.Zn (.ref C) none oe) (hf : ∃ vs, oe.data = .fields vs) : Err [(a, oe)] H a C none :=
  .inr ⟨oe, List.mem_singleton.mpr rfl, ⟨hz.1, hz.2.1⟩, hf⟩
section
variable {X : Cx} {W : WX} {n : Nat} {ns ks : List Str} {ix : List Nat} {ways : List (Nat × List Str × List Nat)} {x : Str} {p pos pos2 : Pos} {e : Expr} {es : List Expr} {kws : List Keyword} {t tk : TA}
theorem ps_raise_iniK {K0 : PySem.W.Frag} (hw : L2N.Takes X W) (hK : X.K = K0) (i : Ini X.prog X.w X.K X.mg X.base x ns ways) (hq : (n + 1, ks, ix) ∈ ways) (hr : RoomH 2 X.A) (hc : X.calm = true) (hg : Gl X x) (ha : PA X (e :: es) t) (hkw : PK X kws tk) (hn : n ≤ 1000 := by decide)
    (hall : (backToKw pos (keywordEach kws X.env)).all (·.1.isSome) = true := by rfl) (hks : (backToKw pos (keywordEach kws X.env)).filterMap (·.1) = ks := by rfl)
    (hdb : (x == ("__debug__" : Str)) = false := by decide) (he : starEach (e :: es) X.env = (false, eval e X.env) :: starEach es X.env := by rfl)
    (hpl : ((backTo pos (starEach (e :: es) X.env)).any (·.1) || (backToKw pos (keywordEach kws X.env)).any (·.1.isNone)) = false := by rfl) :
    PS X (.Raise (some (.Call (.Name x p) (e :: es) kws pos)) none pos2) (fun _ σ H => tMkE (He.ga K0 x) n ks.length ns (gPV ix) t tk σ H fun cls d H' => W cls d σ H') := by
  subst hK
  exact L2N.ps_raise hc hw (pmk_iniK i hq hr hc hg ha hkw hn hall hks hdb he hpl)
theorem ps_raise_ini0 {K0 : PySem.W.Frag} (hw : L2N.Takes X W) (hK : X.K = K0) (i : Ini X.prog X.w X.K X.mg X.base x ns ways) (hq : (1, ks, ix) ∈ ways) (hr : RoomH 2 X.A) (hc : X.calm = true) (hg : Gl X x) (hkw : PK X kws tk)
    (hall : (backToKw pos (keywordEach kws X.env)).all (·.1.isSome) = true := by rfl) (hks : (backToKw pos (keywordEach kws X.env)).filterMap (·.1) = ks := by rfl)
    (hdb : (x == ("__debug__" : Str)) = false := by decide)
    (hpl : ((backTo pos (starEach [] X.env)).any (·.1) || (backToKw pos (keywordEach kws X.env)).any (·.1.isNone)) = false := by rfl) :
    PS X (.Raise (some (.Call (.Name x p) [] kws pos)) none pos2) (fun _ σ H => tMkE (He.ga K0 x) 0 ks.length ns (gPV ix) tNil tk σ H fun cls d H' => W cls d σ H') := by
  subst hK
  exact L2N.ps_raise hc hw (pmk_ini0 i hq hr hc hg hkw hall hks hdb hpl)
theorem ps_raise_X {bmB : List Value} {B newId initId : String} {C : Addr} (hw : L2N.Takes X W) (hc : X.calm = true) (F : ExcBaseFacts B newId initId bmB) (q : PySem.W.excIn X.K C bmB newId = true) (gC : X.mg x = some (.ref C)) (kC : PySem.W.keepIn X.K (.ref C) = true) (r : Raises X (.ref C)) (hg : Gl X x)
    (hdb : (x == ("__debug__" : Str)) = false := by decide) : PS X (.Raise (some (.Call (.Name x p) [] [] pos)) none pos2) (fun _ σ H => W (.ref C) none σ H) :=
  L2N.ps_raise hc hw (pmk_X F q gC kC r hg hdb)
end
/-- a try statement's body, its suite -/
def tryBody (b : List Stmt) (i : Nat) : List Stmt := match b[i]? with
  | some (.Try body _ _ _ _) => body
  | _ => []
def trySuite (b : List Stmt) (i : Nat) : List Stmt := match b[i]? with
  | some (.Try _ [.ExceptHandler _ _ s _] _ _ _) => s
  | _ => []
end K9

namespace Hd
open PySem PySem.Spec PyProof.Rows L2
def top (i : Nat) : Stmt := PySem.Challenge.pw_mostspecial_k00_errors.main.body.getD i (.Pass ⟨0, 0, 0, 0⟩)
def d__law_cell : He.DefD := ⟨("_law_cell", none), "_law_cell", "_law_cell", defArgs (top 42), defBody (top 42), defScope (top 42), [], []⟩
def d__law_box : He.DefD := ⟨("_law_box", none), "_law_box", "_law_box", defArgs (top 43), defBody (top 43), defScope (top 43), [], []⟩
def d__law_take : He.DefD := ⟨("_law_take", none), "_law_take", "_law_take", defArgs (top 44), defBody (top 44), defScope (top 44), [], []⟩
def d__law_like : He.DefD := ⟨("_law_like", none), "_law_like", "_law_like", defArgs (top 45), defBody (top 45), defScope (top 45), [], []⟩
def d__law_by_place : He.DefD := ⟨("_law_by_place", none), "_law_by_place", "_law_by_place", defArgs (top 46), defBody (top 46), defScope (top 46), [], []⟩
def d__law_by_name : He.DefD := ⟨("_law_by_name", none), "_law_by_name", "_law_by_name", defArgs (top 47), defBody (top 47), defScope (top 47), [], []⟩
def d__law_several : He.DefD := ⟨("_law_several", none), "_law_several", "_law_several", defArgs (top 48), defBody (top 48), defScope (top 48), [], []⟩
def d__law_sorts : He.DefD := ⟨("_law_sorts", none), "_law_sorts", "_law_sorts", defArgs (top 49), defBody (top 49), defScope (top 49), [], []⟩
def d__law_is : He.DefD := ⟨("_law_is", none), "_law_is", "_law_is", defArgs (top 50), defBody (top 50), defScope (top 50), [], []⟩
def d__law_kept : He.DefD := ⟨("_law_kept", none), "_law_kept", "_law_kept", defArgs (top 51), defBody (top 51), defScope (top 51), [], []⟩
def d__law_several_kept : He.DefD := ⟨("_law_several_kept", none), "_law_several_kept", "_law_several_kept", defArgs (top 52), defBody (top 52), defScope (top 52), [], []⟩
def d__law_thing : He.DefD := ⟨("_law_thing", none), "_law_thing", "_law_thing", defArgs (top 53), defBody (top 53), defScope (top 53), [], []⟩
def d__law_same : He.DefD := ⟨("_law_same", none), "_law_same", "_law_same", defArgs (top 54), defBody (top 54), defScope (top 54), [], []⟩
def d__law_caught : He.DefD := ⟨("_law_caught", none), "_law_caught", "_law_caught", defArgs (top 55), defBody (top 55), defScope (top 55), [], []⟩
def d__law_ones_right : He.DefD := ⟨("_law_ones_right", none), "_law_ones_right", "_law_ones_right", defArgs (top 56), defBody (top 56), defScope (top 56), [], []⟩
def d__law_several_right : He.DefD := ⟨("_law_several_right", none), "_law_several_right", "_law_several_right", defArgs (top 57), defBody (top 57), defScope (top 57), [], []⟩
def d__law_grown_right : He.DefD := ⟨("_law_grown_right", none), "_law_grown_right", "_law_grown_right", defArgs (top 58), defBody (top 58), defScope (top 58), [], []⟩
def d_law : He.DefD := ⟨("law", none), "law", "law", defArgs (top 59), defBody (top 59), defScope (top 59), [], []⟩
def d_InvalidNames___init__ : He.DefD := ⟨("InvalidNames", some "__init__"), "__init__", "InvalidNames.__init__", defArgs (inClass (top 2) 0), defBody (inClass (top 2) 0), defScope (inClass (top 2) 0), [], []⟩
def d_InvalidKind___init__ : He.DefD := ⟨("InvalidKind", some "__init__"), "__init__", "InvalidKind.__init__", defArgs (inClass (top 3) 0), defBody (inClass (top 3) 0), defScope (inClass (top 3) 0), [], []⟩
def d_InvalidKinds___init__ : He.DefD := ⟨("InvalidKinds", some "__init__"), "__init__", "InvalidKinds.__init__", defArgs (inClass (top 4) 0), defBody (inClass (top 4) 0), defScope (inClass (top 4) 0), [], []⟩
def d_InvalidText___init__ : He.DefD := ⟨("InvalidText", some "__init__"), "__init__", "InvalidText.__init__", defArgs (inClass (top 5) 0), defBody (inClass (top 5) 0), defScope (inClass (top 5) 0), [], []⟩
def d_InvalidBinding___init__ : He.DefD := ⟨("InvalidBinding", some "__init__"), "__init__", "InvalidBinding.__init__", defArgs (inClass (top 6) 0), defBody (inClass (top 6) 0), defScope (inClass (top 6) 0), [], []⟩
def d_InvalidPatterns___init__ : He.DefD := ⟨("InvalidPatterns", some "__init__"), "__init__", "InvalidPatterns.__init__", defArgs (inClass (top 7) 0), defBody (inClass (top 7) 0), defScope (inClass (top 7) 0), [], []⟩
def d_InvalidUse___init__ : He.DefD := ⟨("InvalidUse", some "__init__"), "__init__", "InvalidUse.__init__", defArgs (inClass (top 8) 0), defBody (inClass (top 8) 0), defScope (inClass (top 8) 0), [], []⟩
def d_InvalidLine___init__ : He.DefD := ⟨("InvalidLine", some "__init__"), "__init__", "InvalidLine.__init__", defArgs (inClass (top 9) 0), defBody (inClass (top 9) 0), defScope (inClass (top 9) 0), [], []⟩
def d_InvalidWord___init__ : He.DefD := ⟨("InvalidWord", some "__init__"), "__init__", "InvalidWord.__init__", defArgs (inClass (top 10) 0), defBody (inClass (top 10) 0), defScope (inClass (top 10) 0), [], []⟩
def d_InvalidProgram___init__ : He.DefD := ⟨("InvalidProgram", some "__init__"), "__init__", "InvalidProgram.__init__", defArgs (inClass (top 11) 0), defBody (inClass (top 11) 0), defScope (inClass (top 11) 0), [], []⟩
def d_InvalidRoots___init__ : He.DefD := ⟨("InvalidRoots", some "__init__"), "__init__", "InvalidRoots.__init__", defArgs (inClass (top 12) 0), defBody (inClass (top 12) 0), defScope (inClass (top 12) 0), [], []⟩
def d_InvalidMost___init__ : He.DefD := ⟨("InvalidMost", some "__init__"), "__init__", "InvalidMost.__init__", defArgs (inClass (top 13) 0), defBody (inClass (top 13) 0), defScope (inClass (top 13) 0), [], []⟩
def d_InvalidLibrary___init__ : He.DefD := ⟨("InvalidLibrary", some "__init__"), "__init__", "InvalidLibrary.__init__", defArgs (inClass (top 14) 0), defBody (inClass (top 14) 0), defScope (inClass (top 14) 0), [], []⟩
def d_InvalidView___init__ : He.DefD := ⟨("InvalidView", some "__init__"), "__init__", "InvalidView.__init__", defArgs (inClass (top 15) 0), defBody (inClass (top 15) 0), defScope (inClass (top 15) 0), [], []⟩
def d_InvalidSort___init__ : He.DefD := ⟨("InvalidSort", some "__init__"), "__init__", "InvalidSort.__init__", defArgs (inClass (top 16) 0), defBody (inClass (top 16) 0), defScope (inClass (top 16) 0), [], []⟩
def d_InvalidLinked___init__ : He.DefD := ⟨("InvalidLinked", some "__init__"), "__init__", "InvalidLinked.__init__", defArgs (inClass (top 17) 0), defBody (inClass (top 17) 0), defScope (inClass (top 17) 0), [], []⟩
def d_InvalidPairs___init__ : He.DefD := ⟨("InvalidPairs", some "__init__"), "__init__", "InvalidPairs.__init__", defArgs (inClass (top 18) 0), defBody (inClass (top 18) 0), defScope (inClass (top 18) 0), [], []⟩
def d_InvalidRow___init__ : He.DefD := ⟨("InvalidRow", some "__init__"), "__init__", "InvalidRow.__init__", defArgs (inClass (top 19) 0), defBody (inClass (top 19) 0), defScope (inClass (top 19) 0), [], []⟩
def d_InvalidRows___init__ : He.DefD := ⟨("InvalidRows", some "__init__"), "__init__", "InvalidRows.__init__", defArgs (inClass (top 20) 0), defBody (inClass (top 20) 0), defScope (inClass (top 20) 0), [], []⟩
def d_InvalidRule___init__ : He.DefD := ⟨("InvalidRule", some "__init__"), "__init__", "InvalidRule.__init__", defArgs (inClass (top 21) 0), defBody (inClass (top 21) 0), defScope (inClass (top 21) 0), [], []⟩
def d_InvalidTerm___init__ : He.DefD := ⟨("InvalidTerm", some "__init__"), "__init__", "InvalidTerm.__init__", defArgs (inClass (top 22) 0), defBody (inClass (top 22) 0), defScope (inClass (top 22) 0), [], []⟩
def d_NotCovered___init__ : He.DefD := ⟨("NotCovered", some "__init__"), "__init__", "NotCovered.__init__", defArgs (inClass (top 23) 0), defBody (inClass (top 23) 0), defScope (inClass (top 23) 0), [], []⟩
def d_NoTaker___init__ : He.DefD := ⟨("NoTaker", some "__init__"), "__init__", "NoTaker.__init__", defArgs (inClass (top 24) 0), defBody (inClass (top 24) 0), defScope (inClass (top 24) 0), [], []⟩
def d_TwoLeast___init__ : He.DefD := ⟨("TwoLeast", some "__init__"), "__init__", "TwoLeast.__init__", defArgs (inClass (top 25) 0), defBody (inClass (top 25) 0), defScope (inClass (top 25) 0), [], []⟩
def d_HasTwo___init__ : He.DefD := ⟨("HasTwo", some "__init__"), "__init__", "HasTwo.__init__", defArgs (inClass (top 26) 0), defBody (inClass (top 26) 0), defScope (inClass (top 26) 0), [], []⟩
def d_NoChoice___init__ : He.DefD := ⟨("NoChoice", some "__init__"), "__init__", "NoChoice.__init__", defArgs (inClass (top 27) 0), defBody (inClass (top 27) 0), defScope (inClass (top 27) 0), [], []⟩
def d_TwoChoices___init__ : He.DefD := ⟨("TwoChoices", some "__init__"), "__init__", "TwoChoices.__init__", defArgs (inClass (top 28) 0), defBody (inClass (top 28) 0), defScope (inClass (top 28) 0), [], []⟩
def d_Lacks___init__ : He.DefD := ⟨("Lacks", some "__init__"), "__init__", "Lacks.__init__", defArgs (inClass (top 29) 0), defBody (inClass (top 29) 0), defScope (inClass (top 29) 0), [], []⟩
def d_RingOfConstants___init__ : He.DefD := ⟨("RingOfConstants", some "__init__"), "__init__", "RingOfConstants.__init__", defArgs (inClass (top 30) 0), defBody (inClass (top 30) 0), defScope (inClass (top 30) 0), [], []⟩
def d_TooFar___init__ : He.DefD := ⟨("TooFar", some "__init__"), "__init__", "TooFar.__init__", defArgs (inClass (top 32) 0), defBody (inClass (top 32) 0), defScope (inClass (top 32) 0), [], []⟩
def d_TooMany___init__ : He.DefD := ⟨("TooMany", some "__init__"), "__init__", "TooMany.__init__", defArgs (inClass (top 33) 0), defBody (inClass (top 33) 0), defScope (inClass (top 33) 0), [], []⟩
def d_NotApart___init__ : He.DefD := ⟨("NotApart", some "__init__"), "__init__", "NotApart.__init__", defArgs (inClass (top 34) 0), defBody (inClass (top 34) 0), defScope (inClass (top 34) 0), [], []⟩
def d_NoTerm___init__ : He.DefD := ⟨("NoTerm", some "__init__"), "__init__", "NoTerm.__init__", defArgs (inClass (top 35) 0), defBody (inClass (top 35) 0), defScope (inClass (top 35) 0), [], []⟩
def d_NotMet___init__ : He.DefD := ⟨("NotMet", some "__init__"), "__init__", "NotMet.__init__", defArgs (inClass (top 36) 0), defBody (inClass (top 36) 0), defScope (inClass (top 36) 0), [], []⟩
def d_TooLong___init__ : He.DefD := ⟨("TooLong", some "__init__"), "__init__", "TooLong.__init__", defArgs (inClass (top 37) 0), defBody (inClass (top 37) 0), defScope (inClass (top 37) 0), [], []⟩
def d_Dead___init__ : He.DefD := ⟨("Dead", some "__init__"), "__init__", "Dead.__init__", defArgs (inClass (top 38) 0), defBody (inClass (top 38) 0), defScope (inClass (top 38) 0), [], []⟩
def d_AsksTwo___init__ : He.DefD := ⟨("AsksTwo", some "__init__"), "__init__", "AsksTwo.__init__", defArgs (inClass (top 39) 0), defBody (inClass (top 39) 0), defScope (inClass (top 39) 0), [], []⟩
def d_Unlike___init__ : He.DefD := ⟨("Unlike", some "__init__"), "__init__", "Unlike.__init__", defArgs (inClass (top 40) 0), defBody (inClass (top 40) 0), defScope (inClass (top 40) 0), [], []⟩
def fn0 : List He.DefD := [d__law_cell, d__law_box, d__law_take, d__law_like, d__law_by_place, d__law_by_name, d__law_several, d__law_sorts, d__law_is, d__law_kept, d__law_several_kept, d__law_thing, d__law_same, d__law_caught, d__law_ones_right, d__law_several_right, d__law_grown_right, d_law, d_InvalidNames___init__, d_InvalidKind___init__, d_InvalidKinds___init__, d_InvalidText___init__, d_InvalidBinding___init__, d_InvalidPatterns___init__, d_InvalidUse___init__, d_InvalidLine___init__, d_InvalidWord___init__, d_InvalidProgram___init__, d_InvalidRoots___init__, d_InvalidMost___init__]
def fn1 : List He.DefD := [d_InvalidLibrary___init__, d_InvalidView___init__, d_InvalidSort___init__, d_InvalidLinked___init__, d_InvalidPairs___init__, d_InvalidRow___init__, d_InvalidRows___init__, d_InvalidRule___init__, d_InvalidTerm___init__, d_NotCovered___init__, d_NoTaker___init__, d_TwoLeast___init__, d_HasTwo___init__, d_NoChoice___init__, d_TwoChoices___init__, d_Lacks___init__, d_RingOfConstants___init__, d_TooFar___init__, d_TooMany___init__, d_NotApart___init__, d_NoTerm___init__, d_NotMet___init__, d_TooLong___init__, d_Dead___init__, d_AsksTwo___init__, d_Unlike___init__]
def fn : List He.DefD := fn0 ++ fn1
def fa0 : List He.Fa := [.exc "TooGreat", .glo "_law_cell", .glo "_law_box", .glo "_law_take", .glo "_law_like", .glo "_law_by_place", .glo "_law_by_name", .glo "_law_several", .glo "_law_sorts", .glo "_law_is", .glo "_law_kept", .glo "_law_several_kept", .glo "_law_thing", .glo "_law_same", .glo "_law_caught", .glo "_law_ones_right", .glo "_law_several_right", .glo "_law_grown_right", .glo "law", .glo "ChoiceError", .glo "InvalidNames", .glo "InvalidKind", .glo "InvalidKinds", .glo "InvalidText", .glo "InvalidBinding", .glo "InvalidPatterns", .glo "InvalidUse", .glo "InvalidLine", .glo "InvalidWord", .glo "InvalidProgram"]
def fa1 : List He.Fa := [.glo "InvalidRoots", .glo "InvalidMost", .glo "InvalidLibrary", .glo "InvalidView", .glo "InvalidSort", .glo "InvalidLinked", .glo "InvalidPairs", .glo "InvalidRow", .glo "InvalidRows", .glo "InvalidRule", .glo "InvalidTerm", .glo "NotCovered", .glo "NoTaker", .glo "TwoLeast", .glo "HasTwo", .glo "NoChoice", .glo "TwoChoices", .glo "Lacks", .glo "RingOfConstants", .glo "TooGreat", .glo "TooFar", .glo "TooMany", .glo "NotApart", .glo "NoTerm", .glo "NotMet", .glo "TooLong", .glo "Dead", .glo "AsksTwo", .glo "Unlike", .free "ValueError"]
def fa2 : List He.Fa := [.free "abs", .free "bool", .free "dict", .free "int", .free "isinstance", .free "len", .free "list", .free "max", .free "min", .free "range", .free "str", .free "sum", .free "tuple"]
def fa : List He.Fa := fa0 ++ fa1 ++ fa2
def lo0 : List PySem.Str := ["__name__", "ChoiceError", "InvalidNames", "InvalidKind", "InvalidKinds", "InvalidText", "InvalidBinding", "InvalidPatterns", "InvalidUse", "InvalidLine", "InvalidWord", "InvalidProgram", "InvalidRoots", "InvalidMost", "InvalidLibrary", "InvalidView", "InvalidSort", "InvalidLinked", "InvalidPairs", "InvalidRow", "InvalidRows", "InvalidRule", "InvalidTerm", "NotCovered", "NoTaker", "TwoLeast", "HasTwo", "NoChoice", "TwoChoices", "Lacks"]
def lo1 : List PySem.Str := ["RingOfConstants", "TooGreat", "TooFar", "TooMany", "NotApart", "NoTerm", "NotMet", "TooLong", "Dead", "AsksTwo", "Unlike", "_law_cell", "_law_box", "_law_take", "_law_like", "_law_by_place", "_law_by_name", "_law_several", "_law_sorts", "_law_is", "_law_kept", "_law_several_kept", "_law_thing", "_law_same", "_law_caught", "_law_ones_right", "_law_several_right", "_law_grown_right"]
def lo : List PySem.Str := lo0 ++ lo1
def errs1 : List Str := ["ChoiceError", "InvalidNames", "InvalidKind", "InvalidKinds", "InvalidText", "InvalidBinding", "InvalidPatterns", "InvalidUse", "InvalidLine", "InvalidWord", "InvalidProgram", "InvalidRoots", "InvalidMost", "InvalidLibrary", "InvalidView", "InvalidSort", "InvalidLinked", "InvalidPairs", "InvalidRow", "InvalidRows"]
def errs2 : List Str := ["InvalidRule", "InvalidTerm", "NotCovered", "NoTaker", "TwoLeast", "HasTwo", "NoChoice", "TwoChoices", "Lacks", "RingOfConstants", "TooFar", "TooMany", "NotApart", "NoTerm", "NotMet", "TooLong", "Dead", "AsksTwo", "Unlike"]
def ini : List Str := errs1.tail ++ errs2
def errs : List Str := "TooGreat" :: (errs1 ++ errs2)
def flds : List Str := ["given", "use", "generic", "terms", "word", "many", "most", "what", "sight", "asks", "mark", "text"]
def ex : PySem.W.Frag → Bool := K9.errsB errs "ChoiceError" ini flds

abbrev R : PySem.W.OpenRow := PySem.W.OpenLaw.row PySem.Challenge.rw_mostspecial_k00_errors
abbrev hk : PySem.W.Hook := He.hookX 4 fa fn [] [] ex
def ob (s : PySem.W.SharedT) : He.AlX := He.obsX 4 fa fn [] [] ex (HandSHeadRun.getT s)
theorem ob_eq (s : PySem.W.SharedT) : ob s = hk.obs s.abs := He.obsX_eq (HandSHeadRun.getT_eq s)
theorem run (w : World) : HandSHeadRun.RunEq R (PySem.W.view R.prog [59]) hk ob 20000 lo w := by
  intro os
  kernel_rfl
end Hd

namespace D0
open PySem PySem.Spec PyProof.Rows L2 L2H HotX Evl K9
abbrev top := Hd.top
abbrev errs := Hd.errs
/-- what the module's names are: the free ones, the classes -/
structure Txt (K : PySem.W.Frag) (mg : Str → Option Value) : Prop where
  f_abs : mg "abs" = none
  f_int : mg "int" = none
  f_bool : mg "bool" = none
  f_str : mg "str" = none
  f_list : mg "list" = none
  f_tuple : mg "tuple" = none
  f_dict : mg "dict" = none
  f_len : mg "len" = none
  f_sum : mg "sum" = none
  f_max : mg "max" = none
  f_min : mg "min" = none
  f_range : mg "range" = none
  f_isinstance : mg "isinstance" = none
  f_ValueError : mg "ValueError" = none
  g_cls : ∀ x ∈ errs, mg x = some (.ref (He.ga K x))
section
variable {P : Program} {w : World} {K : PySem.W.Frag} {mg : Str → Option Value} {base : Heap} {f : Addr} {fd : FuncData} {k : Nat}
/-! ### the drawing of numbers -/
def spCellD (K : PySem.W.Frag) : Sp := fun vs H Q _ => ∃ (a : Addr) (ns : List Int) (k : Nat), vs = [.ref a, .int (k : Int)] ∧ SqL K H a (ns.map V.int) ∧ ∀ (i : Int) (H' : Hp), Ex H H' → Q (.int i) H'
abbrev s_cell : Stmt := top 42
abbrev N_cell : List Str := ["script", "k"]
theorem sc_cell : FnScope N_cell ["script", "k"] (defScope s_cell) := ⟨rfl, rfl, rfl, by decide +kernel, rfl, by decide +kernel, by decide +kernel⟩
theorem ok_cell (T : Txt K mg) (F : FunD K "_law_cell" "_law_cell" (defArgs s_cell) (defBody s_cell) (defScope s_cell) [] [] f fd) (hm : mg "_law_cell" = some (.ref f)) : OkC P w K mg base (k + 1) "_law_cell" ["script", "k"] (spCellD K) := by
  refine okC_of F hm sc_cell (fun _ _ _ _ _ _ us hl => match us, hl with | [_, _], _ => rfl) (fun vs H Q E h => ?_) (fun cdv A outer s H vs Q E hr h => ?_)
  · obtain ⟨a, ns, k, rfl, _⟩ := h
    rfl
  · obtain ⟨a, ns, k, rfl, hS, q⟩ := h
    refine ⟨_, (pss_one (ps_ret (pe_ifExp (pt_cmpR op_lt (pv 1) (pe_callB call_len_seq (by rfl) T.f_len (by decide +kernel) (pa_cons (pv 0) pa_nil)) (nomark _)) (pe_ix ix_list (pv 0) (pv 1) fun _ _ => rfl) (pe_op op_add (pe_op op_mul pe_int (pv 1)) (pe_op op_mod (pe_callB (cr_sum rfl) (by rfl) T.f_sum (by decide +kernel) (pa_cons (pe_slice sl_list (pv 0) po_none (po_some pe_int)) pa_nil)) pe_int))))), ?_⟩
    refine ⟨_, rfl, _, rfl, a, _, rfl, .inl hS, _, _, rfl, rfl, _, rfl, ?_⟩
    refine ite2 (fun h => ?_) (fun h => ?_)
    · have hk2 : k < ns.length := by
        have z := of_decide_eq_true h
        rw [List.length_map] at z
        omega
      refine ⟨_, rfl, _, rfl, a, _, _, _, rfl, rfl, hS, atI_nat (v := V.int (ns[k]'hk2)) (by rw [List.getElem?_map, List.getElem?_eq_getElem hk2]; rfl), ?_⟩
      exact q _ _ (Ex.refl H)
    · refine ⟨_, rfl, _, _, rfl, rfl, ⟨.inl ⟨by decide, by decide⟩, ?_⟩⟩
      refine ⟨_, rfl, _, rfl, a, _, rfl, hS, fun p hp => ?_⟩
      refine ⟨p, ns.take 1, rfl, .inl (.inl ?_), _, _, rfl, rfl, (by show (0 : Int) < 1000033; decide), ?_⟩
      · rw [upd_same]
        have e : cutV (ns.map V.int) none (some 1) = (ns.take 1).map V.int := by
          unfold cutV
          rw [HT.sIx_none, show (some (1 : Int)) = some ((1 : Nat) : Int) from rfl, HT.sIx_nat, List.drop_zero, List.map_take, List.length_map]
          cases ns with
          | nil => rfl
          | cons x r => simp
        rw [e]
      · exact ⟨_, _, rfl, rfl, q _ _ (Ex.new hp)⟩
/-! the box: the great number that is left, whether it is great, its rest, how often the mixer ran -/
def BoxAt (H : Hp) (b : Addr) (n : Nat) : Prop := ∃ (g m c : Int) (w : Bool), H b = some (.lst [.int g, .bl w, .int m, .int c]) ∧ 0 ≤ g ∧ 0 ≤ m ∧ m < 2147483629 ∧ 0 ≤ c ∧ c ≤ n
def spBox : Sp := fun vs H Q _ => ∃ (i : Int), vs = [.int i] ∧ ∀ (b : Addr) (H' : Hp), H b = none → Ex H H' → BoxAt H' b 0 → Q (.ref b) H'
abbrev s_box : Stmt := top 43
abbrev N_box : List Str := ["great"]
theorem sc_box : FnScope N_box ["great"] (defScope s_box) := ⟨rfl, rfl, rfl, by decide +kernel, rfl, by decide +kernel, by decide +kernel⟩
theorem ok_box (T : Txt K mg) (F : FunD K "_law_box" "_law_box" (defArgs s_box) (defBody s_box) (defScope s_box) [] [] f fd) (hm : mg "_law_box" = some (.ref f)) : OkC P w K mg base (k + 1) "_law_box" ["great"] spBox := by
  refine okC_of F hm sc_box (fun _ _ _ _ _ _ us hl => match us, hl with | [_], _ => rfl) (fun vs H Q E h => ?_) (fun cdv A outer s H vs Q E hr h => ?_)
  · obtain ⟨i, rfl, _⟩ := h
    rfl
  · obtain ⟨i, rfl, q⟩ := h
    refine ⟨_, (pss_one (ps_ret (pe_lst (pa_cons (pe_callB call_abs (by rfl) T.f_abs (by decide +kernel) (pa_cons (pv 0) pa_nil)) (pa_cons (pe_cmpR op_ge (pe_callB call_abs (by rfl) T.f_abs (by decide +kernel) (pa_cons (pv 0) pa_nil)) (pe_op op_pow pe_int pe_int) (nomark _)) (pa_cons (pe_op op_mod (pe_callTy call_int1 (by rfl) T.f_int (by decide +kernel) (pa_cons (pe_callB call_abs (by rfl) T.f_abs (by decide +kernel) (pa_cons (pv 0) pa_nil)) pa_nil)) pe_int) (pa_cons pe_int pa_nil))))))), ?_⟩
    refine ⟨_, rfl, i, rfl, ?_⟩
    refine ⟨_, rfl, i, rfl, _, _, rfl, rfl, ⟨by decide, by decide, by decide⟩, _, _, rfl, rfl, ?_⟩
    refine ⟨_, rfl, i, rfl, .inl ⟨_, rfl, _, _, rfl, rfl, (by show (0 : Int) < 2147483629; decide), ?_⟩⟩
    refine ⟨by show 4 ≤ sizeLine; decide, fun b hb => ?_⟩
    refine q b _ hb (Ex.new hb) ⟨_, _, _, _, upd_same, ?_, Int.emod_nonneg _ (by decide), Int.emod_lt_of_pos _ (by decide), by decide, by decide⟩
    split <;> omega
def spTake : Sp := fun vs H Q _ => ∃ (b : Addr) (n m : Nat), vs = [.ref b, .int (n : Int)] ∧ 1 ≤ n ∧ n ≤ 1000000 ∧ m ≤ 1000 ∧ BoxAt H b m ∧
  ∀ (d : Nat) (H' : Hp), d < n → ExB b H H' → BoxAt H' b (m + 1) → Q (.int (d : Int)) H'
abbrev s_take : Stmt := top 44
abbrev N_take : List Str := ["box", "many", "digit", "mixed"]
theorem sc_take : FnScope N_take ["box", "many"] (defScope s_take) := ⟨rfl, rfl, rfl, by decide +kernel, rfl, by decide +kernel, by decide +kernel⟩
theorem ok_take (T : Txt K mg) (F : FunD K "_law_take" "_law_take" (defArgs s_take) (defBody s_take) (defScope s_take) [] [] f fd) (hm : mg "_law_take" = some (.ref f)) : OkC P w K mg base (k + 1) "_law_take" ["box", "many"] spTake := by
  refine okC_of F hm sc_take (fun _ _ _ _ _ _ us hl => match us, hl with | [_, _], _ => rfl) (fun vs H Q E h => ?_) (fun cdv A outer s H vs Q E hr h => ?_)
  · obtain ⟨b, n, m, rfl, _⟩ := h
    rfl
  · obtain ⟨b, n, m, rfl, h1, hn, hm, ⟨g, r, c, w, hb, g0, r0, r1, c0, c1⟩, q⟩ := h
    refine ⟨_, (Evl.pss_cut (ps_if (pw_and (pt_val (pe_ix ix_list (pv 0) pe_int fun _ _ => rfl)) (pw_and1 (pt_cmpR op_gt (pe_ix ix_list (pv 0) pe_int fun _ _ => rfl) pe_int (nomark _)))).pt (pss_cons (ps_set (i := 2) sc_take.nd rfl (Or.inl rfl) (pe_op op_mod (pe_callTy call_int1 (by rfl) T.f_int (by decide +kernel) (pa_cons (pe_ix ix_list (pv 0) pe_int fun _ _ => rfl) pa_nil)) (pv 1))) (pss_cons (ps_asg (pe_op op_fdivW (pe_ix ix_list (pv 0) pe_int fun _ _ => rfl) (pv 1)) (pg_sub (pv 0) pe_int set_list)) (pss_one (ps_ret (pv 2))))) pss_nil) (pss_cons (ps_asg (pe_op op_add (pe_ix ix_list (pv 0) pe_int fun _ _ => rfl) pe_int) (pg_sub (pv 0) pe_int set_list)) (pss_cons (ps_set (i := 3) sc_take.nd rfl (Or.inl rfl) (pe_op op_mod (pe_callTy call_int1 (by rfl) T.f_int (by decide +kernel) (pa_cons (pe_op op_pow (pe_op op_add (pe_op op_add (pe_ix ix_list (pv 0) pe_int fun _ _ => rfl) (pe_op op_mul pe_int (pe_ix ix_list (pv 0) pe_int fun _ _ => rfl))) pe_int) pe_int) pa_nil)) pe_int)) (pss_one (ps_ret (pe_op op_mod (pe_op op_fdivW (pe_op op_mod (pe_callTy call_int1 (by rfl) T.f_int (by decide +kernel) (pa_cons (pe_op op_pow (pe_op op_add (pe_op op_mul (pv 3) pe_int) (pe_op op_mul pe_int (pe_ix ix_list (pv 0) pe_int fun _ _ => rfl))) pe_int) pa_nil)) pe_int) pe_int) (pv 1))))))), ?_⟩
    have np : (0 : Int) < (n : Int) := by omega
    have dw : CDivW g (n : Int) := wide_div (b := 20) np (by omega) (by decide) (by decide)
    refine ⟨fun σ' H' => σ' = start N_take [.ref b, .int (n : Int)] ∧ H' = H, ?_, ?_⟩
    · refine ⟨_, rfl, b, _, _, _, rfl, rfl, SqL.of hb, (rfl : _ = some (V.bl w)), w, rfl, ?_⟩
      refine ite2 (fun _ => ?_) (fun _ => ⟨rfl, rfl⟩)
      refine ⟨_, rfl, b, _, _, _, rfl, rfl, SqL.of hb, (rfl : _ = some (V.int g)), _, _, rfl, rfl, _, rfl, ?_⟩
      refine ite2 (fun _ => ?_) (fun _ => ⟨rfl, rfl⟩)
      refine ⟨_, rfl, b, _, _, _, rfl, rfl, SqL.of hb, (rfl : _ = some (V.int g)), .inl ⟨_, rfl, _, rfl, _, _, rfl, rfl, np, ?_⟩⟩
      refine ⟨_, rfl, b, _, _, _, rfl, rfl, SqL.of hb, (rfl : _ = some (V.int g)), _, rfl, _, _, rfl, rfl, dw, ?_⟩
      refine ⟨_, rfl, b, _, _, 0, rfl, rfl, hb, rfl, _, rfl, ?_⟩
      have e0 := Int.emod_nonneg g (b := (n : Int)) (by omega)
      have e1 := Int.emod_lt_of_pos g (b := (n : Int)) np
      have e2 : ((g % (n : Int)).toNat : Int) = g % (n : Int) := Int.toNat_of_nonneg e0
      have q2 := q (g % (n : Int)).toNat (upd H b (.lst ([V.int g, V.bl w, V.int r, V.int c].set 0 (.int (g / (n : Int)))))) (by omega) (fun a o na ha => by
        rw [upd_ne na]
        exact ha) ⟨g / (n : Int), r, c, w, upd_same, Int.ediv_nonneg g0 (by omega), r0, r1, c0, by omega⟩
      rw [e2] at q2
      exact q2
    · rintro σ' H' ⟨rfl, rfl⟩
      refine ⟨_, rfl, b, _, _, _, rfl, rfl, SqL.of hb, (rfl : _ = some (V.int c)), _, _, rfl, rfl, ?_⟩
      refine ⟨_, rfl, b, _, _, 3, rfl, rfl, hb, rfl, ?_⟩
      have hb2 : upd H' b (.lst ([V.int g, V.bl w, V.int r, V.int c].set 3 (.int (c + 1)))) b = some (.lst [V.int g, V.bl w, V.int r, V.int (c + 1)]) := upd_same
      have out : ExB b H' (upd H' b (.lst ([V.int g, V.bl w, V.int r, V.int c].set 3 (.int (c + 1))))) := fun a o na ha => by
        rw [upd_ne na]
        exact ha
      generalize upd H' b (.lst ([V.int g, V.bl w, V.int r, V.int c].set 3 (.int (c + 1)))) = H2 at hb2 out ⊢
      refine ⟨_, rfl, b, _, _, _, rfl, rfl, SqL.of hb2, (rfl : _ = some (V.int r)), _, rfl, b, _, _, _, rfl, rfl, SqL.of hb2, (rfl : _ = some (V.int (c + 1))), _, _, rfl, rfl, .inl ⟨by decide, by decide⟩, _, _, rfl, rfl, _, _, rfl, rfl, _, _, rfl, rfl, ⟨by decide, by decide, by omega⟩, ?_⟩
      refine .inl ⟨_, rfl, _, _, rfl, rfl, (by show (0 : Int) < 2147483647; decide), ?_⟩
      generalize hx : (r + 15486383 * (c + 1) + 179425213) ^ (5 : Int).toNat % 2147483647 = mixed
      have x0 : 0 ≤ mixed := by
        rw [← hx]
        exact Int.emod_nonneg _ (by decide)
      have x1 : mixed < 2147483647 := by
        rw [← hx]
        exact Int.emod_lt_of_pos _ (by decide)
      refine ⟨_, rfl, _, _, rfl, rfl, .inr ⟨by decide, by decide⟩, _, rfl, b, _, _, _, rfl, rfl, SqL.of hb2, (rfl : _ = some (V.int (c + 1))), _, _, rfl, rfl, .inl ⟨by decide, by decide⟩, _, _, rfl, rfl, _, _, rfl, rfl, ⟨by decide, by decide, by omega⟩, ?_⟩
      refine .inl ⟨_, rfl, _, _, rfl, rfl, (by show (0 : Int) < 2147483587; decide), _, _, rfl, rfl, ⟨by decide, by decide⟩, _, rfl, _, _, rfl, rfl, np, ?_⟩
      generalize hy : ((r + 15486383 * (c + 1) + 179425213) ^ (5 : Int).toNat % 2147483647 * 48271 + 105019 * (c + 1)) ^ (3 : Int).toNat % 2147483587 / 64 = y
      have e0 := Int.emod_nonneg y (b := (n : Int)) (by omega)
      have e1 := Int.emod_lt_of_pos y (b := (n : Int)) np
      have e2 : ((y % (n : Int)).toNat : Int) = y % (n : Int) := Int.toNat_of_nonneg e0
      have q2 := q (y % (n : Int)).toNat H2 (by omega) out ⟨g, r, c + 1, w, hb2, g0, r0, r1, by omega, by omega⟩
      rw [e2] at q2
      subst hy
      exact q2
end
end D0

namespace D0
open PySem PySem.Spec PyProof.Rows L2 L2H HotX Evl K9
abbrev ErrsK (K : PySem.W.Frag) : Prop := Errs K Hd.errs "ChoiceError" Hd.ini Hd.flds
def ones1 : List Str := ["InvalidNames", "InvalidKind", "InvalidKinds", "InvalidText", "InvalidBinding", "InvalidPatterns", "InvalidUse", "InvalidLine", "InvalidWord", "InvalidProgram", "InvalidRoots", "InvalidMost", "InvalidLibrary", "InvalidView", "InvalidSort", "InvalidLinked"]
def ones2 : List Str := ["InvalidPairs", "InvalidRow", "InvalidRows", "InvalidRule", "InvalidTerm", "NotCovered", "NoTaker", "TwoLeast", "HasTwo", "TooFar", "TooMany", "NoTerm", "TooLong", "Dead", "AsksTwo", "Unlike"]
def ones : List Str := ones1 ++ ones2
def rest : List Str := ["NoChoice", "TwoChoices", "NotApart", "NotMet", "RingOfConstants", "Lacks", "TooGreat"]
def order : List Str := ones ++ rest
section
variable {P : Program} {w : World} {K : PySem.W.Frag} {mg : Str → Option Value} {base : Heap} {f : Addr} {fd : FuncData} {k : Nat}
def spSorts (K : PySem.W.Frag) : Pin → Sp := fun p vs H Q _ => ∃ (a : Addr) (x : Str) (o : Option (List (Str × V))), vs = [.ref a] ∧ x ∈ Hd.errs ∧ Err p.toList H a (He.ga K x) o ∧
  ∀ (q : Addr) (H' : Hp), Ex H H' → H' q = some (.lst (order.map fun y => .bl (decide (x = y)))) → Q (.ref q) H'
abbrev s_sorts : Stmt := top 49
abbrev N_sorts : List Str := ["e", "found"]
theorem sc_sorts : FnScope N_sorts ["e"] (defScope s_sorts) := ⟨rfl, rfl, rfl, by decide +kernel, rfl, by decide +kernel, by decide +kernel⟩
theorem ok_sorts (T : Txt K mg) (E : ErrsK K) (F : FunD K "_law_sorts" "_law_sorts" (defArgs s_sorts) (defBody s_sorts) (defScope s_sorts) [] [] f fd) (hm : mg "_law_sorts" = some (.ref f)) : Ok P w K mg base (k + 1) "_law_sorts" ["e"] (spSorts K) := by
  refine ok_of F hm sc_sorts (fun _ _ _ _ _ _ us hl => match us, hl with | [_], _ => rfl) (fun p vs H Q E h => ?_) (fun cdv A outer s H vs Q E' p c hM hC hr h => ?_)
  · obtain ⟨a, x, o, rfl, _⟩ := h
    rfl
  · obtain ⟨a, x, o, rfl, hx, he, q⟩ := h
    refine ⟨_, (pss_cons (ps_set (i := 1) sc_sorts.nd rfl (Or.inl rfl) (pe_lst (pa_cons (pe_callB call_isE1 (by rfl) T.f_isinstance (by decide +kernel) (pa_cons (pv 0) (pa_cons (pe_glob (v := .ref (He.ga K "InvalidNames")) (by rfl) (T.g_cls "InvalidNames" (by decide)) rfl) pa_nil))) (pa_cons (pe_callB call_isE1 (by rfl) T.f_isinstance (by decide +kernel) (pa_cons (pv 0) (pa_cons (pe_glob (v := .ref (He.ga K "InvalidKind")) (by rfl) (T.g_cls "InvalidKind" (by decide)) rfl) pa_nil))) (pa_cons (pe_callB call_isE1 (by rfl) T.f_isinstance (by decide +kernel) (pa_cons (pv 0) (pa_cons (pe_glob (v := .ref (He.ga K "InvalidKinds")) (by rfl) (T.g_cls "InvalidKinds" (by decide)) rfl) pa_nil))) pa_nil))))) (pss_cons (ps_set (i := 1) sc_sorts.nd rfl (Or.inl rfl) (pe_op op_cat (pv 1) (pe_lst (pa_cons (pe_callB call_isE1 (by rfl) T.f_isinstance (by decide +kernel) (pa_cons (pv 0) (pa_cons (pe_glob (v := .ref (He.ga K "InvalidText")) (by rfl) (T.g_cls "InvalidText" (by decide)) rfl) pa_nil))) (pa_cons (pe_callB call_isE1 (by rfl) T.f_isinstance (by decide +kernel) (pa_cons (pv 0) (pa_cons (pe_glob (v := .ref (He.ga K "InvalidBinding")) (by rfl) (T.g_cls "InvalidBinding" (by decide)) rfl) pa_nil))) (pa_cons (pe_callB call_isE1 (by rfl) T.f_isinstance (by decide +kernel) (pa_cons (pv 0) (pa_cons (pe_glob (v := .ref (He.ga K "InvalidPatterns")) (by rfl) (T.g_cls "InvalidPatterns" (by decide)) rfl) pa_nil))) pa_nil)))))) (pss_cons (ps_set (i := 1) sc_sorts.nd rfl (Or.inl rfl) (pe_op op_cat (pv 1) (pe_lst (pa_cons (pe_callB call_isE1 (by rfl) T.f_isinstance (by decide +kernel) (pa_cons (pv 0) (pa_cons (pe_glob (v := .ref (He.ga K "InvalidUse")) (by rfl) (T.g_cls "InvalidUse" (by decide)) rfl) pa_nil))) (pa_cons (pe_callB call_isE1 (by rfl) T.f_isinstance (by decide +kernel) (pa_cons (pv 0) (pa_cons (pe_glob (v := .ref (He.ga K "InvalidLine")) (by rfl) (T.g_cls "InvalidLine" (by decide)) rfl) pa_nil))) (pa_cons (pe_callB call_isE1 (by rfl) T.f_isinstance (by decide +kernel) (pa_cons (pv 0) (pa_cons (pe_glob (v := .ref (He.ga K "InvalidWord")) (by rfl) (T.g_cls "InvalidWord" (by decide)) rfl) pa_nil))) pa_nil)))))) (pss_cons (ps_set (i := 1) sc_sorts.nd rfl (Or.inl rfl) (pe_op op_cat (pv 1) (pe_lst (pa_cons (pe_callB call_isE1 (by rfl) T.f_isinstance (by decide +kernel) (pa_cons (pv 0) (pa_cons (pe_glob (v := .ref (He.ga K "InvalidProgram")) (by rfl) (T.g_cls "InvalidProgram" (by decide)) rfl) pa_nil))) (pa_cons (pe_callB call_isE1 (by rfl) T.f_isinstance (by decide +kernel) (pa_cons (pv 0) (pa_cons (pe_glob (v := .ref (He.ga K "InvalidRoots")) (by rfl) (T.g_cls "InvalidRoots" (by decide)) rfl) pa_nil))) (pa_cons (pe_callB call_isE1 (by rfl) T.f_isinstance (by decide +kernel) (pa_cons (pv 0) (pa_cons (pe_glob (v := .ref (He.ga K "InvalidMost")) (by rfl) (T.g_cls "InvalidMost" (by decide)) rfl) pa_nil))) pa_nil)))))) (pss_cons (ps_set (i := 1) sc_sorts.nd rfl (Or.inl rfl) (pe_op op_cat (pv 1) (pe_lst (pa_cons (pe_callB call_isE1 (by rfl) T.f_isinstance (by decide +kernel) (pa_cons (pv 0) (pa_cons (pe_glob (v := .ref (He.ga K "InvalidLibrary")) (by rfl) (T.g_cls "InvalidLibrary" (by decide)) rfl) pa_nil))) (pa_cons (pe_callB call_isE1 (by rfl) T.f_isinstance (by decide +kernel) (pa_cons (pv 0) (pa_cons (pe_glob (v := .ref (He.ga K "InvalidView")) (by rfl) (T.g_cls "InvalidView" (by decide)) rfl) pa_nil))) (pa_cons (pe_callB call_isE1 (by rfl) T.f_isinstance (by decide +kernel) (pa_cons (pv 0) (pa_cons (pe_glob (v := .ref (He.ga K "InvalidSort")) (by rfl) (T.g_cls "InvalidSort" (by decide)) rfl) pa_nil))) pa_nil)))))) (pss_cons (ps_set (i := 1) sc_sorts.nd rfl (Or.inl rfl) (pe_op op_cat (pv 1) (pe_lst (pa_cons (pe_callB call_isE1 (by rfl) T.f_isinstance (by decide +kernel) (pa_cons (pv 0) (pa_cons (pe_glob (v := .ref (He.ga K "InvalidLinked")) (by rfl) (T.g_cls "InvalidLinked" (by decide)) rfl) pa_nil))) (pa_cons (pe_callB call_isE1 (by rfl) T.f_isinstance (by decide +kernel) (pa_cons (pv 0) (pa_cons (pe_glob (v := .ref (He.ga K "InvalidPairs")) (by rfl) (T.g_cls "InvalidPairs" (by decide)) rfl) pa_nil))) (pa_cons (pe_callB call_isE1 (by rfl) T.f_isinstance (by decide +kernel) (pa_cons (pv 0) (pa_cons (pe_glob (v := .ref (He.ga K "InvalidRow")) (by rfl) (T.g_cls "InvalidRow" (by decide)) rfl) pa_nil))) pa_nil)))))) (pss_cons (ps_set (i := 1) sc_sorts.nd rfl (Or.inl rfl) (pe_op op_cat (pv 1) (pe_lst (pa_cons (pe_callB call_isE1 (by rfl) T.f_isinstance (by decide +kernel) (pa_cons (pv 0) (pa_cons (pe_glob (v := .ref (He.ga K "InvalidRows")) (by rfl) (T.g_cls "InvalidRows" (by decide)) rfl) pa_nil))) (pa_cons (pe_callB call_isE1 (by rfl) T.f_isinstance (by decide +kernel) (pa_cons (pv 0) (pa_cons (pe_glob (v := .ref (He.ga K "InvalidRule")) (by rfl) (T.g_cls "InvalidRule" (by decide)) rfl) pa_nil))) (pa_cons (pe_callB call_isE1 (by rfl) T.f_isinstance (by decide +kernel) (pa_cons (pv 0) (pa_cons (pe_glob (v := .ref (He.ga K "InvalidTerm")) (by rfl) (T.g_cls "InvalidTerm" (by decide)) rfl) pa_nil))) pa_nil)))))) (pss_cons (ps_set (i := 1) sc_sorts.nd rfl (Or.inl rfl) (pe_op op_cat (pv 1) (pe_lst (pa_cons (pe_callB call_isE1 (by rfl) T.f_isinstance (by decide +kernel) (pa_cons (pv 0) (pa_cons (pe_glob (v := .ref (He.ga K "NotCovered")) (by rfl) (T.g_cls "NotCovered" (by decide)) rfl) pa_nil))) (pa_cons (pe_callB call_isE1 (by rfl) T.f_isinstance (by decide +kernel) (pa_cons (pv 0) (pa_cons (pe_glob (v := .ref (He.ga K "NoTaker")) (by rfl) (T.g_cls "NoTaker" (by decide)) rfl) pa_nil))) (pa_cons (pe_callB call_isE1 (by rfl) T.f_isinstance (by decide +kernel) (pa_cons (pv 0) (pa_cons (pe_glob (v := .ref (He.ga K "TwoLeast")) (by rfl) (T.g_cls "TwoLeast" (by decide)) rfl) pa_nil))) (pa_cons (pe_callB call_isE1 (by rfl) T.f_isinstance (by decide +kernel) (pa_cons (pv 0) (pa_cons (pe_glob (v := .ref (He.ga K "HasTwo")) (by rfl) (T.g_cls "HasTwo" (by decide)) rfl) pa_nil))) pa_nil))))))) (pss_cons (ps_set (i := 1) sc_sorts.nd rfl (Or.inl rfl) (pe_op op_cat (pv 1) (pe_lst (pa_cons (pe_callB call_isE1 (by rfl) T.f_isinstance (by decide +kernel) (pa_cons (pv 0) (pa_cons (pe_glob (v := .ref (He.ga K "TooFar")) (by rfl) (T.g_cls "TooFar" (by decide)) rfl) pa_nil))) (pa_cons (pe_callB call_isE1 (by rfl) T.f_isinstance (by decide +kernel) (pa_cons (pv 0) (pa_cons (pe_glob (v := .ref (He.ga K "TooMany")) (by rfl) (T.g_cls "TooMany" (by decide)) rfl) pa_nil))) (pa_cons (pe_callB call_isE1 (by rfl) T.f_isinstance (by decide +kernel) (pa_cons (pv 0) (pa_cons (pe_glob (v := .ref (He.ga K "NoTerm")) (by rfl) (T.g_cls "NoTerm" (by decide)) rfl) pa_nil))) (pa_cons (pe_callB call_isE1 (by rfl) T.f_isinstance (by decide +kernel) (pa_cons (pv 0) (pa_cons (pe_glob (v := .ref (He.ga K "TooLong")) (by rfl) (T.g_cls "TooLong" (by decide)) rfl) pa_nil))) pa_nil))))))) (pss_cons (ps_set (i := 1) sc_sorts.nd rfl (Or.inl rfl) (pe_op op_cat (pv 1) (pe_lst (pa_cons (pe_callB call_isE1 (by rfl) T.f_isinstance (by decide +kernel) (pa_cons (pv 0) (pa_cons (pe_glob (v := .ref (He.ga K "Dead")) (by rfl) (T.g_cls "Dead" (by decide)) rfl) pa_nil))) (pa_cons (pe_callB call_isE1 (by rfl) T.f_isinstance (by decide +kernel) (pa_cons (pv 0) (pa_cons (pe_glob (v := .ref (He.ga K "AsksTwo")) (by rfl) (T.g_cls "AsksTwo" (by decide)) rfl) pa_nil))) (pa_cons (pe_callB call_isE1 (by rfl) T.f_isinstance (by decide +kernel) (pa_cons (pv 0) (pa_cons (pe_glob (v := .ref (He.ga K "Unlike")) (by rfl) (T.g_cls "Unlike" (by decide)) rfl) pa_nil))) (pa_cons (pe_callB call_isE1 (by rfl) T.f_isinstance (by decide +kernel) (pa_cons (pv 0) (pa_cons (pe_glob (v := .ref (He.ga K "NoChoice")) (by rfl) (T.g_cls "NoChoice" (by decide)) rfl) pa_nil))) pa_nil))))))) (pss_cons (ps_set (i := 1) sc_sorts.nd rfl (Or.inl rfl) (pe_op op_cat (pv 1) (pe_lst (pa_cons (pe_callB call_isE1 (by rfl) T.f_isinstance (by decide +kernel) (pa_cons (pv 0) (pa_cons (pe_glob (v := .ref (He.ga K "TwoChoices")) (by rfl) (T.g_cls "TwoChoices" (by decide)) rfl) pa_nil))) (pa_cons (pe_callB call_isE1 (by rfl) T.f_isinstance (by decide +kernel) (pa_cons (pv 0) (pa_cons (pe_glob (v := .ref (He.ga K "NotApart")) (by rfl) (T.g_cls "NotApart" (by decide)) rfl) pa_nil))) (pa_cons (pe_callB call_isE1 (by rfl) T.f_isinstance (by decide +kernel) (pa_cons (pv 0) (pa_cons (pe_glob (v := .ref (He.ga K "NotMet")) (by rfl) (T.g_cls "NotMet" (by decide)) rfl) pa_nil))) pa_nil)))))) (pss_cons (ps_set (i := 1) sc_sorts.nd rfl (Or.inl rfl) (pe_op op_cat (pv 1) (pe_lst (pa_cons (pe_callB call_isE1 (by rfl) T.f_isinstance (by decide +kernel) (pa_cons (pv 0) (pa_cons (pe_glob (v := .ref (He.ga K "RingOfConstants")) (by rfl) (T.g_cls "RingOfConstants" (by decide)) rfl) pa_nil))) (pa_cons (pe_callB call_isE1 (by rfl) T.f_isinstance (by decide +kernel) (pa_cons (pv 0) (pa_cons (pe_glob (v := .ref (He.ga K "Lacks")) (by rfl) (T.g_cls "Lacks" (by decide)) rfl) pa_nil))) (pa_cons (pe_callB call_isE1 (by rfl) T.f_isinstance (by decide +kernel) (pa_cons (pv 0) (pa_cons (pe_glob (v := .ref (He.ga K "TooGreat")) (by rfl) (T.g_cls "TooGreat" (by decide)) rfl) pa_nil))) pa_nil)))))) (pss_one (ps_ret (pv 1))))))))))))))), ?_⟩
    have he0 := he
    have e0 : Ex H H := Ex.refl H
    refine seq_asg ?_
    refine BlL.tlst [.bl (decide (x = "InvalidNames")), .bl (decide (x = "InvalidKind")), .bl (decide (x = "InvalidKinds"))] (by exact (bl_cons E rfl hx (by decide) (by decide) (bl_cons E rfl hx (by decide) (by decide) (bl_cons E rfl hx (by decide) (by decide) bl_nil)))) he ⟨by show 3 ≤ sizeLine; decide, fun p0 hp0 => ?_⟩
    have e1 : Ex H (upd H p0 (.lst [.bl (decide (x = "InvalidNames")), .bl (decide (x = "InvalidKind")), .bl (decide (x = "InvalidKinds"))])) := Ex.new hp0
    have h1 : upd H p0 (.lst [.bl (decide (x = "InvalidNames")), .bl (decide (x = "InvalidKind")), .bl (decide (x = "InvalidKinds"))]) p0 = some (.lst [.bl (decide (x = "InvalidNames")), .bl (decide (x = "InvalidKind")), .bl (decide (x = "InvalidKinds"))]) := upd_same
    have b1 := he.ext e1
    generalize upd H p0 (.lst [.bl (decide (x = "InvalidNames")), .bl (decide (x = "InvalidKind")), .bl (decide (x = "InvalidKinds"))]) = H1 at e1 h1 b1 ⊢
    refine seq_asg ?_
    refine grow_step (n := 3) rfl h1 (BlL.lst (bs := [.bl (decide (x = "InvalidText")), .bl (decide (x = "InvalidBinding")), .bl (decide (x = "InvalidPatterns"))]) (by exact (bl_cons E rfl hx (by decide) (by decide) (bl_cons E rfl hx (by decide) (by decide) (bl_cons E rfl hx (by decide) (by decide) bl_nil)))) b1) (fun _ _ z => by rw [z]; rfl) (by show (6 : Nat) ≤ sizeLine; decide) (fun p1 cs1 G1 H2 d1 pc d1' h2 => ?_)
    subst pc
    have e2 := e1.trans (d1.trans d1')
    have b2 := he.ext e2
    refine seq_asg ?_
    refine grow_step (n := 3) rfl h2 (BlL.lst (bs := [.bl (decide (x = "InvalidUse")), .bl (decide (x = "InvalidLine")), .bl (decide (x = "InvalidWord"))]) (by exact (bl_cons E rfl hx (by decide) (by decide) (bl_cons E rfl hx (by decide) (by decide) (bl_cons E rfl hx (by decide) (by decide) bl_nil)))) b2) (fun _ _ z => by rw [z]; rfl) (by show (9 : Nat) ≤ sizeLine; decide) (fun p2 cs2 G2 H3 d2 pc d2' h3 => ?_)
    subst pc
    have e3 := e2.trans (d2.trans d2')
    have b3 := he.ext e3
    refine seq_asg ?_
    refine grow_step (n := 3) rfl h3 (BlL.lst (bs := [.bl (decide (x = "InvalidProgram")), .bl (decide (x = "InvalidRoots")), .bl (decide (x = "InvalidMost"))]) (by exact (bl_cons E rfl hx (by decide) (by decide) (bl_cons E rfl hx (by decide) (by decide) (bl_cons E rfl hx (by decide) (by decide) bl_nil)))) b3) (fun _ _ z => by rw [z]; rfl) (by show (12 : Nat) ≤ sizeLine; decide) (fun p3 cs3 G3 H4 d3 pc d3' h4 => ?_)
    subst pc
    have e4 := e3.trans (d3.trans d3')
    have b4 := he.ext e4
    refine seq_asg ?_
    refine grow_step (n := 3) rfl h4 (BlL.lst (bs := [.bl (decide (x = "InvalidLibrary")), .bl (decide (x = "InvalidView")), .bl (decide (x = "InvalidSort"))]) (by exact (bl_cons E rfl hx (by decide) (by decide) (bl_cons E rfl hx (by decide) (by decide) (bl_cons E rfl hx (by decide) (by decide) bl_nil)))) b4) (fun _ _ z => by rw [z]; rfl) (by show (15 : Nat) ≤ sizeLine; decide) (fun p4 cs4 G4 H5 d4 pc d4' h5 => ?_)
    subst pc
    have e5 := e4.trans (d4.trans d4')
    have b5 := he.ext e5
    refine seq_asg ?_
    refine grow_step (n := 3) rfl h5 (BlL.lst (bs := [.bl (decide (x = "InvalidLinked")), .bl (decide (x = "InvalidPairs")), .bl (decide (x = "InvalidRow"))]) (by exact (bl_cons E rfl hx (by decide) (by decide) (bl_cons E rfl hx (by decide) (by decide) (bl_cons E rfl hx (by decide) (by decide) bl_nil)))) b5) (fun _ _ z => by rw [z]; rfl) (by show (18 : Nat) ≤ sizeLine; decide) (fun p5 cs5 G5 H6 d5 pc d5' h6 => ?_)
    subst pc
    have e6 := e5.trans (d5.trans d5')
    have b6 := he.ext e6
    refine seq_asg ?_
    refine grow_step (n := 3) rfl h6 (BlL.lst (bs := [.bl (decide (x = "InvalidRows")), .bl (decide (x = "InvalidRule")), .bl (decide (x = "InvalidTerm"))]) (by exact (bl_cons E rfl hx (by decide) (by decide) (bl_cons E rfl hx (by decide) (by decide) (bl_cons E rfl hx (by decide) (by decide) bl_nil)))) b6) (fun _ _ z => by rw [z]; rfl) (by show (21 : Nat) ≤ sizeLine; decide) (fun p6 cs6 G6 H7 d6 pc d6' h7 => ?_)
    subst pc
    have e7 := e6.trans (d6.trans d6')
    have b7 := he.ext e7
    refine seq_asg ?_
    refine grow_step (n := 4) rfl h7 (BlL.lst (bs := [.bl (decide (x = "NotCovered")), .bl (decide (x = "NoTaker")), .bl (decide (x = "TwoLeast")), .bl (decide (x = "HasTwo"))]) (by exact (bl_cons E rfl hx (by decide) (by decide) (bl_cons E rfl hx (by decide) (by decide) (bl_cons E rfl hx (by decide) (by decide) (bl_cons E rfl hx (by decide) (by decide) bl_nil))))) b7) (fun _ _ z => by rw [z]; rfl) (by show (25 : Nat) ≤ sizeLine; decide) (fun p7 cs7 G7 H8 d7 pc d7' h8 => ?_)
    subst pc
    have e8 := e7.trans (d7.trans d7')
    have b8 := he.ext e8
    refine seq_asg ?_
    refine grow_step (n := 4) rfl h8 (BlL.lst (bs := [.bl (decide (x = "TooFar")), .bl (decide (x = "TooMany")), .bl (decide (x = "NoTerm")), .bl (decide (x = "TooLong"))]) (by exact (bl_cons E rfl hx (by decide) (by decide) (bl_cons E rfl hx (by decide) (by decide) (bl_cons E rfl hx (by decide) (by decide) (bl_cons E rfl hx (by decide) (by decide) bl_nil))))) b8) (fun _ _ z => by rw [z]; rfl) (by show (29 : Nat) ≤ sizeLine; decide) (fun p8 cs8 G8 H9 d8 pc d8' h9 => ?_)
    subst pc
    have e9 := e8.trans (d8.trans d8')
    have b9 := he.ext e9
    refine seq_asg ?_
    refine grow_step (n := 4) rfl h9 (BlL.lst (bs := [.bl (decide (x = "Dead")), .bl (decide (x = "AsksTwo")), .bl (decide (x = "Unlike")), .bl (decide (x = "NoChoice"))]) (by exact (bl_cons E rfl hx (by decide) (by decide) (bl_cons E rfl hx (by decide) (by decide) (bl_cons E rfl hx (by decide) (by decide) (bl_cons E rfl hx (by decide) (by decide) bl_nil))))) b9) (fun _ _ z => by rw [z]; rfl) (by show (33 : Nat) ≤ sizeLine; decide) (fun p9 cs9 G9 H10 d9 pc d9' h10 => ?_)
    subst pc
    have e10 := e9.trans (d9.trans d9')
    have b10 := he.ext e10
    refine seq_asg ?_
    refine grow_step (n := 3) rfl h10 (BlL.lst (bs := [.bl (decide (x = "TwoChoices")), .bl (decide (x = "NotApart")), .bl (decide (x = "NotMet"))]) (by exact (bl_cons E rfl hx (by decide) (by decide) (bl_cons E rfl hx (by decide) (by decide) (bl_cons E rfl hx (by decide) (by decide) bl_nil)))) b10) (fun _ _ z => by rw [z]; rfl) (by show (36 : Nat) ≤ sizeLine; decide) (fun p10 cs10 G10 H11 d10 pc d10' h11 => ?_)
    subst pc
    have e11 := e10.trans (d10.trans d10')
    have b11 := he.ext e11
    refine seq_asg ?_
    refine grow_step (n := 3) rfl h11 (BlL.lst (bs := [.bl (decide (x = "RingOfConstants")), .bl (decide (x = "Lacks")), .bl (decide (x = "TooGreat"))]) (by exact (bl_cons E rfl hx (by decide) (by decide) (bl_cons E rfl hx (by decide) (by decide) (bl_cons E rfl hx (by decide) (by decide) bl_nil)))) b11) (fun _ _ z => by rw [z]; rfl) (by show (39 : Nat) ≤ sizeLine; decide) (fun p11 cs11 G11 H12 d11 pc d11' h12 => ?_)
    subst pc
    have e12 := e11.trans (d11.trans d11')
    have b12 := he.ext e12
    exact ⟨_, rfl, q p11 H12 e12 h12⟩
end
end D0

namespace D0
open PySem PySem.Spec PyProof.Rows L2 L2H HotX Evl K9
section
variable {P : Program} {w : World} {K : PySem.W.Frag} {mg : Str → Option Value} {base : Heap}
abbrev w_InvalidNames : List (Nat × List Str × List Nat) := [(2, [], []), (1, ["given"], [0])]
theorem sc_InvalidNames : FnScope ["self", "given"] ["self", "given"] (defScope (inClass (top 2) 0)) := ⟨rfl, rfl, rfl, by decide +kernel, rfl, by decide +kernel, by decide +kernel⟩
theorem ini_InvalidNames (E : Errs K Hd.errs "ChoiceError" Hd.ini Hd.flds) (gl : mg "InvalidNames" = some (.ref (He.ga K "InvalidNames"))) {fd : FuncData} (F : FunD K "__init__" "InvalidNames.__init__" (defArgs (inClass (top 2) 0)) (defBody (inClass (top 2) 0)) (defScope (inClass (top 2) 0)) [] [] (He.fAd K ("InvalidNames", some "__init__")) fd) :
    Ini P w K mg base "InvalidNames" ["given"] w_InvalidNames := by
  have hx : ("InvalidNames" : Str) ∈ Hd.errs := by decide
  have hi : ("InvalidNames" : Str) ∈ Hd.ini := by decide
  refine ⟨E.err _ hx, E.init _ hi, E.fn _ hi, gl, fd, ?_, ?_⟩
  · exact F.ok sc_InvalidNames spErr_len fun cdv A outer s H vs Q E' hr hq => ⟨_, PSs.nox (pss_one (ps_ost (pv 0) (pv 1))), ini1 (E.err _ hx).ox (E.fld _ hx _ (by decide : ("given" : Str) ∈ Hd.flds)) hq⟩
  · refine List.forall_mem_cons.mpr ⟨kbn_of F fun _ _ _ _ _ _ us ws hu hw => match us, ws, hu, hw with | [_, _], [], _, _ => rfl, ?_⟩
    refine List.forall_mem_cons.mpr ⟨kbn_of F fun _ _ _ _ _ _ us ws hu hw => match us, ws, hu, hw with | [_], [_], _, _ => rfl, ?_⟩
    exact fun q hq => absurd hq (by simp)
abbrev w_InvalidKind : List (Nat × List Str × List Nat) := [(2, [], []), (1, ["given"], [0])]
theorem sc_InvalidKind : FnScope ["self", "given"] ["self", "given"] (defScope (inClass (top 3) 0)) := ⟨rfl, rfl, rfl, by decide +kernel, rfl, by decide +kernel, by decide +kernel⟩
theorem ini_InvalidKind (E : Errs K Hd.errs "ChoiceError" Hd.ini Hd.flds) (gl : mg "InvalidKind" = some (.ref (He.ga K "InvalidKind"))) {fd : FuncData} (F : FunD K "__init__" "InvalidKind.__init__" (defArgs (inClass (top 3) 0)) (defBody (inClass (top 3) 0)) (defScope (inClass (top 3) 0)) [] [] (He.fAd K ("InvalidKind", some "__init__")) fd) :
    Ini P w K mg base "InvalidKind" ["given"] w_InvalidKind := by
  have hx : ("InvalidKind" : Str) ∈ Hd.errs := by decide
  have hi : ("InvalidKind" : Str) ∈ Hd.ini := by decide
  refine ⟨E.err _ hx, E.init _ hi, E.fn _ hi, gl, fd, ?_, ?_⟩
  · exact F.ok sc_InvalidKind spErr_len fun cdv A outer s H vs Q E' hr hq => ⟨_, PSs.nox (pss_one (ps_ost (pv 0) (pv 1))), ini1 (E.err _ hx).ox (E.fld _ hx _ (by decide : ("given" : Str) ∈ Hd.flds)) hq⟩
  · refine List.forall_mem_cons.mpr ⟨kbn_of F fun _ _ _ _ _ _ us ws hu hw => match us, ws, hu, hw with | [_, _], [], _, _ => rfl, ?_⟩
    refine List.forall_mem_cons.mpr ⟨kbn_of F fun _ _ _ _ _ _ us ws hu hw => match us, ws, hu, hw with | [_], [_], _, _ => rfl, ?_⟩
    exact fun q hq => absurd hq (by simp)
abbrev w_InvalidKinds : List (Nat × List Str × List Nat) := [(2, [], []), (1, ["given"], [0])]
theorem sc_InvalidKinds : FnScope ["self", "given"] ["self", "given"] (defScope (inClass (top 4) 0)) := ⟨rfl, rfl, rfl, by decide +kernel, rfl, by decide +kernel, by decide +kernel⟩
theorem ini_InvalidKinds (E : Errs K Hd.errs "ChoiceError" Hd.ini Hd.flds) (gl : mg "InvalidKinds" = some (.ref (He.ga K "InvalidKinds"))) {fd : FuncData} (F : FunD K "__init__" "InvalidKinds.__init__" (defArgs (inClass (top 4) 0)) (defBody (inClass (top 4) 0)) (defScope (inClass (top 4) 0)) [] [] (He.fAd K ("InvalidKinds", some "__init__")) fd) :
    Ini P w K mg base "InvalidKinds" ["given"] w_InvalidKinds := by
  have hx : ("InvalidKinds" : Str) ∈ Hd.errs := by decide
  have hi : ("InvalidKinds" : Str) ∈ Hd.ini := by decide
  refine ⟨E.err _ hx, E.init _ hi, E.fn _ hi, gl, fd, ?_, ?_⟩
  · exact F.ok sc_InvalidKinds spErr_len fun cdv A outer s H vs Q E' hr hq => ⟨_, PSs.nox (pss_one (ps_ost (pv 0) (pv 1))), ini1 (E.err _ hx).ox (E.fld _ hx _ (by decide : ("given" : Str) ∈ Hd.flds)) hq⟩
  · refine List.forall_mem_cons.mpr ⟨kbn_of F fun _ _ _ _ _ _ us ws hu hw => match us, ws, hu, hw with | [_, _], [], _, _ => rfl, ?_⟩
    refine List.forall_mem_cons.mpr ⟨kbn_of F fun _ _ _ _ _ _ us ws hu hw => match us, ws, hu, hw with | [_], [_], _, _ => rfl, ?_⟩
    exact fun q hq => absurd hq (by simp)
abbrev w_InvalidText : List (Nat × List Str × List Nat) := [(2, [], []), (1, ["given"], [0])]
theorem sc_InvalidText : FnScope ["self", "given"] ["self", "given"] (defScope (inClass (top 5) 0)) := ⟨rfl, rfl, rfl, by decide +kernel, rfl, by decide +kernel, by decide +kernel⟩
theorem ini_InvalidText (E : Errs K Hd.errs "ChoiceError" Hd.ini Hd.flds) (gl : mg "InvalidText" = some (.ref (He.ga K "InvalidText"))) {fd : FuncData} (F : FunD K "__init__" "InvalidText.__init__" (defArgs (inClass (top 5) 0)) (defBody (inClass (top 5) 0)) (defScope (inClass (top 5) 0)) [] [] (He.fAd K ("InvalidText", some "__init__")) fd) :
    Ini P w K mg base "InvalidText" ["given"] w_InvalidText := by
  have hx : ("InvalidText" : Str) ∈ Hd.errs := by decide
  have hi : ("InvalidText" : Str) ∈ Hd.ini := by decide
  refine ⟨E.err _ hx, E.init _ hi, E.fn _ hi, gl, fd, ?_, ?_⟩
  · exact F.ok sc_InvalidText spErr_len fun cdv A outer s H vs Q E' hr hq => ⟨_, PSs.nox (pss_one (ps_ost (pv 0) (pv 1))), ini1 (E.err _ hx).ox (E.fld _ hx _ (by decide : ("given" : Str) ∈ Hd.flds)) hq⟩
  · refine List.forall_mem_cons.mpr ⟨kbn_of F fun _ _ _ _ _ _ us ws hu hw => match us, ws, hu, hw with | [_, _], [], _, _ => rfl, ?_⟩
    refine List.forall_mem_cons.mpr ⟨kbn_of F fun _ _ _ _ _ _ us ws hu hw => match us, ws, hu, hw with | [_], [_], _, _ => rfl, ?_⟩
    exact fun q hq => absurd hq (by simp)
abbrev w_InvalidBinding : List (Nat × List Str × List Nat) := [(2, [], []), (1, ["given"], [0])]
theorem sc_InvalidBinding : FnScope ["self", "given"] ["self", "given"] (defScope (inClass (top 6) 0)) := ⟨rfl, rfl, rfl, by decide +kernel, rfl, by decide +kernel, by decide +kernel⟩
theorem ini_InvalidBinding (E : Errs K Hd.errs "ChoiceError" Hd.ini Hd.flds) (gl : mg "InvalidBinding" = some (.ref (He.ga K "InvalidBinding"))) {fd : FuncData} (F : FunD K "__init__" "InvalidBinding.__init__" (defArgs (inClass (top 6) 0)) (defBody (inClass (top 6) 0)) (defScope (inClass (top 6) 0)) [] [] (He.fAd K ("InvalidBinding", some "__init__")) fd) :
    Ini P w K mg base "InvalidBinding" ["given"] w_InvalidBinding := by
  have hx : ("InvalidBinding" : Str) ∈ Hd.errs := by decide
  have hi : ("InvalidBinding" : Str) ∈ Hd.ini := by decide
  refine ⟨E.err _ hx, E.init _ hi, E.fn _ hi, gl, fd, ?_, ?_⟩
  · exact F.ok sc_InvalidBinding spErr_len fun cdv A outer s H vs Q E' hr hq => ⟨_, PSs.nox (pss_one (ps_ost (pv 0) (pv 1))), ini1 (E.err _ hx).ox (E.fld _ hx _ (by decide : ("given" : Str) ∈ Hd.flds)) hq⟩
  · refine List.forall_mem_cons.mpr ⟨kbn_of F fun _ _ _ _ _ _ us ws hu hw => match us, ws, hu, hw with | [_, _], [], _, _ => rfl, ?_⟩
    refine List.forall_mem_cons.mpr ⟨kbn_of F fun _ _ _ _ _ _ us ws hu hw => match us, ws, hu, hw with | [_], [_], _, _ => rfl, ?_⟩
    exact fun q hq => absurd hq (by simp)
abbrev w_InvalidPatterns : List (Nat × List Str × List Nat) := [(2, [], []), (1, ["given"], [0])]
theorem sc_InvalidPatterns : FnScope ["self", "given"] ["self", "given"] (defScope (inClass (top 7) 0)) := ⟨rfl, rfl, rfl, by decide +kernel, rfl, by decide +kernel, by decide +kernel⟩
theorem ini_InvalidPatterns (E : Errs K Hd.errs "ChoiceError" Hd.ini Hd.flds) (gl : mg "InvalidPatterns" = some (.ref (He.ga K "InvalidPatterns"))) {fd : FuncData} (F : FunD K "__init__" "InvalidPatterns.__init__" (defArgs (inClass (top 7) 0)) (defBody (inClass (top 7) 0)) (defScope (inClass (top 7) 0)) [] [] (He.fAd K ("InvalidPatterns", some "__init__")) fd) :
    Ini P w K mg base "InvalidPatterns" ["given"] w_InvalidPatterns := by
  have hx : ("InvalidPatterns" : Str) ∈ Hd.errs := by decide
  have hi : ("InvalidPatterns" : Str) ∈ Hd.ini := by decide
  refine ⟨E.err _ hx, E.init _ hi, E.fn _ hi, gl, fd, ?_, ?_⟩
  · exact F.ok sc_InvalidPatterns spErr_len fun cdv A outer s H vs Q E' hr hq => ⟨_, PSs.nox (pss_one (ps_ost (pv 0) (pv 1))), ini1 (E.err _ hx).ox (E.fld _ hx _ (by decide : ("given" : Str) ∈ Hd.flds)) hq⟩
  · refine List.forall_mem_cons.mpr ⟨kbn_of F fun _ _ _ _ _ _ us ws hu hw => match us, ws, hu, hw with | [_, _], [], _, _ => rfl, ?_⟩
    refine List.forall_mem_cons.mpr ⟨kbn_of F fun _ _ _ _ _ _ us ws hu hw => match us, ws, hu, hw with | [_], [_], _, _ => rfl, ?_⟩
    exact fun q hq => absurd hq (by simp)
abbrev w_InvalidUse : List (Nat × List Str × List Nat) := [(2, [], []), (1, ["given"], [0])]
theorem sc_InvalidUse : FnScope ["self", "given"] ["self", "given"] (defScope (inClass (top 8) 0)) := ⟨rfl, rfl, rfl, by decide +kernel, rfl, by decide +kernel, by decide +kernel⟩
theorem ini_InvalidUse (E : Errs K Hd.errs "ChoiceError" Hd.ini Hd.flds) (gl : mg "InvalidUse" = some (.ref (He.ga K "InvalidUse"))) {fd : FuncData} (F : FunD K "__init__" "InvalidUse.__init__" (defArgs (inClass (top 8) 0)) (defBody (inClass (top 8) 0)) (defScope (inClass (top 8) 0)) [] [] (He.fAd K ("InvalidUse", some "__init__")) fd) :
    Ini P w K mg base "InvalidUse" ["given"] w_InvalidUse := by
  have hx : ("InvalidUse" : Str) ∈ Hd.errs := by decide
  have hi : ("InvalidUse" : Str) ∈ Hd.ini := by decide
  refine ⟨E.err _ hx, E.init _ hi, E.fn _ hi, gl, fd, ?_, ?_⟩
  · exact F.ok sc_InvalidUse spErr_len fun cdv A outer s H vs Q E' hr hq => ⟨_, PSs.nox (pss_one (ps_ost (pv 0) (pv 1))), ini1 (E.err _ hx).ox (E.fld _ hx _ (by decide : ("given" : Str) ∈ Hd.flds)) hq⟩
  · refine List.forall_mem_cons.mpr ⟨kbn_of F fun _ _ _ _ _ _ us ws hu hw => match us, ws, hu, hw with | [_, _], [], _, _ => rfl, ?_⟩
    refine List.forall_mem_cons.mpr ⟨kbn_of F fun _ _ _ _ _ _ us ws hu hw => match us, ws, hu, hw with | [_], [_], _, _ => rfl, ?_⟩
    exact fun q hq => absurd hq (by simp)
abbrev w_InvalidLine : List (Nat × List Str × List Nat) := [(2, [], []), (1, ["given"], [0])]
theorem sc_InvalidLine : FnScope ["self", "given"] ["self", "given"] (defScope (inClass (top 9) 0)) := ⟨rfl, rfl, rfl, by decide +kernel, rfl, by decide +kernel, by decide +kernel⟩
theorem ini_InvalidLine (E : Errs K Hd.errs "ChoiceError" Hd.ini Hd.flds) (gl : mg "InvalidLine" = some (.ref (He.ga K "InvalidLine"))) {fd : FuncData} (F : FunD K "__init__" "InvalidLine.__init__" (defArgs (inClass (top 9) 0)) (defBody (inClass (top 9) 0)) (defScope (inClass (top 9) 0)) [] [] (He.fAd K ("InvalidLine", some "__init__")) fd) :
    Ini P w K mg base "InvalidLine" ["given"] w_InvalidLine := by
  have hx : ("InvalidLine" : Str) ∈ Hd.errs := by decide
  have hi : ("InvalidLine" : Str) ∈ Hd.ini := by decide
  refine ⟨E.err _ hx, E.init _ hi, E.fn _ hi, gl, fd, ?_, ?_⟩
  · exact F.ok sc_InvalidLine spErr_len fun cdv A outer s H vs Q E' hr hq => ⟨_, PSs.nox (pss_one (ps_ost (pv 0) (pv 1))), ini1 (E.err _ hx).ox (E.fld _ hx _ (by decide : ("given" : Str) ∈ Hd.flds)) hq⟩
  · refine List.forall_mem_cons.mpr ⟨kbn_of F fun _ _ _ _ _ _ us ws hu hw => match us, ws, hu, hw with | [_, _], [], _, _ => rfl, ?_⟩
    refine List.forall_mem_cons.mpr ⟨kbn_of F fun _ _ _ _ _ _ us ws hu hw => match us, ws, hu, hw with | [_], [_], _, _ => rfl, ?_⟩
    exact fun q hq => absurd hq (by simp)
abbrev w_InvalidWord : List (Nat × List Str × List Nat) := [(2, [], []), (1, ["given"], [0])]
theorem sc_InvalidWord : FnScope ["self", "given"] ["self", "given"] (defScope (inClass (top 10) 0)) := ⟨rfl, rfl, rfl, by decide +kernel, rfl, by decide +kernel, by decide +kernel⟩
theorem ini_InvalidWord (E : Errs K Hd.errs "ChoiceError" Hd.ini Hd.flds) (gl : mg "InvalidWord" = some (.ref (He.ga K "InvalidWord"))) {fd : FuncData} (F : FunD K "__init__" "InvalidWord.__init__" (defArgs (inClass (top 10) 0)) (defBody (inClass (top 10) 0)) (defScope (inClass (top 10) 0)) [] [] (He.fAd K ("InvalidWord", some "__init__")) fd) :
    Ini P w K mg base "InvalidWord" ["given"] w_InvalidWord := by
  have hx : ("InvalidWord" : Str) ∈ Hd.errs := by decide
  have hi : ("InvalidWord" : Str) ∈ Hd.ini := by decide
  refine ⟨E.err _ hx, E.init _ hi, E.fn _ hi, gl, fd, ?_, ?_⟩
  · exact F.ok sc_InvalidWord spErr_len fun cdv A outer s H vs Q E' hr hq => ⟨_, PSs.nox (pss_one (ps_ost (pv 0) (pv 1))), ini1 (E.err _ hx).ox (E.fld _ hx _ (by decide : ("given" : Str) ∈ Hd.flds)) hq⟩
  · refine List.forall_mem_cons.mpr ⟨kbn_of F fun _ _ _ _ _ _ us ws hu hw => match us, ws, hu, hw with | [_, _], [], _, _ => rfl, ?_⟩
    refine List.forall_mem_cons.mpr ⟨kbn_of F fun _ _ _ _ _ _ us ws hu hw => match us, ws, hu, hw with | [_], [_], _, _ => rfl, ?_⟩
    exact fun q hq => absurd hq (by simp)
abbrev w_InvalidProgram : List (Nat × List Str × List Nat) := [(2, [], []), (1, ["given"], [0])]
theorem sc_InvalidProgram : FnScope ["self", "given"] ["self", "given"] (defScope (inClass (top 11) 0)) := ⟨rfl, rfl, rfl, by decide +kernel, rfl, by decide +kernel, by decide +kernel⟩
theorem ini_InvalidProgram (E : Errs K Hd.errs "ChoiceError" Hd.ini Hd.flds) (gl : mg "InvalidProgram" = some (.ref (He.ga K "InvalidProgram"))) {fd : FuncData} (F : FunD K "__init__" "InvalidProgram.__init__" (defArgs (inClass (top 11) 0)) (defBody (inClass (top 11) 0)) (defScope (inClass (top 11) 0)) [] [] (He.fAd K ("InvalidProgram", some "__init__")) fd) :
    Ini P w K mg base "InvalidProgram" ["given"] w_InvalidProgram := by
  have hx : ("InvalidProgram" : Str) ∈ Hd.errs := by decide
  have hi : ("InvalidProgram" : Str) ∈ Hd.ini := by decide
  refine ⟨E.err _ hx, E.init _ hi, E.fn _ hi, gl, fd, ?_, ?_⟩
  · exact F.ok sc_InvalidProgram spErr_len fun cdv A outer s H vs Q E' hr hq => ⟨_, PSs.nox (pss_one (ps_ost (pv 0) (pv 1))), ini1 (E.err _ hx).ox (E.fld _ hx _ (by decide : ("given" : Str) ∈ Hd.flds)) hq⟩
  · refine List.forall_mem_cons.mpr ⟨kbn_of F fun _ _ _ _ _ _ us ws hu hw => match us, ws, hu, hw with | [_, _], [], _, _ => rfl, ?_⟩
    refine List.forall_mem_cons.mpr ⟨kbn_of F fun _ _ _ _ _ _ us ws hu hw => match us, ws, hu, hw with | [_], [_], _, _ => rfl, ?_⟩
    exact fun q hq => absurd hq (by simp)
abbrev w_InvalidRoots : List (Nat × List Str × List Nat) := [(2, [], []), (1, ["given"], [0])]
theorem sc_InvalidRoots : FnScope ["self", "given"] ["self", "given"] (defScope (inClass (top 12) 0)) := ⟨rfl, rfl, rfl, by decide +kernel, rfl, by decide +kernel, by decide +kernel⟩
theorem ini_InvalidRoots (E : Errs K Hd.errs "ChoiceError" Hd.ini Hd.flds) (gl : mg "InvalidRoots" = some (.ref (He.ga K "InvalidRoots"))) {fd : FuncData} (F : FunD K "__init__" "InvalidRoots.__init__" (defArgs (inClass (top 12) 0)) (defBody (inClass (top 12) 0)) (defScope (inClass (top 12) 0)) [] [] (He.fAd K ("InvalidRoots", some "__init__")) fd) :
    Ini P w K mg base "InvalidRoots" ["given"] w_InvalidRoots := by
  have hx : ("InvalidRoots" : Str) ∈ Hd.errs := by decide
  have hi : ("InvalidRoots" : Str) ∈ Hd.ini := by decide
  refine ⟨E.err _ hx, E.init _ hi, E.fn _ hi, gl, fd, ?_, ?_⟩
  · exact F.ok sc_InvalidRoots spErr_len fun cdv A outer s H vs Q E' hr hq => ⟨_, PSs.nox (pss_one (ps_ost (pv 0) (pv 1))), ini1 (E.err _ hx).ox (E.fld _ hx _ (by decide : ("given" : Str) ∈ Hd.flds)) hq⟩
  · refine List.forall_mem_cons.mpr ⟨kbn_of F fun _ _ _ _ _ _ us ws hu hw => match us, ws, hu, hw with | [_, _], [], _, _ => rfl, ?_⟩
    refine List.forall_mem_cons.mpr ⟨kbn_of F fun _ _ _ _ _ _ us ws hu hw => match us, ws, hu, hw with | [_], [_], _, _ => rfl, ?_⟩
    exact fun q hq => absurd hq (by simp)
abbrev w_InvalidMost : List (Nat × List Str × List Nat) := [(2, [], []), (1, ["given"], [0])]
theorem sc_InvalidMost : FnScope ["self", "given"] ["self", "given"] (defScope (inClass (top 13) 0)) := ⟨rfl, rfl, rfl, by decide +kernel, rfl, by decide +kernel, by decide +kernel⟩
theorem ini_InvalidMost (E : Errs K Hd.errs "ChoiceError" Hd.ini Hd.flds) (gl : mg "InvalidMost" = some (.ref (He.ga K "InvalidMost"))) {fd : FuncData} (F : FunD K "__init__" "InvalidMost.__init__" (defArgs (inClass (top 13) 0)) (defBody (inClass (top 13) 0)) (defScope (inClass (top 13) 0)) [] [] (He.fAd K ("InvalidMost", some "__init__")) fd) :
    Ini P w K mg base "InvalidMost" ["given"] w_InvalidMost := by
  have hx : ("InvalidMost" : Str) ∈ Hd.errs := by decide
  have hi : ("InvalidMost" : Str) ∈ Hd.ini := by decide
  refine ⟨E.err _ hx, E.init _ hi, E.fn _ hi, gl, fd, ?_, ?_⟩
  · exact F.ok sc_InvalidMost spErr_len fun cdv A outer s H vs Q E' hr hq => ⟨_, PSs.nox (pss_one (ps_ost (pv 0) (pv 1))), ini1 (E.err _ hx).ox (E.fld _ hx _ (by decide : ("given" : Str) ∈ Hd.flds)) hq⟩
  · refine List.forall_mem_cons.mpr ⟨kbn_of F fun _ _ _ _ _ _ us ws hu hw => match us, ws, hu, hw with | [_, _], [], _, _ => rfl, ?_⟩
    refine List.forall_mem_cons.mpr ⟨kbn_of F fun _ _ _ _ _ _ us ws hu hw => match us, ws, hu, hw with | [_], [_], _, _ => rfl, ?_⟩
    exact fun q hq => absurd hq (by simp)
abbrev w_InvalidLibrary : List (Nat × List Str × List Nat) := [(2, [], []), (1, ["given"], [0])]
theorem sc_InvalidLibrary : FnScope ["self", "given"] ["self", "given"] (defScope (inClass (top 14) 0)) := ⟨rfl, rfl, rfl, by decide +kernel, rfl, by decide +kernel, by decide +kernel⟩
theorem ini_InvalidLibrary (E : Errs K Hd.errs "ChoiceError" Hd.ini Hd.flds) (gl : mg "InvalidLibrary" = some (.ref (He.ga K "InvalidLibrary"))) {fd : FuncData} (F : FunD K "__init__" "InvalidLibrary.__init__" (defArgs (inClass (top 14) 0)) (defBody (inClass (top 14) 0)) (defScope (inClass (top 14) 0)) [] [] (He.fAd K ("InvalidLibrary", some "__init__")) fd) :
    Ini P w K mg base "InvalidLibrary" ["given"] w_InvalidLibrary := by
  have hx : ("InvalidLibrary" : Str) ∈ Hd.errs := by decide
  have hi : ("InvalidLibrary" : Str) ∈ Hd.ini := by decide
  refine ⟨E.err _ hx, E.init _ hi, E.fn _ hi, gl, fd, ?_, ?_⟩
  · exact F.ok sc_InvalidLibrary spErr_len fun cdv A outer s H vs Q E' hr hq => ⟨_, PSs.nox (pss_one (ps_ost (pv 0) (pv 1))), ini1 (E.err _ hx).ox (E.fld _ hx _ (by decide : ("given" : Str) ∈ Hd.flds)) hq⟩
  · refine List.forall_mem_cons.mpr ⟨kbn_of F fun _ _ _ _ _ _ us ws hu hw => match us, ws, hu, hw with | [_, _], [], _, _ => rfl, ?_⟩
    refine List.forall_mem_cons.mpr ⟨kbn_of F fun _ _ _ _ _ _ us ws hu hw => match us, ws, hu, hw with | [_], [_], _, _ => rfl, ?_⟩
    exact fun q hq => absurd hq (by simp)
abbrev w_InvalidView : List (Nat × List Str × List Nat) := [(2, [], []), (1, ["given"], [0])]
theorem sc_InvalidView : FnScope ["self", "given"] ["self", "given"] (defScope (inClass (top 15) 0)) := ⟨rfl, rfl, rfl, by decide +kernel, rfl, by decide +kernel, by decide +kernel⟩
theorem ini_InvalidView (E : Errs K Hd.errs "ChoiceError" Hd.ini Hd.flds) (gl : mg "InvalidView" = some (.ref (He.ga K "InvalidView"))) {fd : FuncData} (F : FunD K "__init__" "InvalidView.__init__" (defArgs (inClass (top 15) 0)) (defBody (inClass (top 15) 0)) (defScope (inClass (top 15) 0)) [] [] (He.fAd K ("InvalidView", some "__init__")) fd) :
    Ini P w K mg base "InvalidView" ["given"] w_InvalidView := by
  have hx : ("InvalidView" : Str) ∈ Hd.errs := by decide
  have hi : ("InvalidView" : Str) ∈ Hd.ini := by decide
  refine ⟨E.err _ hx, E.init _ hi, E.fn _ hi, gl, fd, ?_, ?_⟩
  · exact F.ok sc_InvalidView spErr_len fun cdv A outer s H vs Q E' hr hq => ⟨_, PSs.nox (pss_one (ps_ost (pv 0) (pv 1))), ini1 (E.err _ hx).ox (E.fld _ hx _ (by decide : ("given" : Str) ∈ Hd.flds)) hq⟩
  · refine List.forall_mem_cons.mpr ⟨kbn_of F fun _ _ _ _ _ _ us ws hu hw => match us, ws, hu, hw with | [_, _], [], _, _ => rfl, ?_⟩
    refine List.forall_mem_cons.mpr ⟨kbn_of F fun _ _ _ _ _ _ us ws hu hw => match us, ws, hu, hw with | [_], [_], _, _ => rfl, ?_⟩
    exact fun q hq => absurd hq (by simp)
abbrev w_InvalidSort : List (Nat × List Str × List Nat) := [(2, [], []), (1, ["given"], [0])]
theorem sc_InvalidSort : FnScope ["self", "given"] ["self", "given"] (defScope (inClass (top 16) 0)) := ⟨rfl, rfl, rfl, by decide +kernel, rfl, by decide +kernel, by decide +kernel⟩
theorem ini_InvalidSort (E : Errs K Hd.errs "ChoiceError" Hd.ini Hd.flds) (gl : mg "InvalidSort" = some (.ref (He.ga K "InvalidSort"))) {fd : FuncData} (F : FunD K "__init__" "InvalidSort.__init__" (defArgs (inClass (top 16) 0)) (defBody (inClass (top 16) 0)) (defScope (inClass (top 16) 0)) [] [] (He.fAd K ("InvalidSort", some "__init__")) fd) :
    Ini P w K mg base "InvalidSort" ["given"] w_InvalidSort := by
  have hx : ("InvalidSort" : Str) ∈ Hd.errs := by decide
  have hi : ("InvalidSort" : Str) ∈ Hd.ini := by decide
  refine ⟨E.err _ hx, E.init _ hi, E.fn _ hi, gl, fd, ?_, ?_⟩
  · exact F.ok sc_InvalidSort spErr_len fun cdv A outer s H vs Q E' hr hq => ⟨_, PSs.nox (pss_one (ps_ost (pv 0) (pv 1))), ini1 (E.err _ hx).ox (E.fld _ hx _ (by decide : ("given" : Str) ∈ Hd.flds)) hq⟩
  · refine List.forall_mem_cons.mpr ⟨kbn_of F fun _ _ _ _ _ _ us ws hu hw => match us, ws, hu, hw with | [_, _], [], _, _ => rfl, ?_⟩
    refine List.forall_mem_cons.mpr ⟨kbn_of F fun _ _ _ _ _ _ us ws hu hw => match us, ws, hu, hw with | [_], [_], _, _ => rfl, ?_⟩
    exact fun q hq => absurd hq (by simp)
abbrev w_InvalidLinked : List (Nat × List Str × List Nat) := [(2, [], []), (1, ["given"], [0])]
theorem sc_InvalidLinked : FnScope ["self", "given"] ["self", "given"] (defScope (inClass (top 17) 0)) := ⟨rfl, rfl, rfl, by decide +kernel, rfl, by decide +kernel, by decide +kernel⟩
theorem ini_InvalidLinked (E : Errs K Hd.errs "ChoiceError" Hd.ini Hd.flds) (gl : mg "InvalidLinked" = some (.ref (He.ga K "InvalidLinked"))) {fd : FuncData} (F : FunD K "__init__" "InvalidLinked.__init__" (defArgs (inClass (top 17) 0)) (defBody (inClass (top 17) 0)) (defScope (inClass (top 17) 0)) [] [] (He.fAd K ("InvalidLinked", some "__init__")) fd) :
    Ini P w K mg base "InvalidLinked" ["given"] w_InvalidLinked := by
  have hx : ("InvalidLinked" : Str) ∈ Hd.errs := by decide
  have hi : ("InvalidLinked" : Str) ∈ Hd.ini := by decide
  refine ⟨E.err _ hx, E.init _ hi, E.fn _ hi, gl, fd, ?_, ?_⟩
  · exact F.ok sc_InvalidLinked spErr_len fun cdv A outer s H vs Q E' hr hq => ⟨_, PSs.nox (pss_one (ps_ost (pv 0) (pv 1))), ini1 (E.err _ hx).ox (E.fld _ hx _ (by decide : ("given" : Str) ∈ Hd.flds)) hq⟩
  · refine List.forall_mem_cons.mpr ⟨kbn_of F fun _ _ _ _ _ _ us ws hu hw => match us, ws, hu, hw with | [_, _], [], _, _ => rfl, ?_⟩
    refine List.forall_mem_cons.mpr ⟨kbn_of F fun _ _ _ _ _ _ us ws hu hw => match us, ws, hu, hw with | [_], [_], _, _ => rfl, ?_⟩
    exact fun q hq => absurd hq (by simp)
abbrev w_InvalidPairs : List (Nat × List Str × List Nat) := [(2, [], []), (1, ["given"], [0])]
theorem sc_InvalidPairs : FnScope ["self", "given"] ["self", "given"] (defScope (inClass (top 18) 0)) := ⟨rfl, rfl, rfl, by decide +kernel, rfl, by decide +kernel, by decide +kernel⟩
theorem ini_InvalidPairs (E : Errs K Hd.errs "ChoiceError" Hd.ini Hd.flds) (gl : mg "InvalidPairs" = some (.ref (He.ga K "InvalidPairs"))) {fd : FuncData} (F : FunD K "__init__" "InvalidPairs.__init__" (defArgs (inClass (top 18) 0)) (defBody (inClass (top 18) 0)) (defScope (inClass (top 18) 0)) [] [] (He.fAd K ("InvalidPairs", some "__init__")) fd) :
    Ini P w K mg base "InvalidPairs" ["given"] w_InvalidPairs := by
  have hx : ("InvalidPairs" : Str) ∈ Hd.errs := by decide
  have hi : ("InvalidPairs" : Str) ∈ Hd.ini := by decide
  refine ⟨E.err _ hx, E.init _ hi, E.fn _ hi, gl, fd, ?_, ?_⟩
  · exact F.ok sc_InvalidPairs spErr_len fun cdv A outer s H vs Q E' hr hq => ⟨_, PSs.nox (pss_one (ps_ost (pv 0) (pv 1))), ini1 (E.err _ hx).ox (E.fld _ hx _ (by decide : ("given" : Str) ∈ Hd.flds)) hq⟩
  · refine List.forall_mem_cons.mpr ⟨kbn_of F fun _ _ _ _ _ _ us ws hu hw => match us, ws, hu, hw with | [_, _], [], _, _ => rfl, ?_⟩
    refine List.forall_mem_cons.mpr ⟨kbn_of F fun _ _ _ _ _ _ us ws hu hw => match us, ws, hu, hw with | [_], [_], _, _ => rfl, ?_⟩
    exact fun q hq => absurd hq (by simp)
abbrev w_InvalidRow : List (Nat × List Str × List Nat) := [(2, [], []), (1, ["given"], [0])]
theorem sc_InvalidRow : FnScope ["self", "given"] ["self", "given"] (defScope (inClass (top 19) 0)) := ⟨rfl, rfl, rfl, by decide +kernel, rfl, by decide +kernel, by decide +kernel⟩
theorem ini_InvalidRow (E : Errs K Hd.errs "ChoiceError" Hd.ini Hd.flds) (gl : mg "InvalidRow" = some (.ref (He.ga K "InvalidRow"))) {fd : FuncData} (F : FunD K "__init__" "InvalidRow.__init__" (defArgs (inClass (top 19) 0)) (defBody (inClass (top 19) 0)) (defScope (inClass (top 19) 0)) [] [] (He.fAd K ("InvalidRow", some "__init__")) fd) :
    Ini P w K mg base "InvalidRow" ["given"] w_InvalidRow := by
  have hx : ("InvalidRow" : Str) ∈ Hd.errs := by decide
  have hi : ("InvalidRow" : Str) ∈ Hd.ini := by decide
  refine ⟨E.err _ hx, E.init _ hi, E.fn _ hi, gl, fd, ?_, ?_⟩
  · exact F.ok sc_InvalidRow spErr_len fun cdv A outer s H vs Q E' hr hq => ⟨_, PSs.nox (pss_one (ps_ost (pv 0) (pv 1))), ini1 (E.err _ hx).ox (E.fld _ hx _ (by decide : ("given" : Str) ∈ Hd.flds)) hq⟩
  · refine List.forall_mem_cons.mpr ⟨kbn_of F fun _ _ _ _ _ _ us ws hu hw => match us, ws, hu, hw with | [_, _], [], _, _ => rfl, ?_⟩
    refine List.forall_mem_cons.mpr ⟨kbn_of F fun _ _ _ _ _ _ us ws hu hw => match us, ws, hu, hw with | [_], [_], _, _ => rfl, ?_⟩
    exact fun q hq => absurd hq (by simp)
abbrev w_InvalidRows : List (Nat × List Str × List Nat) := [(2, [], []), (1, ["given"], [0])]
theorem sc_InvalidRows : FnScope ["self", "given"] ["self", "given"] (defScope (inClass (top 20) 0)) := ⟨rfl, rfl, rfl, by decide +kernel, rfl, by decide +kernel, by decide +kernel⟩
theorem ini_InvalidRows (E : Errs K Hd.errs "ChoiceError" Hd.ini Hd.flds) (gl : mg "InvalidRows" = some (.ref (He.ga K "InvalidRows"))) {fd : FuncData} (F : FunD K "__init__" "InvalidRows.__init__" (defArgs (inClass (top 20) 0)) (defBody (inClass (top 20) 0)) (defScope (inClass (top 20) 0)) [] [] (He.fAd K ("InvalidRows", some "__init__")) fd) :
    Ini P w K mg base "InvalidRows" ["given"] w_InvalidRows := by
  have hx : ("InvalidRows" : Str) ∈ Hd.errs := by decide
  have hi : ("InvalidRows" : Str) ∈ Hd.ini := by decide
  refine ⟨E.err _ hx, E.init _ hi, E.fn _ hi, gl, fd, ?_, ?_⟩
  · exact F.ok sc_InvalidRows spErr_len fun cdv A outer s H vs Q E' hr hq => ⟨_, PSs.nox (pss_one (ps_ost (pv 0) (pv 1))), ini1 (E.err _ hx).ox (E.fld _ hx _ (by decide : ("given" : Str) ∈ Hd.flds)) hq⟩
  · refine List.forall_mem_cons.mpr ⟨kbn_of F fun _ _ _ _ _ _ us ws hu hw => match us, ws, hu, hw with | [_, _], [], _, _ => rfl, ?_⟩
    refine List.forall_mem_cons.mpr ⟨kbn_of F fun _ _ _ _ _ _ us ws hu hw => match us, ws, hu, hw with | [_], [_], _, _ => rfl, ?_⟩
    exact fun q hq => absurd hq (by simp)
abbrev w_InvalidRule : List (Nat × List Str × List Nat) := [(2, [], []), (1, ["given"], [0])]
theorem sc_InvalidRule : FnScope ["self", "given"] ["self", "given"] (defScope (inClass (top 21) 0)) := ⟨rfl, rfl, rfl, by decide +kernel, rfl, by decide +kernel, by decide +kernel⟩
theorem ini_InvalidRule (E : Errs K Hd.errs "ChoiceError" Hd.ini Hd.flds) (gl : mg "InvalidRule" = some (.ref (He.ga K "InvalidRule"))) {fd : FuncData} (F : FunD K "__init__" "InvalidRule.__init__" (defArgs (inClass (top 21) 0)) (defBody (inClass (top 21) 0)) (defScope (inClass (top 21) 0)) [] [] (He.fAd K ("InvalidRule", some "__init__")) fd) :
    Ini P w K mg base "InvalidRule" ["given"] w_InvalidRule := by
  have hx : ("InvalidRule" : Str) ∈ Hd.errs := by decide
  have hi : ("InvalidRule" : Str) ∈ Hd.ini := by decide
  refine ⟨E.err _ hx, E.init _ hi, E.fn _ hi, gl, fd, ?_, ?_⟩
  · exact F.ok sc_InvalidRule spErr_len fun cdv A outer s H vs Q E' hr hq => ⟨_, PSs.nox (pss_one (ps_ost (pv 0) (pv 1))), ini1 (E.err _ hx).ox (E.fld _ hx _ (by decide : ("given" : Str) ∈ Hd.flds)) hq⟩
  · refine List.forall_mem_cons.mpr ⟨kbn_of F fun _ _ _ _ _ _ us ws hu hw => match us, ws, hu, hw with | [_, _], [], _, _ => rfl, ?_⟩
    refine List.forall_mem_cons.mpr ⟨kbn_of F fun _ _ _ _ _ _ us ws hu hw => match us, ws, hu, hw with | [_], [_], _, _ => rfl, ?_⟩
    exact fun q hq => absurd hq (by simp)
abbrev w_InvalidTerm : List (Nat × List Str × List Nat) := [(2, [], []), (1, ["given"], [0])]
theorem sc_InvalidTerm : FnScope ["self", "given"] ["self", "given"] (defScope (inClass (top 22) 0)) := ⟨rfl, rfl, rfl, by decide +kernel, rfl, by decide +kernel, by decide +kernel⟩
theorem ini_InvalidTerm (E : Errs K Hd.errs "ChoiceError" Hd.ini Hd.flds) (gl : mg "InvalidTerm" = some (.ref (He.ga K "InvalidTerm"))) {fd : FuncData} (F : FunD K "__init__" "InvalidTerm.__init__" (defArgs (inClass (top 22) 0)) (defBody (inClass (top 22) 0)) (defScope (inClass (top 22) 0)) [] [] (He.fAd K ("InvalidTerm", some "__init__")) fd) :
    Ini P w K mg base "InvalidTerm" ["given"] w_InvalidTerm := by
  have hx : ("InvalidTerm" : Str) ∈ Hd.errs := by decide
  have hi : ("InvalidTerm" : Str) ∈ Hd.ini := by decide
  refine ⟨E.err _ hx, E.init _ hi, E.fn _ hi, gl, fd, ?_, ?_⟩
  · exact F.ok sc_InvalidTerm spErr_len fun cdv A outer s H vs Q E' hr hq => ⟨_, PSs.nox (pss_one (ps_ost (pv 0) (pv 1))), ini1 (E.err _ hx).ox (E.fld _ hx _ (by decide : ("given" : Str) ∈ Hd.flds)) hq⟩
  · refine List.forall_mem_cons.mpr ⟨kbn_of F fun _ _ _ _ _ _ us ws hu hw => match us, ws, hu, hw with | [_, _], [], _, _ => rfl, ?_⟩
    refine List.forall_mem_cons.mpr ⟨kbn_of F fun _ _ _ _ _ _ us ws hu hw => match us, ws, hu, hw with | [_], [_], _, _ => rfl, ?_⟩
    exact fun q hq => absurd hq (by simp)
abbrev w_NotCovered : List (Nat × List Str × List Nat) := [(2, [], []), (1, ["use"], [0])]
theorem sc_NotCovered : FnScope ["self", "use"] ["self", "use"] (defScope (inClass (top 23) 0)) := ⟨rfl, rfl, rfl, by decide +kernel, rfl, by decide +kernel, by decide +kernel⟩
theorem ini_NotCovered (E : Errs K Hd.errs "ChoiceError" Hd.ini Hd.flds) (gl : mg "NotCovered" = some (.ref (He.ga K "NotCovered"))) {fd : FuncData} (F : FunD K "__init__" "NotCovered.__init__" (defArgs (inClass (top 23) 0)) (defBody (inClass (top 23) 0)) (defScope (inClass (top 23) 0)) [] [] (He.fAd K ("NotCovered", some "__init__")) fd) :
    Ini P w K mg base "NotCovered" ["use"] w_NotCovered := by
  have hx : ("NotCovered" : Str) ∈ Hd.errs := by decide
  have hi : ("NotCovered" : Str) ∈ Hd.ini := by decide
  refine ⟨E.err _ hx, E.init _ hi, E.fn _ hi, gl, fd, ?_, ?_⟩
  · exact F.ok sc_NotCovered spErr_len fun cdv A outer s H vs Q E' hr hq => ⟨_, PSs.nox (pss_one (ps_ost (pv 0) (pv 1))), ini1 (E.err _ hx).ox (E.fld _ hx _ (by decide : ("use" : Str) ∈ Hd.flds)) hq⟩
  · refine List.forall_mem_cons.mpr ⟨kbn_of F fun _ _ _ _ _ _ us ws hu hw => match us, ws, hu, hw with | [_, _], [], _, _ => rfl, ?_⟩
    refine List.forall_mem_cons.mpr ⟨kbn_of F fun _ _ _ _ _ _ us ws hu hw => match us, ws, hu, hw with | [_], [_], _, _ => rfl, ?_⟩
    exact fun q hq => absurd hq (by simp)
abbrev w_NoTaker : List (Nat × List Str × List Nat) := [(2, [], []), (1, ["use"], [0])]
theorem sc_NoTaker : FnScope ["self", "use"] ["self", "use"] (defScope (inClass (top 24) 0)) := ⟨rfl, rfl, rfl, by decide +kernel, rfl, by decide +kernel, by decide +kernel⟩
theorem ini_NoTaker (E : Errs K Hd.errs "ChoiceError" Hd.ini Hd.flds) (gl : mg "NoTaker" = some (.ref (He.ga K "NoTaker"))) {fd : FuncData} (F : FunD K "__init__" "NoTaker.__init__" (defArgs (inClass (top 24) 0)) (defBody (inClass (top 24) 0)) (defScope (inClass (top 24) 0)) [] [] (He.fAd K ("NoTaker", some "__init__")) fd) :
    Ini P w K mg base "NoTaker" ["use"] w_NoTaker := by
  have hx : ("NoTaker" : Str) ∈ Hd.errs := by decide
  have hi : ("NoTaker" : Str) ∈ Hd.ini := by decide
  refine ⟨E.err _ hx, E.init _ hi, E.fn _ hi, gl, fd, ?_, ?_⟩
  · exact F.ok sc_NoTaker spErr_len fun cdv A outer s H vs Q E' hr hq => ⟨_, PSs.nox (pss_one (ps_ost (pv 0) (pv 1))), ini1 (E.err _ hx).ox (E.fld _ hx _ (by decide : ("use" : Str) ∈ Hd.flds)) hq⟩
  · refine List.forall_mem_cons.mpr ⟨kbn_of F fun _ _ _ _ _ _ us ws hu hw => match us, ws, hu, hw with | [_, _], [], _, _ => rfl, ?_⟩
    refine List.forall_mem_cons.mpr ⟨kbn_of F fun _ _ _ _ _ _ us ws hu hw => match us, ws, hu, hw with | [_], [_], _, _ => rfl, ?_⟩
    exact fun q hq => absurd hq (by simp)
abbrev w_TwoLeast : List (Nat × List Str × List Nat) := [(2, [], []), (1, ["use"], [0])]
theorem sc_TwoLeast : FnScope ["self", "use"] ["self", "use"] (defScope (inClass (top 25) 0)) := ⟨rfl, rfl, rfl, by decide +kernel, rfl, by decide +kernel, by decide +kernel⟩
theorem ini_TwoLeast (E : Errs K Hd.errs "ChoiceError" Hd.ini Hd.flds) (gl : mg "TwoLeast" = some (.ref (He.ga K "TwoLeast"))) {fd : FuncData} (F : FunD K "__init__" "TwoLeast.__init__" (defArgs (inClass (top 25) 0)) (defBody (inClass (top 25) 0)) (defScope (inClass (top 25) 0)) [] [] (He.fAd K ("TwoLeast", some "__init__")) fd) :
    Ini P w K mg base "TwoLeast" ["use"] w_TwoLeast := by
  have hx : ("TwoLeast" : Str) ∈ Hd.errs := by decide
  have hi : ("TwoLeast" : Str) ∈ Hd.ini := by decide
  refine ⟨E.err _ hx, E.init _ hi, E.fn _ hi, gl, fd, ?_, ?_⟩
  · exact F.ok sc_TwoLeast spErr_len fun cdv A outer s H vs Q E' hr hq => ⟨_, PSs.nox (pss_one (ps_ost (pv 0) (pv 1))), ini1 (E.err _ hx).ox (E.fld _ hx _ (by decide : ("use" : Str) ∈ Hd.flds)) hq⟩
  · refine List.forall_mem_cons.mpr ⟨kbn_of F fun _ _ _ _ _ _ us ws hu hw => match us, ws, hu, hw with | [_, _], [], _, _ => rfl, ?_⟩
    refine List.forall_mem_cons.mpr ⟨kbn_of F fun _ _ _ _ _ _ us ws hu hw => match us, ws, hu, hw with | [_], [_], _, _ => rfl, ?_⟩
    exact fun q hq => absurd hq (by simp)
abbrev w_HasTwo : List (Nat × List Str × List Nat) := [(2, [], []), (1, ["use"], [0])]
theorem sc_HasTwo : FnScope ["self", "use"] ["self", "use"] (defScope (inClass (top 26) 0)) := ⟨rfl, rfl, rfl, by decide +kernel, rfl, by decide +kernel, by decide +kernel⟩
theorem ini_HasTwo (E : Errs K Hd.errs "ChoiceError" Hd.ini Hd.flds) (gl : mg "HasTwo" = some (.ref (He.ga K "HasTwo"))) {fd : FuncData} (F : FunD K "__init__" "HasTwo.__init__" (defArgs (inClass (top 26) 0)) (defBody (inClass (top 26) 0)) (defScope (inClass (top 26) 0)) [] [] (He.fAd K ("HasTwo", some "__init__")) fd) :
    Ini P w K mg base "HasTwo" ["use"] w_HasTwo := by
  have hx : ("HasTwo" : Str) ∈ Hd.errs := by decide
  have hi : ("HasTwo" : Str) ∈ Hd.ini := by decide
  refine ⟨E.err _ hx, E.init _ hi, E.fn _ hi, gl, fd, ?_, ?_⟩
  · exact F.ok sc_HasTwo spErr_len fun cdv A outer s H vs Q E' hr hq => ⟨_, PSs.nox (pss_one (ps_ost (pv 0) (pv 1))), ini1 (E.err _ hx).ox (E.fld _ hx _ (by decide : ("use" : Str) ∈ Hd.flds)) hq⟩
  · refine List.forall_mem_cons.mpr ⟨kbn_of F fun _ _ _ _ _ _ us ws hu hw => match us, ws, hu, hw with | [_, _], [], _, _ => rfl, ?_⟩
    refine List.forall_mem_cons.mpr ⟨kbn_of F fun _ _ _ _ _ _ us ws hu hw => match us, ws, hu, hw with | [_], [_], _, _ => rfl, ?_⟩
    exact fun q hq => absurd hq (by simp)
abbrev w_NoChoice : List (Nat × List Str × List Nat) := [(2, ["terms"], [0]), (3, [], []), (1, ["generic", "terms"], [0, 1]), (1, ["terms", "generic"], [1, 0])]
theorem sc_NoChoice : FnScope ["self", "generic", "terms"] ["self", "generic", "terms"] (defScope (inClass (top 27) 0)) := ⟨rfl, rfl, rfl, by decide +kernel, rfl, by decide +kernel, by decide +kernel⟩
theorem ini_NoChoice (E : Errs K Hd.errs "ChoiceError" Hd.ini Hd.flds) (gl : mg "NoChoice" = some (.ref (He.ga K "NoChoice"))) {fd : FuncData} (F : FunD K "__init__" "NoChoice.__init__" (defArgs (inClass (top 27) 0)) (defBody (inClass (top 27) 0)) (defScope (inClass (top 27) 0)) [] [] (He.fAd K ("NoChoice", some "__init__")) fd) :
    Ini P w K mg base "NoChoice" ["generic", "terms"] w_NoChoice := by
  have hx : ("NoChoice" : Str) ∈ Hd.errs := by decide
  have hi : ("NoChoice" : Str) ∈ Hd.ini := by decide
  refine ⟨E.err _ hx, E.init _ hi, E.fn _ hi, gl, fd, ?_, ?_⟩
  · exact F.ok sc_NoChoice spErr_len fun cdv A outer s H vs Q E' hr hq => ⟨_, PSs.nox (pss_cons (ps_ost (pv 0) (pv 1)) (pss_one (ps_ost (pv 0) (pv 2)))), ini2 (E.err _ hx).ox (E.fld _ hx _ (by decide : ("generic" : Str) ∈ Hd.flds)) (E.fld _ hx _ (by decide : ("terms" : Str) ∈ Hd.flds)) hq⟩
  · refine List.forall_mem_cons.mpr ⟨kbn_of F fun _ _ _ _ _ _ us ws hu hw => match us, ws, hu, hw with | [_, _], [_], _, _ => rfl, ?_⟩
    refine List.forall_mem_cons.mpr ⟨kbn_of F fun _ _ _ _ _ _ us ws hu hw => match us, ws, hu, hw with | [_, _, _], [], _, _ => rfl, ?_⟩
    refine List.forall_mem_cons.mpr ⟨kbn_of F fun _ _ _ _ _ _ us ws hu hw => match us, ws, hu, hw with | [_], [_, _], _, _ => rfl, ?_⟩
    refine List.forall_mem_cons.mpr ⟨kbn_of F fun _ _ _ _ _ _ us ws hu hw => match us, ws, hu, hw with | [_], [_, _], _, _ => rfl, ?_⟩
    exact fun q hq => absurd hq (by simp)
abbrev w_TwoChoices : List (Nat × List Str × List Nat) := [(2, ["terms"], [0]), (3, [], []), (1, ["generic", "terms"], [0, 1]), (1, ["terms", "generic"], [1, 0])]
theorem sc_TwoChoices : FnScope ["self", "generic", "terms"] ["self", "generic", "terms"] (defScope (inClass (top 28) 0)) := ⟨rfl, rfl, rfl, by decide +kernel, rfl, by decide +kernel, by decide +kernel⟩
theorem ini_TwoChoices (E : Errs K Hd.errs "ChoiceError" Hd.ini Hd.flds) (gl : mg "TwoChoices" = some (.ref (He.ga K "TwoChoices"))) {fd : FuncData} (F : FunD K "__init__" "TwoChoices.__init__" (defArgs (inClass (top 28) 0)) (defBody (inClass (top 28) 0)) (defScope (inClass (top 28) 0)) [] [] (He.fAd K ("TwoChoices", some "__init__")) fd) :
    Ini P w K mg base "TwoChoices" ["generic", "terms"] w_TwoChoices := by
  have hx : ("TwoChoices" : Str) ∈ Hd.errs := by decide
  have hi : ("TwoChoices" : Str) ∈ Hd.ini := by decide
  refine ⟨E.err _ hx, E.init _ hi, E.fn _ hi, gl, fd, ?_, ?_⟩
  · exact F.ok sc_TwoChoices spErr_len fun cdv A outer s H vs Q E' hr hq => ⟨_, PSs.nox (pss_cons (ps_ost (pv 0) (pv 1)) (pss_one (ps_ost (pv 0) (pv 2)))), ini2 (E.err _ hx).ox (E.fld _ hx _ (by decide : ("generic" : Str) ∈ Hd.flds)) (E.fld _ hx _ (by decide : ("terms" : Str) ∈ Hd.flds)) hq⟩
  · refine List.forall_mem_cons.mpr ⟨kbn_of F fun _ _ _ _ _ _ us ws hu hw => match us, ws, hu, hw with | [_, _], [_], _, _ => rfl, ?_⟩
    refine List.forall_mem_cons.mpr ⟨kbn_of F fun _ _ _ _ _ _ us ws hu hw => match us, ws, hu, hw with | [_, _, _], [], _, _ => rfl, ?_⟩
    refine List.forall_mem_cons.mpr ⟨kbn_of F fun _ _ _ _ _ _ us ws hu hw => match us, ws, hu, hw with | [_], [_, _], _, _ => rfl, ?_⟩
    refine List.forall_mem_cons.mpr ⟨kbn_of F fun _ _ _ _ _ _ us ws hu hw => match us, ws, hu, hw with | [_], [_, _], _, _ => rfl, ?_⟩
    exact fun q hq => absurd hq (by simp)
abbrev w_Lacks : List (Nat × List Str × List Nat) := [(3, ["many", "word"], [1, 0]), (3, ["word", "many"], [0, 1]), (5, [], []), (1, ["generic", "terms", "word", "many"], [0, 1, 2, 3]), (1, ["many", "word", "terms", "generic"], [3, 2, 1, 0])]
theorem sc_Lacks : FnScope ["self", "generic", "terms", "word", "many"] ["self", "generic", "terms", "word", "many"] (defScope (inClass (top 29) 0)) := ⟨rfl, rfl, rfl, by decide +kernel, rfl, by decide +kernel, by decide +kernel⟩
theorem ini_Lacks (E : Errs K Hd.errs "ChoiceError" Hd.ini Hd.flds) (gl : mg "Lacks" = some (.ref (He.ga K "Lacks"))) {fd : FuncData} (F : FunD K "__init__" "Lacks.__init__" (defArgs (inClass (top 29) 0)) (defBody (inClass (top 29) 0)) (defScope (inClass (top 29) 0)) [] [] (He.fAd K ("Lacks", some "__init__")) fd) :
    Ini P w K mg base "Lacks" ["generic", "terms", "word", "many"] w_Lacks := by
  have hx : ("Lacks" : Str) ∈ Hd.errs := by decide
  have hi : ("Lacks" : Str) ∈ Hd.ini := by decide
  refine ⟨E.err _ hx, E.init _ hi, E.fn _ hi, gl, fd, ?_, ?_⟩
  · exact F.ok sc_Lacks spErr_len fun cdv A outer s H vs Q E' hr hq => ⟨_, PSs.nox (pss_cons (ps_ost (pv 0) (pv 1)) (pss_cons (ps_ost (pv 0) (pv 2)) (pss_cons (ps_ost (pv 0) (pv 3)) (pss_one (ps_ost (pv 0) (pv 4)))))), ini4 (E.err _ hx).ox (E.fld _ hx _ (by decide : ("generic" : Str) ∈ Hd.flds)) (E.fld _ hx _ (by decide : ("terms" : Str) ∈ Hd.flds)) (E.fld _ hx _ (by decide : ("word" : Str) ∈ Hd.flds)) (E.fld _ hx _ (by decide : ("many" : Str) ∈ Hd.flds)) hq⟩
  · refine List.forall_mem_cons.mpr ⟨kbn_of F fun _ _ _ _ _ _ us ws hu hw => match us, ws, hu, hw with | [_, _, _], [_, _], _, _ => rfl, ?_⟩
    refine List.forall_mem_cons.mpr ⟨kbn_of F fun _ _ _ _ _ _ us ws hu hw => match us, ws, hu, hw with | [_, _, _], [_, _], _, _ => rfl, ?_⟩
    refine List.forall_mem_cons.mpr ⟨kbn_of F fun _ _ _ _ _ _ us ws hu hw => match us, ws, hu, hw with | [_, _, _, _, _], [], _, _ => rfl, ?_⟩
    refine List.forall_mem_cons.mpr ⟨kbn_of F fun _ _ _ _ _ _ us ws hu hw => match us, ws, hu, hw with | [_], [_, _, _, _], _, _ => rfl, ?_⟩
    refine List.forall_mem_cons.mpr ⟨kbn_of F fun _ _ _ _ _ _ us ws hu hw => match us, ws, hu, hw with | [_], [_, _, _, _], _, _ => rfl, ?_⟩
    exact fun q hq => absurd hq (by simp)
abbrev w_RingOfConstants : List (Nat × List Str × List Nat) := [(4, [], []), (2, ["word", "terms"], [1, 0]), (1, ["generic", "terms", "word"], [0, 1, 2]), (1, ["word", "terms", "generic"], [2, 1, 0])]
theorem sc_RingOfConstants : FnScope ["self", "generic", "terms", "word"] ["self", "generic", "terms", "word"] (defScope (inClass (top 30) 0)) := ⟨rfl, rfl, rfl, by decide +kernel, rfl, by decide +kernel, by decide +kernel⟩
theorem ini_RingOfConstants (E : Errs K Hd.errs "ChoiceError" Hd.ini Hd.flds) (gl : mg "RingOfConstants" = some (.ref (He.ga K "RingOfConstants"))) {fd : FuncData} (F : FunD K "__init__" "RingOfConstants.__init__" (defArgs (inClass (top 30) 0)) (defBody (inClass (top 30) 0)) (defScope (inClass (top 30) 0)) [] [] (He.fAd K ("RingOfConstants", some "__init__")) fd) :
    Ini P w K mg base "RingOfConstants" ["generic", "terms", "word"] w_RingOfConstants := by
  have hx : ("RingOfConstants" : Str) ∈ Hd.errs := by decide
  have hi : ("RingOfConstants" : Str) ∈ Hd.ini := by decide
  refine ⟨E.err _ hx, E.init _ hi, E.fn _ hi, gl, fd, ?_, ?_⟩
  · exact F.ok sc_RingOfConstants spErr_len fun cdv A outer s H vs Q E' hr hq => ⟨_, PSs.nox (pss_cons (ps_ost (pv 0) (pv 1)) (pss_cons (ps_ost (pv 0) (pv 2)) (pss_one (ps_ost (pv 0) (pv 3))))), ini3 (E.err _ hx).ox (E.fld _ hx _ (by decide : ("generic" : Str) ∈ Hd.flds)) (E.fld _ hx _ (by decide : ("terms" : Str) ∈ Hd.flds)) (E.fld _ hx _ (by decide : ("word" : Str) ∈ Hd.flds)) hq⟩
  · refine List.forall_mem_cons.mpr ⟨kbn_of F fun _ _ _ _ _ _ us ws hu hw => match us, ws, hu, hw with | [_, _, _, _], [], _, _ => rfl, ?_⟩
    refine List.forall_mem_cons.mpr ⟨kbn_of F fun _ _ _ _ _ _ us ws hu hw => match us, ws, hu, hw with | [_, _], [_, _], _, _ => rfl, ?_⟩
    refine List.forall_mem_cons.mpr ⟨kbn_of F fun _ _ _ _ _ _ us ws hu hw => match us, ws, hu, hw with | [_], [_, _, _], _, _ => rfl, ?_⟩
    refine List.forall_mem_cons.mpr ⟨kbn_of F fun _ _ _ _ _ _ us ws hu hw => match us, ws, hu, hw with | [_], [_, _, _], _, _ => rfl, ?_⟩
    exact fun q hq => absurd hq (by simp)
abbrev w_TooFar : List (Nat × List Str × List Nat) := [(2, [], []), (1, ["most"], [0])]
theorem sc_TooFar : FnScope ["self", "most"] ["self", "most"] (defScope (inClass (top 32) 0)) := ⟨rfl, rfl, rfl, by decide +kernel, rfl, by decide +kernel, by decide +kernel⟩
theorem ini_TooFar (E : Errs K Hd.errs "ChoiceError" Hd.ini Hd.flds) (gl : mg "TooFar" = some (.ref (He.ga K "TooFar"))) {fd : FuncData} (F : FunD K "__init__" "TooFar.__init__" (defArgs (inClass (top 32) 0)) (defBody (inClass (top 32) 0)) (defScope (inClass (top 32) 0)) [] [] (He.fAd K ("TooFar", some "__init__")) fd) :
    Ini P w K mg base "TooFar" ["most"] w_TooFar := by
  have hx : ("TooFar" : Str) ∈ Hd.errs := by decide
  have hi : ("TooFar" : Str) ∈ Hd.ini := by decide
  refine ⟨E.err _ hx, E.init _ hi, E.fn _ hi, gl, fd, ?_, ?_⟩
  · exact F.ok sc_TooFar spErr_len fun cdv A outer s H vs Q E' hr hq => ⟨_, PSs.nox (pss_one (ps_ost (pv 0) (pv 1))), ini1 (E.err _ hx).ox (E.fld _ hx _ (by decide : ("most" : Str) ∈ Hd.flds)) hq⟩
  · refine List.forall_mem_cons.mpr ⟨kbn_of F fun _ _ _ _ _ _ us ws hu hw => match us, ws, hu, hw with | [_, _], [], _, _ => rfl, ?_⟩
    refine List.forall_mem_cons.mpr ⟨kbn_of F fun _ _ _ _ _ _ us ws hu hw => match us, ws, hu, hw with | [_], [_], _, _ => rfl, ?_⟩
    exact fun q hq => absurd hq (by simp)
abbrev w_TooMany : List (Nat × List Str × List Nat) := [(2, [], []), (1, ["most"], [0])]
theorem sc_TooMany : FnScope ["self", "most"] ["self", "most"] (defScope (inClass (top 33) 0)) := ⟨rfl, rfl, rfl, by decide +kernel, rfl, by decide +kernel, by decide +kernel⟩
theorem ini_TooMany (E : Errs K Hd.errs "ChoiceError" Hd.ini Hd.flds) (gl : mg "TooMany" = some (.ref (He.ga K "TooMany"))) {fd : FuncData} (F : FunD K "__init__" "TooMany.__init__" (defArgs (inClass (top 33) 0)) (defBody (inClass (top 33) 0)) (defScope (inClass (top 33) 0)) [] [] (He.fAd K ("TooMany", some "__init__")) fd) :
    Ini P w K mg base "TooMany" ["most"] w_TooMany := by
  have hx : ("TooMany" : Str) ∈ Hd.errs := by decide
  have hi : ("TooMany" : Str) ∈ Hd.ini := by decide
  refine ⟨E.err _ hx, E.init _ hi, E.fn _ hi, gl, fd, ?_, ?_⟩
  · exact F.ok sc_TooMany spErr_len fun cdv A outer s H vs Q E' hr hq => ⟨_, PSs.nox (pss_one (ps_ost (pv 0) (pv 1))), ini1 (E.err _ hx).ox (E.fld _ hx _ (by decide : ("most" : Str) ∈ Hd.flds)) hq⟩
  · refine List.forall_mem_cons.mpr ⟨kbn_of F fun _ _ _ _ _ _ us ws hu hw => match us, ws, hu, hw with | [_, _], [], _, _ => rfl, ?_⟩
    refine List.forall_mem_cons.mpr ⟨kbn_of F fun _ _ _ _ _ _ us ws hu hw => match us, ws, hu, hw with | [_], [_], _, _ => rfl, ?_⟩
    exact fun q hq => absurd hq (by simp)
abbrev w_NotApart : List (Nat × List Str × List Nat) := [(2, ["what"], [0]), (3, [], []), (1, ["generic", "what"], [0, 1]), (1, ["what", "generic"], [1, 0])]
theorem sc_NotApart : FnScope ["self", "generic", "what"] ["self", "generic", "what"] (defScope (inClass (top 34) 0)) := ⟨rfl, rfl, rfl, by decide +kernel, rfl, by decide +kernel, by decide +kernel⟩
theorem ini_NotApart (E : Errs K Hd.errs "ChoiceError" Hd.ini Hd.flds) (gl : mg "NotApart" = some (.ref (He.ga K "NotApart"))) {fd : FuncData} (F : FunD K "__init__" "NotApart.__init__" (defArgs (inClass (top 34) 0)) (defBody (inClass (top 34) 0)) (defScope (inClass (top 34) 0)) [] [] (He.fAd K ("NotApart", some "__init__")) fd) :
    Ini P w K mg base "NotApart" ["generic", "what"] w_NotApart := by
  have hx : ("NotApart" : Str) ∈ Hd.errs := by decide
  have hi : ("NotApart" : Str) ∈ Hd.ini := by decide
  refine ⟨E.err _ hx, E.init _ hi, E.fn _ hi, gl, fd, ?_, ?_⟩
  · exact F.ok sc_NotApart spErr_len fun cdv A outer s H vs Q E' hr hq => ⟨_, PSs.nox (pss_cons (ps_ost (pv 0) (pv 1)) (pss_one (ps_ost (pv 0) (pv 2)))), ini2 (E.err _ hx).ox (E.fld _ hx _ (by decide : ("generic" : Str) ∈ Hd.flds)) (E.fld _ hx _ (by decide : ("what" : Str) ∈ Hd.flds)) hq⟩
  · refine List.forall_mem_cons.mpr ⟨kbn_of F fun _ _ _ _ _ _ us ws hu hw => match us, ws, hu, hw with | [_, _], [_], _, _ => rfl, ?_⟩
    refine List.forall_mem_cons.mpr ⟨kbn_of F fun _ _ _ _ _ _ us ws hu hw => match us, ws, hu, hw with | [_, _, _], [], _, _ => rfl, ?_⟩
    refine List.forall_mem_cons.mpr ⟨kbn_of F fun _ _ _ _ _ _ us ws hu hw => match us, ws, hu, hw with | [_], [_, _], _, _ => rfl, ?_⟩
    refine List.forall_mem_cons.mpr ⟨kbn_of F fun _ _ _ _ _ _ us ws hu hw => match us, ws, hu, hw with | [_], [_, _], _, _ => rfl, ?_⟩
    exact fun q hq => absurd hq (by simp)
abbrev w_NoTerm : List (Nat × List Str × List Nat) := [(2, [], []), (1, ["sight"], [0])]
theorem sc_NoTerm : FnScope ["self", "sight"] ["self", "sight"] (defScope (inClass (top 35) 0)) := ⟨rfl, rfl, rfl, by decide +kernel, rfl, by decide +kernel, by decide +kernel⟩
theorem ini_NoTerm (E : Errs K Hd.errs "ChoiceError" Hd.ini Hd.flds) (gl : mg "NoTerm" = some (.ref (He.ga K "NoTerm"))) {fd : FuncData} (F : FunD K "__init__" "NoTerm.__init__" (defArgs (inClass (top 35) 0)) (defBody (inClass (top 35) 0)) (defScope (inClass (top 35) 0)) [] [] (He.fAd K ("NoTerm", some "__init__")) fd) :
    Ini P w K mg base "NoTerm" ["sight"] w_NoTerm := by
  have hx : ("NoTerm" : Str) ∈ Hd.errs := by decide
  have hi : ("NoTerm" : Str) ∈ Hd.ini := by decide
  refine ⟨E.err _ hx, E.init _ hi, E.fn _ hi, gl, fd, ?_, ?_⟩
  · exact F.ok sc_NoTerm spErr_len fun cdv A outer s H vs Q E' hr hq => ⟨_, PSs.nox (pss_one (ps_ost (pv 0) (pv 1))), ini1 (E.err _ hx).ox (E.fld _ hx _ (by decide : ("sight" : Str) ∈ Hd.flds)) hq⟩
  · refine List.forall_mem_cons.mpr ⟨kbn_of F fun _ _ _ _ _ _ us ws hu hw => match us, ws, hu, hw with | [_, _], [], _, _ => rfl, ?_⟩
    refine List.forall_mem_cons.mpr ⟨kbn_of F fun _ _ _ _ _ _ us ws hu hw => match us, ws, hu, hw with | [_], [_], _, _ => rfl, ?_⟩
    exact fun q hq => absurd hq (by simp)
abbrev w_NotMet : List (Nat × List Str × List Nat) := [(2, ["terms"], [0]), (3, [], []), (1, ["generic", "terms"], [0, 1]), (1, ["terms", "generic"], [1, 0])]
theorem sc_NotMet : FnScope ["self", "generic", "terms"] ["self", "generic", "terms"] (defScope (inClass (top 36) 0)) := ⟨rfl, rfl, rfl, by decide +kernel, rfl, by decide +kernel, by decide +kernel⟩
theorem ini_NotMet (E : Errs K Hd.errs "ChoiceError" Hd.ini Hd.flds) (gl : mg "NotMet" = some (.ref (He.ga K "NotMet"))) {fd : FuncData} (F : FunD K "__init__" "NotMet.__init__" (defArgs (inClass (top 36) 0)) (defBody (inClass (top 36) 0)) (defScope (inClass (top 36) 0)) [] [] (He.fAd K ("NotMet", some "__init__")) fd) :
    Ini P w K mg base "NotMet" ["generic", "terms"] w_NotMet := by
  have hx : ("NotMet" : Str) ∈ Hd.errs := by decide
  have hi : ("NotMet" : Str) ∈ Hd.ini := by decide
  refine ⟨E.err _ hx, E.init _ hi, E.fn _ hi, gl, fd, ?_, ?_⟩
  · exact F.ok sc_NotMet spErr_len fun cdv A outer s H vs Q E' hr hq => ⟨_, PSs.nox (pss_cons (ps_ost (pv 0) (pv 1)) (pss_one (ps_ost (pv 0) (pv 2)))), ini2 (E.err _ hx).ox (E.fld _ hx _ (by decide : ("generic" : Str) ∈ Hd.flds)) (E.fld _ hx _ (by decide : ("terms" : Str) ∈ Hd.flds)) hq⟩
  · refine List.forall_mem_cons.mpr ⟨kbn_of F fun _ _ _ _ _ _ us ws hu hw => match us, ws, hu, hw with | [_, _], [_], _, _ => rfl, ?_⟩
    refine List.forall_mem_cons.mpr ⟨kbn_of F fun _ _ _ _ _ _ us ws hu hw => match us, ws, hu, hw with | [_, _, _], [], _, _ => rfl, ?_⟩
    refine List.forall_mem_cons.mpr ⟨kbn_of F fun _ _ _ _ _ _ us ws hu hw => match us, ws, hu, hw with | [_], [_, _], _, _ => rfl, ?_⟩
    refine List.forall_mem_cons.mpr ⟨kbn_of F fun _ _ _ _ _ _ us ws hu hw => match us, ws, hu, hw with | [_], [_, _], _, _ => rfl, ?_⟩
    exact fun q hq => absurd hq (by simp)
abbrev w_TooLong : List (Nat × List Str × List Nat) := [(2, [], []), (1, ["asks"], [0])]
theorem sc_TooLong : FnScope ["self", "asks"] ["self", "asks"] (defScope (inClass (top 37) 0)) := ⟨rfl, rfl, rfl, by decide +kernel, rfl, by decide +kernel, by decide +kernel⟩
theorem ini_TooLong (E : Errs K Hd.errs "ChoiceError" Hd.ini Hd.flds) (gl : mg "TooLong" = some (.ref (He.ga K "TooLong"))) {fd : FuncData} (F : FunD K "__init__" "TooLong.__init__" (defArgs (inClass (top 37) 0)) (defBody (inClass (top 37) 0)) (defScope (inClass (top 37) 0)) [] [] (He.fAd K ("TooLong", some "__init__")) fd) :
    Ini P w K mg base "TooLong" ["asks"] w_TooLong := by
  have hx : ("TooLong" : Str) ∈ Hd.errs := by decide
  have hi : ("TooLong" : Str) ∈ Hd.ini := by decide
  refine ⟨E.err _ hx, E.init _ hi, E.fn _ hi, gl, fd, ?_, ?_⟩
  · exact F.ok sc_TooLong spErr_len fun cdv A outer s H vs Q E' hr hq => ⟨_, PSs.nox (pss_one (ps_ost (pv 0) (pv 1))), ini1 (E.err _ hx).ox (E.fld _ hx _ (by decide : ("asks" : Str) ∈ Hd.flds)) hq⟩
  · refine List.forall_mem_cons.mpr ⟨kbn_of F fun _ _ _ _ _ _ us ws hu hw => match us, ws, hu, hw with | [_, _], [], _, _ => rfl, ?_⟩
    refine List.forall_mem_cons.mpr ⟨kbn_of F fun _ _ _ _ _ _ us ws hu hw => match us, ws, hu, hw with | [_], [_], _, _ => rfl, ?_⟩
    exact fun q hq => absurd hq (by simp)
abbrev w_Dead : List (Nat × List Str × List Nat) := [(2, [], []), (1, ["mark"], [0])]
theorem sc_Dead : FnScope ["self", "mark"] ["self", "mark"] (defScope (inClass (top 38) 0)) := ⟨rfl, rfl, rfl, by decide +kernel, rfl, by decide +kernel, by decide +kernel⟩
theorem ini_Dead (E : Errs K Hd.errs "ChoiceError" Hd.ini Hd.flds) (gl : mg "Dead" = some (.ref (He.ga K "Dead"))) {fd : FuncData} (F : FunD K "__init__" "Dead.__init__" (defArgs (inClass (top 38) 0)) (defBody (inClass (top 38) 0)) (defScope (inClass (top 38) 0)) [] [] (He.fAd K ("Dead", some "__init__")) fd) :
    Ini P w K mg base "Dead" ["mark"] w_Dead := by
  have hx : ("Dead" : Str) ∈ Hd.errs := by decide
  have hi : ("Dead" : Str) ∈ Hd.ini := by decide
  refine ⟨E.err _ hx, E.init _ hi, E.fn _ hi, gl, fd, ?_, ?_⟩
  · exact F.ok sc_Dead spErr_len fun cdv A outer s H vs Q E' hr hq => ⟨_, PSs.nox (pss_one (ps_ost (pv 0) (pv 1))), ini1 (E.err _ hx).ox (E.fld _ hx _ (by decide : ("mark" : Str) ∈ Hd.flds)) hq⟩
  · refine List.forall_mem_cons.mpr ⟨kbn_of F fun _ _ _ _ _ _ us ws hu hw => match us, ws, hu, hw with | [_, _], [], _, _ => rfl, ?_⟩
    refine List.forall_mem_cons.mpr ⟨kbn_of F fun _ _ _ _ _ _ us ws hu hw => match us, ws, hu, hw with | [_], [_], _, _ => rfl, ?_⟩
    exact fun q hq => absurd hq (by simp)
abbrev w_AsksTwo : List (Nat × List Str × List Nat) := [(2, [], []), (1, ["mark"], [0])]
theorem sc_AsksTwo : FnScope ["self", "mark"] ["self", "mark"] (defScope (inClass (top 39) 0)) := ⟨rfl, rfl, rfl, by decide +kernel, rfl, by decide +kernel, by decide +kernel⟩
theorem ini_AsksTwo (E : Errs K Hd.errs "ChoiceError" Hd.ini Hd.flds) (gl : mg "AsksTwo" = some (.ref (He.ga K "AsksTwo"))) {fd : FuncData} (F : FunD K "__init__" "AsksTwo.__init__" (defArgs (inClass (top 39) 0)) (defBody (inClass (top 39) 0)) (defScope (inClass (top 39) 0)) [] [] (He.fAd K ("AsksTwo", some "__init__")) fd) :
    Ini P w K mg base "AsksTwo" ["mark"] w_AsksTwo := by
  have hx : ("AsksTwo" : Str) ∈ Hd.errs := by decide
  have hi : ("AsksTwo" : Str) ∈ Hd.ini := by decide
  refine ⟨E.err _ hx, E.init _ hi, E.fn _ hi, gl, fd, ?_, ?_⟩
  · exact F.ok sc_AsksTwo spErr_len fun cdv A outer s H vs Q E' hr hq => ⟨_, PSs.nox (pss_one (ps_ost (pv 0) (pv 1))), ini1 (E.err _ hx).ox (E.fld _ hx _ (by decide : ("mark" : Str) ∈ Hd.flds)) hq⟩
  · refine List.forall_mem_cons.mpr ⟨kbn_of F fun _ _ _ _ _ _ us ws hu hw => match us, ws, hu, hw with | [_, _], [], _, _ => rfl, ?_⟩
    refine List.forall_mem_cons.mpr ⟨kbn_of F fun _ _ _ _ _ _ us ws hu hw => match us, ws, hu, hw with | [_], [_], _, _ => rfl, ?_⟩
    exact fun q hq => absurd hq (by simp)
abbrev w_Unlike : List (Nat × List Str × List Nat) := [(1, ["text"], [0]), (2, [], [])]
theorem sc_Unlike : FnScope ["self", "text"] ["self", "text"] (defScope (inClass (top 40) 0)) := ⟨rfl, rfl, rfl, by decide +kernel, rfl, by decide +kernel, by decide +kernel⟩
theorem ini_Unlike (E : Errs K Hd.errs "ChoiceError" Hd.ini Hd.flds) (gl : mg "Unlike" = some (.ref (He.ga K "Unlike"))) {fd : FuncData} (F : FunD K "__init__" "Unlike.__init__" (defArgs (inClass (top 40) 0)) (defBody (inClass (top 40) 0)) (defScope (inClass (top 40) 0)) [] [] (He.fAd K ("Unlike", some "__init__")) fd) :
    Ini P w K mg base "Unlike" ["text"] w_Unlike := by
  have hx : ("Unlike" : Str) ∈ Hd.errs := by decide
  have hi : ("Unlike" : Str) ∈ Hd.ini := by decide
  refine ⟨E.err _ hx, E.init _ hi, E.fn _ hi, gl, fd, ?_, ?_⟩
  · exact F.ok sc_Unlike spErr_len fun cdv A outer s H vs Q E' hr hq => ⟨_, PSs.nox (pss_one (ps_ost (pv 0) (pv 1))), ini1 (E.err _ hx).ox (E.fld _ hx _ (by decide : ("text" : Str) ∈ Hd.flds)) hq⟩
  · refine List.forall_mem_cons.mpr ⟨kbn_of F fun _ _ _ _ _ _ us ws hu hw => match us, ws, hu, hw with | [_], [_], _, _ => rfl, ?_⟩
    refine List.forall_mem_cons.mpr ⟨kbn_of F fun _ _ _ _ _ _ us ws hu hw => match us, ws, hu, hw with | [_, _], [], _, _ => rfl, ?_⟩
    exact fun q hq => absurd hq (by simp)
end
end D0

namespace D0
open PySem PySem.Spec PyProof.Rows L2 L2H HotX Evl K9
section
variable {P : Program} {w : World} {K : PySem.W.Frag} {mg : Str → Option Value} {base : Heap} {f : Addr} {fd : FuncData} {k : Nat}
theorem huC {k : Nat} {A : Around} (hr : RoomH k A) : A.units + 64 < cLine := by
  have := hr.un
  omega
theorem Errs.top {K : PySem.W.Frag} (E : ErrsK K) {x : Str} (hx : x ∈ Hd.errs) : PySem.W.kitOne K (.ref (He.ga K x)) (.ref (He.ga K "ChoiceError")) = some true := by
  rw [E.kit x hx "ChoiceError" (by decide)]
  simp
theorem order_len : order.length = 39 := by decide +kernel
theorem order_one : ∀ i < 39, ((List.range 39).filter fun j => decide (order.getD i Str.empty = order.getD j Str.empty)) = [i] := by decide +kernel
def spIs (K : PySem.W.Frag) : Pin → Sp := fun p vs H Q _ => ∃ (a : Addr) (x : Str) (o : Option (List (Str × V))) (i : Nat), vs = [.ref a, .int (i : Int)] ∧ x ∈ Hd.errs ∧ Err p.toList H a (He.ga K x) o ∧ order[i]? = some x ∧
  ∀ (H' : Hp), Ex H H' → Q (.bl true) H'
abbrev s_is : Stmt := top 50
abbrev N_is : List Str := ["e", "spot", "sorts", "k"]
theorem sc_is : FnScope N_is ["e", "spot"] (defScope s_is) := ⟨rfl, rfl, rfl, by decide +kernel, rfl, by decide +kernel, by decide +kernel⟩
theorem ok_is (T : Txt K mg) (E : ErrsK K) (k_sorts : Ok P w K mg base k "_law_sorts" ["e"] (spSorts K)) (F : FunD K "_law_is" "_law_is" (defArgs s_is) (defBody s_is) (defScope s_is) [] [] f fd) (hm : mg "_law_is" = some (.ref f)) : Ok P w K mg base (k + 1) "_law_is" ["e", "spot"] (spIs K) := by
  refine ok_of F hm sc_is (fun _ _ _ _ _ _ us hl => match us, hl with | [_, _], _ => rfl) (fun p vs H Q E h => ?_) (fun cdv A outer s H vs Q E' p c hM hC hr h => ?_)
  · obtain ⟨a, x, o, i, rfl, _⟩ := h
    rfl
  · obtain ⟨a, x, o, i, rfl, hx, he, hi, q⟩ := h
    refine ⟨_, (pss_cons (ps_set (i := 2) sc_is.nd rfl (Or.inr rfl) (pe_callO k_sorts hr hC (by rfl) (pa_cons (pv 0) pa_nil))) (pss_cons (ps_if (pw_or (pt_not (pt_val (pe_callB call_isE1 (by rfl) T.f_isinstance (by decide +kernel) (pa_cons (pv 0) (pa_cons (pe_glob (v := .ref (He.ga K "ChoiceError")) (by rfl) (T.g_cls "ChoiceError" (by decide)) rfl) pa_nil))))) (pw_or1 (pt_not (pt_val (pe_callB call_isE1 (by rfl) T.f_isinstance (by decide +kernel) (pa_cons (pv 0) (pa_cons (pe_bltn (v := .ty "ValueError") (by rfl) T.f_ValueError (by decide +kernel) rfl) pa_nil))))))).pt (pss_one (ps_ret pe_bl)) pss_nil) (pss_one (ps_ret (pe_cmpR (op_eqV (huC hr)) (pe_lcC (own := [("k", 3)]) (g := gName 3) hM sc_is.nd (fun _ => (pi_range1 (by rfl) T.f_range (pa_cons (pe_callB call_len_seq (by rfl) T.f_len (by decide +kernel) (pa_cons (pv 2) pa_nil)) pa_nil))) (fun _ => (pi_range1H (by rfl) T.f_range (pa_cons (pe_callB call_len_seq (by rfl) T.f_len (by decide +kernel) (pa_cons (pv 2) pa_nil)) pa_nil))) (blkOk_by (N := N_is) (sc := defScope s_is) (by decide +kernel)) (fun _ _ _ _ _ => pg_name (i := 3) sc_is.nd rfl (Or.inl rfl)) (fun _ _ _ _ _ => (pts_one (pt_val (pe_ix (show IxR _ (rIxL K) from ix_list) (pv 2) (pv 3) fun _ _ => rfl)))) (fun _ _ _ _ _ => (pv 3))) (pe_lst (pa_cons (pv 1) pa_nil)) (nomark _)))))), ?_⟩
    refine seq_asg ?_
    refine ⟨_, rfl, a, x, o, rfl, hx, he, fun p1 H1 e1 h1 => ?_⟩
    have b1 := he.ext e1
    refine ⟨_, rfl, a, _, o, _, _, _, rfl, b1, E.err x hx, .own _, Errs.top E hx, ?_⟩
    refine ⟨_, rfl, ?_⟩
    refine ite2 (fun z => absurd z (by decide)) (fun _ => ?_)
    refine ⟨_, rfl, a, _, o, _, _, _, rfl, b1, E.err x hx, .ty _, E.kve x hx, ?_⟩
    refine ⟨_, rfl, ?_⟩
    refine ite2 (fun z => absurd z (by decide)) (fun _ => ?_)
    refine nx_l (ret_l (op_l ?_))
    refine lc_keep (J := Itr 0 39) (n := 39) (fun j => decide (x = order.getD j Str.empty)) (fun j => .int (j : Int)) (by decide) (by show (3 : Nat) < 4; decide) (fun R h => ?_) walks_rng0 (fun j H2 R hj e2 h => ?_) (fun j H2 R hj e2 h => ⟨_, rfl, h⟩) (fun D H2 hD e2 h2 => ?_)
    · refine ⟨_, rfl, p1, _, rfl, .inl (SqL.of h1), _, rfl, ?_, ?_, ?_⟩
      · rw [List.length_map, order_len]
        decide
      · rw [List.length_map, order_len]
        decide
      · rw [List.length_map, order_len]
        exact h
    · have hj2 : j < order.length := by rw [order_len]; exact hj
      refine ⟨_, rfl, _, rfl, p1, _, _, _, rfl, rfl, SqL.of (e2 _ _ h1), atI_nat (v := .bl (decide (x = order.getD j Str.empty))) ?_, ⟨_, rfl, h⟩⟩
      rw [List.getElem?_map, List.getElem?_eq_getElem hj2, List.getD_eq_getElem?_getD, List.getElem?_eq_getElem hj2]
      rfl
    · refine ⟨_, rfl, by show 1 ≤ sizeLine; decide, fun p3 hp3 => ⟨1, by decide, .inl ⟨D, p3, _, _, rfl, rfl, SqL.of ((Ex.new hp3) _ _ h2), SqL.of upd_same, ?_⟩, q _ ((e1.trans e2).trans (Ex.new hp3))⟩⟩
      have hi2 : i < 39 := by
        rw [← order_len]
        exact (List.getElem?_eq_some_iff.mp hi).1
      have hx2 : order.getD i Str.empty = x := by
        rw [List.getD_eq_getElem?_getD, hi]
        rfl
      have h3 := order_one i hi2
      rw [hx2] at h3
      rw [h3]
      exact .cons (.inl ⟨rfl, rfl⟩) .nil
end
end D0

namespace D0
open PySem PySem.Spec PyProof.Rows L2 L2H HotX Evl K9
section
variable {P : Program} {w : World} {K : PySem.W.Frag} {mg : Str → Option Value} {base : Heap} {f : Addr} {fd : FuncData} {k : Nat}
theorem kit1 {K : PySem.W.Frag} (E : ErrsK K) {x y : Str} (hx : x ∈ Hd.errs) (hy : y ∈ Hd.errs) (ht : y ≠ "ChoiceError") : PySem.W.kitOne K (.ref (He.ga K x)) (.ref (He.ga K y)) = some (decide (x = y)) := by
  rw [E.kit x hx y hy, decide_eq_false ht, Bool.or_false]
/-- the field of an error that has one -/
def fldOf (x : Str) : Str :=
  if x ∈ (["NotCovered", "NoTaker", "TwoLeast", "HasTwo"] : List Str) then "use" else if x ∈ (["TooFar", "TooMany"] : List Str) then "most" else if x = "NoTerm" then "sight" else if x = "TooLong" then "asks"
  else if x ∈ (["Dead", "AsksTwo"] : List Str) then "mark" else if x = "Unlike" then "text" else "given"
def spKept (K : PySem.W.Frag) : Pin → Sp := fun p vs H Q _ => ∃ (a : Addr) (x : Str) (v : V), vs = [.ref a] ∧ x ∈ Hd.errs ∧ Err p.toList H a (He.ga K x) (some [(fldOf x, v)]) ∧ ∀ (H' : Hp), Ex H H' → Q v H'
abbrev s_kept : Stmt := top 51
abbrev N_kept : List Str := ["e"]
theorem sc_kept : FnScope N_kept ["e"] (defScope s_kept) := ⟨rfl, rfl, rfl, by decide +kernel, rfl, by decide +kernel, by decide +kernel⟩
theorem ok_kept (T : Txt K mg) (E : ErrsK K) (F : FunD K "_law_kept" "_law_kept" (defArgs s_kept) (defBody s_kept) (defScope s_kept) [] [] f fd) (hm : mg "_law_kept" = some (.ref f)) : Ok P w K mg base (k + 1) "_law_kept" ["e"] (spKept K) := by
  refine ok_of F hm sc_kept (fun _ _ _ _ _ _ us hl => match us, hl with | [_], _ => rfl) (fun p vs H Q E h => ?_) (fun cdv A outer s H vs Q E' p c hM hC hr h => ?_)
  · obtain ⟨a, x, v, rfl, _⟩ := h
    rfl
  · obtain ⟨a, x, v, rfl, hx, he, q⟩ := h
    refine ⟨_, (pss_cons (ps_if (pt_val (pe_callB call_isET (by rfl) T.f_isinstance (by decide +kernel) (pa_cons (pv 0) (pa_cons (pe_tup (pa_cons (pe_glob (v := .ref (He.ga K "NotCovered")) (by rfl) (T.g_cls "NotCovered" (by decide)) rfl) (pa_cons (pe_glob (v := .ref (He.ga K "NoTaker")) (by rfl) (T.g_cls "NoTaker" (by decide)) rfl) (pa_cons (pe_glob (v := .ref (He.ga K "TwoLeast")) (by rfl) (T.g_cls "TwoLeast" (by decide)) rfl) (pa_cons (pe_glob (v := .ref (He.ga K "HasTwo")) (by rfl) (T.g_cls "HasTwo" (by decide)) rfl) pa_nil))))) pa_nil)))) (pss_one (ps_ret (pe_getE (pv 0)))) pss_nil) (pss_cons (ps_if (pt_val (pe_callB call_isET (by rfl) T.f_isinstance (by decide +kernel) (pa_cons (pv 0) (pa_cons (pe_tup (pa_cons (pe_glob (v := .ref (He.ga K "TooFar")) (by rfl) (T.g_cls "TooFar" (by decide)) rfl) (pa_cons (pe_glob (v := .ref (He.ga K "TooMany")) (by rfl) (T.g_cls "TooMany" (by decide)) rfl) pa_nil))) pa_nil)))) (pss_one (ps_ret (pe_getE (pv 0)))) pss_nil) (pss_cons (ps_if (pt_val (pe_callB call_isE1 (by rfl) T.f_isinstance (by decide +kernel) (pa_cons (pv 0) (pa_cons (pe_glob (v := .ref (He.ga K "NoTerm")) (by rfl) (T.g_cls "NoTerm" (by decide)) rfl) pa_nil)))) (pss_one (ps_ret (pe_getE (pv 0)))) pss_nil) (pss_cons (ps_if (pt_val (pe_callB call_isE1 (by rfl) T.f_isinstance (by decide +kernel) (pa_cons (pv 0) (pa_cons (pe_glob (v := .ref (He.ga K "TooLong")) (by rfl) (T.g_cls "TooLong" (by decide)) rfl) pa_nil)))) (pss_one (ps_ret (pe_getE (pv 0)))) pss_nil) (pss_cons (ps_if (pt_val (pe_callB call_isET (by rfl) T.f_isinstance (by decide +kernel) (pa_cons (pv 0) (pa_cons (pe_tup (pa_cons (pe_glob (v := .ref (He.ga K "Dead")) (by rfl) (T.g_cls "Dead" (by decide)) rfl) (pa_cons (pe_glob (v := .ref (He.ga K "AsksTwo")) (by rfl) (T.g_cls "AsksTwo" (by decide)) rfl) pa_nil))) pa_nil)))) (pss_one (ps_ret (pe_getE (pv 0)))) pss_nil) (pss_cons (ps_if (pt_val (pe_callB call_isE1 (by rfl) T.f_isinstance (by decide +kernel) (pa_cons (pv 0) (pa_cons (pe_glob (v := .ref (He.ga K "Unlike")) (by rfl) (T.g_cls "Unlike" (by decide)) rfl) pa_nil)))) (pss_one (ps_ret (pe_getE (pv 0)))) pss_nil) (pss_one (ps_ret (pe_getE (pv 0)))))))))), ?_⟩
    have e0 : Ex H H := Ex.refl H
    have b0 := he
    refine ⟨_, rfl, by show 4 ≤ sizeLine; decide, fun t1 ht1 => ?_⟩
    have e1 := e0.trans (Ex.new (o := .tup [.ref (He.ga K "NotCovered"), .ref (He.ga K "NoTaker"), .ref (He.ga K "TwoLeast"), .ref (He.ga K "HasTwo")]) ht1)
    have b1 := b0.ext (Ex.new (o := .tup [.ref (He.ga K "NotCovered"), .ref (He.ga K "NoTaker"), .ref (He.ga K "TwoLeast"), .ref (He.ga K "HasTwo")]) ht1)
    refine ⟨a, _, t1, _, _, _, _, rfl, b1, E.err x hx, upd_same, (by exact (.cons (.own _) (.cons (.own _) (.cons (.own _) (.cons (.own _) .nil))))), E.any hx ["NotCovered", "NoTaker", "TwoLeast", "HasTwo"] (by decide) (by decide), _, rfl, ?_⟩
    generalize upd H t1 _ = H1 at e1 b1 ⊢
    refine ite2 (fun z => ?_) (fun z => ?_)
    · have c1 : x ∈ (["NotCovered", "NoTaker", "TwoLeast", "HasTwo"] : List Str) := of_decide_eq_true z
      have g : fldOf x = "use" := by
        unfold fldOf
        rw [if_pos c1]
      rw [g] at b1
      exact ⟨_, rfl, a, _, _, v, rfl, b1, E.err x hx, E.fld x hx "use" (by decide), rfl, q _ e1⟩
    have m1 : ¬ x ∈ (["NotCovered", "NoTaker", "TwoLeast", "HasTwo"] : List Str) := fun y => z (decide_eq_true y)
    refine nx_l ?_
    refine ⟨_, rfl, by show 2 ≤ sizeLine; decide, fun t2 ht2 => ?_⟩
    have e2 := e1.trans (Ex.new (o := .tup [.ref (He.ga K "TooFar"), .ref (He.ga K "TooMany")]) ht2)
    have b2 := b1.ext (Ex.new (o := .tup [.ref (He.ga K "TooFar"), .ref (He.ga K "TooMany")]) ht2)
    refine ⟨a, _, t2, _, _, _, _, rfl, b2, E.err x hx, upd_same, (by exact (.cons (.own _) (.cons (.own _) .nil))), E.any hx ["TooFar", "TooMany"] (by decide) (by decide), _, rfl, ?_⟩
    generalize upd H1 t2 _ = H2 at e2 b2 ⊢
    refine ite2 (fun z => ?_) (fun z => ?_)
    · have c2 : x ∈ (["TooFar", "TooMany"] : List Str) := of_decide_eq_true z
      have g : fldOf x = "most" := by
        unfold fldOf
        rw [if_neg m1, if_pos c2]
      rw [g] at b2
      exact ⟨_, rfl, a, _, _, v, rfl, b2, E.err x hx, E.fld x hx "most" (by decide), rfl, q _ e2⟩
    have m2 : ¬ x ∈ (["TooFar", "TooMany"] : List Str) := fun y => z (decide_eq_true y)
    refine nx_l ?_
    refine ⟨_, rfl, a, _, _, _, _, _, rfl, b2, E.err x hx, .own _, kit1 E hx (y := "NoTerm") (by decide) (by decide), _, rfl, ?_⟩
    refine ite2 (fun z => ?_) (fun z => ?_)
    · have c3 : x = "NoTerm" := of_decide_eq_true z
      have g : fldOf x = "sight" := by
        unfold fldOf
        rw [if_neg m1, if_neg m2, if_pos c3]
      rw [g] at b2
      exact ⟨_, rfl, a, _, _, v, rfl, b2, E.err x hx, E.fld x hx "sight" (by decide), rfl, q _ e2⟩
    have m3 : ¬ x = "NoTerm" := fun y => z (decide_eq_true y)
    refine nx_l ?_
    refine ⟨_, rfl, a, _, _, _, _, _, rfl, b2, E.err x hx, .own _, kit1 E hx (y := "TooLong") (by decide) (by decide), _, rfl, ?_⟩
    refine ite2 (fun z => ?_) (fun z => ?_)
    · have c4 : x = "TooLong" := of_decide_eq_true z
      have g : fldOf x = "asks" := by
        unfold fldOf
        rw [if_neg m1, if_neg m2, if_neg m3, if_pos c4]
      rw [g] at b2
      exact ⟨_, rfl, a, _, _, v, rfl, b2, E.err x hx, E.fld x hx "asks" (by decide), rfl, q _ e2⟩
    have m4 : ¬ x = "TooLong" := fun y => z (decide_eq_true y)
    refine nx_l ?_
    refine ⟨_, rfl, by show 2 ≤ sizeLine; decide, fun t5 ht5 => ?_⟩
    have e5 := e2.trans (Ex.new (o := .tup [.ref (He.ga K "Dead"), .ref (He.ga K "AsksTwo")]) ht5)
    have b5 := b2.ext (Ex.new (o := .tup [.ref (He.ga K "Dead"), .ref (He.ga K "AsksTwo")]) ht5)
    refine ⟨a, _, t5, _, _, _, _, rfl, b5, E.err x hx, upd_same, (by exact (.cons (.own _) (.cons (.own _) .nil))), E.any hx ["Dead", "AsksTwo"] (by decide) (by decide), _, rfl, ?_⟩
    generalize upd H2 t5 _ = H5 at e5 b5 ⊢
    refine ite2 (fun z => ?_) (fun z => ?_)
    · have c5 : x ∈ (["Dead", "AsksTwo"] : List Str) := of_decide_eq_true z
      have g : fldOf x = "mark" := by
        unfold fldOf
        rw [if_neg m1, if_neg m2, if_neg m3, if_neg m4, if_pos c5]
      rw [g] at b5
      exact ⟨_, rfl, a, _, _, v, rfl, b5, E.err x hx, E.fld x hx "mark" (by decide), rfl, q _ e5⟩
    have m5 : ¬ x ∈ (["Dead", "AsksTwo"] : List Str) := fun y => z (decide_eq_true y)
    refine nx_l ?_
    refine ⟨_, rfl, a, _, _, _, _, _, rfl, b5, E.err x hx, .own _, kit1 E hx (y := "Unlike") (by decide) (by decide), _, rfl, ?_⟩
    refine ite2 (fun z => ?_) (fun z => ?_)
    · have c6 : x = "Unlike" := of_decide_eq_true z
      have g : fldOf x = "text" := by
        unfold fldOf
        rw [if_neg m1, if_neg m2, if_neg m3, if_neg m4, if_neg m5, if_pos c6]
      rw [g] at b5
      exact ⟨_, rfl, a, _, _, v, rfl, b5, E.err x hx, E.fld x hx "text" (by decide), rfl, q _ e5⟩
    have m6 : ¬ x = "Unlike" := fun y => z (decide_eq_true y)
    refine nx_l ?_
    have g : fldOf x = "given" := by
      unfold fldOf
      rw [if_neg m1, if_neg m2, if_neg m3, if_neg m4, if_neg m5, if_neg m6]
    rw [g] at b5
    exact ⟨_, rfl, a, _, _, v, rfl, b5, E.err x hx, E.fld x hx "given" (by decide), rfl, q _ e5⟩
end
end D0

namespace D0
open PySem PySem.Spec PyProof.Rows L2 L2H HotX Evl K9
section
variable {P : Program} {w : World} {K : PySem.W.Frag} {mg : Str → Option Value} {base : Heap} {f : Addr} {fd : FuncData} {k : Nat}
/-- the fields of an error that has several -/
def nsOf (x : Str) : List Str :=
  if x = "NotApart" then ["generic", "what"] else if x = "RingOfConstants" then ["generic", "terms", "word"] else if x = "Lacks" then ["generic", "terms", "word", "many"] else ["generic", "terms"]
def spSKept (K : PySem.W.Frag) : Pin → Sp := fun p vs H Q _ => ∃ (a : Addr) (x : Str) (us : List V), vs = [.ref a] ∧ x ∈ Hd.errs ∧ us.length = (nsOf x).length ∧ Err p.toList H a (He.ga K x) (some ((nsOf x).zip us).reverse) ∧
  ∀ (q : Addr) (H' : Hp), H q = none → Ex H H' → H' q = some (.lst us) → Q (.ref q) H'
abbrev s_several_kept : Stmt := top 52
abbrev N_several_kept : List Str := ["e"]
theorem sc_several_kept : FnScope N_several_kept ["e"] (defScope s_several_kept) := ⟨rfl, rfl, rfl, by decide +kernel, rfl, by decide +kernel, by decide +kernel⟩
theorem ok_several_kept (T : Txt K mg) (E : ErrsK K) (F : FunD K "_law_several_kept" "_law_several_kept" (defArgs s_several_kept) (defBody s_several_kept) (defScope s_several_kept) [] [] f fd) (hm : mg "_law_several_kept" = some (.ref f)) : Ok P w K mg base (k + 1) "_law_several_kept" ["e"] (spSKept K) := by
  refine ok_of F hm sc_several_kept (fun _ _ _ _ _ _ us hl => match us, hl with | [_], _ => rfl) (fun p vs H Q E h => ?_) (fun cdv A outer s H vs Q E' p c hM hC hr h => ?_)
  · obtain ⟨a, x, us, rfl, _⟩ := h
    rfl
  · obtain ⟨a, x, us, rfl, hx, hl, he, q⟩ := h
    refine ⟨_, (pss_cons (ps_if (pt_val (pe_callB call_isE1 (by rfl) T.f_isinstance (by decide +kernel) (pa_cons (pv 0) (pa_cons (pe_glob (v := .ref (He.ga K "NotApart")) (by rfl) (T.g_cls "NotApart" (by decide)) rfl) pa_nil)))) (pss_one (ps_ret (pe_lst (pa_cons (pe_getE (pv 0)) (pa_cons (pe_getE (pv 0)) pa_nil))))) pss_nil) (pss_cons (ps_if (pt_val (pe_callB call_isE1 (by rfl) T.f_isinstance (by decide +kernel) (pa_cons (pv 0) (pa_cons (pe_glob (v := .ref (He.ga K "RingOfConstants")) (by rfl) (T.g_cls "RingOfConstants" (by decide)) rfl) pa_nil)))) (pss_one (ps_ret (pe_lst (pa_cons (pe_getE (pv 0)) (pa_cons (pe_getE (pv 0)) (pa_cons (pe_getE (pv 0)) pa_nil)))))) pss_nil) (pss_cons (ps_if (pt_val (pe_callB call_isE1 (by rfl) T.f_isinstance (by decide +kernel) (pa_cons (pv 0) (pa_cons (pe_glob (v := .ref (He.ga K "Lacks")) (by rfl) (T.g_cls "Lacks" (by decide)) rfl) pa_nil)))) (pss_one (ps_ret (pe_lst (pa_cons (pe_getE (pv 0)) (pa_cons (pe_getE (pv 0)) (pa_cons (pe_getE (pv 0)) (pa_cons (pe_getE (pv 0)) pa_nil))))))) pss_nil) (pss_one (ps_ret (pe_lst (pa_cons (pe_getE (pv 0)) (pa_cons (pe_getE (pv 0)) pa_nil)))))))), ?_⟩
    refine ⟨_, rfl, a, _, _, _, _, _, rfl, he, E.err x hx, .own _, kit1 E hx (y := "NotApart") (by decide) (by decide), _, rfl, ?_⟩
    refine ite2 (fun z => ?_) (fun z => ?_)
    · have c1 : x = "NotApart" := of_decide_eq_true z
      have g : nsOf x = (["generic", "what"] : List Str) := by
        unfold nsOf
        rw [if_pos c1]
      rw [g] at hl he
      match us, hl, he, q with
      | [u0, u1], _, he, q => exact ⟨_, rfl, a, _, _, u0, rfl, he, E.err x hx, E.fld x hx "generic" (by decide), rfl, _, rfl, a, _, _, u1, rfl, he, E.err x hx, E.fld x hx "what" (by decide), rfl, by show 2 ≤ sizeLine; decide, fun q1 hq1 => q q1 _ hq1 (Ex.new hq1) upd_same⟩
    have m1 : ¬ x = "NotApart" := fun y => z (decide_eq_true y)
    refine nx_l ?_
    refine ⟨_, rfl, a, _, _, _, _, _, rfl, he, E.err x hx, .own _, kit1 E hx (y := "RingOfConstants") (by decide) (by decide), _, rfl, ?_⟩
    refine ite2 (fun z => ?_) (fun z => ?_)
    · have c2 : x = "RingOfConstants" := of_decide_eq_true z
      have g : nsOf x = (["generic", "terms", "word"] : List Str) := by
        unfold nsOf
        rw [if_neg m1, if_pos c2]
      rw [g] at hl he
      match us, hl, he, q with
      | [u0, u1, u2], _, he, q => exact ⟨_, rfl, a, _, _, u0, rfl, he, E.err x hx, E.fld x hx "generic" (by decide), rfl, _, rfl, a, _, _, u1, rfl, he, E.err x hx, E.fld x hx "terms" (by decide), rfl, _, rfl, a, _, _, u2, rfl, he, E.err x hx, E.fld x hx "word" (by decide), rfl, by show 3 ≤ sizeLine; decide, fun q1 hq1 => q q1 _ hq1 (Ex.new hq1) upd_same⟩
    have m2 : ¬ x = "RingOfConstants" := fun y => z (decide_eq_true y)
    refine nx_l ?_
    refine ⟨_, rfl, a, _, _, _, _, _, rfl, he, E.err x hx, .own _, kit1 E hx (y := "Lacks") (by decide) (by decide), _, rfl, ?_⟩
    refine ite2 (fun z => ?_) (fun z => ?_)
    · have c3 : x = "Lacks" := of_decide_eq_true z
      have g : nsOf x = (["generic", "terms", "word", "many"] : List Str) := by
        unfold nsOf
        rw [if_neg m1, if_neg m2, if_pos c3]
      rw [g] at hl he
      match us, hl, he, q with
      | [u0, u1, u2, u3], _, he, q => exact ⟨_, rfl, a, _, _, u0, rfl, he, E.err x hx, E.fld x hx "generic" (by decide), rfl, _, rfl, a, _, _, u1, rfl, he, E.err x hx, E.fld x hx "terms" (by decide), rfl, _, rfl, a, _, _, u2, rfl, he, E.err x hx, E.fld x hx "word" (by decide), rfl, _, rfl, a, _, _, u3, rfl, he, E.err x hx, E.fld x hx "many" (by decide), rfl, by show 4 ≤ sizeLine; decide, fun q1 hq1 => q q1 _ hq1 (Ex.new hq1) upd_same⟩
    have m3 : ¬ x = "Lacks" := fun y => z (decide_eq_true y)
    refine nx_l ?_
    have g : nsOf x = (["generic", "terms"] : List Str) := by
      unfold nsOf
      rw [if_neg m1, if_neg m2, if_neg m3]
    rw [g] at hl he
    match us, hl, he, q with
    | [u0, u1], _, he, q => exact ⟨_, rfl, a, _, _, u0, rfl, he, E.err x hx, E.fld x hx "generic" (by decide), rfl, _, rfl, a, _, _, u1, rfl, he, E.err x hx, E.fld x hx "terms" (by decide), rfl, by show 2 ≤ sizeLine; decide, fun q1 hq1 => q q1 _ hq1 (Ex.new hq1) upd_same⟩
end
end D0

namespace D0
open PySem PySem.Spec PyProof.Rows L2 L2H HotX Evl K9
section
variable {P : Program} {w : World} {K : PySem.W.Frag} {mg : Str → Option Value} {base : Heap} {f : Addr} {fd : FuncData} {k : Nat}
theorem huD {k : Nat} {A : Around} (hr : RoomH k A) : A.units + 1 < cLine := by
  have := hr.un
  omega
def spLike : Pin → Sp := fun p vs H Q _ => ∃ (v u : V) (n : Nat), vs = [v, u] ∧ n ≤ 1000 ∧ Lk H v u n ∧ ∀ (H' : Hp), Ex H H' → Q (.bl true) H'
/-- the loop's invariant: the stack of pairs and its weight -/
def WLike (H : Hp) (L : Addr) (v u : V) (m : Nat) (σ : L2.St) (H' : Hp) : Prop := ∃ (st : List It4) (x3 x4 x5 x6 : Option V), σ = [some v, some u, some (.ref L), x3, x4, x5, x6] ∧ Ex H H' ∧ H' L = some (.lst (refs st)) ∧ StOk H H' L st ∧ wt st = m ∧ m ≤ 1000
abbrev s_like : Stmt := top 45
abbrev N_like : List Str := ["told", "due", "left", "one", "other", "k", "key"]
theorem sc_like : FnScope N_like ["told", "due"] (defScope s_like) := ⟨rfl, rfl, rfl, by decide +kernel, rfl, by decide +kernel, by decide +kernel⟩
theorem ok_like (T : Txt K mg) (F : FunD K "_law_like" "_law_like" (defArgs s_like) (defBody s_like) (defScope s_like) [] [] f fd) (hm : mg "_law_like" = some (.ref f)) : Ok P w K mg base (k + 1) "_law_like" ["told", "due"] spLike := by
  refine ok_of F hm sc_like (fun _ _ _ _ _ _ us hl => match us, hl with | [_, _], _ => rfl) (fun p vs H Q E h => ?_) (fun cdv A outer s H vs Q E' p c hM hC hr h => ?_)
  · obtain ⟨v, u, n, rfl, _⟩ := h
    rfl
  · obtain ⟨v, u, n, rfl, hn, hl, q⟩ := h
    have hM : Mood (cxB P w K mg base N_like "_law_like" (defScope s_like) f cdv A outer s H E' c p.toList).nox := hM
    refine ⟨_, PSs.nox (pss_cons (ps_set (i := 2) sc_like.nd rfl (Or.inl rfl) (pe_lst (pa_cons (pe_tup (pa_cons (pv 0) (pa_cons (pv 1) pa_nil))) pa_nil))) (pss_cons (ps_while PassesOwn.never (pt_cmpR (op_ne0 (huC hr)) (pv 2) (pe_lst pa_nil) (nomark _)) (pss_cons (ps_asg (pe_bm0 PySem.F.plainAttrs_list PySem.F.slot_list_pop PySem.F.type_list_pop mt_pop (pv 2)) (pg_tupC hM (pgs_cons (pg_name (i := 3) sc_like.nd rfl (Or.inr rfl)) (pgs_cons (pg_name (i := 4) sc_like.nd rfl (Or.inr rfl)) pgs_nil)))) (pss_one (ps_if (pt_val (pe_callB call_isiT (by rfl) T.f_isinstance (by decide +kernel) (pa_cons (pv 4) (pa_cons (pe_tup (pa_cons (pe_bltn (v := .ty "list") (by rfl) T.f_list (by decide +kernel) rfl) (pa_cons (pe_bltn (v := .ty "tuple") (by rfl) T.f_tuple (by decide +kernel) rfl) pa_nil))) pa_nil)))) (pss_cons (ps_if (pw_or (pt_cmpR op_ne (pe_callB call_isi (by rfl) T.f_isinstance (by decide +kernel) (pa_cons (pv 3) (pa_cons (pe_bltn (v := .ty "list") (by rfl) T.f_list (by decide +kernel) rfl) pa_nil))) (pe_callB call_isi (by rfl) T.f_isinstance (by decide +kernel) (pa_cons (pv 4) (pa_cons (pe_bltn (v := .ty "list") (by rfl) T.f_list (by decide +kernel) rfl) pa_nil))) (nomark _)) (pw_or1 (pt_cmpR op_ne (pe_callB call_isi (by rfl) T.f_isinstance (by decide +kernel) (pa_cons (pv 3) (pa_cons (pe_bltn (v := .ty "tuple") (by rfl) T.f_tuple (by decide +kernel) rfl) pa_nil))) (pe_callB call_isi (by rfl) T.f_isinstance (by decide +kernel) (pa_cons (pv 4) (pa_cons (pe_bltn (v := .ty "tuple") (by rfl) T.f_tuple (by decide +kernel) rfl) pa_nil))) (nomark _)))).pt (pss_one (ps_ret pe_bl)) pss_nil) (pss_cons (ps_if (pt_cmpR op_ne (pe_callB call_lenA (by rfl) T.f_len (by decide +kernel) (pa_cons (pv 3) pa_nil)) (pe_callB call_lenA (by rfl) T.f_len (by decide +kernel) (pa_cons (pv 4) pa_nil)) (nomark _)) (pss_one (ps_ret pe_bl)) pss_nil) (pss_one (ps_expr (pe_bm PySem.F.plainAttrs_list PySem.F.slot_list_extend PySem.F.type_list_extend mt_extend (pv 2) (pa_cons (pe_lcC (own := [("k", 5)]) (g := gName 5) hM sc_like.nd (fun _ => (pi_range1 (by rfl) T.f_range (pa_cons (pe_callB call_lenA (by rfl) T.f_len (by decide +kernel) (pa_cons (pv 4) pa_nil)) pa_nil))) (fun _ => (pi_range1H (by rfl) T.f_range (pa_cons (pe_callB call_lenA (by rfl) T.f_len (by decide +kernel) (pa_cons (pv 4) pa_nil)) pa_nil))) (blkOk_by (N := N_like) (sc := defScope s_like) (by decide +kernel)) (fun _ _ _ _ _ => pg_name (i := 5) sc_like.nd rfl (Or.inl rfl)) (fun _ _ _ _ _ => pts_nil) (fun _ _ _ _ _ => (pe_tup (pa_cons (pe_ix (show IxR _ (rIx K) from ix_seq) (pv 3) (pv 5) fun _ _ => rfl) (pa_cons (pe_ix (show IxR _ (rIx K) from ix_seq) (pv 4) (pv 5) fun _ _ => rfl) pa_nil))))) pa_nil)))))) (pss_one (ps_if (pt_val (pe_callB call_isi (by rfl) T.f_isinstance (by decide +kernel) (pa_cons (pv 4) (pa_cons (pe_bltn (v := .ty "dict") (by rfl) T.f_dict (by decide +kernel) rfl) pa_nil)))) (pss_cons (ps_if (pw_or (pt_not (pt_val (pe_callB call_isi (by rfl) T.f_isinstance (by decide +kernel) (pa_cons (pv 3) (pa_cons (pe_bltn (v := .ty "dict") (by rfl) T.f_dict (by decide +kernel) rfl) pa_nil))))) (pw_or (pt_cmpR op_ne (pe_callB call_lenA (by rfl) T.f_len (by decide +kernel) (pa_cons (pv 3) pa_nil)) (pe_callB call_lenA (by rfl) T.f_len (by decide +kernel) (pa_cons (pv 4) pa_nil)) (nomark _)) (pw_or1 (pt_cmpR (op_ne0 (huC hr)) (pe_lock (pe_lcC (own := [("key", 6)]) (g := gName 6) hM sc_like.nd (fun _ => (pi_keyK (pv 4))) (fun _ => (piH_keyK (pv 4))) (blkOk_by (N := N_like) (sc := defScope s_like) (by decide +kernel)) (fun _ _ _ _ _ => pg_name (i := 6) sc_like.nd rfl (Or.inl rfl)) (fun _ _ _ _ _ => (pts_one (pt_cmp (pc_dnotin (huD hr) (pv 6) (pv 3))))) (fun _ _ _ _ _ => (pv 6)))) (pe_lst pa_nil) (nomark _))))).pt (pss_one (ps_ret pe_bl)) pss_nil) (pss_one (ps_expr (pe_bm PySem.F.plainAttrs_list PySem.F.slot_list_extend PySem.F.type_list_extend mt_extend (pv 2) (pa_cons (pe_lock (pe_lcC (own := [("key", 6)]) (g := gName 6) hM sc_like.nd (fun _ => (pi_keyK (pv 4))) (fun _ => (piH_keyK (pv 4))) (blkOk_by (N := N_like) (sc := defScope s_like) (by decide +kernel)) (fun _ _ _ _ _ => pg_name (i := 6) sc_like.nd rfl (Or.inl rfl)) (fun _ _ _ _ _ => pts_nil) (fun _ _ _ _ _ => (pe_tup (pa_cons (pe_dget (huD hr) (pv 3) (pv 6) fun _ _ => rfl) (pa_cons (pe_dget (huD hr) (pv 4) (pv 6) fun _ _ => rfl) pa_nil)))))) pa_nil))))) (pss_one (ps_if (pw_and (pt_val (pe_callB call_isi (by rfl) T.f_isinstance (by decide +kernel) (pa_cons (pv 4) (pa_cons (pe_bltn (v := .ty "int") (by rfl) T.f_int (by decide +kernel) rfl) pa_nil)))) (pw_and1 (pt_not (pt_val (pe_callB call_isi (by rfl) T.f_isinstance (by decide +kernel) (pa_cons (pv 4) (pa_cons (pe_bltn (v := .ty "bool") (by rfl) T.f_bool (by decide +kernel) rfl) pa_nil))))))).pt (pss_one (ps_if (pw_or (pt_not (pt_val (pe_callB call_isi (by rfl) T.f_isinstance (by decide +kernel) (pa_cons (pv 3) (pa_cons (pe_bltn (v := .ty "int") (by rfl) T.f_int (by decide +kernel) rfl) pa_nil))))) (pw_or (pt_val (pe_callB call_isi (by rfl) T.f_isinstance (by decide +kernel) (pa_cons (pv 3) (pa_cons (pe_bltn (v := .ty "bool") (by rfl) T.f_bool (by decide +kernel) rfl) pa_nil)))) (pw_or1 (pt_cmpR op_ne (pv 3) (pv 4) (nomark _))))).pt (pss_one (ps_ret pe_bl)) pss_nil)) (pss_one (ps_if (pt_val (pe_callB call_isi (by rfl) T.f_isinstance (by decide +kernel) (pa_cons (pv 4) (pa_cons (pe_bltn (v := .ty "str") (by rfl) T.f_str (by decide +kernel) rfl) pa_nil)))) (pss_one (ps_if (pw_or (pt_not (pt_val (pe_callB call_isi (by rfl) T.f_isinstance (by decide +kernel) (pa_cons (pv 3) (pa_cons (pe_bltn (v := .ty "str") (by rfl) T.f_str (by decide +kernel) rfl) pa_nil))))) (pw_or1 (pt_cmpR op_ne (pv 3) (pv 4) (nomark _)))).pt (pss_one (ps_ret pe_bl)) pss_nil)) (pss_one (ps_if (pw_or (pt_cmpR op_ne (pe_cmpR op_isN (pv 4) pe_non (nomark _)) (pe_cmpR op_isN (pv 3) pe_non (nomark _)) (nomark _)) (pw_or (pt_cmpR op_ne (pe_cmpR (op_isB (b := true)) (pv 4) pe_bl (nomark _)) (pe_cmpR (op_isB (b := true)) (pv 3) pe_bl (nomark _)) (nomark _)) (pw_or1 (pt_cmpR op_ne (pe_cmpR (op_isB (b := false)) (pv 4) pe_bl (nomark _)) (pe_cmpR (op_isB (b := false)) (pv 3) pe_bl (nomark _)) (nomark _))))).pt (pss_one (ps_ret pe_bl)) pss_nil)))))))))))) (pss_one (ps_ret pe_bl)))), ?_⟩
    refine seq_asg ?_
    refine ⟨_, rfl, _, rfl, by show 2 ≤ sizeLine; decide, fun r hr => ⟨by show 1 ≤ sizeLine; decide, fun L hL => ?_⟩⟩
    have nLr : r ≠ L := fun z => by
      rw [← z, upd_same] at hL
      cases hL
    have hL0 : H L = none := by
      rw [upd_ne (Ne.symm nLr)] at hL
      exact hL
    refine ⟨WLike H L v u, ⟨n, [⟨r, v, u, n⟩], none, none, none, none, rfl, (Ex.new hr).trans (Ex.new hL), upd_same, fun q hq => ?_, by simp [wt], hn⟩, ?_⟩
    · obtain rfl := List.mem_singleton.mp hq
      exact ⟨nLr, by rw [upd_ne nLr, upd_same], hl⟩
    · rintro m σ' H' ⟨st, x3, x4, x5, x6, rfl, e, hL, ok, hw, hm⟩
      refine ⟨_, rfl, by show 0 ≤ sizeLine; decide, fun p1 hp1 => ⟨L, p1, refs st, rfl, rfl, SqL.of ((Ex.new hp1) _ _ hL), SqL.of upd_same, _, rfl, ?_⟩⟩
      have e1 := e.trans (Ex.new (o := .lst []) hp1)
      have hL1 := (Ex.new (o := .lst []) hp1) _ _ hL
      have ok1 := StOk.ext (Ex.but (Ex.new (o := .lst []) hp1)) ok
      generalize upd H' p1 (.lst []) = H1 at e1 hL1 ok1 ⊢
      rcases List.eq_nil_or_concat st with rfl | ⟨st0, q4, rfl⟩
      · refine ite2 (fun z => absurd z (by decide)) (fun _ => ?_)
        exact q _ e1
      · refine ite2 (fun _ => ?_) (fun z => absurd z (by simp [refs]))
        refine ⟨fun σ2 H2 => ∃ m', m' < m ∧ WLike H L v u m' σ2 H2, fun _ _ h => h, ?_⟩
        have hq4 := ok1 q4 (by simp)
        have hd : (refs (st0.concat q4)).dropLast = refs st0 := by simp [refs]
        refine ⟨_, rfl, .inl ⟨rfl, _, SqL.of hL1⟩, L, refs (st0.concat q4), .ref q4.r, rfl, rfl, hL1, by simp [refs], q4.r, [q4.v, q4.u], rfl, SqT.of (by rw [upd_ne hq4.1]; exact hq4.2.1), rfl, ?_⟩
        rw [hd]
        have e2 : Ex H (upd H1 L (.lst (refs st0))) := ExB.new (ExB.trans (Ex.but e1) ExB.set) hL0
        have hL2 : upd H1 L (.lst (refs st0)) L = some (.lst (refs st0)) := upd_same
        have ok2 : StOk H (upd H1 L (.lst (refs st0))) L st0 := StOk.ext ExB.set fun z hz => ok1 z (by simp [hz])
        have lk := hq4.2.2
        have hw2 : wt st0 + q4.n = m := by
          rw [← hw, List.concat_eq_append, wt_app]
          simp [wt]
        obtain ⟨r4, v4, u4, n4⟩ := q4
        simp only at lk hw2
        generalize upd H1 L (.lst (refs st0)) = G at e2 hL2 ok2 ⊢
        clear hq4 hd hL1 ok1 e1 hw ok hL
        have fin : ∀ (x5 x6 : Option V) (G2 : Hp), Ex G G2 → 1 ≤ n4 → ∃ m', m' < m ∧ WLike H L v u m' [some v, some u, some (.ref L), some v4, some u4, x5, x6] G2 := fun x5 x6 G2 e3 h1 =>
          ⟨wt st0, by omega, st0, _, _, _, _, rfl, e2.trans e3, e3 _ _ hL2, StOk.ext (Ex.but e3) ok2, rfl, by omega⟩
        refine ⟨_, _, rfl, _, _, rfl, rfl, _, rfl, by show 2 ≤ sizeLine; decide, fun t ht => ?_⟩
        cases lk with
        | non =>
          refine ⟨_, t, _, _, _, _, rfl, upd_same, .cons (.ty _) (.cons (.ty _) .nil), .base .non, rfl, _, rfl, ?_⟩
          have e3 : Ex G (upd G t (.tup [.ty "list", .ty "tuple"])) := Ex.new ht
          generalize upd G t (.tup [.ty "list", .ty "tuple"]) = G1 at e3 ⊢
          refine ite2 (fun z => absurd z (by decide)) (fun _ => ?_)
          refine ⟨_, rfl, _, _, _, _, _, rfl, .ty _, .base .non, rfl, _, rfl, ?_⟩
          refine ite2 (fun z => absurd z (by decide)) (fun _ => ?_)
          refine ⟨_, rfl, _, _, _, _, _, rfl, .ty _, .base .non, rfl, _, rfl, ?_⟩
          refine ite2 (fun z => absurd z (by decide)) (fun _ => ?_)
          refine ite2 (fun z => absurd z (by decide)) (fun _ => ?_)
          refine ⟨_, rfl, _, _, _, _, _, rfl, .ty _, .base .non, rfl, _, rfl, ?_⟩
          refine ite2 (fun z => absurd z (by decide)) (fun _ => ?_)
          refine ⟨_, rfl, rfl, _, rfl, rfl, rfl, _, rfl, ?_⟩
          refine ite2 (fun z => absurd z (by simp)) (fun _ => ?_)
          refine ⟨_, rfl, rfl, .inl rfl, _, rfl, rfl, .inl rfl, rfl, _, rfl, ?_⟩
          refine ite2 (fun z => absurd z (by simp)) (fun _ => ?_)
          refine ⟨_, rfl, rfl, .inl rfl, _, rfl, rfl, .inl rfl, rfl, _, rfl, ?_⟩
          refine ite2 (fun z => absurd z (by simp)) (fun _ => ?_)
          exact fin _ _ _ e3 (by omega)
        | bl b =>
          cases b
          · refine ⟨_, t, _, _, _, _, rfl, upd_same, .cons (.ty _) (.cons (.ty _) .nil), .base (.bl _), rfl, _, rfl, ?_⟩
            have e3 : Ex G (upd G t (.tup [.ty "list", .ty "tuple"])) := Ex.new ht
            generalize upd G t (.tup [.ty "list", .ty "tuple"]) = G1 at e3 ⊢
            refine ite2 (fun z => absurd z (by decide)) (fun _ => ?_)
            refine ⟨_, rfl, _, _, _, _, _, rfl, .ty _, .base (.bl _), rfl, _, rfl, ?_⟩
            refine ite2 (fun z => absurd z (by decide)) (fun _ => ?_)
            refine ⟨_, rfl, _, _, _, _, _, rfl, .ty _, .base (.bl _), rfl, _, rfl, ?_⟩
            refine ite2 (fun _ => ?_) (fun z => absurd rfl z)
            refine ⟨_, rfl, _, _, _, _, _, rfl, .ty _, .base (.bl _), rfl, _, rfl, ?_⟩
            refine ite2 (fun z => absurd z (by decide)) (fun _ => ?_)
            refine ⟨_, rfl, _, _, _, _, _, rfl, .ty _, .base (.bl _), rfl, _, rfl, ?_⟩
            refine ite2 (fun z => absurd z (by decide)) (fun _ => ?_)
            refine ⟨_, rfl, rfl, _, rfl, rfl, rfl, _, rfl, ?_⟩
            refine ite2 (fun z => absurd z (by simp)) (fun _ => ?_)
            refine ⟨_, rfl, rfl, .inr ⟨_, rfl⟩, _, rfl, rfl, .inr ⟨_, rfl⟩, rfl, _, rfl, ?_⟩
            refine ite2 (fun z => absurd z (by simp)) (fun _ => ?_)
            refine ⟨_, rfl, rfl, .inr ⟨_, rfl⟩, _, rfl, rfl, .inr ⟨_, rfl⟩, rfl, _, rfl, ?_⟩
            refine ite2 (fun z => absurd z (by simp)) (fun _ => ?_)
            exact fin _ _ _ e3 (by omega)
          · refine ⟨_, t, _, _, _, _, rfl, upd_same, .cons (.ty _) (.cons (.ty _) .nil), .base (.bl _), rfl, _, rfl, ?_⟩
            have e3 : Ex G (upd G t (.tup [.ty "list", .ty "tuple"])) := Ex.new ht
            generalize upd G t (.tup [.ty "list", .ty "tuple"]) = G1 at e3 ⊢
            refine ite2 (fun z => absurd z (by decide)) (fun _ => ?_)
            refine ⟨_, rfl, _, _, _, _, _, rfl, .ty _, .base (.bl _), rfl, _, rfl, ?_⟩
            refine ite2 (fun z => absurd z (by decide)) (fun _ => ?_)
            refine ⟨_, rfl, _, _, _, _, _, rfl, .ty _, .base (.bl _), rfl, _, rfl, ?_⟩
            refine ite2 (fun _ => ?_) (fun z => absurd rfl z)
            refine ⟨_, rfl, _, _, _, _, _, rfl, .ty _, .base (.bl _), rfl, _, rfl, ?_⟩
            refine ite2 (fun z => absurd z (by decide)) (fun _ => ?_)
            refine ⟨_, rfl, _, _, _, _, _, rfl, .ty _, .base (.bl _), rfl, _, rfl, ?_⟩
            refine ite2 (fun z => absurd z (by decide)) (fun _ => ?_)
            refine ⟨_, rfl, rfl, _, rfl, rfl, rfl, _, rfl, ?_⟩
            refine ite2 (fun z => absurd z (by simp)) (fun _ => ?_)
            refine ⟨_, rfl, rfl, .inr ⟨_, rfl⟩, _, rfl, rfl, .inr ⟨_, rfl⟩, rfl, _, rfl, ?_⟩
            refine ite2 (fun z => absurd z (by simp)) (fun _ => ?_)
            refine ⟨_, rfl, rfl, .inr ⟨_, rfl⟩, _, rfl, rfl, .inr ⟨_, rfl⟩, rfl, _, rfl, ?_⟩
            refine ite2 (fun z => absurd z (by simp)) (fun _ => ?_)
            exact fin _ _ _ e3 (by omega)
        | int i =>
          refine ⟨_, t, _, _, _, _, rfl, upd_same, .cons (.ty _) (.cons (.ty _) .nil), .base (.int _), rfl, _, rfl, ?_⟩
          have e3 : Ex G (upd G t (.tup [.ty "list", .ty "tuple"])) := Ex.new ht
          generalize upd G t (.tup [.ty "list", .ty "tuple"]) = G1 at e3 ⊢
          refine ite2 (fun z => absurd z (by decide)) (fun _ => ?_)
          refine ⟨_, rfl, _, _, _, _, _, rfl, .ty _, .base (.int _), rfl, _, rfl, ?_⟩
          refine ite2 (fun z => absurd z (by decide)) (fun _ => ?_)
          refine ⟨_, rfl, _, _, _, _, _, rfl, .ty _, .base (.int _), rfl, _, rfl, ?_⟩
          refine ite2 (fun _ => ?_) (fun z => absurd rfl z)
          refine ⟨_, rfl, _, _, _, _, _, rfl, .ty _, .base (.int _), rfl, _, rfl, ?_⟩
          refine ite2 (fun _ => ?_) (fun z => absurd rfl z)
          refine ⟨_, rfl, _, _, _, _, _, rfl, .ty _, .base (.int _), rfl, _, rfl, ?_⟩
          refine ite2 (fun z => absurd z (by decide)) (fun _ => ?_)
          refine ⟨_, rfl, _, _, _, _, _, rfl, .ty _, .base (.int _), rfl, _, rfl, ?_⟩
          refine ite2 (fun z => absurd z (by decide)) (fun _ => ?_)
          refine ⟨_, rfl, _, rfl, rfl, _, rfl, ?_⟩
          refine ite2 (fun z => absurd z (by simp)) (fun _ => ?_)
          exact fin _ _ _ e3 (by omega)
        | str z =>
          refine ⟨_, t, _, _, _, _, rfl, upd_same, .cons (.ty _) (.cons (.ty _) .nil), .base (.str _), rfl, _, rfl, ?_⟩
          have e3 : Ex G (upd G t (.tup [.ty "list", .ty "tuple"])) := Ex.new ht
          generalize upd G t (.tup [.ty "list", .ty "tuple"]) = G1 at e3 ⊢
          refine ite2 (fun z => absurd z (by decide)) (fun _ => ?_)
          refine ⟨_, rfl, _, _, _, _, _, rfl, .ty _, .base (.str _), rfl, _, rfl, ?_⟩
          refine ite2 (fun z => absurd z (by decide)) (fun _ => ?_)
          refine ⟨_, rfl, _, _, _, _, _, rfl, .ty _, .base (.str _), rfl, _, rfl, ?_⟩
          refine ite2 (fun z => absurd z (by decide)) (fun _ => ?_)
          refine ite2 (fun z => absurd z (by decide)) (fun _ => ?_)
          refine ⟨_, rfl, _, _, _, _, _, rfl, .ty _, .base (.str _), rfl, _, rfl, ?_⟩
          refine ite2 (fun _ => ?_) (fun z => absurd rfl z)
          refine ⟨_, rfl, _, _, _, _, _, rfl, .ty _, .base (.str _), rfl, _, rfl, ?_⟩
          refine ite2 (fun z => absurd z (by decide)) (fun _ => ?_)
          refine ⟨_, rfl, _, rfl, rfl, _, rfl, ?_⟩
          refine ite2 (fun z => absurd z (by simp)) (fun _ => ?_)
          exact fin _ _ _ e3 (by omega)
        | @lst a4 b4 vs us n0 ha hb hs =>
          have ha0 := e2 _ _ ha
          have hb0 := e2 _ _ hb
          refine ⟨_, t, _, _, _, _, rfl, upd_same, .cons (.ty _) (.cons (.ty _) .nil), .base (.lst ((Ex.new ht) _ _ hb0)), rfl, _, rfl, ?_⟩
          have e3 : Ex G (upd G t (.tup [.ty "list", .ty "tuple"])) := Ex.new ht
          generalize upd G t (.tup [.ty "list", .ty "tuple"]) = G1 at e3 ⊢
          refine ite2 (fun _ => ?_) (fun z => absurd rfl z)
          have ha1 := e3 _ _ ha0
          have hb1 := e3 _ _ hb0
          refine ⟨_, rfl, _, _, _, _, _, rfl, .ty _, .base (.lst ha1), rfl, _, rfl, _, _, _, _, _, rfl, .ty _, .base (.lst hb1), rfl, rfl, _, rfl, ?_⟩
          refine ite2 (fun z => absurd z (by decide)) (fun _ => ?_)
          refine ⟨_, rfl, _, _, _, _, _, rfl, .ty _, .base (.lst ha1), rfl, _, rfl, _, _, _, _, _, rfl, .ty _, .base (.lst hb1), rfl, rfl, _, rfl, ?_⟩
          refine ite2 (fun z => absurd z (by decide)) (fun _ => ?_)
          refine nx_l ?_
          obtain ⟨ns, l1, l2, l3, l4, hget⟩ := hs.get
          refine ⟨_, rfl, .inl ⟨_, vs, rfl, .inl (SqL.of ha1), _, rfl, .inl ⟨_, us, rfl, .inl (SqL.of hb1), rfl, _, rfl, ?_⟩⟩⟩
          refine ite0 (by rw [l1]; simp) (nx_l ?_)
          have hL3 := e3 _ _ hL2
          refine ⟨_, rfl, .inl ⟨rfl, _, SqL.of hL3⟩, cons_l ?_⟩
          have big : (1000 : Nat) ≤ sizeLine := by decide
          have z2 := wt_len ok2
          refine lc_by (J := Itr 0 us.length) (n := us.length) (item := fun i => .int (i : Int)) (Made H L vs us ns) (by omega) (by show (5 : Nat) < 7; decide) (fun R h => ?_) walks_rng0 (fun D j acc H1 H2 => Made.mono) (fun D hD => Made.nil) (fun D j acc H1 C Cf hj hD e4 ha4 hp kf kt => ?_) (fun D acc H1 hD e4 ha4 hp => ?_)
          · refine ⟨_, rfl, .inl ⟨_, us, rfl, .inl (SqL.of hb1), (us.length : Int), rfl, by omega, by omega, ?_⟩⟩
            rw [Int.toNat_natCast]
            exact h
          · have hj1 : j < vs.length := by omega
            refine ⟨_, rfl, _, rfl, .inl ⟨_, vs, _, _, rfl, rfl, SqL.of (e4 _ _ ha1), atI_nat (getD_at hj1), _, rfl, _, rfl, .inl ⟨_, us, _, _, rfl, rfl, SqL.of (e4 _ _ hb1), atI_nat (getD_at hj), by show 2 ≤ sizeLine; decide, fun t4 ht4 => ?_⟩⟩⟩
            exact kt _ _ (Ex.new ht4) (hp.next ht4 ha4 (e4 _ _ hL3) (hget j hj))
          · rw [← l2] at hp
            obtain ⟨its, rfl, w1, ok3⟩ := hp.wt
            have hL4 := e4 _ _ hL3
            have nD : D ≠ L := (ne_of_none hL3 hD).symm
            have z1 := wt_len ok3
            refine ⟨L, D, refs st0, refs its, rfl, rfl, hL4, ha4, by simp [refs]; omega, ?_⟩
            refine ⟨wt (st0 ++ its), by rw [wt_app]; omega, st0 ++ its, _, _, _, _, rfl, ExB.new (ExB.trans (Ex.but (e2.trans (e3.trans e4))) ExB.set) hL0, by rw [upd_same]; simp [refs], ?_, rfl, by rw [wt_app]; omega⟩
            exact StOk.ext ExB.set (StOk.app (StOk.ext (Ex.but (e3.trans e4)) ok2) ok3)
        | @tup a4 b4 vs us n0 ha hb hs =>
          have ha0 := e2 _ _ ha
          have hb0 := e2 _ _ hb
          refine ⟨_, t, _, _, _, _, rfl, upd_same, .cons (.ty _) (.cons (.ty _) .nil), .base (.tup ((Ex.new ht) _ _ hb0)), rfl, _, rfl, ?_⟩
          have e3 : Ex G (upd G t (.tup [.ty "list", .ty "tuple"])) := Ex.new ht
          generalize upd G t (.tup [.ty "list", .ty "tuple"]) = G1 at e3 ⊢
          refine ite2 (fun _ => ?_) (fun z => absurd rfl z)
          have ha1 := e3 _ _ ha0
          have hb1 := e3 _ _ hb0
          refine ⟨_, rfl, _, _, _, _, _, rfl, .ty _, .base (.tup ha1), rfl, _, rfl, _, _, _, _, _, rfl, .ty _, .base (.tup hb1), rfl, rfl, _, rfl, ?_⟩
          refine ite2 (fun z => absurd z (by decide)) (fun _ => ?_)
          refine ⟨_, rfl, _, _, _, _, _, rfl, .ty _, .base (.tup ha1), rfl, _, rfl, _, _, _, _, _, rfl, .ty _, .base (.tup hb1), rfl, rfl, _, rfl, ?_⟩
          refine ite2 (fun z => absurd z (by decide)) (fun _ => ?_)
          refine nx_l ?_
          obtain ⟨ns, l1, l2, l3, l4, hget⟩ := hs.get
          refine ⟨_, rfl, .inl ⟨_, vs, rfl, .inr (SqT.of ha1), _, rfl, .inl ⟨_, us, rfl, .inr (SqT.of hb1), rfl, _, rfl, ?_⟩⟩⟩
          refine ite0 (by rw [l1]; simp) (nx_l ?_)
          have hL3 := e3 _ _ hL2
          refine ⟨_, rfl, .inl ⟨rfl, _, SqL.of hL3⟩, cons_l ?_⟩
          have big : (1000 : Nat) ≤ sizeLine := by decide
          have z2 := wt_len ok2
          refine lc_by (J := Itr 0 us.length) (n := us.length) (item := fun i => .int (i : Int)) (Made H L vs us ns) (by omega) (by show (5 : Nat) < 7; decide) (fun R h => ?_) walks_rng0 (fun D j acc H1 H2 => Made.mono) (fun D hD => Made.nil) (fun D j acc H1 C Cf hj hD e4 ha4 hp kf kt => ?_) (fun D acc H1 hD e4 ha4 hp => ?_)
          · refine ⟨_, rfl, .inl ⟨_, us, rfl, .inr (SqT.of hb1), (us.length : Int), rfl, by omega, by omega, ?_⟩⟩
            rw [Int.toNat_natCast]
            exact h
          · have hj1 : j < vs.length := by omega
            refine ⟨_, rfl, _, rfl, .inr (.inl ⟨_, vs, _, _, rfl, rfl, SqT.of (e4 _ _ ha1), atI_nat (getD_at hj1), _, rfl, _, rfl, .inr (.inl ⟨_, us, _, _, rfl, rfl, SqT.of (e4 _ _ hb1), atI_nat (getD_at hj), by show 2 ≤ sizeLine; decide, fun t4 ht4 => ?_⟩)⟩)⟩
            exact kt _ _ (Ex.new ht4) (hp.next ht4 ha4 (e4 _ _ hL3) (hget j hj))
          · rw [← l2] at hp
            obtain ⟨its, rfl, w1, ok3⟩ := hp.wt
            have hL4 := e4 _ _ hL3
            have nD : D ≠ L := (ne_of_none hL3 hD).symm
            have z1 := wt_len ok3
            refine ⟨L, D, refs st0, refs its, rfl, rfl, hL4, ha4, by simp [refs]; omega, ?_⟩
            refine ⟨wt (st0 ++ its), by rw [wt_app]; omega, st0 ++ its, _, _, _, _, rfl, ExB.new (ExB.trans (Ex.but (e2.trans (e3.trans e4))) ExB.set) hL0, by rw [upd_same]; simp [refs], ?_, rfl, by rw [wt_app]; omega⟩
            exact StOk.ext ExB.set (StOk.app (StOk.ext (Ex.but (e3.trans e4)) ok2) ok3)
        | @dic a4 b4 ks ls n0 ha hb hk hd hs =>
          have ha0 := e2 _ _ ha
          have hb0 := e2 _ _ hb
          refine ⟨_, t, _, _, _, _, rfl, upd_same, .cons (.ty _) (.cons (.ty _) .nil), .base (.dK ((Ex.new ht) _ _ hb0)), rfl, _, rfl, ?_⟩
          have e3 : Ex G (upd G t (.tup [.ty "list", .ty "tuple"])) := Ex.new ht
          generalize upd G t (.tup [.ty "list", .ty "tuple"]) = G1 at e3 ⊢
          refine ite2 (fun z => absurd z (by decide)) (fun _ => ?_)
          have ha1 := e3 _ _ ha0
          have hb1 := e3 _ _ hb0
          refine ⟨_, rfl, _, _, _, _, _, rfl, .ty _, .base (.dK hb1), rfl, _, rfl, ?_⟩
          refine ite2 (fun _ => ?_) (fun z => absurd rfl z)
          refine ⟨_, rfl, _, _, _, _, _, rfl, .ty _, .base (.dK ha1), rfl, _, rfl, ?_⟩
          refine ite2 (fun z => absurd z (by decide)) (fun _ => ?_)
          have hkl : ks.length = ls.length := by simpa using congrArg List.length hk
          obtain ⟨ns, l1, l2, l3, l4, hget⟩ := hs.get
          have l5 : ns.length = ls.length := by simpa using l2
          have l6 : ls.length ≤ n0 := by simpa using l4
          have big : (1000 : Nat) ≤ sizeLine := by decide
          have z2 := wt_len ok2
          have nbL : b4 ≠ L := ne_of_none hb hL0
          refine ⟨_, rfl, .inr ⟨_, ks, rfl, ha1, _, rfl, .inr ⟨_, ls, rfl, hb1, rfl, _, rfl, ?_⟩⟩⟩
          refine ite0 (by rw [hkl]; simp) ?_
          refine ⟨b4, .dK ls, hb1, trivial, fun od => ?_⟩
          have hF : upd G1 b4 (.frz od (.dK ls)) b4 = some (.frz od (.dK ls)) := upd_same
          refine lc_none (J := Itk b4 od ls) (n := ls.length) (item := itemK ls) (by omega) (by show (6 : Nat) < 7; decide) (fun R h => ⟨_, rfl, b4, od, rfl, ls, hF, h⟩) (walks_key hF) (fun j H1 R hj e4 kf => ?_) (fun D H1 hD e4 hD1 => ?_)
          · obtain ⟨ky, hk1, hk2, hk3⟩ := dic_at hk hd hj
            refine ⟨_, rfl, _, rfl, a4, some _, rfl, .inl ⟨ks, ky, rd_lock ha1 hb1 e4, hk1, hk2.symm⟩, _, rfl, ?_⟩
            exact kf _ (Ex.refl _)
          refine ⟨e4 _ _ hF, by show 0 ≤ sizeLine; decide, fun p2 hp2 => ?_⟩
          have nDb : D ≠ b4 := (ne_of_none hF hD).symm
          have hD2 : upd (upd H1 b4 (.dK ls)) p2 (.lst []) D = some (.lst []) := (Ex.new hp2) _ _ (by rw [upd_ne nDb]; exact hD1)
          have e5 : Ex G1 (upd (upd H1 b4 (.dK ls)) p2 (.lst [])) := (ex_lock hb1 e4).trans (Ex.new hp2)
          refine ⟨D, p2, [], rfl, rfl, SqL.of hD2, SqL.of upd_same, _, rfl, ?_⟩
          refine ite0 (by simp) (nx_l ?_)
          generalize upd (upd H1 b4 (.dK ls)) p2 (.lst []) = G2 at e5 ⊢
          have ha2 := e5 _ _ ha1
          have hb2 := e5 _ _ hb1
          have hL3 := e5 _ _ (e3 _ _ hL2)
          refine ⟨_, rfl, .inl ⟨rfl, _, SqL.of hL3⟩, cons_l ⟨b4, .dK ls, hb2, trivial, fun od2 => ?_⟩⟩
          have hF2 : upd G2 b4 (.frz od2 (.dK ls)) b4 = some (.frz od2 (.dK ls)) := upd_same
          have hLF : upd G2 b4 (.frz od2 (.dK ls)) L = some (.lst (refs st0)) := by
            rw [upd_ne nbL.symm]
            exact hL3
          refine lc_by (J := Itk b4 od2 ls) (n := ls.length) (item := itemK ls) (Made H L (ks.map (·.2)) (ls.map (·.2)) ns) (by omega) (by show (6 : Nat) < 7; decide) (fun R h => ⟨_, rfl, b4, od2, rfl, ls, hF2, h⟩) (walks_key hF2) (fun D j acc H1 H2 => Made.mono) (fun D hD => Made.nil) (fun D j acc H1 C Cf hj hD e6 ha6 hp kf kt => ?_) (fun D acc H1 hD e6 ha6 hp => ?_)
          · obtain ⟨ky, hk1, hk2, hk3⟩ := dic_at hk hd hj
            refine ⟨_, rfl, _, rfl, a4, _, rfl, .inl ⟨ks, ky, rd_lock ha2 hb2 e6, hk1, hk2.symm⟩, _, rfl, _, rfl, b4, _, rfl, .inl ⟨ls, ky, rd_lock hb2 hb2 e6, hk1, hk3.symm⟩, by show 2 ≤ sizeLine; decide, fun t4 ht4 => ?_⟩
            exact kt _ _ (Ex.new ht4) (hp.next ht4 ha6 (e6 _ _ hLF) (hget j (by simpa using hj)))
          · refine ⟨e6 _ _ hF2, ?_⟩
            rw [← l5] at hp
            obtain ⟨its, rfl, w1, ok3⟩ := hp.wt
            have e7 := ex_lock hb2 e6
            have hL4 := e7 _ _ hL3
            have nDb2 : D ≠ b4 := (ne_of_none hF2 hD).symm
            have ok4 : StOk H (upd H1 b4 (.dK ls)) L its := fun q hq => by
              obtain ⟨x1, x2, x3⟩ := ok3 q hq
              have z : q.r ≠ b4 := fun z => by
                rw [z, e6 _ _ hF2] at x2
                cases x2
              exact ⟨x1, by rw [upd_ne z]; exact x2, x3⟩
            have z1 := wt_len ok4
            refine ⟨L, D, refs st0, refs its, rfl, rfl, hL4, by rw [upd_ne nDb2]; exact ha6, by simp [refs]; omega, ?_⟩
            refine ⟨wt (st0 ++ its), by rw [wt_app]; omega, st0 ++ its, _, _, _, _, rfl, ExB.new (ExB.trans (Ex.but (e2.trans (e3.trans (e5.trans e7)))) ExB.set) hL0, by rw [upd_same]; simp [refs], ?_, rfl, by rw [wt_app]; omega⟩
            exact StOk.ext ExB.set (StOk.app (StOk.ext (Ex.but (e3.trans (e5.trans e7))) ok2) ok4)
end
end D0

namespace D0
open PySem PySem.Spec PyProof.Rows L2 L2H HotX Evl K9
section
variable {P : Program} {w : World} {K : PySem.W.Frag} {mg : Str → Option Value} {base : Heap} {f : Addr} {fd : FuncData} {k : Nat}
/-- an error InvalidText("x"), or two values of one shape -/
def Same (K : PySem.W.Frag) (l : List (Addr × Obj)) (H : Hp) (v u : V) : Prop := (∃ a, v = .ref a ∧ u = .ref a ∧ Err l H a (He.ga K "InvalidText") (some [("given", .str "x")])) ∨ ∃ n, n ≤ 1000 ∧ Lk H v u n
theorem Same.ext {K : PySem.W.Frag} {l : List (Addr × Obj)} {H H' : Hp} {v u : V} (e : Ex H H') (h : Same K l H v u) : Same K l H' v u := by
  rcases h with ⟨a, rfl, rfl, h⟩ | ⟨n, hn, h⟩
  · exact .inl ⟨a, rfl, rfl, h.ext e⟩
  · exact .inr ⟨n, hn, h.ext e⟩
theorem Same.more {K : PySem.W.Frag} {l : List (Addr × Obj)} {H : Hp} {v u : V} (h : Same K [] H v u) : Same K l H v u := by
  rcases h with ⟨a, rfl, rfl, h⟩ | h
  · exact .inl ⟨a, rfl, rfl, h.more⟩
  · exact .inr h
theorem Same.four {K : PySem.W.Frag} {l : List (Addr × Obj)} {H H' : Hp} {b : Addr} {v : V} (e : ExB b H H') (h0 : Four H b) (h1 : Four H' b) (h : Same K l H v v) : Same K l H' v v := by
  rcases h with ⟨a, rfl, _, h⟩ | ⟨n, hn, h⟩
  · exact .inl ⟨a, rfl, rfl, h.four e h0⟩
  · exact .inr ⟨n, hn, h.four e h0 h1 rfl⟩
def spSame (K : PySem.W.Frag) : Pin → Sp := fun p vs H Q _ => ∃ (v u : V), vs = [v, u] ∧ Same K p.toList H v u ∧ ∀ (H' : Hp), Ex H H' → Q (.bl true) H'
abbrev s_same : Stmt := top 54
abbrev N_same : List Str := ["kept", "thing"]
theorem sc_same : FnScope N_same ["kept", "thing"] (defScope s_same) := ⟨rfl, rfl, rfl, by decide +kernel, rfl, by decide +kernel, by decide +kernel⟩
theorem ok_same (T : Txt K mg) (E : ErrsK K) (k_like : Ok P w K mg base k "_law_like" ["told", "due"] spLike) (F : FunD K "_law_same" "_law_same" (defArgs s_same) (defBody s_same) (defScope s_same) [] [] f fd) (hm : mg "_law_same" = some (.ref f)) : Ok P w K mg base (k + 1) "_law_same" ["kept", "thing"] (spSame K) := by
  refine ok_of F hm sc_same (fun _ _ _ _ _ _ us hl => match us, hl with | [_, _], _ => rfl) (fun p vs H Q E h => ?_) (fun cdv A outer s H vs Q E' p c hM hC hr h => ?_)
  · obtain ⟨v, u, rfl, _⟩ := h
    rfl
  · obtain ⟨v, u, rfl, hs, q⟩ := h
    refine ⟨_, (pss_cons (ps_if (pt_val (pe_callB call_isA (by rfl) T.f_isinstance (by decide +kernel) (pa_cons (pv 1) (pa_cons (pe_glob (v := .ref (He.ga K "InvalidText")) (by rfl) (T.g_cls "InvalidText" (by decide)) rfl) pa_nil)))) (pss_one (ps_ret (pe_and (pe_callB call_isA (by rfl) T.f_isinstance (by decide +kernel) (pa_cons (pv 0) (pa_cons (pe_glob (v := .ref (He.ga K "InvalidText")) (by rfl) (T.g_cls "InvalidText" (by decide)) rfl) pa_nil))) (pe_one (pe_callO k_like hr hC (by rfl) (pa_cons (pe_getE (pv 0)) (pa_cons pe_str pa_nil))))))) pss_nil) (pss_one (ps_ret (pe_and (pe_not (pe_callB call_isA (by rfl) T.f_isinstance (by decide +kernel) (pa_cons (pv 0) (pa_cons (pe_glob (v := .ref (He.ga K "ChoiceError")) (by rfl) (T.g_cls "ChoiceError" (by decide)) rfl) pa_nil)))) (pe_one (pe_callO k_like hr hC (by rfl) (pa_cons (pv 0) (pa_cons (pv 1) pa_nil)))))))), ?_⟩
    have hx : ("InvalidText" : Str) ∈ Hd.errs := by decide
    rcases hs with ⟨a, rfl, rfl, he⟩ | ⟨n, hn, hl⟩
    · refine ⟨_, rfl, .inl ⟨a, _, _, _, _, _, rfl, he, E.err _ hx, .own _, kit1 E hx (y := "InvalidText") (by decide) (by decide), _, rfl, ?_⟩⟩
      refine ite1 (by simp) ?_
      refine ⟨_, rfl, .inl ⟨a, _, _, _, _, _, rfl, he, E.err _ hx, .own _, kit1 E hx (y := "InvalidText") (by decide) (by decide), _, rfl, ?_⟩⟩
      refine ite1 (by simp) ?_
      exact ⟨_, rfl, a, _, _, _, rfl, he, E.err _ hx, E.fld _ hx "given" (by decide), rfl, _, _, 1, rfl, by decide, .str _, q⟩
    · obtain ⟨T2, ht2, k2⟩ := hl.ty2 (K := K) (He.ga K "InvalidText")
      obtain ⟨T1, ht1, k1⟩ := hl.ty1 (K := K) (He.ga K "ChoiceError")
      refine ⟨_, rfl, .inr ⟨_, _, _, _, _, rfl, .own _, ht2, kit_ty (E.err _ hx) k2, _, rfl, ?_⟩⟩
      refine ite0 (by simp) (nx_l ?_)
      refine ⟨_, rfl, .inr ⟨_, _, _, _, _, rfl, .own _, ht1, kit_ty (E.err "ChoiceError" (by decide)) k1, _, rfl, _, rfl, ?_⟩⟩
      refine ite1 (by simp) ?_
      exact ⟨_, rfl, _, rfl, _, _, n, rfl, hn, hl, q⟩
end
end D0

namespace D0
open PySem PySem.Spec PyProof.Rows L2 L2H HotX Evl K9
section
variable {P : Program} {w : World} {K : PySem.W.Frag} {mg : Str → Option Value} {base : Heap} {f : Addr} {fd : FuncData} {k : Nat}
/-- te gives a thing; t gives n of them -/
def T1 (K : PySem.W.Frag) (σ : L2.St) (te : TE) : Prop := ∀ (H : Hp) (Q : VK), (∀ v H', Ex H H' → Same K [] H' v v → Q v H') → te σ H Q
def TL (K : PySem.W.Frag) (σ : L2.St) (t : TA) (n : Nat) : Prop := ∀ (H : Hp) (Q : List V → Hp → Prop), (∀ vs H', Ex H H' → (vs.length = n ∧ ∀ v ∈ vs, Same K [] H' v v) → Q vs H') → t σ H Q
theorem tl_nil {σ : L2.St} : TL K σ tNil 0 := fun H Q q => q [] H (Ex.refl H) ⟨rfl, fun v hv => absurd hv (by simp)⟩
theorem tl_cons {σ : L2.St} {te : TE} {t : TA} {n : Nat} (h : T1 K σ te) (ht : TL K σ t n) : TL K σ (tCons te t) (n + 1) := fun H Q q =>
  h H _ fun v H1 e1 s1 => ht H1 _ fun vs H2 e2 h2 => q (v :: vs) H2 (e1.trans e2) ⟨by simp [h2.1], fun x hx => by
    rcases List.mem_cons.mp hx with rfl | hx
    · exact s1.ext e2
    · exact h2.2 x hx⟩
theorem t1_c {σ : L2.St} {v : V} (h : ∀ H, Lk H v v 1) : T1 K σ (tC v) := fun H Q q => q v H (Ex.refl H) (.inr ⟨1, by decide, h H⟩)
/-- values of the first kind in a row: numbers, truths, texts, None -/
def Flat (v : V) : Prop := ∀ H, Lk H v v 1
theorem flat_l {vs : List V} (h : ∀ v ∈ vs, Flat v) (H : Hp) : LkL H vs vs vs.length := by
  induction vs with
  | nil => exact .nil
  | cons v r ih =>
    have := LkL.cons (h v List.mem_cons_self H) (ih fun x hx => h x (List.mem_cons_of_mem _ hx))
    rw [Nat.add_comm] at this
    exact this
theorem t1_lst {σ : L2.St} {t : TA} {vs : List V} (h : ∀ H Q, Q vs H → t σ H Q) (hf : ∀ v ∈ vs, Flat v) (hn : vs.length ≤ 900) : T1 K σ (tLst t) := fun H Q q =>
  h H _ ⟨by have : (1000 : Nat) ≤ sizeLine := (by decide); omega, fun p hp => q _ _ (Ex.new hp) (.inr ⟨vs.length + 1, by omega, .lst upd_same upd_same (flat_l hf _)⟩)⟩
theorem t1_tup {σ : L2.St} {t : TA} {vs : List V} (h : ∀ H Q, Q vs H → t σ H Q) (hf : ∀ v ∈ vs, Flat v) (hn : vs.length ≤ 900) : T1 K σ (tTup t) := fun H Q q =>
  h H _ ⟨by have : (1000 : Nat) ≤ sizeLine := (by decide); omega, fun p hp => q _ _ (Ex.new hp) (.inr ⟨vs.length + 1, by omega, .tup upd_same upd_same (flat_l hf _)⟩)⟩
theorem t1_tup2 {σ : L2.St} {t : TA} {v : V} {vs : List V} (hv : Flat v) (h : ∀ H Q, Q vs H → t σ H Q) (hf : ∀ v ∈ vs, Flat v) (hn : vs.length ≤ 900) : T1 K σ (tTup (tCons (tC v) (tCons (tTup t) tNil))) := fun H Q q =>
  h H _ ⟨by have : (1000 : Nat) ≤ sizeLine := (by decide); omega, fun p hp => ⟨by show 2 ≤ sizeLine; decide, fun p2 hp2 => q _ _ ((Ex.new hp).trans (Ex.new hp2)) (.inr ⟨1 + ((vs.length + 1) + 0) + 1, by omega, .tup upd_same upd_same (.cons (hv _) (.cons (.tup ((Ex.new hp2) _ _ upd_same) ((Ex.new hp2) _ _ upd_same) (flat_l hf _)) .nil))⟩)⟩⟩
theorem t1_tup3 {σ : L2.St} {t : TA} {v v2 : V} {vs : List V} (hv : Flat v) (hv2 : Flat v2) (h : ∀ H Q, Q vs H → t σ H Q) (hf : ∀ v ∈ vs, Flat v) (hn : vs.length ≤ 900) : T1 K σ (tTup (tCons (tC v) (tCons (tC v2) (tCons (tTup t) tNil)))) := fun H Q q =>
  h H _ ⟨by have : (1000 : Nat) ≤ sizeLine := (by decide); omega, fun p hp => ⟨by show 3 ≤ sizeLine; decide, fun p2 hp2 => q _ _ ((Ex.new hp).trans (Ex.new hp2)) (.inr ⟨1 + (1 + ((vs.length + 1) + 0)) + 1, by omega, .tup upd_same upd_same (.cons (hv _) (.cons (hv2 _) (.cons (.tup ((Ex.new hp2) _ _ upd_same) ((Ex.new hp2) _ _ upd_same) (flat_l hf _)) .nil)))⟩)⟩⟩
theorem t1_dic0 {σ : L2.St} : T1 K σ tDNewK := fun H Q q p hp => q _ _ (Ex.new hp) (.inr ⟨1, by decide, .dic upd_same upd_same rfl .nil .nil⟩)
theorem t1_dic1 {σ : L2.St} {z : Str} {t : TA} {vs : List V} (h : ∀ H Q, Q vs H → t σ H Q) (hf : ∀ v ∈ vs, Flat v) (hn : vs.length ≤ 900) : T1 K σ (tDisp [(tC (.str z), tLst t)]) := fun H Q q p hp => by
  refine h _ _ ⟨by have : (1000 : Nat) ≤ sizeLine := (by decide); omega, fun p2 hp2 => ⟨(Ex.new hp2) _ _ upd_same, [(.inr z, .ref p2)], rfl, by show 1 ≤ 15; decide, ?_⟩⟩
  have n : p ≠ p2 := fun e => by
    rw [← e, upd_same] at hp2
    cases hp2
  have ex : Ex H (upd (upd (upd H p (.dK [])) p2 (.lst vs)) p (.dK (mergeK [] [(.inr z, .ref p2)]))) := fun a o e => by
    have na : a ≠ p := ne_of_none e hp
    rw [upd_ne na]
    exact ((Ex.new hp).trans (Ex.new hp2)) a o e
  refine q _ _ ex (.inr ⟨(vs.length + 1) + 0 + 1, by omega, .dic upd_same upd_same rfl ?_ (.cons (.lst (vs := vs) (us := vs) ?_ ?_ (flat_l hf _)) .nil)⟩)
  · simp [mergeK, putK]
  · rw [upd_ne n.symm, upd_same]
  · rw [upd_ne n.symm, upd_same]
theorem fl0 : ∀ v ∈ ([] : List V), Flat v := fun v hv => absurd hv (by simp)
theorem fl1 {v : V} {vs : List V} (h : Flat v) (hs : ∀ v ∈ vs, Flat v) : ∀ x ∈ v :: vs, Flat x := List.forall_mem_cons.mpr ⟨h, hs⟩
theorem vs_c {σ : L2.St} {v : V} {t : TA} {vs : List V} (ht : Vs σ t vs) : Vs σ (tCons (tC v) t) (v :: vs) := fun H Q q => ht H _ q
theorem t1_err {σ : L2.St} {te : TE} (h : Mk1 K [] σ te ("InvalidText", [("given", .str "x")])) : T1 K σ te := fun H Q q => h H Q fun a H' e r => q _ _ e (.inl ⟨a, rfl, rfl, r⟩)
theorem tl_lst {σ : L2.St} {t : TA} {n : Nat} {H : Hp} {Q : VK} (h : TL K σ t n) (hn : n ≤ 900) (q : ∀ vs H' p, Ex H H' → H' p = some (.lst vs) → vs.length = n → (∀ v ∈ vs, Same K [] H' v v) → Q (.ref p) H') : tLst t σ H Q :=
  h H _ fun vs H1 e1 h1 => ⟨by have : (1000 : Nat) ≤ sizeLine := (by decide); omega, fun p hp => q vs _ p (e1.trans (Ex.new hp)) upd_same h1.1 fun v hv => (h1.2 v hv).ext (Ex.new hp)⟩
def spThing (K : PySem.W.Frag) : Sp := fun vs H Q _ => ∃ (b : Addr) (m : Nat), vs = [.ref b] ∧ m ≤ 1000 ∧ BoxAt H b m ∧ ∀ (v : V) (H' : Hp), ExB b H H' → BoxAt H' b (m + 1) → Same K [] H' v v → Q v H'
theorem BoxAt.four {H : Hp} {b : Addr} {m : Nat} (h : BoxAt H b m) : Four H b := by
  obtain ⟨g, m, c, w, e, _⟩ := h
  exact ⟨g, m, c, w, e⟩
abbrev s_thing : Stmt := top 53
abbrev N_thing : List Str := ["box", "menu"]
theorem sc_thing : FnScope N_thing ["box"] (defScope s_thing) := ⟨rfl, rfl, rfl, by decide +kernel, rfl, by decide +kernel, by decide +kernel⟩
theorem ok_thing (T : Txt K mg) (i_InvalidText : Ini P w K mg base "InvalidText" ["given"] w_InvalidText) (k_take : OkC P w K mg base k "_law_take" ["box", "many"] spTake) (hk2 : 2 ≤ k) (F : FunD K "_law_thing" "_law_thing" (defArgs s_thing) (defBody s_thing) (defScope s_thing) [] [] f fd) (hm : mg "_law_thing" = some (.ref f)) :
    OkC P w K mg base (k + 1) "_law_thing" ["box"] (spThing K) := by
  refine okC_of F hm sc_thing (fun _ _ _ _ _ _ us hl => match us, hl with | [_], _ => rfl) (fun vs H Q E h => ?_) (fun cdv A outer s H vs Q E hr h => ?_)
  · obtain ⟨b, m, rfl, _⟩ := h
    rfl
  · obtain ⟨b, m, rfl, hm, hb, q⟩ := h
    refine ⟨_, (pss_cons (ps_set (i := 1) sc_thing.nd rfl (Or.inl rfl) (pe_lst (pa_cons pe_non (pa_cons pe_bl (pa_cons pe_bl (pa_cons pe_int (pa_cons pe_int (pa_cons pe_str (pa_cons pe_str (pa_cons (pe_lst pa_nil) (pa_cons (pe_lst (pa_cons pe_int (pa_cons pe_str pa_nil))) (pa_cons (pe_tup pa_nil) (pa_cons (pe_tup (pa_cons pe_int (pa_cons pe_bl pa_nil))) (pa_cons pe_dnewK (pa_cons (pe_disp (pps_cons pe_str (pe_lst (pa_cons pe_int pa_nil)) pps_nil) rfl rfl (by simp) (by decide)) (pa_cons (pe_lst (pa_cons pe_non pa_nil)) (pa_cons (pe_tup (pa_cons pe_int (pa_cons (pe_tup (pa_cons pe_str pa_nil)) pa_nil))) pa_nil))))))))))))))))) (pss_cons (ps_set (i := 1) sc_thing.nd rfl (Or.inl rfl) (pe_op op_cat (pv 1) (pe_lst (pa_cons (pe_un un_neg (pe_op op_pow pe_int pe_int)) (pa_cons (pe_tup (pa_cons pe_str (pa_cons pe_str (pa_cons (pe_tup pa_nil) pa_nil)))) (pa_cons (pe_iniK (n := 1) (ks := []) (ix := []) i_InvalidText (by decide) ((roomH_of hr).mono hk2) rfl (by rfl) (pa_cons pe_str pa_nil) pk_nil) (pa_cons (pe_tup (pa_cons pe_str (pa_cons (pe_tup (pa_cons pe_int pa_nil)) pa_nil))) pa_nil))))))) (pss_one (ps_ret (pe_ix ix_list (pv 1) (pe_callK0 k_take hr (by rfl) (pa_cons (pv 0) (pa_cons pe_int pa_nil))) fun _ _ => rfl))))), ?_⟩
    refine seq_asg ?_
    refine tl_lst (K := K) (n := 15) (by exact tl_cons (t1_c fun _ => .non) (tl_cons (t1_c fun _ => .bl _) (tl_cons (t1_c fun _ => .bl _) (tl_cons (t1_c fun _ => .int _) (tl_cons (t1_c fun _ => .int _) (tl_cons (t1_c fun _ => .str _) (tl_cons (t1_c fun _ => .str _)
      (tl_cons (t1_lst (vs := []) (fun H Q q => q) fl0 (by decide)) (tl_cons (t1_lst (vs := [.int 1, .str "a"]) (fun H Q q => q) (fl1 (fun _ => .int _) (fl1 (fun _ => .str _) fl0)) (by decide)) (tl_cons (t1_tup (vs := []) (fun H Q q => q) fl0 (by decide))
      (tl_cons (t1_tup (vs := [.int 1, .bl true]) (fun H Q q => q) (fl1 (fun _ => .int _) (fl1 (fun _ => .bl _) fl0)) (by decide)) (tl_cons t1_dic0 (tl_cons (t1_dic1 (vs := [.int 3]) (fun H Q q => q) (fl1 (fun _ => .int _) fl0) (by decide))
      (tl_cons (t1_lst (vs := [.non]) (fun H Q q => q) (fl1 (fun _ => .non) fl0) (by decide)) (tl_cons (t1_tup2 (vs := [.str "b"]) (fun _ => .int _) (fun H Q q => q) (fl1 (fun _ => .str _) fl0) (by decide)) tl_nil))))))))))))))) (by decide) fun vs H1 p1 e1 h1 hl1 ht1 => ?_
    refine seq_asg ?_
    refine grow_step (n := 4) (Pc := fun cs H' => cs.length = 4 ∧ ∀ v ∈ cs, Same K [] H' v v) rfl h1 (fun Q q => (show TL K _ _ 4 from tl_cons (K := K) (fun H Q q => ⟨_, _, rfl, rfl, ⟨by decide, by decide, by decide⟩, _, rfl, q _ _ (Ex.refl _) (.inr ⟨1, by decide, .int _⟩)⟩)
      (tl_cons (t1_tup3 (vs := []) (fun _ => .str _) (fun _ => .str _) (fun H Q q => q) fl0 (by decide)) (tl_cons (t1_err (mk_new (us := [.str "x"]) (vs_c vs_nil) vs_nil rfl rfl rfl rfl)) (tl_cons (t1_tup2 (vs := [.int 3]) (fun _ => .str _) (fun H Q q => q) (fl1 (fun _ => .int _) fl0) (by decide)) tl_nil)))) H1 Q q)
      (fun _ _ z => z.1) (by rw [hl1]; decide) fun p2 cs H2 H3 e2 pc e3 h3 => ?_
    have e13 : Ex H H3 := e1.trans (e2.trans e3)
    obtain ⟨g, r, cc, ww, hbb, g0, r0, r1, c0, c1⟩ := hb
    have hb3 := e13 _ _ hbb
    have hl3 : (vs ++ cs).length = 19 := by rw [List.length_append, hl1, pc.1]
    have npb : p2 ≠ b := fun z => by
      rw [z, hb3] at h3
      have := congrArg List.length (HO.lst.inj (Option.some.inj h3))
      rw [hl3] at this
      simp at this
    have hs3 : ∀ v ∈ vs ++ cs, Same K [] H3 v v := fun v hv => by
      rcases List.mem_append.mp hv with z | z
      · exact (ht1 v z).ext (e2.trans e3)
      · exact (pc.2 v z).ext e3
    refine ⟨_, rfl, _, rfl, b, 19, m, rfl, by decide, by decide, hm, ⟨g, r, cc, ww, hb3, g0, r0, r1, c0, c1⟩, fun d H4 hd e4 bx => ?_⟩
    have hd2 : d < (vs ++ cs).length := by rw [hl3]; exact hd
    refine ⟨p2, vs ++ cs, (d : Int), (vs ++ cs)[d], rfl, rfl, SqL.of (e4 _ _ npb h3), atI_nat (List.getElem?_eq_getElem hd2), ?_⟩
    exact q _ _ (ExB.trans (Ex.but e13) e4) bx ((hs3 _ (List.getElem_mem hd2)).four e4 ⟨g, r, cc, ww, hb3⟩ (BoxAt.four bx))
end
end D0

namespace D0
open PySem PySem.Spec PyProof.Rows L2 L2H HotX Evl K9
/-- each class's __init__ -/
structure Inis (P : Program) (w : World) (K : PySem.W.Frag) (mg : Str → Option Value) (base : Heap) : Prop where
  i_InvalidNames : Ini P w K mg base "InvalidNames" ["given"] w_InvalidNames
  i_InvalidKind : Ini P w K mg base "InvalidKind" ["given"] w_InvalidKind
  i_InvalidKinds : Ini P w K mg base "InvalidKinds" ["given"] w_InvalidKinds
  i_InvalidText : Ini P w K mg base "InvalidText" ["given"] w_InvalidText
  i_InvalidBinding : Ini P w K mg base "InvalidBinding" ["given"] w_InvalidBinding
  i_InvalidPatterns : Ini P w K mg base "InvalidPatterns" ["given"] w_InvalidPatterns
  i_InvalidUse : Ini P w K mg base "InvalidUse" ["given"] w_InvalidUse
  i_InvalidLine : Ini P w K mg base "InvalidLine" ["given"] w_InvalidLine
  i_InvalidWord : Ini P w K mg base "InvalidWord" ["given"] w_InvalidWord
  i_InvalidProgram : Ini P w K mg base "InvalidProgram" ["given"] w_InvalidProgram
  i_InvalidRoots : Ini P w K mg base "InvalidRoots" ["given"] w_InvalidRoots
  i_InvalidMost : Ini P w K mg base "InvalidMost" ["given"] w_InvalidMost
  i_InvalidLibrary : Ini P w K mg base "InvalidLibrary" ["given"] w_InvalidLibrary
  i_InvalidView : Ini P w K mg base "InvalidView" ["given"] w_InvalidView
  i_InvalidSort : Ini P w K mg base "InvalidSort" ["given"] w_InvalidSort
  i_InvalidLinked : Ini P w K mg base "InvalidLinked" ["given"] w_InvalidLinked
  i_InvalidPairs : Ini P w K mg base "InvalidPairs" ["given"] w_InvalidPairs
  i_InvalidRow : Ini P w K mg base "InvalidRow" ["given"] w_InvalidRow
  i_InvalidRows : Ini P w K mg base "InvalidRows" ["given"] w_InvalidRows
  i_InvalidRule : Ini P w K mg base "InvalidRule" ["given"] w_InvalidRule
  i_InvalidTerm : Ini P w K mg base "InvalidTerm" ["given"] w_InvalidTerm
  i_NotCovered : Ini P w K mg base "NotCovered" ["use"] w_NotCovered
  i_NoTaker : Ini P w K mg base "NoTaker" ["use"] w_NoTaker
  i_TwoLeast : Ini P w K mg base "TwoLeast" ["use"] w_TwoLeast
  i_HasTwo : Ini P w K mg base "HasTwo" ["use"] w_HasTwo
  i_NoChoice : Ini P w K mg base "NoChoice" ["generic", "terms"] w_NoChoice
  i_TwoChoices : Ini P w K mg base "TwoChoices" ["generic", "terms"] w_TwoChoices
  i_Lacks : Ini P w K mg base "Lacks" ["generic", "terms", "word", "many"] w_Lacks
  i_RingOfConstants : Ini P w K mg base "RingOfConstants" ["generic", "terms", "word"] w_RingOfConstants
  i_TooFar : Ini P w K mg base "TooFar" ["most"] w_TooFar
  i_TooMany : Ini P w K mg base "TooMany" ["most"] w_TooMany
  i_NotApart : Ini P w K mg base "NotApart" ["generic", "what"] w_NotApart
  i_NoTerm : Ini P w K mg base "NoTerm" ["sight"] w_NoTerm
  i_NotMet : Ini P w K mg base "NotMet" ["generic", "terms"] w_NotMet
  i_TooLong : Ini P w K mg base "TooLong" ["asks"] w_TooLong
  i_Dead : Ini P w K mg base "Dead" ["mark"] w_Dead
  i_AsksTwo : Ini P w K mg base "AsksTwo" ["mark"] w_AsksTwo
  i_Unlike : Ini P w K mg base "Unlike" ["text"] w_Unlike
def onesF1 : List (Str × Str) := [("InvalidNames", "given"), ("InvalidKind", "given"), ("InvalidKinds", "given"), ("InvalidText", "given"), ("InvalidBinding", "given"), ("InvalidPatterns", "given"), ("InvalidUse", "given"), ("InvalidLine", "given"), ("InvalidWord", "given"), ("InvalidProgram", "given"), ("InvalidRoots", "given"), ("InvalidMost", "given"), ("InvalidLibrary", "given"), ("InvalidView", "given"), ("InvalidSort", "given"), ("InvalidLinked", "given")]
def onesF2 : List (Str × Str) := [("InvalidPairs", "given"), ("InvalidRow", "given"), ("InvalidRows", "given"), ("InvalidRule", "given"), ("InvalidTerm", "given"), ("NotCovered", "use"), ("NoTaker", "use"), ("TwoLeast", "use"), ("HasTwo", "use"), ("TooFar", "most"), ("TooMany", "most"), ("NoTerm", "sight"), ("TooLong", "asks"), ("Dead", "mark"), ("AsksTwo", "mark"), ("Unlike", "text")]
def onesF : List (Str × Str) := onesF1 ++ onesF2
theorem onesF_eq : onesF = ones.map fun x => (x, fldOf x) := by decide +kernel
section
variable {P : Program} {w : World} {K : PySem.W.Frag} {mg : Str → Option Value} {base : Heap} {f : Addr} {fd : FuncData} {k : Nat}
theorem mk_lst {l : List (Addr × Obj)} {σ : L2.St} {t : TA} {H : Hp} {Q : VK} {qs : List (Str × List (Str × V))} (h : MkL K l σ t qs) (hn : qs.length ≤ 900) (q : ∀ rs H' p, Ex H H' → H' p = some (.lst rs) → ErrsAt K l H' rs qs → Q (.ref p) H') : tLst t σ H Q :=
  h H _ fun rs H1 e1 h1 => ⟨by
    have : (1000 : Nat) ≤ sizeLine := (by decide)
    have e := h1.length
    omega, fun p hp => q rs _ p (e1.trans (Ex.new hp)) upd_same (h1.ext (Ex.new hp))⟩
def spMany (K : PySem.W.Frag) : Sp := fun vs H Q _ => ∃ (v : V), vs = [v] ∧ ∀ (q : Addr) (rs : List V) (H' : Hp), Ex H H' → H' q = some (.lst rs) → ErrsAt K [] H' rs (onesF.map fun p => (p.1, [(p.2, v)])) → Q (.ref q) H'

abbrev s_by_place : Stmt := top 46
abbrev N_by_place : List Str := ["thing", "found"]
theorem sc_by_place : FnScope N_by_place ["thing"] (defScope s_by_place) := ⟨rfl, rfl, rfl, by decide +kernel, rfl, by decide +kernel, by decide +kernel⟩
theorem ok_by_place (I : Inis P w K mg base) (hk2 : 2 ≤ k) (F : FunD K "_law_by_place" "_law_by_place" (defArgs s_by_place) (defBody s_by_place) (defScope s_by_place) [] [] f fd) (hm : mg "_law_by_place" = some (.ref f)) : OkC P w K mg base (k + 1) "_law_by_place" ["thing"] (spMany K) := by
  refine okC_of F hm sc_by_place (fun _ _ _ _ _ _ us hl => match us, hl with | [_], _ => rfl) (fun vs H Q E h => ?_) (fun cdv A outer s H vs Q E hr h => ?_)
  · obtain ⟨v, rfl, _⟩ := h
    rfl
  · obtain ⟨v, rfl, q⟩ := h
    refine ⟨_, (pss_cons (ps_set (i := 1) sc_by_place.nd rfl (Or.inl rfl) (pe_lst (pa_cons (pe_iniK (n := 1) (ks := []) (ix := []) I.i_InvalidNames (by decide) ((roomH_of hr).mono hk2) rfl (by rfl) (pa_cons (pv 0) pa_nil) pk_nil) (pa_cons (pe_iniK (n := 1) (ks := []) (ix := []) I.i_InvalidKind (by decide) ((roomH_of hr).mono hk2) rfl (by rfl) (pa_cons (pv 0) pa_nil) pk_nil) (pa_cons (pe_iniK (n := 1) (ks := []) (ix := []) I.i_InvalidKinds (by decide) ((roomH_of hr).mono hk2) rfl (by rfl) (pa_cons (pv 0) pa_nil) pk_nil) (pa_cons (pe_iniK (n := 1) (ks := []) (ix := []) I.i_InvalidText (by decide) ((roomH_of hr).mono hk2) rfl (by rfl) (pa_cons (pv 0) pa_nil) pk_nil) pa_nil)))))) (pss_cons (ps_set (i := 1) sc_by_place.nd rfl (Or.inl rfl) (pe_op op_cat (pv 1) (pe_lst (pa_cons (pe_iniK (n := 1) (ks := []) (ix := []) I.i_InvalidBinding (by decide) ((roomH_of hr).mono hk2) rfl (by rfl) (pa_cons (pv 0) pa_nil) pk_nil) (pa_cons (pe_iniK (n := 1) (ks := []) (ix := []) I.i_InvalidPatterns (by decide) ((roomH_of hr).mono hk2) rfl (by rfl) (pa_cons (pv 0) pa_nil) pk_nil) (pa_cons (pe_iniK (n := 1) (ks := []) (ix := []) I.i_InvalidUse (by decide) ((roomH_of hr).mono hk2) rfl (by rfl) (pa_cons (pv 0) pa_nil) pk_nil) (pa_cons (pe_iniK (n := 1) (ks := []) (ix := []) I.i_InvalidLine (by decide) ((roomH_of hr).mono hk2) rfl (by rfl) (pa_cons (pv 0) pa_nil) pk_nil) pa_nil))))))) (pss_cons (ps_set (i := 1) sc_by_place.nd rfl (Or.inl rfl) (pe_op op_cat (pv 1) (pe_lst (pa_cons (pe_iniK (n := 1) (ks := []) (ix := []) I.i_InvalidWord (by decide) ((roomH_of hr).mono hk2) rfl (by rfl) (pa_cons (pv 0) pa_nil) pk_nil) (pa_cons (pe_iniK (n := 1) (ks := []) (ix := []) I.i_InvalidProgram (by decide) ((roomH_of hr).mono hk2) rfl (by rfl) (pa_cons (pv 0) pa_nil) pk_nil) (pa_cons (pe_iniK (n := 1) (ks := []) (ix := []) I.i_InvalidRoots (by decide) ((roomH_of hr).mono hk2) rfl (by rfl) (pa_cons (pv 0) pa_nil) pk_nil) (pa_cons (pe_iniK (n := 1) (ks := []) (ix := []) I.i_InvalidMost (by decide) ((roomH_of hr).mono hk2) rfl (by rfl) (pa_cons (pv 0) pa_nil) pk_nil) pa_nil))))))) (pss_cons (ps_set (i := 1) sc_by_place.nd rfl (Or.inl rfl) (pe_op op_cat (pv 1) (pe_lst (pa_cons (pe_iniK (n := 1) (ks := []) (ix := []) I.i_InvalidLibrary (by decide) ((roomH_of hr).mono hk2) rfl (by rfl) (pa_cons (pv 0) pa_nil) pk_nil) (pa_cons (pe_iniK (n := 1) (ks := []) (ix := []) I.i_InvalidView (by decide) ((roomH_of hr).mono hk2) rfl (by rfl) (pa_cons (pv 0) pa_nil) pk_nil) (pa_cons (pe_iniK (n := 1) (ks := []) (ix := []) I.i_InvalidSort (by decide) ((roomH_of hr).mono hk2) rfl (by rfl) (pa_cons (pv 0) pa_nil) pk_nil) (pa_cons (pe_iniK (n := 1) (ks := []) (ix := []) I.i_InvalidLinked (by decide) ((roomH_of hr).mono hk2) rfl (by rfl) (pa_cons (pv 0) pa_nil) pk_nil) pa_nil))))))) (pss_cons (ps_set (i := 1) sc_by_place.nd rfl (Or.inl rfl) (pe_op op_cat (pv 1) (pe_lst (pa_cons (pe_iniK (n := 1) (ks := []) (ix := []) I.i_InvalidPairs (by decide) ((roomH_of hr).mono hk2) rfl (by rfl) (pa_cons (pv 0) pa_nil) pk_nil) (pa_cons (pe_iniK (n := 1) (ks := []) (ix := []) I.i_InvalidRow (by decide) ((roomH_of hr).mono hk2) rfl (by rfl) (pa_cons (pv 0) pa_nil) pk_nil) (pa_cons (pe_iniK (n := 1) (ks := []) (ix := []) I.i_InvalidRows (by decide) ((roomH_of hr).mono hk2) rfl (by rfl) (pa_cons (pv 0) pa_nil) pk_nil) (pa_cons (pe_iniK (n := 1) (ks := []) (ix := []) I.i_InvalidRule (by decide) ((roomH_of hr).mono hk2) rfl (by rfl) (pa_cons (pv 0) pa_nil) pk_nil) (pa_cons (pe_iniK (n := 1) (ks := []) (ix := []) I.i_InvalidTerm (by decide) ((roomH_of hr).mono hk2) rfl (by rfl) (pa_cons (pv 0) pa_nil) pk_nil) pa_nil)))))))) (pss_cons (ps_set (i := 1) sc_by_place.nd rfl (Or.inl rfl) (pe_op op_cat (pv 1) (pe_lst (pa_cons (pe_iniK (n := 1) (ks := []) (ix := []) I.i_NotCovered (by decide) ((roomH_of hr).mono hk2) rfl (by rfl) (pa_cons (pv 0) pa_nil) pk_nil) (pa_cons (pe_iniK (n := 1) (ks := []) (ix := []) I.i_NoTaker (by decide) ((roomH_of hr).mono hk2) rfl (by rfl) (pa_cons (pv 0) pa_nil) pk_nil) (pa_cons (pe_iniK (n := 1) (ks := []) (ix := []) I.i_TwoLeast (by decide) ((roomH_of hr).mono hk2) rfl (by rfl) (pa_cons (pv 0) pa_nil) pk_nil) (pa_cons (pe_iniK (n := 1) (ks := []) (ix := []) I.i_HasTwo (by decide) ((roomH_of hr).mono hk2) rfl (by rfl) (pa_cons (pv 0) pa_nil) pk_nil) (pa_cons (pe_iniK (n := 1) (ks := []) (ix := []) I.i_TooFar (by decide) ((roomH_of hr).mono hk2) rfl (by rfl) (pa_cons (pv 0) pa_nil) pk_nil) (pa_cons (pe_iniK (n := 1) (ks := []) (ix := []) I.i_TooMany (by decide) ((roomH_of hr).mono hk2) rfl (by rfl) (pa_cons (pv 0) pa_nil) pk_nil) pa_nil))))))))) (pss_cons (ps_set (i := 1) sc_by_place.nd rfl (Or.inl rfl) (pe_op op_cat (pv 1) (pe_lst (pa_cons (pe_iniK (n := 1) (ks := []) (ix := []) I.i_NoTerm (by decide) ((roomH_of hr).mono hk2) rfl (by rfl) (pa_cons (pv 0) pa_nil) pk_nil) (pa_cons (pe_iniK (n := 1) (ks := []) (ix := []) I.i_TooLong (by decide) ((roomH_of hr).mono hk2) rfl (by rfl) (pa_cons (pv 0) pa_nil) pk_nil) (pa_cons (pe_iniK (n := 1) (ks := []) (ix := []) I.i_Dead (by decide) ((roomH_of hr).mono hk2) rfl (by rfl) (pa_cons (pv 0) pa_nil) pk_nil) (pa_cons (pe_iniK (n := 1) (ks := []) (ix := []) I.i_AsksTwo (by decide) ((roomH_of hr).mono hk2) rfl (by rfl) (pa_cons (pv 0) pa_nil) pk_nil) (pa_cons (pe_iniK (n := 1) (ks := []) (ix := []) I.i_Unlike (by decide) ((roomH_of hr).mono hk2) rfl (by rfl) (pa_cons (pv 0) pa_nil) pk_nil) pa_nil)))))))) (pss_one (ps_ret (pv 1)))))))))), ?_⟩
    refine seq_asg ?_
    refine mk_lst (K := K) (l := []) (qs := [("InvalidNames", [("given", v)]), ("InvalidKind", [("given", v)]), ("InvalidKinds", [("given", v)]), ("InvalidText", [("given", v)])]) (by exact (mk_cons (mk_new (us := [v]) (vs_var rfl vs_nil) vs_nil rfl rfl rfl rfl) (mk_cons (mk_new (us := [v]) (vs_var rfl vs_nil) vs_nil rfl rfl rfl rfl) (mk_cons (mk_new (us := [v]) (vs_var rfl vs_nil) vs_nil rfl rfl rfl rfl) (mk_cons (mk_new (us := [v]) (vs_var rfl vs_nil) vs_nil rfl rfl rfl rfl) mk_nil))))) (by show 4 ≤ 900; decide) fun rs0 H0 p0 e0 h0 b0 => ?_
    refine seq_asg ?_
    refine grow_step (n := 4) (Pc := fun cs H' => ErrsAt K [] H' cs [("InvalidBinding", [("given", v)]), ("InvalidPatterns", [("given", v)]), ("InvalidUse", [("given", v)]), ("InvalidLine", [("given", v)])]) rfl h0 (fun Q z => (show MkL K [] _ _ _ from (mk_cons (mk_new (us := [v]) (vs_var rfl vs_nil) vs_nil rfl rfl rfl rfl) (mk_cons (mk_new (us := [v]) (vs_var rfl vs_nil) vs_nil rfl rfl rfl rfl) (mk_cons (mk_new (us := [v]) (vs_var rfl vs_nil) vs_nil rfl rfl rfl rfl) (mk_cons (mk_new (us := [v]) (vs_var rfl vs_nil) vs_nil rfl rfl rfl rfl) mk_nil))))) _ Q z) (fun _ _ z => z.length) (by rw [b0.length]; show (8 : Nat) ≤ sizeLine; decide) fun p1 cs1 G1 H1 d1 c1 x1 h1 => ?_
    have e1 := e0.trans (d1.trans x1)
    have b1 := (b0.ext (d1.trans x1)).app (c1.ext x1)
    refine seq_asg ?_
    refine grow_step (n := 4) (Pc := fun cs H' => ErrsAt K [] H' cs [("InvalidWord", [("given", v)]), ("InvalidProgram", [("given", v)]), ("InvalidRoots", [("given", v)]), ("InvalidMost", [("given", v)])]) rfl h1 (fun Q z => (show MkL K [] _ _ _ from (mk_cons (mk_new (us := [v]) (vs_var rfl vs_nil) vs_nil rfl rfl rfl rfl) (mk_cons (mk_new (us := [v]) (vs_var rfl vs_nil) vs_nil rfl rfl rfl rfl) (mk_cons (mk_new (us := [v]) (vs_var rfl vs_nil) vs_nil rfl rfl rfl rfl) (mk_cons (mk_new (us := [v]) (vs_var rfl vs_nil) vs_nil rfl rfl rfl rfl) mk_nil))))) _ Q z) (fun _ _ z => z.length) (by rw [b1.length]; show (12 : Nat) ≤ sizeLine; decide) fun p2 cs2 G2 H2 d2 c2 x2 h2 => ?_
    have e2 := e1.trans (d2.trans x2)
    have b2 := (b1.ext (d2.trans x2)).app (c2.ext x2)
    refine seq_asg ?_
    refine grow_step (n := 4) (Pc := fun cs H' => ErrsAt K [] H' cs [("InvalidLibrary", [("given", v)]), ("InvalidView", [("given", v)]), ("InvalidSort", [("given", v)]), ("InvalidLinked", [("given", v)])]) rfl h2 (fun Q z => (show MkL K [] _ _ _ from (mk_cons (mk_new (us := [v]) (vs_var rfl vs_nil) vs_nil rfl rfl rfl rfl) (mk_cons (mk_new (us := [v]) (vs_var rfl vs_nil) vs_nil rfl rfl rfl rfl) (mk_cons (mk_new (us := [v]) (vs_var rfl vs_nil) vs_nil rfl rfl rfl rfl) (mk_cons (mk_new (us := [v]) (vs_var rfl vs_nil) vs_nil rfl rfl rfl rfl) mk_nil))))) _ Q z) (fun _ _ z => z.length) (by rw [b2.length]; show (16 : Nat) ≤ sizeLine; decide) fun p3 cs3 G3 H3 d3 c3 x3 h3 => ?_
    have e3 := e2.trans (d3.trans x3)
    have b3 := (b2.ext (d3.trans x3)).app (c3.ext x3)
    refine seq_asg ?_
    refine grow_step (n := 5) (Pc := fun cs H' => ErrsAt K [] H' cs [("InvalidPairs", [("given", v)]), ("InvalidRow", [("given", v)]), ("InvalidRows", [("given", v)]), ("InvalidRule", [("given", v)]), ("InvalidTerm", [("given", v)])]) rfl h3 (fun Q z => (show MkL K [] _ _ _ from (mk_cons (mk_new (us := [v]) (vs_var rfl vs_nil) vs_nil rfl rfl rfl rfl) (mk_cons (mk_new (us := [v]) (vs_var rfl vs_nil) vs_nil rfl rfl rfl rfl) (mk_cons (mk_new (us := [v]) (vs_var rfl vs_nil) vs_nil rfl rfl rfl rfl) (mk_cons (mk_new (us := [v]) (vs_var rfl vs_nil) vs_nil rfl rfl rfl rfl) (mk_cons (mk_new (us := [v]) (vs_var rfl vs_nil) vs_nil rfl rfl rfl rfl) mk_nil)))))) _ Q z) (fun _ _ z => z.length) (by rw [b3.length]; show (21 : Nat) ≤ sizeLine; decide) fun p4 cs4 G4 H4 d4 c4 x4 h4 => ?_
    have e4 := e3.trans (d4.trans x4)
    have b4 := (b3.ext (d4.trans x4)).app (c4.ext x4)
    refine seq_asg ?_
    refine grow_step (n := 6) (Pc := fun cs H' => ErrsAt K [] H' cs [("NotCovered", [("use", v)]), ("NoTaker", [("use", v)]), ("TwoLeast", [("use", v)]), ("HasTwo", [("use", v)]), ("TooFar", [("most", v)]), ("TooMany", [("most", v)])]) rfl h4 (fun Q z => (show MkL K [] _ _ _ from (mk_cons (mk_new (us := [v]) (vs_var rfl vs_nil) vs_nil rfl rfl rfl rfl) (mk_cons (mk_new (us := [v]) (vs_var rfl vs_nil) vs_nil rfl rfl rfl rfl) (mk_cons (mk_new (us := [v]) (vs_var rfl vs_nil) vs_nil rfl rfl rfl rfl) (mk_cons (mk_new (us := [v]) (vs_var rfl vs_nil) vs_nil rfl rfl rfl rfl) (mk_cons (mk_new (us := [v]) (vs_var rfl vs_nil) vs_nil rfl rfl rfl rfl) (mk_cons (mk_new (us := [v]) (vs_var rfl vs_nil) vs_nil rfl rfl rfl rfl) mk_nil))))))) _ Q z) (fun _ _ z => z.length) (by rw [b4.length]; show (27 : Nat) ≤ sizeLine; decide) fun p5 cs5 G5 H5 d5 c5 x5 h5 => ?_
    have e5 := e4.trans (d5.trans x5)
    have b5 := (b4.ext (d5.trans x5)).app (c5.ext x5)
    refine seq_asg ?_
    refine grow_step (n := 5) (Pc := fun cs H' => ErrsAt K [] H' cs [("NoTerm", [("sight", v)]), ("TooLong", [("asks", v)]), ("Dead", [("mark", v)]), ("AsksTwo", [("mark", v)]), ("Unlike", [("text", v)])]) rfl h5 (fun Q z => (show MkL K [] _ _ _ from (mk_cons (mk_new (us := [v]) (vs_var rfl vs_nil) vs_nil rfl rfl rfl rfl) (mk_cons (mk_new (us := [v]) (vs_var rfl vs_nil) vs_nil rfl rfl rfl rfl) (mk_cons (mk_new (us := [v]) (vs_var rfl vs_nil) vs_nil rfl rfl rfl rfl) (mk_cons (mk_new (us := [v]) (vs_var rfl vs_nil) vs_nil rfl rfl rfl rfl) (mk_cons (mk_new (us := [v]) (vs_var rfl vs_nil) vs_nil rfl rfl rfl rfl) mk_nil)))))) _ Q z) (fun _ _ z => z.length) (by rw [b5.length]; show (32 : Nat) ≤ sizeLine; decide) fun p6 cs6 G6 H6 d6 c6 x6 h6 => ?_
    have e6 := e5.trans (d6.trans x6)
    have b6 := (b5.ext (d6.trans x6)).app (c6.ext x6)
    exact ⟨_, rfl, q p6 _ H6 e6 h6 b6⟩
abbrev s_by_name : Stmt := top 47
abbrev N_by_name : List Str := ["thing", "found"]
theorem sc_by_name : FnScope N_by_name ["thing"] (defScope s_by_name) := ⟨rfl, rfl, rfl, by decide +kernel, rfl, by decide +kernel, by decide +kernel⟩
theorem ok_by_name (I : Inis P w K mg base) (hk2 : 2 ≤ k) (F : FunD K "_law_by_name" "_law_by_name" (defArgs s_by_name) (defBody s_by_name) (defScope s_by_name) [] [] f fd) (hm : mg "_law_by_name" = some (.ref f)) : OkC P w K mg base (k + 1) "_law_by_name" ["thing"] (spMany K) := by
  refine okC_of F hm sc_by_name (fun _ _ _ _ _ _ us hl => match us, hl with | [_], _ => rfl) (fun vs H Q E h => ?_) (fun cdv A outer s H vs Q E hr h => ?_)
  · obtain ⟨v, rfl, _⟩ := h
    rfl
  · obtain ⟨v, rfl, q⟩ := h
    refine ⟨_, (pss_cons (ps_set (i := 1) sc_by_name.nd rfl (Or.inl rfl) (pe_lst (pa_cons (pe_ini0 (ks := ["given"]) (ix := [0]) I.i_InvalidNames (by decide) ((roomH_of hr).mono hk2) rfl (by rfl) (pk_cons (pv 0) pk_nil)) (pa_cons (pe_ini0 (ks := ["given"]) (ix := [0]) I.i_InvalidKind (by decide) ((roomH_of hr).mono hk2) rfl (by rfl) (pk_cons (pv 0) pk_nil)) (pa_cons (pe_ini0 (ks := ["given"]) (ix := [0]) I.i_InvalidKinds (by decide) ((roomH_of hr).mono hk2) rfl (by rfl) (pk_cons (pv 0) pk_nil)) pa_nil))))) (pss_cons (ps_set (i := 1) sc_by_name.nd rfl (Or.inl rfl) (pe_op op_cat (pv 1) (pe_lst (pa_cons (pe_ini0 (ks := ["given"]) (ix := [0]) I.i_InvalidText (by decide) ((roomH_of hr).mono hk2) rfl (by rfl) (pk_cons (pv 0) pk_nil)) (pa_cons (pe_ini0 (ks := ["given"]) (ix := [0]) I.i_InvalidBinding (by decide) ((roomH_of hr).mono hk2) rfl (by rfl) (pk_cons (pv 0) pk_nil)) (pa_cons (pe_ini0 (ks := ["given"]) (ix := [0]) I.i_InvalidPatterns (by decide) ((roomH_of hr).mono hk2) rfl (by rfl) (pk_cons (pv 0) pk_nil)) pa_nil)))))) (pss_cons (ps_set (i := 1) sc_by_name.nd rfl (Or.inl rfl) (pe_op op_cat (pv 1) (pe_lst (pa_cons (pe_ini0 (ks := ["given"]) (ix := [0]) I.i_InvalidUse (by decide) ((roomH_of hr).mono hk2) rfl (by rfl) (pk_cons (pv 0) pk_nil)) (pa_cons (pe_ini0 (ks := ["given"]) (ix := [0]) I.i_InvalidLine (by decide) ((roomH_of hr).mono hk2) rfl (by rfl) (pk_cons (pv 0) pk_nil)) (pa_cons (pe_ini0 (ks := ["given"]) (ix := [0]) I.i_InvalidWord (by decide) ((roomH_of hr).mono hk2) rfl (by rfl) (pk_cons (pv 0) pk_nil)) pa_nil)))))) (pss_cons (ps_set (i := 1) sc_by_name.nd rfl (Or.inl rfl) (pe_op op_cat (pv 1) (pe_lst (pa_cons (pe_ini0 (ks := ["given"]) (ix := [0]) I.i_InvalidProgram (by decide) ((roomH_of hr).mono hk2) rfl (by rfl) (pk_cons (pv 0) pk_nil)) (pa_cons (pe_ini0 (ks := ["given"]) (ix := [0]) I.i_InvalidRoots (by decide) ((roomH_of hr).mono hk2) rfl (by rfl) (pk_cons (pv 0) pk_nil)) (pa_cons (pe_ini0 (ks := ["given"]) (ix := [0]) I.i_InvalidMost (by decide) ((roomH_of hr).mono hk2) rfl (by rfl) (pk_cons (pv 0) pk_nil)) pa_nil)))))) (pss_cons (ps_set (i := 1) sc_by_name.nd rfl (Or.inl rfl) (pe_op op_cat (pv 1) (pe_lst (pa_cons (pe_ini0 (ks := ["given"]) (ix := [0]) I.i_InvalidLibrary (by decide) ((roomH_of hr).mono hk2) rfl (by rfl) (pk_cons (pv 0) pk_nil)) (pa_cons (pe_ini0 (ks := ["given"]) (ix := [0]) I.i_InvalidView (by decide) ((roomH_of hr).mono hk2) rfl (by rfl) (pk_cons (pv 0) pk_nil)) (pa_cons (pe_ini0 (ks := ["given"]) (ix := [0]) I.i_InvalidSort (by decide) ((roomH_of hr).mono hk2) rfl (by rfl) (pk_cons (pv 0) pk_nil)) pa_nil)))))) (pss_cons (ps_set (i := 1) sc_by_name.nd rfl (Or.inl rfl) (pe_op op_cat (pv 1) (pe_lst (pa_cons (pe_ini0 (ks := ["given"]) (ix := [0]) I.i_InvalidLinked (by decide) ((roomH_of hr).mono hk2) rfl (by rfl) (pk_cons (pv 0) pk_nil)) (pa_cons (pe_ini0 (ks := ["given"]) (ix := [0]) I.i_InvalidPairs (by decide) ((roomH_of hr).mono hk2) rfl (by rfl) (pk_cons (pv 0) pk_nil)) (pa_cons (pe_ini0 (ks := ["given"]) (ix := [0]) I.i_InvalidRow (by decide) ((roomH_of hr).mono hk2) rfl (by rfl) (pk_cons (pv 0) pk_nil)) pa_nil)))))) (pss_cons (ps_set (i := 1) sc_by_name.nd rfl (Or.inl rfl) (pe_op op_cat (pv 1) (pe_lst (pa_cons (pe_ini0 (ks := ["given"]) (ix := [0]) I.i_InvalidRows (by decide) ((roomH_of hr).mono hk2) rfl (by rfl) (pk_cons (pv 0) pk_nil)) (pa_cons (pe_ini0 (ks := ["given"]) (ix := [0]) I.i_InvalidRule (by decide) ((roomH_of hr).mono hk2) rfl (by rfl) (pk_cons (pv 0) pk_nil)) (pa_cons (pe_ini0 (ks := ["given"]) (ix := [0]) I.i_InvalidTerm (by decide) ((roomH_of hr).mono hk2) rfl (by rfl) (pk_cons (pv 0) pk_nil)) pa_nil)))))) (pss_cons (ps_set (i := 1) sc_by_name.nd rfl (Or.inl rfl) (pe_op op_cat (pv 1) (pe_lst (pa_cons (pe_ini0 (ks := ["use"]) (ix := [0]) I.i_NotCovered (by decide) ((roomH_of hr).mono hk2) rfl (by rfl) (pk_cons (pv 0) pk_nil)) (pa_cons (pe_ini0 (ks := ["use"]) (ix := [0]) I.i_NoTaker (by decide) ((roomH_of hr).mono hk2) rfl (by rfl) (pk_cons (pv 0) pk_nil)) (pa_cons (pe_ini0 (ks := ["use"]) (ix := [0]) I.i_TwoLeast (by decide) ((roomH_of hr).mono hk2) rfl (by rfl) (pk_cons (pv 0) pk_nil)) (pa_cons (pe_ini0 (ks := ["use"]) (ix := [0]) I.i_HasTwo (by decide) ((roomH_of hr).mono hk2) rfl (by rfl) (pk_cons (pv 0) pk_nil)) pa_nil))))))) (pss_cons (ps_set (i := 1) sc_by_name.nd rfl (Or.inl rfl) (pe_op op_cat (pv 1) (pe_lst (pa_cons (pe_ini0 (ks := ["most"]) (ix := [0]) I.i_TooFar (by decide) ((roomH_of hr).mono hk2) rfl (by rfl) (pk_cons (pv 0) pk_nil)) (pa_cons (pe_ini0 (ks := ["most"]) (ix := [0]) I.i_TooMany (by decide) ((roomH_of hr).mono hk2) rfl (by rfl) (pk_cons (pv 0) pk_nil)) (pa_cons (pe_ini0 (ks := ["sight"]) (ix := [0]) I.i_NoTerm (by decide) ((roomH_of hr).mono hk2) rfl (by rfl) (pk_cons (pv 0) pk_nil)) (pa_cons (pe_ini0 (ks := ["asks"]) (ix := [0]) I.i_TooLong (by decide) ((roomH_of hr).mono hk2) rfl (by rfl) (pk_cons (pv 0) pk_nil)) pa_nil))))))) (pss_cons (ps_set (i := 1) sc_by_name.nd rfl (Or.inl rfl) (pe_op op_cat (pv 1) (pe_lst (pa_cons (pe_ini0 (ks := ["mark"]) (ix := [0]) I.i_Dead (by decide) ((roomH_of hr).mono hk2) rfl (by rfl) (pk_cons (pv 0) pk_nil)) (pa_cons (pe_ini0 (ks := ["mark"]) (ix := [0]) I.i_AsksTwo (by decide) ((roomH_of hr).mono hk2) rfl (by rfl) (pk_cons (pv 0) pk_nil)) (pa_cons (pe_ini0 (ks := ["text"]) (ix := [0]) I.i_Unlike (by decide) ((roomH_of hr).mono hk2) rfl (by rfl) (pk_cons (pv 0) pk_nil)) pa_nil)))))) (pss_one (ps_ret (pv 1))))))))))))), ?_⟩
    refine seq_asg ?_
    refine mk_lst (K := K) (l := []) (qs := [("InvalidNames", [("given", v)]), ("InvalidKind", [("given", v)]), ("InvalidKinds", [("given", v)])]) (by exact (mk_cons (mk_new (us := [v]) vs_nil (vs_var rfl vs_nil) rfl rfl rfl rfl) (mk_cons (mk_new (us := [v]) vs_nil (vs_var rfl vs_nil) rfl rfl rfl rfl) (mk_cons (mk_new (us := [v]) vs_nil (vs_var rfl vs_nil) rfl rfl rfl rfl) mk_nil)))) (by show 3 ≤ 900; decide) fun rs0 H0 p0 e0 h0 b0 => ?_
    refine seq_asg ?_
    refine grow_step (n := 3) (Pc := fun cs H' => ErrsAt K [] H' cs [("InvalidText", [("given", v)]), ("InvalidBinding", [("given", v)]), ("InvalidPatterns", [("given", v)])]) rfl h0 (fun Q z => (show MkL K [] _ _ _ from (mk_cons (mk_new (us := [v]) vs_nil (vs_var rfl vs_nil) rfl rfl rfl rfl) (mk_cons (mk_new (us := [v]) vs_nil (vs_var rfl vs_nil) rfl rfl rfl rfl) (mk_cons (mk_new (us := [v]) vs_nil (vs_var rfl vs_nil) rfl rfl rfl rfl) mk_nil)))) _ Q z) (fun _ _ z => z.length) (by rw [b0.length]; show (6 : Nat) ≤ sizeLine; decide) fun p1 cs1 G1 H1 d1 c1 x1 h1 => ?_
    have e1 := e0.trans (d1.trans x1)
    have b1 := (b0.ext (d1.trans x1)).app (c1.ext x1)
    refine seq_asg ?_
    refine grow_step (n := 3) (Pc := fun cs H' => ErrsAt K [] H' cs [("InvalidUse", [("given", v)]), ("InvalidLine", [("given", v)]), ("InvalidWord", [("given", v)])]) rfl h1 (fun Q z => (show MkL K [] _ _ _ from (mk_cons (mk_new (us := [v]) vs_nil (vs_var rfl vs_nil) rfl rfl rfl rfl) (mk_cons (mk_new (us := [v]) vs_nil (vs_var rfl vs_nil) rfl rfl rfl rfl) (mk_cons (mk_new (us := [v]) vs_nil (vs_var rfl vs_nil) rfl rfl rfl rfl) mk_nil)))) _ Q z) (fun _ _ z => z.length) (by rw [b1.length]; show (9 : Nat) ≤ sizeLine; decide) fun p2 cs2 G2 H2 d2 c2 x2 h2 => ?_
    have e2 := e1.trans (d2.trans x2)
    have b2 := (b1.ext (d2.trans x2)).app (c2.ext x2)
    refine seq_asg ?_
    refine grow_step (n := 3) (Pc := fun cs H' => ErrsAt K [] H' cs [("InvalidProgram", [("given", v)]), ("InvalidRoots", [("given", v)]), ("InvalidMost", [("given", v)])]) rfl h2 (fun Q z => (show MkL K [] _ _ _ from (mk_cons (mk_new (us := [v]) vs_nil (vs_var rfl vs_nil) rfl rfl rfl rfl) (mk_cons (mk_new (us := [v]) vs_nil (vs_var rfl vs_nil) rfl rfl rfl rfl) (mk_cons (mk_new (us := [v]) vs_nil (vs_var rfl vs_nil) rfl rfl rfl rfl) mk_nil)))) _ Q z) (fun _ _ z => z.length) (by rw [b2.length]; show (12 : Nat) ≤ sizeLine; decide) fun p3 cs3 G3 H3 d3 c3 x3 h3 => ?_
    have e3 := e2.trans (d3.trans x3)
    have b3 := (b2.ext (d3.trans x3)).app (c3.ext x3)
    refine seq_asg ?_
    refine grow_step (n := 3) (Pc := fun cs H' => ErrsAt K [] H' cs [("InvalidLibrary", [("given", v)]), ("InvalidView", [("given", v)]), ("InvalidSort", [("given", v)])]) rfl h3 (fun Q z => (show MkL K [] _ _ _ from (mk_cons (mk_new (us := [v]) vs_nil (vs_var rfl vs_nil) rfl rfl rfl rfl) (mk_cons (mk_new (us := [v]) vs_nil (vs_var rfl vs_nil) rfl rfl rfl rfl) (mk_cons (mk_new (us := [v]) vs_nil (vs_var rfl vs_nil) rfl rfl rfl rfl) mk_nil)))) _ Q z) (fun _ _ z => z.length) (by rw [b3.length]; show (15 : Nat) ≤ sizeLine; decide) fun p4 cs4 G4 H4 d4 c4 x4 h4 => ?_
    have e4 := e3.trans (d4.trans x4)
    have b4 := (b3.ext (d4.trans x4)).app (c4.ext x4)
    refine seq_asg ?_
    refine grow_step (n := 3) (Pc := fun cs H' => ErrsAt K [] H' cs [("InvalidLinked", [("given", v)]), ("InvalidPairs", [("given", v)]), ("InvalidRow", [("given", v)])]) rfl h4 (fun Q z => (show MkL K [] _ _ _ from (mk_cons (mk_new (us := [v]) vs_nil (vs_var rfl vs_nil) rfl rfl rfl rfl) (mk_cons (mk_new (us := [v]) vs_nil (vs_var rfl vs_nil) rfl rfl rfl rfl) (mk_cons (mk_new (us := [v]) vs_nil (vs_var rfl vs_nil) rfl rfl rfl rfl) mk_nil)))) _ Q z) (fun _ _ z => z.length) (by rw [b4.length]; show (18 : Nat) ≤ sizeLine; decide) fun p5 cs5 G5 H5 d5 c5 x5 h5 => ?_
    have e5 := e4.trans (d5.trans x5)
    have b5 := (b4.ext (d5.trans x5)).app (c5.ext x5)
    refine seq_asg ?_
    refine grow_step (n := 3) (Pc := fun cs H' => ErrsAt K [] H' cs [("InvalidRows", [("given", v)]), ("InvalidRule", [("given", v)]), ("InvalidTerm", [("given", v)])]) rfl h5 (fun Q z => (show MkL K [] _ _ _ from (mk_cons (mk_new (us := [v]) vs_nil (vs_var rfl vs_nil) rfl rfl rfl rfl) (mk_cons (mk_new (us := [v]) vs_nil (vs_var rfl vs_nil) rfl rfl rfl rfl) (mk_cons (mk_new (us := [v]) vs_nil (vs_var rfl vs_nil) rfl rfl rfl rfl) mk_nil)))) _ Q z) (fun _ _ z => z.length) (by rw [b5.length]; show (21 : Nat) ≤ sizeLine; decide) fun p6 cs6 G6 H6 d6 c6 x6 h6 => ?_
    have e6 := e5.trans (d6.trans x6)
    have b6 := (b5.ext (d6.trans x6)).app (c6.ext x6)
    refine seq_asg ?_
    refine grow_step (n := 4) (Pc := fun cs H' => ErrsAt K [] H' cs [("NotCovered", [("use", v)]), ("NoTaker", [("use", v)]), ("TwoLeast", [("use", v)]), ("HasTwo", [("use", v)])]) rfl h6 (fun Q z => (show MkL K [] _ _ _ from (mk_cons (mk_new (us := [v]) vs_nil (vs_var rfl vs_nil) rfl rfl rfl rfl) (mk_cons (mk_new (us := [v]) vs_nil (vs_var rfl vs_nil) rfl rfl rfl rfl) (mk_cons (mk_new (us := [v]) vs_nil (vs_var rfl vs_nil) rfl rfl rfl rfl) (mk_cons (mk_new (us := [v]) vs_nil (vs_var rfl vs_nil) rfl rfl rfl rfl) mk_nil))))) _ Q z) (fun _ _ z => z.length) (by rw [b6.length]; show (25 : Nat) ≤ sizeLine; decide) fun p7 cs7 G7 H7 d7 c7 x7 h7 => ?_
    have e7 := e6.trans (d7.trans x7)
    have b7 := (b6.ext (d7.trans x7)).app (c7.ext x7)
    refine seq_asg ?_
    refine grow_step (n := 4) (Pc := fun cs H' => ErrsAt K [] H' cs [("TooFar", [("most", v)]), ("TooMany", [("most", v)]), ("NoTerm", [("sight", v)]), ("TooLong", [("asks", v)])]) rfl h7 (fun Q z => (show MkL K [] _ _ _ from (mk_cons (mk_new (us := [v]) vs_nil (vs_var rfl vs_nil) rfl rfl rfl rfl) (mk_cons (mk_new (us := [v]) vs_nil (vs_var rfl vs_nil) rfl rfl rfl rfl) (mk_cons (mk_new (us := [v]) vs_nil (vs_var rfl vs_nil) rfl rfl rfl rfl) (mk_cons (mk_new (us := [v]) vs_nil (vs_var rfl vs_nil) rfl rfl rfl rfl) mk_nil))))) _ Q z) (fun _ _ z => z.length) (by rw [b7.length]; show (29 : Nat) ≤ sizeLine; decide) fun p8 cs8 G8 H8 d8 c8 x8 h8 => ?_
    have e8 := e7.trans (d8.trans x8)
    have b8 := (b7.ext (d8.trans x8)).app (c8.ext x8)
    refine seq_asg ?_
    refine grow_step (n := 3) (Pc := fun cs H' => ErrsAt K [] H' cs [("Dead", [("mark", v)]), ("AsksTwo", [("mark", v)]), ("Unlike", [("text", v)])]) rfl h8 (fun Q z => (show MkL K [] _ _ _ from (mk_cons (mk_new (us := [v]) vs_nil (vs_var rfl vs_nil) rfl rfl rfl rfl) (mk_cons (mk_new (us := [v]) vs_nil (vs_var rfl vs_nil) rfl rfl rfl rfl) (mk_cons (mk_new (us := [v]) vs_nil (vs_var rfl vs_nil) rfl rfl rfl rfl) mk_nil)))) _ Q z) (fun _ _ z => z.length) (by rw [b8.length]; show (32 : Nat) ≤ sizeLine; decide) fun p9 cs9 G9 H9 d9 c9 x9 h9 => ?_
    have e9 := e8.trans (d9.trans x9)
    have b9 := (b8.ext (d9.trans x9)).app (c9.ext x9)
    exact ⟨_, rfl, q p9 _ H9 e9 h9 b9⟩
end
end D0

namespace D0
open PySem PySem.Spec PyProof.Rows L2 L2H HotX Evl K9
section
variable {P : Program} {w : World} {K : PySem.W.Frag} {mg : Str → Option Value} {base : Heap} {f : Addr} {fd : FuncData} {k : Nat}
def sixQ (a b c d : V) : List (Str × List (Str × V)) := [("NoChoice", [("terms", b), ("generic", a)]), ("TwoChoices", [("terms", b), ("generic", a)]), ("NotApart", [("what", b), ("generic", a)]), ("NotMet", [("terms", b), ("generic", a)]),
  ("RingOfConstants", [("word", c), ("terms", b), ("generic", a)]), ("Lacks", [("many", d), ("word", c), ("terms", b), ("generic", a)])]
def spSeveral (K : PySem.W.Frag) : Sp := fun vs H Q _ => ∃ (a b c d : V) (n : Nat), vs = [a, b, c, d, .int (n : Int)] ∧ n < 4 ∧ ∀ (q : Addr) (rs : List V) (H' : Hp), Ex H H' → H' q = some (.lst rs) → ErrsAt K [] H' rs (sixQ a b c d) → Q (.ref q) H'
abbrev s_several : Stmt := top 48
abbrev N_several : List Str := ["a", "b", "c", "d", "way", "found"]
theorem sc_several : FnScope N_several ["a", "b", "c", "d", "way"] (defScope s_several) := ⟨rfl, rfl, rfl, by decide +kernel, rfl, by decide +kernel, by decide +kernel⟩
theorem ok_several (I : Inis P w K mg base) (hk2 : 2 ≤ k) (F : FunD K "_law_several" "_law_several" (defArgs s_several) (defBody s_several) (defScope s_several) [] [] f fd) (hm : mg "_law_several" = some (.ref f)) : OkC P w K mg base (k + 1) "_law_several" ["a", "b", "c", "d", "way"] (spSeveral K) := by
  refine okC_of F hm sc_several (fun _ _ _ _ _ _ us hl => match us, hl with | [_, _, _, _, _], _ => rfl) (fun vs H Q E h => ?_) (fun cdv A outer s H vs Q E hr h => ?_)
  · obtain ⟨a, b, c, d, n, rfl, _⟩ := h
    rfl
  · obtain ⟨a, b, c, d, n, rfl, hn, q⟩ := h
    refine ⟨_, (pss_cons (ps_if (pt_cmpR op_eq (pv 4) pe_int (nomark _)) (pss_cons (ps_set (i := 5) sc_several.nd rfl (Or.inl rfl) (pe_lst (pa_cons (pe_iniK (n := 2) (ks := []) (ix := []) I.i_NoChoice (by decide) ((roomH_of hr).mono hk2) rfl (by rfl) (pa_cons (pv 0) (pa_cons (pv 1) pa_nil)) pk_nil) (pa_cons (pe_iniK (n := 2) (ks := []) (ix := []) I.i_TwoChoices (by decide) ((roomH_of hr).mono hk2) rfl (by rfl) (pa_cons (pv 0) (pa_cons (pv 1) pa_nil)) pk_nil) (pa_cons (pe_iniK (n := 2) (ks := []) (ix := []) I.i_NotApart (by decide) ((roomH_of hr).mono hk2) rfl (by rfl) (pa_cons (pv 0) (pa_cons (pv 1) pa_nil)) pk_nil) (pa_cons (pe_iniK (n := 2) (ks := []) (ix := []) I.i_NotMet (by decide) ((roomH_of hr).mono hk2) rfl (by rfl) (pa_cons (pv 0) (pa_cons (pv 1) pa_nil)) pk_nil) (pa_cons (pe_iniK (n := 3) (ks := []) (ix := []) I.i_RingOfConstants (by decide) ((roomH_of hr).mono hk2) rfl (by rfl) (pa_cons (pv 0) (pa_cons (pv 1) (pa_cons (pv 2) pa_nil))) pk_nil) pa_nil))))))) (pss_one (ps_ret (pe_op op_cat (pv 5) (pe_lst (pa_cons (pe_iniK (n := 4) (ks := []) (ix := []) I.i_Lacks (by decide) ((roomH_of hr).mono hk2) rfl (by rfl) (pa_cons (pv 0) (pa_cons (pv 1) (pa_cons (pv 2) (pa_cons (pv 3) pa_nil)))) pk_nil) pa_nil)))))) pss_nil) (pss_cons (ps_if (pt_cmpR op_eq (pv 4) pe_int (nomark _)) (pss_cons (ps_set (i := 5) sc_several.nd rfl (Or.inl rfl) (pe_lst (pa_cons (pe_ini0 (ks := ["generic", "terms"]) (ix := [0, 1]) I.i_NoChoice (by decide) ((roomH_of hr).mono hk2) rfl (by rfl) (pk_cons (pv 0) (pk_cons (pv 1) pk_nil))) (pa_cons (pe_ini0 (ks := ["generic", "terms"]) (ix := [0, 1]) I.i_TwoChoices (by decide) ((roomH_of hr).mono hk2) rfl (by rfl) (pk_cons (pv 0) (pk_cons (pv 1) pk_nil))) (pa_cons (pe_ini0 (ks := ["generic", "what"]) (ix := [0, 1]) I.i_NotApart (by decide) ((roomH_of hr).mono hk2) rfl (by rfl) (pk_cons (pv 0) (pk_cons (pv 1) pk_nil))) pa_nil))))) (pss_cons (ps_set (i := 5) sc_several.nd rfl (Or.inl rfl) (pe_op op_cat (pv 5) (pe_lst (pa_cons (pe_ini0 (ks := ["generic", "terms"]) (ix := [0, 1]) I.i_NotMet (by decide) ((roomH_of hr).mono hk2) rfl (by rfl) (pk_cons (pv 0) (pk_cons (pv 1) pk_nil))) (pa_cons (pe_ini0 (ks := ["generic", "terms", "word"]) (ix := [0, 1, 2]) I.i_RingOfConstants (by decide) ((roomH_of hr).mono hk2) rfl (by rfl) (pk_cons (pv 0) (pk_cons (pv 1) (pk_cons (pv 2) pk_nil)))) pa_nil))))) (pss_one (ps_ret (pe_op op_cat (pv 5) (pe_lst (pa_cons (pe_ini0 (ks := ["generic", "terms", "word", "many"]) (ix := [0, 1, 2, 3]) I.i_Lacks (by decide) ((roomH_of hr).mono hk2) rfl (by rfl) (pk_cons (pv 0) (pk_cons (pv 1) (pk_cons (pv 2) (pk_cons (pv 3) pk_nil))))) pa_nil))))))) pss_nil) (pss_cons (ps_if (pt_cmpR op_eq (pv 4) pe_int (nomark _)) (pss_cons (ps_set (i := 5) sc_several.nd rfl (Or.inl rfl) (pe_lst (pa_cons (pe_ini0 (ks := ["terms", "generic"]) (ix := [1, 0]) I.i_NoChoice (by decide) ((roomH_of hr).mono hk2) rfl (by rfl) (pk_cons (pv 1) (pk_cons (pv 0) pk_nil))) (pa_cons (pe_ini0 (ks := ["terms", "generic"]) (ix := [1, 0]) I.i_TwoChoices (by decide) ((roomH_of hr).mono hk2) rfl (by rfl) (pk_cons (pv 1) (pk_cons (pv 0) pk_nil))) (pa_cons (pe_ini0 (ks := ["what", "generic"]) (ix := [1, 0]) I.i_NotApart (by decide) ((roomH_of hr).mono hk2) rfl (by rfl) (pk_cons (pv 1) (pk_cons (pv 0) pk_nil))) pa_nil))))) (pss_cons (ps_set (i := 5) sc_several.nd rfl (Or.inl rfl) (pe_op op_cat (pv 5) (pe_lst (pa_cons (pe_ini0 (ks := ["terms", "generic"]) (ix := [1, 0]) I.i_NotMet (by decide) ((roomH_of hr).mono hk2) rfl (by rfl) (pk_cons (pv 1) (pk_cons (pv 0) pk_nil))) (pa_cons (pe_ini0 (ks := ["word", "terms", "generic"]) (ix := [2, 1, 0]) I.i_RingOfConstants (by decide) ((roomH_of hr).mono hk2) rfl (by rfl) (pk_cons (pv 2) (pk_cons (pv 1) (pk_cons (pv 0) pk_nil)))) pa_nil))))) (pss_one (ps_ret (pe_op op_cat (pv 5) (pe_lst (pa_cons (pe_ini0 (ks := ["many", "word", "terms", "generic"]) (ix := [3, 2, 1, 0]) I.i_Lacks (by decide) ((roomH_of hr).mono hk2) rfl (by rfl) (pk_cons (pv 3) (pk_cons (pv 2) (pk_cons (pv 1) (pk_cons (pv 0) pk_nil))))) pa_nil))))))) pss_nil) (pss_cons (ps_set (i := 5) sc_several.nd rfl (Or.inl rfl) (pe_lst (pa_cons (pe_iniK (n := 1) (ks := ["terms"]) (ix := [0]) I.i_NoChoice (by decide) ((roomH_of hr).mono hk2) rfl (by rfl) (pa_cons (pv 0) pa_nil) (pk_cons (pv 1) pk_nil)) (pa_cons (pe_iniK (n := 1) (ks := ["terms"]) (ix := [0]) I.i_TwoChoices (by decide) ((roomH_of hr).mono hk2) rfl (by rfl) (pa_cons (pv 0) pa_nil) (pk_cons (pv 1) pk_nil)) (pa_cons (pe_iniK (n := 1) (ks := ["what"]) (ix := [0]) I.i_NotApart (by decide) ((roomH_of hr).mono hk2) rfl (by rfl) (pa_cons (pv 0) pa_nil) (pk_cons (pv 1) pk_nil)) (pa_cons (pe_iniK (n := 1) (ks := ["terms"]) (ix := [0]) I.i_NotMet (by decide) ((roomH_of hr).mono hk2) rfl (by rfl) (pa_cons (pv 0) pa_nil) (pk_cons (pv 1) pk_nil)) pa_nil)))))) (pss_one (ps_ret (pe_op op_cat (pv 5) (pe_lst (pa_cons (pe_iniK (n := 1) (ks := ["word", "terms"]) (ix := [1, 0]) I.i_RingOfConstants (by decide) ((roomH_of hr).mono hk2) rfl (by rfl) (pa_cons (pv 0) pa_nil) (pk_cons (pv 2) (pk_cons (pv 1) pk_nil))) (pa_cons (pe_iniK (n := 2) (ks := ["many", "word"]) (ix := [1, 0]) I.i_Lacks (by decide) ((roomH_of hr).mono hk2) rfl (by rfl) (pa_cons (pv 0) (pa_cons (pv 1) pa_nil)) (pk_cons (pv 3) (pk_cons (pv 2) pk_nil))) pa_nil)))))))))), ?_⟩
    match n, hn with
    | 0, _ =>
      refine ⟨_, rfl, rfl, _, rfl, ?_⟩
      refine ite1 (by decide) ?_
      refine seq_asg ?_
      refine mk_lst (K := K) (l := []) (qs := [("NoChoice", [("terms", b), ("generic", a)]), ("TwoChoices", [("terms", b), ("generic", a)]), ("NotApart", [("what", b), ("generic", a)]), ("NotMet", [("terms", b), ("generic", a)]), ("RingOfConstants", [("word", c), ("terms", b), ("generic", a)])]) (by exact (mk_cons (mk_new (us := [a, b]) (vs_var rfl (vs_var rfl vs_nil)) vs_nil rfl rfl rfl rfl) (mk_cons (mk_new (us := [a, b]) (vs_var rfl (vs_var rfl vs_nil)) vs_nil rfl rfl rfl rfl) (mk_cons (mk_new (us := [a, b]) (vs_var rfl (vs_var rfl vs_nil)) vs_nil rfl rfl rfl rfl) (mk_cons (mk_new (us := [a, b]) (vs_var rfl (vs_var rfl vs_nil)) vs_nil rfl rfl rfl rfl) (mk_cons (mk_new (us := [a, b, c]) (vs_var rfl (vs_var rfl (vs_var rfl vs_nil))) vs_nil rfl rfl rfl rfl) mk_nil)))))) (by show 5 ≤ 900; decide) fun rs0 H0 p0 e0 h0 b0 => ?_
      refine ret_l ?_
      refine grow_step (n := 1) (Pc := fun cs H' => ErrsAt K [] H' cs [("Lacks", [("many", d), ("word", c), ("terms", b), ("generic", a)])]) rfl h0 (fun Q z => (show MkL K [] _ _ _ from (mk_cons (mk_new (us := [a, b, c, d]) (vs_var rfl (vs_var rfl (vs_var rfl (vs_var rfl vs_nil)))) vs_nil rfl rfl rfl rfl) mk_nil)) _ Q z) (fun _ _ z => z.length) (by rw [b0.length]; show (6 : Nat) ≤ sizeLine; decide) fun p1 cs1 G1 H1 d1 c1 x1 h1 => ?_
      have e1 := e0.trans (d1.trans x1)
      have b1 := (b0.ext (d1.trans x1)).app (c1.ext x1)
      exact q p1 _ H1 e1 h1 b1
    | 1, _ =>
      refine ⟨_, rfl, rfl, _, rfl, ?_⟩
      refine ite0 (by decide) (nx_l ?_)
      refine ⟨_, rfl, rfl, _, rfl, ?_⟩
      refine ite1 (by decide) ?_
      refine seq_asg ?_
      refine mk_lst (K := K) (l := []) (qs := [("NoChoice", [("terms", b), ("generic", a)]), ("TwoChoices", [("terms", b), ("generic", a)]), ("NotApart", [("what", b), ("generic", a)])]) (by exact (mk_cons (mk_new (us := [a, b]) vs_nil (vs_var rfl (vs_var rfl vs_nil)) rfl rfl rfl rfl) (mk_cons (mk_new (us := [a, b]) vs_nil (vs_var rfl (vs_var rfl vs_nil)) rfl rfl rfl rfl) (mk_cons (mk_new (us := [a, b]) vs_nil (vs_var rfl (vs_var rfl vs_nil)) rfl rfl rfl rfl) mk_nil)))) (by show 3 ≤ 900; decide) fun rs0 H0 p0 e0 h0 b0 => ?_
      refine seq_asg ?_
      refine grow_step (n := 2) (Pc := fun cs H' => ErrsAt K [] H' cs [("NotMet", [("terms", b), ("generic", a)]), ("RingOfConstants", [("word", c), ("terms", b), ("generic", a)])]) rfl h0 (fun Q z => (show MkL K [] _ _ _ from (mk_cons (mk_new (us := [a, b]) vs_nil (vs_var rfl (vs_var rfl vs_nil)) rfl rfl rfl rfl) (mk_cons (mk_new (us := [a, b, c]) vs_nil (vs_var rfl (vs_var rfl (vs_var rfl vs_nil))) rfl rfl rfl rfl) mk_nil))) _ Q z) (fun _ _ z => z.length) (by rw [b0.length]; show (5 : Nat) ≤ sizeLine; decide) fun p1 cs1 G1 H1 d1 c1 x1 h1 => ?_
      have e1 := e0.trans (d1.trans x1)
      have b1 := (b0.ext (d1.trans x1)).app (c1.ext x1)
      refine ret_l ?_
      refine grow_step (n := 1) (Pc := fun cs H' => ErrsAt K [] H' cs [("Lacks", [("many", d), ("word", c), ("terms", b), ("generic", a)])]) rfl h1 (fun Q z => (show MkL K [] _ _ _ from (mk_cons (mk_new (us := [a, b, c, d]) vs_nil (vs_var rfl (vs_var rfl (vs_var rfl (vs_var rfl vs_nil)))) rfl rfl rfl rfl) mk_nil)) _ Q z) (fun _ _ z => z.length) (by rw [b1.length]; show (6 : Nat) ≤ sizeLine; decide) fun p2 cs2 G2 H2 d2 c2 x2 h2 => ?_
      have e2 := e1.trans (d2.trans x2)
      have b2 := (b1.ext (d2.trans x2)).app (c2.ext x2)
      exact q p2 _ H2 e2 h2 b2
    | 2, _ =>
      refine ⟨_, rfl, rfl, _, rfl, ?_⟩
      refine ite0 (by decide) (nx_l ?_)
      refine ⟨_, rfl, rfl, _, rfl, ?_⟩
      refine ite0 (by decide) (nx_l ?_)
      refine ⟨_, rfl, rfl, _, rfl, ?_⟩
      refine ite1 (by decide) ?_
      refine seq_asg ?_
      refine mk_lst (K := K) (l := []) (qs := [("NoChoice", [("terms", b), ("generic", a)]), ("TwoChoices", [("terms", b), ("generic", a)]), ("NotApart", [("what", b), ("generic", a)])]) (by exact (mk_cons (mk_new (us := [a, b]) vs_nil (vs_var rfl (vs_var rfl vs_nil)) rfl rfl rfl rfl) (mk_cons (mk_new (us := [a, b]) vs_nil (vs_var rfl (vs_var rfl vs_nil)) rfl rfl rfl rfl) (mk_cons (mk_new (us := [a, b]) vs_nil (vs_var rfl (vs_var rfl vs_nil)) rfl rfl rfl rfl) mk_nil)))) (by show 3 ≤ 900; decide) fun rs0 H0 p0 e0 h0 b0 => ?_
      refine seq_asg ?_
      refine grow_step (n := 2) (Pc := fun cs H' => ErrsAt K [] H' cs [("NotMet", [("terms", b), ("generic", a)]), ("RingOfConstants", [("word", c), ("terms", b), ("generic", a)])]) rfl h0 (fun Q z => (show MkL K [] _ _ _ from (mk_cons (mk_new (us := [a, b]) vs_nil (vs_var rfl (vs_var rfl vs_nil)) rfl rfl rfl rfl) (mk_cons (mk_new (us := [a, b, c]) vs_nil (vs_var rfl (vs_var rfl (vs_var rfl vs_nil))) rfl rfl rfl rfl) mk_nil))) _ Q z) (fun _ _ z => z.length) (by rw [b0.length]; show (5 : Nat) ≤ sizeLine; decide) fun p1 cs1 G1 H1 d1 c1 x1 h1 => ?_
      have e1 := e0.trans (d1.trans x1)
      have b1 := (b0.ext (d1.trans x1)).app (c1.ext x1)
      refine ret_l ?_
      refine grow_step (n := 1) (Pc := fun cs H' => ErrsAt K [] H' cs [("Lacks", [("many", d), ("word", c), ("terms", b), ("generic", a)])]) rfl h1 (fun Q z => (show MkL K [] _ _ _ from (mk_cons (mk_new (us := [a, b, c, d]) vs_nil (vs_var rfl (vs_var rfl (vs_var rfl (vs_var rfl vs_nil)))) rfl rfl rfl rfl) mk_nil)) _ Q z) (fun _ _ z => z.length) (by rw [b1.length]; show (6 : Nat) ≤ sizeLine; decide) fun p2 cs2 G2 H2 d2 c2 x2 h2 => ?_
      have e2 := e1.trans (d2.trans x2)
      have b2 := (b1.ext (d2.trans x2)).app (c2.ext x2)
      exact q p2 _ H2 e2 h2 b2
    | 3, _ =>
      refine ⟨_, rfl, rfl, _, rfl, ?_⟩
      refine ite0 (by decide) (nx_l ?_)
      refine ⟨_, rfl, rfl, _, rfl, ?_⟩
      refine ite0 (by decide) (nx_l ?_)
      refine ⟨_, rfl, rfl, _, rfl, ?_⟩
      refine ite0 (by decide) (nx_l ?_)
      refine seq_asg ?_
      refine mk_lst (K := K) (l := []) (qs := [("NoChoice", [("terms", b), ("generic", a)]), ("TwoChoices", [("terms", b), ("generic", a)]), ("NotApart", [("what", b), ("generic", a)]), ("NotMet", [("terms", b), ("generic", a)])]) (by exact (mk_cons (mk_new (us := [a, b]) (vs_var rfl vs_nil) (vs_var rfl vs_nil) rfl rfl rfl rfl) (mk_cons (mk_new (us := [a, b]) (vs_var rfl vs_nil) (vs_var rfl vs_nil) rfl rfl rfl rfl) (mk_cons (mk_new (us := [a, b]) (vs_var rfl vs_nil) (vs_var rfl vs_nil) rfl rfl rfl rfl) (mk_cons (mk_new (us := [a, b]) (vs_var rfl vs_nil) (vs_var rfl vs_nil) rfl rfl rfl rfl) mk_nil))))) (by show 4 ≤ 900; decide) fun rs0 H0 p0 e0 h0 b0 => ?_
      refine ret_l ?_
      refine grow_step (n := 2) (Pc := fun cs H' => ErrsAt K [] H' cs [("RingOfConstants", [("word", c), ("terms", b), ("generic", a)]), ("Lacks", [("many", d), ("word", c), ("terms", b), ("generic", a)])]) rfl h0 (fun Q z => (show MkL K [] _ _ _ from (mk_cons (mk_new (us := [a, b, c]) (vs_var rfl vs_nil) (vs_var rfl (vs_var rfl vs_nil)) rfl rfl rfl rfl) (mk_cons (mk_new (us := [a, b, c, d]) (vs_var rfl (vs_var rfl vs_nil)) (vs_var rfl (vs_var rfl vs_nil)) rfl rfl rfl rfl) mk_nil))) _ Q z) (fun _ _ z => z.length) (by rw [b0.length]; show (6 : Nat) ≤ sizeLine; decide) fun p1 cs1 G1 H1 d1 c1 x1 h1 => ?_
      have e1 := e0.trans (d1.trans x1)
      have b1 := (b0.ext (d1.trans x1)).app (c1.ext x1)
      exact q p1 _ H1 e1 h1 b1
end
end D0

namespace D0
open PySem PySem.Spec PyProof.Rows L2 L2H HotX Evl K9
section
variable {P : Program} {w : World} {K : PySem.W.Frag} {mg : Str → Option Value} {base : Heap} {f : Addr} {fd : FuncData} {k : Nat}
theorem ones_len : ones.length = 32 := by decide +kernel
theorem ones_in : ∀ x ∈ ones, x ∈ Hd.errs := by decide +kernel
theorem order_app : order = ones ++ rest := rfl
/-- the j-th of the errors that have one field -/
theorem ones_get {l : List (Addr × Obj)} {H : Hp} {rs : List V} {v : V} (h : ErrsAt K l H rs (onesF.map fun p => (p.1, [(p.2, v)]))) {j : Nat} (hj : j < 32) :
    ∃ (a : Addr) (x : Str), rs[j]? = some (.ref a) ∧ x ∈ Hd.errs ∧ order[j]? = some x ∧ Err l H a (He.ga K x) (some [(fldOf x, v)]) := by
  have hj2 : j < ones.length := by rw [ones_len]; exact hj
  have e : (onesF.map fun p : Str × Str => (p.1, [(p.2, v)]))[j]? = some (ones[j], [(fldOf ones[j], v)]) := by
    rw [onesF_eq, List.map_map, List.getElem?_map, List.getElem?_eq_getElem hj2]
    rfl
  obtain ⟨a, h1, h2⟩ := h.get e
  refine ⟨a, ones[j], h1, ones_in _ (List.getElem_mem hj2), ?_, h2⟩
  rw [order_app, List.getElem?_append_left hj2, List.getElem?_eq_getElem hj2]
def spPair (K : PySem.W.Frag) : Sp := fun vs H Q _ => ∃ (v u : V), vs = [v, u] ∧ Same K [] H v v ∧ Same K [] H u u ∧ ∀ (H' : Hp), Ex H H' → Q (.bl true) H'
abbrev s_ones_right : Stmt := top 56
abbrev N_ones_right : List Str := ["first", "last", "lists", "spot", "turn", "e"]
theorem sc_ones_right : FnScope N_ones_right ["first", "last"] (defScope s_ones_right) := ⟨rfl, rfl, rfl, by decide +kernel, rfl, by decide +kernel, by decide +kernel⟩
theorem ok_ones_right (T : Txt K mg) (E : ErrsK K) (tg : PySem.W.excIn K (He.ga K "TooGreat") He.veBase "ValueError.__new__" = true) (tk : PySem.W.keepIn K (.ref (He.ga K "TooGreat")) = true)
    (k_is : Ok P w K mg base k "_law_is" ["e", "spot"] (spIs K)) (k_same : Ok P w K mg base k "_law_same" ["kept", "thing"] (spSame K)) (k_kept : Ok P w K mg base k "_law_kept" ["e"] (spKept K))
    (k_by_place : OkC P w K mg base k "_law_by_place" ["thing"] (spMany K)) (k_by_name : OkC P w K mg base k "_law_by_name" ["thing"] (spMany K)) (F : FunD K "_law_ones_right" "_law_ones_right" (defArgs s_ones_right) (defBody s_ones_right) (defScope s_ones_right) [] [] f fd) (hm : mg "_law_ones_right" = some (.ref f)) :
    OkC P w K mg base (k + 1) "_law_ones_right" ["first", "last"] (spPair K) := by
  refine okC_of F hm sc_ones_right (fun _ _ _ _ _ _ us hl => match us, hl with | [_, _], _ => rfl) (fun vs H Q E h => ?_) (fun cdv A outer s H vs Q E' hr h => ?_)
  · obtain ⟨v, u, rfl, _⟩ := h
    rfl
  · obtain ⟨v, u, rfl, hv, hu, q⟩ := h
    refine ⟨_, PSs.nox (pss_cons (ps_set (i := 2) sc_ones_right.nd rfl (Or.inl rfl) (pe_lst (pa_cons (pe_callK0 k_by_place hr (by rfl) (pa_cons (pv 0) pa_nil)) (pa_cons (pe_callK0 k_by_name hr (by rfl) (pa_cons (pv 1) pa_nil)) (pa_cons (pe_callK0 k_by_name hr (by rfl) (pa_cons (pv 0) pa_nil)) (pa_cons (pe_callK0 k_by_place hr (by rfl) (pa_cons (pv 1) pa_nil)) pa_nil)))))) (pss_cons (ps_for PassesOwn.never rfl (pi_range1 (by rfl) T.f_range (pa_cons pe_int pa_nil)) (pg_name (i := 3) sc_ones_right.nd rfl (Or.inl rfl)) (pss_one (ps_for PassesOwn.never rfl (pi_range1 (by rfl) T.f_range (pa_cons pe_int pa_nil)) (pg_name (i := 4) sc_ones_right.nd rfl (Or.inl rfl)) (pss_cons (ps_set (i := 5) sc_ones_right.nd rfl (Or.inl rfl) (pe_ix ix_list (pe_ix ix_list (pv 2) (pv 4) fun _ _ => rfl) (pv 3) fun _ _ => rfl)) (pss_one (ps_if (pw_or (pt_not (pt_val (pe_callO k_is (roomH_of hr) (.inl ⟨rfl, rfl⟩) (by rfl) (pa_cons (pv 5) (pa_cons (pv 3) pa_nil))))) (pw_or1 (pt_not (pt_val (pe_callO k_same (roomH_of hr) (.inl ⟨rfl, rfl⟩) (by rfl) (pa_cons (pe_callO k_kept (roomH_of hr) (.inl ⟨rfl, rfl⟩) (by rfl) (pa_cons (pv 5) pa_nil)) (pa_cons (pe_ix ix_list (pe_lst (pa_cons (pv 0) (pa_cons (pv 1) pa_nil))) (pe_op op_mod (pe_callTy call_int1 (by rfl) T.f_int (by decide +kernel) (pa_cons (pv 4) pa_nil)) pe_int) fun _ _ => rfl) pa_nil))))))).pt (pss_one (ps_ret pe_bl)) pss_nil)))))) (pss_one (ps_ret (pe_callO k_is (roomH_of hr) (.inl ⟨rfl, rfl⟩) (by rfl) (pa_cons (pe_newX PySem.F.excBase_ValueError tg (T.g_cls "TooGreat" (by decide)) tk (by rfl)) (pa_cons pe_int pa_nil))))))), ?_⟩
    refine seq_asg ?_
    refine ⟨_, rfl, v, rfl, fun q0 r0 H0 e0 h0 b0 => ?_⟩
    refine ⟨_, rfl, u, rfl, fun q1 r1 H1 e1 h1 b1 => ?_⟩
    refine ⟨_, rfl, v, rfl, fun q2 r2 H2 e2 h2 b2 => ?_⟩
    refine ⟨_, rfl, u, rfl, fun q3 r3 H3 e3 h3 b3 => ?_⟩
    refine ⟨by show 4 ≤ sizeLine; decide, fun p hp => ?_⟩
    have eA := Ex.new (o := .lst [.ref q0, .ref q1, .ref q2, .ref q3]) hp
    have lp : upd H3 p (.lst [.ref q0, .ref q1, .ref q2, .ref q3]) p = some (.lst [.ref q0, .ref q1, .ref q2, .ref q3]) := upd_same
    generalize upd H3 p (.lst [.ref q0, .ref q1, .ref q2, .ref q3]) = H4 at eA lp ⊢
    have eH : Ex H H4 := e0.trans (e1.trans (e2.trans (e3.trans eA)))
    have hv4 := hv.ext eH
    have hu4 := hu.ext eH
    have key : ∀ t, t < 4 → ∃ (qt : Addr) (rt : List V) (vt : V), [V.ref q0, .ref q1, .ref q2, .ref q3][t]? = some (.ref qt) ∧ H4 qt = some (.lst rt) ∧ ErrsAt K [] H4 rt (onesF.map fun p => (p.1, [(p.2, vt)])) ∧ Same K [] H4 vt vt ∧ [v, u][t % 2]? = some vt := fun t ht =>
      match t, ht with
      | 0, _ => ⟨q0, r0, v, rfl, (e1.trans (e2.trans (e3.trans eA))) _ _ h0, b0.ext (e1.trans (e2.trans (e3.trans eA))), hv4, rfl⟩
      | 1, _ => ⟨q1, r1, u, rfl, (e2.trans (e3.trans eA)) _ _ h1, b1.ext (e2.trans (e3.trans eA)), hu4, rfl⟩
      | 2, _ => ⟨q2, r2, v, rfl, (e3.trans eA) _ _ h2, b2.ext (e3.trans eA), hv4, rfl⟩
      | 3, _ => ⟨q3, r3, u, rfl, eA _ _ h3, b3.ext eA, hu4, rfl⟩
    refine for_by (J := Itr 0 32) (n := 32) (item := fun i => .int (i : Int)) (fun _ σ' _ => ∃ x3 x4 x5, σ' = [some v, some u, some (.ref p), x3, x4, x5]) (fun R h => ⟨32, rfl, by decide, by decide, h⟩) walks_rng0 ⟨_, _, _, rfl⟩ (fun j σ1 G0 N hj g0 hP kN => ?_) (fun σ1 G0 g0 hP => ?_)
    · obtain ⟨x3, x4, x5, rfl⟩ := hP
      refine for_by (J := Itr 0 4) (n := 4) (item := fun i => .int (i : Int)) (fun _ σ' _ => ∃ x4 x5, σ' = [some v, some u, some (.ref p), some (.int (j : Int)), x4, x5]) (fun R h => ⟨4, rfl, by decide, by decide, h⟩) walks_rng0 ⟨_, _, rfl⟩ (fun t σ2 G1 N2 ht g1 hP2 kN2 => ?_) (fun σ2 G1 g1 hP2 => ?_)
      · obtain ⟨y4, y5, rfl⟩ := hP2
        obtain ⟨qt, rt, vt, z1, z2, z3, z4, z5⟩ := key t ht
        have g01 := g0.trans g1
        obtain ⟨a, x, w1, hx, ho, he⟩ := ones_get (z3.ext g01) hj
        refine seq_asg ?_
        refine ⟨_, rfl, _, rfl, p, _, (t : Int), .ref qt, rfl, rfl, SqL.of (g01 _ _ lp), atI_nat z1, _, rfl, qt, rt, (j : Int), .ref a, rfl, rfl, SqL.of (g01 _ _ z2), atI_nat w1, ?_⟩
        refine ⟨_, rfl, _, rfl, a, x, _, j, rfl, hx, he, ho, fun G2 d2 => ⟨_, rfl, ite0 (by decide) ?_⟩⟩
        refine ⟨_, rfl, a, x, vt, rfl, hx, he.ext d2, fun G3 d3 => ⟨_, rfl, _, rfl, by show 2 ≤ sizeLine; decide, fun p5 hp5 => ?_⟩⟩
        refine ⟨_, rfl, .inl ⟨_, rfl, _, _, rfl, rfl, (by show (0 : Int) < 2; decide), p5, [v, u], _, vt, rfl, rfl, SqL.of upd_same, ?_, ?_⟩⟩
        · rw [show ((t : Int) % 2) = ((t % 2 : Nat) : Int) from by omega]
          exact atI_nat z5
        · have e6 := d2.trans (d3.trans (Ex.new (o := .lst [v, u]) hp5))
          exact ⟨vt, vt, rfl, z4.ext (g01.trans e6), fun G4 d4 => ⟨_, rfl, ite0 (by decide) (nx_l (kN2 _ _ (e6.trans d4) ⟨_, _, rfl⟩))⟩⟩
      · obtain ⟨y4, y5, rfl⟩ := hP2
        exact kN _ _ g1 ⟨_, _, _, rfl⟩
    · obtain ⟨x3, x4, x5, rfl⟩ := hP
      exact fun a G1 ha ex ho => ⟨a, "TooGreat", none, 38, rfl, by decide, .inl ho, by decide +kernel, fun G2 e => q _ (eH.trans (g0.trans (ex.trans e)))⟩
end
end D0

namespace D0
open PySem PySem.Spec PyProof.Rows L2 L2H HotX Evl K9
section
variable {P : Program} {w : World} {K : PySem.W.Frag} {mg : Str → Option Value} {base : Heap} {f : Addr} {fd : FuncData} {k : Nat}
theorem six_get (a b c d : V) : ∀ s, s < 6 → ∃ (x : Str) (us : List V), (sixQ a b c d)[s]? = some (x, ((nsOf x).zip us).reverse) ∧ x ∈ Hd.errs ∧ us.length = (nsOf x).length ∧ order[32 + s]? = some x ∧
    [V.int 2, .int 2, .int 2, .int 2, .int 3, .int 4][s]? = some (.int ((us.length : Nat) : Int)) ∧ us[0]? = some a ∧ us[1]? = some b ∧ us.length ≤ 4 ∧ us = [a, b, c, d].take us.length ∧ ∀ j, j < us.length - 2 → (j = 0 ∧ us[2]? = some c) ∨ (j = 1 ∧ us[3]? = some d) := by
  have n2 : ∀ x : Str, x ∈ (["NoChoice", "TwoChoices", "NotMet"] : List Str) → nsOf x = (["generic", "terms"] : List Str) := by decide +kernel
  have n3 : nsOf "NotApart" = (["generic", "what"] : List Str) := by decide +kernel
  have n4 : nsOf "RingOfConstants" = (["generic", "terms", "word"] : List Str) := by decide +kernel
  have n5 : nsOf "Lacks" = (["generic", "terms", "word", "many"] : List Str) := by decide +kernel
  intro s hs
  match s, hs with
  | 0, _ => exact ⟨"NoChoice", [a, b], by rw [n2 _ (by decide)]; rfl, by decide, by rw [n2 _ (by decide)]; rfl, by decide +kernel, rfl, rfl, rfl, by simp, rfl, fun j hj => absurd hj (by simp)⟩
  | 1, _ => exact ⟨"TwoChoices", [a, b], by rw [n2 _ (by decide)]; rfl, by decide, by rw [n2 _ (by decide)]; rfl, by decide +kernel, rfl, rfl, rfl, by simp, rfl, fun j hj => absurd hj (by simp)⟩
  | 2, _ => exact ⟨"NotApart", [a, b], by rw [n3]; rfl, by decide, by rw [n3]; rfl, by decide +kernel, rfl, rfl, rfl, by simp, rfl, fun j hj => absurd hj (by simp)⟩
  | 3, _ => exact ⟨"NotMet", [a, b], by rw [n2 _ (by decide)]; rfl, by decide, by rw [n2 _ (by decide)]; rfl, by decide +kernel, rfl, rfl, rfl, by simp, rfl, fun j hj => absurd hj (by simp)⟩
  | 4, _ => exact ⟨"RingOfConstants", [a, b, c], by rw [n4]; rfl, by decide, by rw [n4]; rfl, by decide +kernel, rfl, rfl, rfl, by simp, rfl, fun j hj => .inl ⟨by simp at hj; omega, rfl⟩⟩
  | 5, _ =>
    refine ⟨"Lacks", [a, b, c, d], by rw [n5]; rfl, by decide, by rw [n5]; rfl, by decide +kernel, rfl, rfl, rfl, by simp, rfl, fun j hj => ?_⟩
    have : j = 0 ∨ j = 1 := by simp at hj; omega
    rcases this with rfl | rfl
    · exact .inl ⟨rfl, rfl⟩
    · exact .inr ⟨rfl, rfl⟩
abbrev s_several_right : Stmt := top 57
abbrev N_several_right : List Str := ["first", "last", "turn", "one", "other", "found", "spot", "told", "due", "k"]
theorem sc_several_right : FnScope N_several_right ["first", "last"] (defScope s_several_right) := ⟨rfl, rfl, rfl, by decide +kernel, rfl, by decide +kernel, by decide +kernel⟩
theorem ok_several_right (T : Txt K mg) (E : ErrsK K)
    (k_is : Ok P w K mg base k "_law_is" ["e", "spot"] (spIs K)) (k_same : Ok P w K mg base k "_law_same" ["kept", "thing"] (spSame K)) (k_several_kept : Ok P w K mg base k "_law_several_kept" ["e"] (spSKept K))
    (k_several : OkC P w K mg base k "_law_several" ["a", "b", "c", "d", "way"] (spSeveral K)) (F : FunD K "_law_several_right" "_law_several_right" (defArgs s_several_right) (defBody s_several_right) (defScope s_several_right) [] [] f fd) (hm : mg "_law_several_right" = some (.ref f)) :
    OkC P w K mg base (k + 1) "_law_several_right" ["first", "last"] (spPair K) := by
  refine okC_of F hm sc_several_right (fun _ _ _ _ _ _ us hl => match us, hl with | [_, _], _ => rfl) (fun vs H Q E h => ?_) (fun cdv A outer s H vs Q E' hr h => ?_)
  · obtain ⟨v, u, rfl, _⟩ := h
    rfl
  · obtain ⟨v, u, rfl, hv, hu, q⟩ := h
    refine ⟨_, PSs.nox (pss_cons (ps_for PassesOwn.never rfl (pi_range1 (by rfl) T.f_range (pa_cons pe_int pa_nil)) (pg_name (i := 2) sc_several_right.nd rfl (Or.inl rfl)) (pss_cons (ps_asg (pe_ix ix_list (pe_lst (pa_cons (pe_lst (pa_cons (pv 0) (pa_cons (pv 1) pa_nil))) (pa_cons (pe_lst (pa_cons (pv 1) (pa_cons (pv 0) pa_nil))) pa_nil))) (pe_op op_fdivNN (pv 2) pe_int) fun _ _ => rfl) (pg_unl rfl (pgs_cons (pg_name (i := 3) sc_several_right.nd rfl (Or.inl rfl)) (pgs_cons (pg_name (i := 4) sc_several_right.nd rfl (Or.inl rfl)) pgs_nil)))) (pss_cons (ps_set (i := 5) sc_several_right.nd rfl (Or.inl rfl) (pe_callK0 k_several hr (by rfl) (pa_cons (pv 3) (pa_cons (pv 4) (pa_cons (pe_lst (pa_cons (pv 3) pa_nil)) (pa_cons (pe_tup (pa_cons (pv 4) (pa_cons (pv 3) pa_nil))) (pa_cons (pe_op op_mod (pe_callTy call_int1 (by rfl) T.f_int (by decide +kernel) (pa_cons (pv 2) pa_nil)) pe_int) pa_nil))))))) (pss_one (ps_for PassesOwn.never rfl (pi_range1 (by rfl) T.f_range (pa_cons pe_int pa_nil)) (pg_name (i := 6) sc_several_right.nd rfl (Or.inl rfl)) (pss_cons (ps_asg (pe_tup (pa_cons (pe_callO k_several_kept (roomH_of hr) (.inl ⟨rfl, rfl⟩) (by rfl) (pa_cons (pe_ix ix_list (pv 5) (pv 6) fun _ _ => rfl) pa_nil)) (pa_cons (pe_lst (pa_cons (pv 3) (pa_cons (pv 4) (pa_cons (pe_lst (pa_cons (pv 3) pa_nil)) (pa_cons (pe_tup (pa_cons (pv 4) (pa_cons (pv 3) pa_nil))) pa_nil))))) pa_nil))) (pg_tupC (.inl ⟨rfl, rfl⟩) (pgs_cons (pg_name (i := 7) sc_several_right.nd rfl (Or.inr rfl)) (pgs_cons (pg_name (i := 8) sc_several_right.nd rfl (Or.inr rfl)) pgs_nil)))) (pss_cons (ps_if (pw_or (pt_not (pt_val (pe_callO k_is (roomH_of hr) (.inl ⟨rfl, rfl⟩) (by rfl) (pa_cons (pe_ix ix_list (pv 5) (pv 6) fun _ _ => rfl) (pa_cons (pe_op op_add pe_int (pv 6)) pa_nil))))) (pw_or1 (pt_cmpR op_ne (pe_callB call_lenA (by rfl) T.f_len (by decide +kernel) (pa_cons (pv 7) pa_nil)) (pe_ix ix_list (pe_lst (pa_cons pe_int (pa_cons pe_int (pa_cons pe_int (pa_cons pe_int (pa_cons pe_int (pa_cons pe_int pa_nil))))))) (pv 6) fun _ _ => rfl) (nomark _)))).pt (pss_one (ps_ret pe_bl)) pss_nil) (pss_cons (ps_if (pw_or (pt_not (pt_val (pe_callO k_same (roomH_of hr) (.inl ⟨rfl, rfl⟩) (by rfl) (pa_cons (pe_ix ix_list (pv 7) pe_int fun _ _ => rfl) (pa_cons (pv 3) pa_nil))))) (pw_or1 (pt_not (pt_val (pe_callO k_same (roomH_of hr) (.inl ⟨rfl, rfl⟩) (by rfl) (pa_cons (pe_ix ix_list (pv 7) pe_int fun _ _ => rfl) (pa_cons (pv 4) pa_nil))))))).pt (pss_one (ps_ret pe_bl)) pss_nil) (pss_one (ps_if (pt_cmpR (op_ne0 (huC (roomH_of hr))) (pe_lc (own := [("k", 9)]) (g := gName 9) rfl sc_several_right.nd (pi_range2 (by rfl) T.f_range (pa_cons pe_int (pa_cons (pe_callB call_lenA (by rfl) T.f_len (by decide +kernel) (pa_cons (pv 7) pa_nil)) pa_nil))) (blkOk_by (N := N_several_right) (sc := defScope s_several_right) (by decide +kernel)) (fun _ _ _ _ _ => pg_name (i := 9) sc_several_right.nd rfl (Or.inl rfl)) (fun _ _ _ _ _ => (pts_one (pw_or (pt_cmpR op_ne (pe_callB (show CallR _ _ (rLenA K) from call_lenA) (by rfl) T.f_len (by decide +kernel) (pa_cons (pe_ix (show IxR _ (rIxL K) from ix_list) (pv 7) (pv 9) fun _ _ => rfl) pa_nil)) (pe_op op_sub (pv 9) pe_int) (nomark _)) (pw_or1 (pt_not (pt_val (pe_callO k_same (roomH_of hr) (.inl ⟨rfl, rfl⟩) (by rfl) (pa_cons (pe_ix (show IxR _ (rIx K) from ix_seq) (pe_ix (show IxR _ (rIxL K) from ix_list) (pv 7) (pv 9) fun _ _ => rfl) pe_int fun _ _ => rfl) (pa_cons (pe_ix (show IxR _ (rIx K) from ix_seq) (pe_ix (show IxR _ (rIxL K) from ix_list) (pv 8) (pv 9) fun _ _ => rfl) pe_int fun _ _ => rfl) pa_nil))))))).pt)) (fun _ _ _ _ _ => (pv 9))) (pe_lst pa_nil) (nomark _)) (pss_one (ps_ret pe_bl)) pss_nil)))))))))) (pss_one (ps_ret pe_bl))), ?_⟩
    refine for_by (J := Itr 0 8) (n := 8) (item := fun i => .int (i : Int)) (fun _ σ' _ => ∃ x2 x3 x4 x5 x6 x7 x8 x9, σ' = [some v, some u, x2, x3, x4, x5, x6, x7, x8, x9]) (fun R h => ⟨8, rfl, by decide, by decide, h⟩) walks_rng0 ⟨_, _, _, _, _, _, _, _, rfl⟩ (fun t σ1 G0 N ht g0 hP kN => ?_) (fun σ1 G0 g0 hP => q _ g0)
    obtain ⟨x2, x3, x4, x5, x6, x7, x8, x9, rfl⟩ := hP
    refine ⟨_, rfl, _, rfl, by show 2 ≤ sizeLine; decide, fun a1 ha1 => ⟨_, rfl, _, rfl, by show 2 ≤ sizeLine; decide, fun a2 ha2 => ⟨by show 2 ≤ sizeLine; decide, fun a3 ha3 => ?_⟩⟩⟩
    have f1 : Ex G0 _ := (Ex.new ha1).trans ((Ex.new (o := .lst [u, v]) ha2).trans (Ex.new (o := .lst [.ref a1, .ref a2]) ha3))
    have f2 := ((Ex.new (o := .lst [u, v]) ha2).trans (Ex.new (o := .lst [.ref a1, .ref a2]) ha3)) _ _ (upd_same (H := G0) (a := a1) (o := .lst [v, u]))
    have f3 := (Ex.new (o := .lst [.ref a1, .ref a2]) ha3) _ _ (upd_same (a := a2) (o := .lst [u, v]))
    have f4 := upd_same (H := upd (upd G0 a1 (.lst [v, u])) a2 (.lst [u, v])) (a := a3) (o := .lst [.ref a1, .ref a2])
    generalize upd (upd (upd G0 a1 (.lst [v, u])) a2 (.lst [u, v])) a3 (.lst [.ref a1, .ref a2]) = G1 at f1 f2 f3 f4 ⊢
    have g1 := g0.trans f1
    have key : ∃ (ax : Addr) (o1 o2 : V), [V.ref a1, .ref a2][t / 4]? = some (.ref ax) ∧ G1 ax = some (.lst [o1, o2]) ∧ Same K [] G1 o1 o1 ∧ Same K [] G1 o2 o2 := by
      have : t / 4 = 0 ∨ t / 4 = 1 := by omega
      rcases this with z | z
      · exact ⟨a1, v, u, by rw [z]; rfl, f2, hv.ext g1, hu.ext g1⟩
      · exact ⟨a2, u, v, by rw [z]; rfl, f3, hu.ext g1, hv.ext g1⟩
    obtain ⟨ax, o1, o2, k1, k2, so1, so2⟩ := key
    refine ⟨_, rfl, t, 4, rfl, rfl, ⟨by decide, by decide⟩, a3, _, ((t / 4 : Nat) : Int), .ref ax, rfl, rfl, SqL.of f4, atI_nat k1, ax, [o1, o2], rfl, SqL.of k2, rfl, _, _, rfl, _, _, rfl, rfl, ?_⟩
    refine nx_p (seq_asg ?_)
    refine ⟨_, rfl, _, rfl, _, rfl, by show 1 ≤ sizeLine; decide, fun l1 hl1 => ⟨_, rfl, _, rfl, by show 2 ≤ sizeLine; decide, fun t1 ht1 => ?_⟩⟩
    have f5 := (Ex.new (o := .lst [o1]) hl1).trans (Ex.new (o := .tup [o2, o1]) ht1)
    have f6 := (Ex.new (o := .tup [o2, o1]) ht1) _ _ (upd_same (H := G1) (a := l1) (o := .lst [o1]))
    have f7 := upd_same (H := upd G1 l1 (.lst [o1])) (a := t1) (o := .tup [o2, o1])
    generalize upd (upd G1 l1 (.lst [o1])) t1 (.tup [o2, o1]) = G2 at f5 f6 f7 ⊢
    refine ⟨_, rfl, .inl ⟨_, rfl, _, _, rfl, rfl, (by show (0 : Int) < 4; decide), o1, o2, .ref l1, .ref t1, t % 4, congrArg (fun z : Int => [o1, o2, V.ref l1, V.ref t1, V.int z]) (by omega : (t : Int) % 4 = ((t % 4 : Nat) : Int)), by omega, fun qf rf G3 d3 hf bf => ?_⟩⟩
    have f8 := d3 _ _ f6
    have f9 := d3 _ _ f7
    have s1 := so1.ext (f5.trans d3)
    have s2 := so2.ext (f5.trans d3)
    refine for_by (J := Itr 0 6) (n := 6) (item := fun i => .int (i : Int)) (fun _ σ' _ => ∃ x6 x7 x8 x9, σ' = [some v, some u, some (.int (t : Int)), some o1, some o2, some (.ref qf), x6, x7, x8, x9]) (fun R h => ⟨6, rfl, by decide, by decide, h⟩) walks_rng0 ⟨_, _, _, _, rfl⟩ (fun s σ2 G4 N2 hs g4 hP2 kN2 => ?_) (fun σ2 G4 g4 hP2 => ?_)
    · obtain ⟨y6, y7, y8, y9, rfl⟩ := hP2
      obtain ⟨x, us, c1, hx, c2, c3, c4, c5, c6, c7, _, c8⟩ := six_get o1 o2 (.ref l1) (.ref t1) s hs
      obtain ⟨a, w1, he⟩ := (bf.ext g4).get c1
      refine ⟨_, rfl, _, rfl, qf, rf, (s : Int), .ref a, rfl, rfl, SqL.of (g4 _ _ hf), atI_nat w1, a, x, us, rfl, hx, c2, he, fun r G5 hr5 d5 h5 => ?_⟩
      refine ⟨_, rfl, _, rfl, _, rfl, by show 1 ≤ sizeLine; decide, fun l2 hl2 => ⟨_, rfl, _, rfl, by show 2 ≤ sizeLine; decide, fun t2 ht2 => ⟨by show 4 ≤ sizeLine; decide, fun r2 hr2 => ⟨by show 2 ≤ sizeLine; decide, fun t3 ht3 => ?_⟩⟩⟩⟩
      have i4 := Ex.new (o := .tup [.ref r, .ref r2]) ht3
      have i3 := (Ex.new (o := .lst [o1, o2, .ref l2, .ref t2]) hr2).trans i4
      have i2 := (Ex.new (o := .tup [o2, o1]) ht2).trans i3
      have i1 := (Ex.new (o := .lst [o1]) hl2).trans i2
      have j1 := i2 _ _ (upd_same (H := G5) (a := l2) (o := .lst [o1]))
      have j2 := i3 _ _ (upd_same (a := t2) (o := .tup [o2, o1]))
      have j3 := i4 _ _ (upd_same (a := r2) (o := .lst [o1, o2, .ref l2, .ref t2]))
      refine ⟨t3, [.ref r, .ref r2], rfl, SqT.of upd_same, rfl, _, _, rfl, _, _, rfl, rfl, ?_⟩
      generalize upd (upd (upd (upd G5 l2 (.lst [o1])) t2 (.tup [o2, o1])) r2 (.lst [o1, o2, .ref l2, .ref t2])) t3 (.tup [.ref r, .ref r2]) = G6 at i1 j1 j2 j3 ⊢
      clear i4 i3 i2
      have j0 := i1 _ _ h5
      have e36 := g4.trans (d5.trans i1)
      refine ⟨_, rfl, _, rfl, qf, rf, (s : Int), .ref a, rfl, rfl, SqL.of (e36 _ _ hf), atI_nat w1, _, rfl, _, _, rfl, rfl, a, x, some _, 32 + s, congrArg (fun z : Int => [V.ref a, V.int z]) (by omega : (32 : Int) + (s : Int) = ((32 + s : Nat) : Int)), hx, he.ext (d5.trans i1), c3, fun G7 d7 => ⟨_, rfl, ite0 (by decide) ?_⟩⟩
      refine ⟨_, rfl, .inl ⟨r, us, rfl, .inl (SqL.of (d7 _ _ j0)), by show 6 ≤ sizeLine; decide, fun p6 hp6 => ⟨_, rfl, p6, _, (s : Int), _, rfl, rfl, SqL.of upd_same, atI_nat c4, rfl, _, rfl, ite0 (by simp) (nx_l ?_)⟩⟩⟩
      have e68 := d7.trans (Ex.new (o := .lst [.int 2, .int 2, .int 2, .int 2, .int 3, .int 4]) hp6)
      generalize upd G7 p6 (.lst [.int 2, .int 2, .int 2, .int 2, .int 3, .int 4]) = G8 at e68 ⊢
      refine ⟨_, rfl, r, us, 0, o1, rfl, rfl, SqL.of (e68 _ _ j0), atI_nat (j := 0) c5, _, rfl, o1, o1, rfl, s1.ext (e36.trans e68), fun G9 d9 => ⟨_, rfl, ite0 (by decide) ?_⟩⟩
      refine ⟨_, rfl, r, us, 1, o2, rfl, rfl, SqL.of ((e68.trans d9) _ _ j0), atI_nat (j := 1) c6, _, rfl, o2, o2, rfl, s2.ext (e36.trans (e68.trans d9)), fun G10 d10 => ⟨_, rfl, ite0 (by decide) (nx_l ?_)⟩⟩
      have e610 := e68.trans (d9.trans d10)
      have k0 := e610 _ _ j0
      have z1 := s1.ext (e36.trans e610)
      have z2 := s2.ext (e36.trans e610)
      have ll1 := (e36.trans e610) _ _ f8
      have lt1 := (e36.trans e610) _ _ f9
      have ll2 := e610 _ _ j1
      have lt2 := e610 _ _ j2
      have lr2 := e610 _ _ j3
      refine ifs_op ?_
      refine lc_none (J := Itr 2 (us.length - 2)) (n := us.length - 2) (item := fun i => .int (2 + (i : Int))) (by have : (1000 : Nat) ≤ sizeLine := (by decide); omega) (by show (9 : Nat) < 10; decide) (fun R h => ?_) walks_rng (fun j G11 R hj e11 kf => ?_) (fun D G11 hD e11 hD1 => ?_)
      · refine ⟨_, rfl, .inl ⟨r, us, rfl, .inl (SqL.of k0), 2, (us.length : Int), rfl, by omega, ?_⟩⟩
        rw [show ((us.length : Int) - 2).toNat = us.length - 2 from by omega]
        exact h
      · rcases c8 j hj with ⟨rfl, m1⟩ | ⟨rfl, m1⟩
        · refine ⟨_, rfl, _, rfl, r, us, 2, .ref l1, rfl, rfl, SqL.of (e11 _ _ k0), atI_nat (j := 2) m1, .inl ⟨l1, [o1], rfl, .inl (SqL.of (e11 _ _ ll1)), _, rfl, _, _, rfl, rfl, rfl, _, rfl, ite0 (by simp) ?_⟩⟩
          refine ⟨_, rfl, _, rfl, r, us, 2, .ref l1, rfl, rfl, SqL.of (e11 _ _ k0), atI_nat (j := 2) m1, .inl ⟨l1, [o1], 0, o1, rfl, rfl, SqL.of (e11 _ _ ll1), rfl, _, rfl, _, rfl, r2, _, 2, .ref l2, rfl, rfl, SqL.of (e11 _ _ lr2), rfl, .inl ⟨l2, [o1], 0, o1, rfl, rfl, SqL.of (e11 _ _ ll2), rfl, o1, o1, rfl, z1.ext e11, fun G12 d12 => ⟨_, rfl, kf _ d12⟩⟩⟩⟩
        · refine ⟨_, rfl, _, rfl, r, us, 3, .ref t1, rfl, rfl, SqL.of (e11 _ _ k0), atI_nat (j := 3) m1, .inl ⟨t1, [o2, o1], rfl, .inr (SqT.of (e11 _ _ lt1)), _, rfl, _, _, rfl, rfl, rfl, _, rfl, ite0 (by simp) ?_⟩⟩
          refine ⟨_, rfl, _, rfl, r, us, 3, .ref t1, rfl, rfl, SqL.of (e11 _ _ k0), atI_nat (j := 3) m1, .inr (.inl ⟨t1, [o2, o1], 0, o2, rfl, rfl, SqT.of (e11 _ _ lt1), rfl, _, rfl, _, rfl, r2, _, 3, .ref t2, rfl, rfl, SqL.of (e11 _ _ lr2), rfl, .inr (.inl ⟨t2, [o2, o1], 0, o2, rfl, rfl, SqT.of (e11 _ _ lt2), rfl, o2, o2, rfl, z2.ext e11, fun G12 d12 => ⟨_, rfl, kf _ d12⟩⟩)⟩)⟩
      · refine ⟨by show 0 ≤ sizeLine; decide, fun p9 hp9 => ⟨D, p9, [], rfl, rfl, SqL.of ((Ex.new hp9) _ _ hD1), SqL.of upd_same, _, rfl, ite0 (by simp) (nx_l ?_)⟩⟩
        exact kN2 _ _ (d5.trans (i1.trans (e610.trans (e11.trans (Ex.new hp9))))) ⟨_, _, _, _, rfl⟩
    · obtain ⟨y6, y7, y8, y9, rfl⟩ := hP2
      exact kN _ _ (f1.trans (f5.trans (d3.trans g4))) ⟨_, _, _, _, _, _, _, _, rfl⟩
end
end D0

namespace D0
open PySem PySem.Spec PyProof.Rows L2 L2H HotX Evl K9
section
variable {P : Program} {w : World} {K : PySem.W.Frag} {mg : Str → Option Value} {base : Heap} {f : Addr} {fd : FuncData} {k : Nat}
theorem Err.but {l : List (Addr × Obj)} {H H' : Hp} {b a C : Addr} {o : Option (List (Str × V))} {u : HO} (e : ExB b H H') (h0 : H b = some u) (hu : (∃ vs, u = .lst vs) ∨ ∃ ks, u = .dK ks) (h : Err l H a C o) : Err l H' a C o := by
  have t : ∀ d, EAt l H a C d → EAt l H' a C d := fun d h => by
    rcases h with h | h
    · refine .inl (e _ _ (fun z => ?_) h)
      rw [z, h0] at h
      rcases hu with ⟨vs, rfl⟩ | ⟨ks, rfl⟩ <;> cases h
    · exact .inr h
  cases o with
  | none => exact t _ h
  | some fs =>
    obtain ⟨d, h1, h2⟩ := h
    refine ⟨d, t _ h1, ?_⟩
    rcases h2 with h2 | h2
    · refine .inl (e _ _ (fun z => ?_) h2)
      rw [z, h0] at h2
      rcases hu with ⟨vs, rfl⟩ | ⟨ks, rfl⟩ <;> cases h2
    · refine .inr (e _ _ (fun z => ?_) h2)
      rw [z, h0] at h2
      rcases hu with ⟨vs, rfl⟩ | ⟨ks, rfl⟩ <;> cases h2
/-- the errors with several fields, each with some of the four values ahead -/
def SevAt (K : PySem.W.Frag) (H : Hp) (a b c d : V) (rs : List V) : Prop := ∀ y ∈ rs, ∃ (r : Addr) (x : Str) (us : List V), y = .ref r ∧ x ∈ Hd.errs ∧ us.length = (nsOf x).length ∧ us.length ≤ 4 ∧ us = [a, b, c, d].take us.length ∧ Err [] H r (He.ga K x) (some ((nsOf x).zip us).reverse)
theorem SevAt.ext {H H' : Hp} {a b c d : V} {rs : List V} (e : Ex H H') (h : SevAt K H a b c d rs) : SevAt K H' a b c d rs := fun y hy => by
  obtain ⟨r, x, us, h1, h2, h3, h4, h5, h6⟩ := h y hy
  exact ⟨r, x, us, h1, h2, h3, h4, h5, h6.ext e⟩
theorem SevAt.but {H H' : Hp} {b0 : Addr} {a b c d : V} {rs : List V} {u : HO} (e : ExB b0 H H') (h0 : H b0 = some u) (hu : (∃ vs, u = .lst vs) ∨ ∃ ks, u = .dK ks) (h : SevAt K H a b c d rs) : SevAt K H' a b c d rs := fun y hy => by
  obtain ⟨r, x, us, h1, h2, h3, h4, h5, h6⟩ := h y hy
  exact ⟨r, x, us, h1, h2, h3, h4, h5, Err.but e h0 hu h6⟩
theorem sev_of {H : Hp} {a b c d : V} {rs : List V} (h : ErrsAt K [] H rs (sixQ a b c d)) : SevAt K H a b c d rs := fun y hy => by
  obtain ⟨s, hs, rfl⟩ := List.getElem_of_mem hy
  have hs6 : s < 6 := by
    rw [h.length] at hs
    exact hs
  obtain ⟨x, us, c1, hx, c2, c3, c4, c5, c6, c7, c9, c8⟩ := six_get a b c d s hs6
  obtain ⟨r, w1, he⟩ := h.get c1
  rw [List.getElem?_eq_getElem hs] at w1
  exact ⟨r, x, us, Option.some.inj w1, hx, c2, c7, c9, he⟩
theorem BoxAt.ext {H H' : Hp} {b : Addr} {m : Nat} (e : Ex H H') (h : BoxAt H b m) : BoxAt H' b m := by
  obtain ⟨g, r, c, w, h1, h2⟩ := h
  exact ⟨g, r, c, w, e _ _ h1, h2⟩
theorem rows_lk {Z : Hp} {g t l u : V} (h1 : Lk Z g l 3) (h2 : Lk Z t u 3) : ∀ m, m ≤ 4 → ∃ n, n ≤ 900 ∧ LkL Z ([g, t, g, t].take m) (cutV ([l, u] ++ [l, u]) none (some ((([g, t, g, t].take m).length : Nat) : Int))) n := fun m hm => by
  have c : ∀ j : Nat, j ≤ 4 → cutV ([l, u] ++ [l, u]) none (some (j : Int)) = [l, u, l, u].take j := fun j hj => by
    unfold cutV
    rw [HT.sIx_none, HT.sIx_nat, List.drop_zero]
    congr 1
    simp
    omega
  match m, hm with
  | 0, _ => exact ⟨0, by decide, by rw [c _ (by simp)]; exact .nil⟩
  | 1, _ => exact ⟨3 + 0, by decide, by rw [c _ (by simp)]; exact .cons h1 .nil⟩
  | 2, _ => exact ⟨3 + (3 + 0), by decide, by rw [c _ (by simp)]; exact .cons h1 (.cons h2 .nil)⟩
  | 3, _ => exact ⟨3 + (3 + (3 + 0)), by decide, by rw [c _ (by simp)]; exact .cons h1 (.cons h2 (.cons h1 .nil))⟩
  | 4, _ => exact ⟨3 + (3 + (3 + (3 + 0))), by decide, by rw [c _ (by simp)]; exact .cons h1 (.cons h2 (.cons h1 (.cons h2 .nil)))⟩
def spGrown : Sp := fun vs H Q _ => ∃ (b : Addr) (m : Nat), vs = [.ref b] ∧ m ≤ 1000 ∧ BoxAt H b m ∧ ∀ (H' : Hp), ExB b H H' → BoxAt H' b (m + 1) → Q (.bl true) H'
abbrev s_grown_right : Stmt := top 58
abbrev N_grown_right : List Str := ["box", "first", "grown", "table", "kept", "several", "way", "due", "k", "told", "e", "row"]
theorem sc_grown_right : FnScope N_grown_right ["box"] (defScope s_grown_right) := ⟨rfl, rfl, rfl, by decide +kernel, rfl, by decide +kernel, by decide +kernel⟩
theorem ok_grown_right (T : Txt K mg) (E : ErrsK K) (k_take : OkC P w K mg base k "_law_take" ["box", "many"] spTake)
    (k_like : Ok P w K mg base k "_law_like" ["told", "due"] spLike) (k_kept : Ok P w K mg base k "_law_kept" ["e"] (spKept K)) (k_several_kept : Ok P w K mg base k "_law_several_kept" ["e"] (spSKept K))
    (k_by_place : OkC P w K mg base k "_law_by_place" ["thing"] (spMany K)) (k_by_name : OkC P w K mg base k "_law_by_name" ["thing"] (spMany K))
    (k_several : OkC P w K mg base k "_law_several" ["a", "b", "c", "d", "way"] (spSeveral K)) (F : FunD K "_law_grown_right" "_law_grown_right" (defArgs s_grown_right) (defBody s_grown_right) (defScope s_grown_right) [] [] f fd) (hm : mg "_law_grown_right" = some (.ref f)) :
    OkC P w K mg base (k + 1) "_law_grown_right" ["box"] spGrown := by
  refine okC_of F hm sc_grown_right (fun _ _ _ _ _ _ us hl => match us, hl with | [_], _ => rfl) (fun vs H Q E h => ?_) (fun cdv A outer s H vs Q E' hr h => ?_)
  · obtain ⟨b, m, rfl, _⟩ := h
    rfl
  · obtain ⟨b, m, rfl, hm, hb, q⟩ := h
    refine ⟨_, PSs.nox (pss_cons (ps_set (i := 1) sc_grown_right.nd rfl (Or.inl rfl) (pe_callK0 k_take hr (by rfl) (pa_cons (pv 0) (pa_cons pe_int pa_nil)))) (pss_cons (ps_par rfl sc_grown_right.nd (i := 2) (j := 3) rfl rfl (by decide) rfl rfl (pa_cons (pe_lst (pa_cons (pv 1) pa_nil)) (pa_cons (pe_disp (pps_cons pe_str (pv 1) pps_nil) rfl rfl (by simp) (by decide)) pa_nil)) rfl) (pss_cons (ps_set (i := 4) sc_grown_right.nd rfl (Or.inr rfl) (pe_op op_cat (pe_op op_cat (pe_op op_cat (pe_callK0 k_by_place hr (by rfl) (pa_cons (pv 2) pa_nil)) (pe_callK0 k_by_name hr (by rfl) (pa_cons (pv 2) pa_nil))) (pe_callK0 k_by_place hr (by rfl) (pa_cons (pv 3) pa_nil))) (pe_callK0 k_by_name hr (by rfl) (pa_cons (pv 3) pa_nil)))) (pss_cons (ps_set (i := 5) sc_grown_right.nd rfl (Or.inl rfl) (pe_lst pa_nil)) (pss_cons (ps_for PassesOwn.never rfl (pi_range1 (by rfl) T.f_range (pa_cons pe_int pa_nil)) (pg_name (i := 6) sc_grown_right.nd rfl (Or.inl rfl)) (pss_one (ps_set (i := 5) sc_grown_right.nd rfl (Or.inl rfl) (pe_op op_cat (pv 5) (pe_callK0 k_several hr (by rfl) (pa_cons (pv 2) (pa_cons (pv 3) (pa_cons (pv 2) (pa_cons (pv 3) (pa_cons (pv 6) pa_nil)))))))))) (pss_cons (ps_expr (pe_bm PySem.F.plainAttrs_list PySem.F.slot_list_append PySem.F.type_list_append mt_append (pv 2) (pa_cons pe_str pa_nil))) (pss_cons (ps_asg pe_int (pg_sub (pv 3) pe_str (set_dict (huD (roomH_of hr))))) (pss_cons (ps_set (i := 7) sc_grown_right.nd rfl (Or.inr rfl) (pe_lst (pa_cons (pe_lst (pa_cons (pv 1) (pa_cons pe_str pa_nil))) (pa_cons (pe_disp (pps_cons pe_str (pv 1) (pps_cons pe_str pe_int pps_nil)) rfl rfl (by simp) (by decide)) pa_nil)))) (pss_cons (ps_if (pt_cmpR (op_ne0 (huC (roomH_of hr))) (pe_lc (own := [("k", 8)]) (g := gName 8) rfl sc_grown_right.nd (pi_range1 (by rfl) T.f_range (pa_cons pe_int pa_nil)) (blkOk_by (N := N_grown_right) (sc := defScope s_grown_right) (by decide +kernel)) (fun _ _ _ _ _ => pg_name (i := 8) sc_grown_right.nd rfl (Or.inl rfl)) (fun _ _ _ _ _ => (pts_one (pt_not (pt_val (pe_callO k_like (roomH_of hr) (.inl ⟨rfl, rfl⟩) (by rfl) (pa_cons (pe_callO k_kept (roomH_of hr) (.inl ⟨rfl, rfl⟩) (by rfl) (pa_cons (pe_ix (show IxR _ (rIxL K) from ix_list) (pv 4) (pv 8) fun _ _ => rfl) pa_nil)) (pa_cons (pe_ix (show IxR _ (rIxL K) from ix_list) (pv 7) (pe_op op_fdivNN (pv 8) pe_int) fun _ _ => rfl) pa_nil))))))) (fun _ _ _ _ _ => (pv 8))) (pe_lst pa_nil) (nomark _)) (pss_one (ps_ret pe_bl)) pss_nil) (pss_cons (ps_setLc (i := 9) (own := [("e", 10)]) (g := gName 10) rfl sc_grown_right.nd rfl rfl rfl (pi_list (pv 5)) (blkOk_by (N := N_grown_right) (sc := defScope s_grown_right) (by decide +kernel)) (fun _ _ _ _ _ => pg_name (i := 10) sc_grown_right.nd rfl (Or.inl rfl)) (fun _ _ _ _ _ => pts_nil) (fun _ _ _ _ _ => (pe_callO k_several_kept (roomH_of hr) (.inl ⟨rfl, rfl⟩) (by rfl) (pa_cons (pv 10) pa_nil)))) (pss_one (ps_ret (pe_cmpR (op_eq0 (huC (roomH_of hr))) (pe_lc (own := [("row", 11)]) (g := gName 11) rfl sc_grown_right.nd (pi_list (pv 9)) (blkOk_by (N := N_grown_right) (sc := defScope s_grown_right) (by decide +kernel)) (fun _ _ _ _ _ => pg_name (i := 11) sc_grown_right.nd rfl (Or.inl rfl)) (fun _ _ _ _ _ => (pts_one (pt_not (pt_val (pe_callO k_like (roomH_of hr) (.inl ⟨rfl, rfl⟩) (by rfl) (pa_cons (pv 11) (pa_cons (pe_slice (show SlR _ (rSlL K) from sl_list) (pe_op op_cat (pv 7) (pv 7)) po_none (po_some (pe_callB (show CallR _ _ (rLenA K) from call_lenA) (by rfl) T.f_len (by decide +kernel) (pa_cons (pv 11) pa_nil)))) pa_nil))))))) (fun _ _ _ _ _ => (pv 11))) (pe_lst pa_nil) (nomark _)))))))))))))), ?_⟩
    refine seq_asg ?_
    refine ⟨_, rfl, b, 9, m, rfl, by decide, by decide, hm, hb, fun d H1 hd e1 bx => ?_⟩
    refine ⟨_, rfl, by show 1 ≤ sizeLine; decide, fun ga hga ta hta => ⟨_, rfl, upd_same, [(.inr "a", .int (d : Int))], rfl, by show 1 ≤ 15; decide, _, _, rfl, ?_⟩⟩
    have nta : ta ≠ ga := fun z => by
      rw [z, upd_same] at hta
      cases hta
    have hta0 : H1 ta = none := by
      rw [upd_ne nta] at hta
      exact hta
    have mk1 : mergeK [] [((.inr "a" : Key), V.int (d : Int))] = [(.inr "a", .int (d : Int))] := by simp [mergeK, putK]
    rw [mk1]
    have d1 : Ex H1 (upd (upd (upd H1 ga (.lst [.int (d : Int)])) ta (.dK [])) ta (.dK [(.inr "a", .int (d : Int))])) := fun a o h => by
      have n1 := ne_of_none h hga
      have n2 := ne_of_none h hta0
      rw [upd_ne n2, upd_ne n2, upd_ne n1]
      exact h
    have g1 : upd (upd (upd H1 ga (.lst [.int (d : Int)])) ta (.dK [])) ta (.dK [(.inr "a", .int (d : Int))]) ga = some (.lst [.int (d : Int)]) := by rw [upd_ne nta.symm, upd_ne nta.symm, upd_same]
    have t1 : upd (upd (upd H1 ga (.lst [.int (d : Int)])) ta (.dK [])) ta (.dK [(.inr "a", .int (d : Int))]) ta = some (.dK [(.inr "a", .int (d : Int))]) := upd_same
    generalize upd (upd (upd H1 ga (.lst [.int (d : Int)])) ta (.dK [])) ta (.dK [(.inr "a", .int (d : Int))]) = G1 at d1 g1 t1 ⊢
    refine nx_p (seq_asg ?_)
    refine ⟨_, rfl, .ref ga, rfl, fun q0 r0 G2 d2 h0 b0 => ⟨_, rfl, .ref ga, rfl, fun q1 r1 G3 d3 h1 b1 => ?_⟩⟩
    have l0_ : r0.length = 32 := by rw [b0.length, List.length_map]; rfl
    have l1 : r1.length = 32 := by rw [b1.length, List.length_map]; rfl
    have big : (1000 : Nat) ≤ sizeLine := by decide
    refine ⟨q0, q1, r0, r1, rfl, rfl, d3 _ _ h0, h1, by omega, fun p1 hp1 => ⟨_, rfl, .ref ta, rfl, fun q2 r2 G4 d4 h2 b2 => ?_⟩⟩
    have l2 : r2.length = 32 := by rw [b2.length, List.length_map]; rfl
    refine ⟨p1, q2, r0 ++ r1, r2, rfl, rfl, d4 _ _ upd_same, h2, by simp; omega, fun p2 hp2 => ⟨_, rfl, .ref ta, rfl, fun q3 r3 G5 d5 h3 b3 => ?_⟩⟩
    have l3 : r3.length = 32 := by rw [b3.length, List.length_map]; rfl
    refine ⟨p2, q3, r0 ++ r1 ++ r2, r3, rfl, rfl, d5 _ _ upd_same, h3, by simp; omega, fun p3 hp3 => ?_⟩
    have x5 : Ex G5 _ := Ex.new (o := .lst (r0 ++ r1 ++ r2 ++ r3)) hp3
    have x4 : Ex G4 _ := (Ex.new (o := .lst (r0 ++ r1 ++ r2)) hp2).trans (d5.trans x5)
    have x3 : Ex G3 _ := (Ex.new (o := .lst (r0 ++ r1)) hp1).trans (d4.trans x4)
    have k0 := b0.ext (d3.trans x3)
    have k1 := b1.ext x3
    have k2 := b2.ext x4
    have k3 := b3.ext x5
    have x1 := d2.trans (d3.trans x3)
    have hp3' := upd_same (H := G5) (a := p3) (o := .lst (r0 ++ r1 ++ r2 ++ r3))
    generalize upd G5 p3 (.lst (r0 ++ r1 ++ r2 ++ r3)) = G6 at x1 k0 k1 k2 k3 hp3' x3 x4 x5 ⊢
    clear x3 x4 x5 h0 h1 h2 h3 hp1 hp2 hp3 b0 b1 b2 b3
    refine seq_asg ?_
    refine ⟨by show 0 ≤ sizeLine; decide, fun p4 hp4 => ?_⟩
    refine for_by (J := Itr 0 4) (n := 4) (item := fun i => .int (i : Int)) (fun j σ' H' => ∃ (x6 : Option V) (q5 : Addr) (rs : List V), σ' = [some (.ref b), some (.int (d : Int)), some (.ref ga), some (.ref ta), some (.ref p3), some (.ref q5), x6, none, none, none, none, none] ∧ H' q5 = some (.lst rs) ∧ rs.length = 6 * j ∧ SevAt K H' (.ref ga) (.ref ta) (.ref ga) (.ref ta) rs)
      (fun R h => ⟨4, rfl, by decide, by decide, h⟩) walks_rng0 ⟨_, p4, [], rfl, upd_same, rfl, fun y hy => absurd hy (by simp)⟩ (fun j σ1 G7 N hj g7 hP kN => ?_) (fun σ1 G7 g7 hP => ?_)
    · obtain ⟨x6, q5, rs, rfl, h5, hl5, hs5⟩ := hP
      refine ⟨_, rfl, _, rfl, _, rfl, _, rfl, _, rfl, _, rfl, .ref ga, .ref ta, .ref ga, .ref ta, j, rfl, hj, fun q6 r6 G8 d8 h6 b6 => ?_⟩
      have l6 : r6.length = 6 := b6.length
      refine ⟨q5, q6, rs, r6, rfl, rfl, d8 _ _ h5, h6, by omega, fun p hp => ?_⟩
      refine kN _ _ (d8.trans (Ex.new hp)) ⟨_, p, rs ++ r6, rfl, upd_same, by simp; omega, fun y hy => ?_⟩
      rcases List.mem_append.mp hy with z | z
      · exact (hs5.ext (d8.trans (Ex.new hp))) y z
      · exact ((sev_of b6).ext (Ex.new hp)) y z
    obtain ⟨x6, q5, rs, rfl, h5, hl5, hs5⟩ := hP
    have x2 := (Ex.new (o := .lst []) hp4).trans g7
    have k0 := k0.ext x2
    have k1 := k1.ext x2
    have k2 := k2.ext x2
    have k3 := k3.ext x2
    have hp3' := x2 _ _ hp3'
    have x1 := x1.trans x2
    have g2 := x1 _ _ g1
    have t2 := x1 _ _ t1
    clear x2 g7 hp4
    have np3 : p3 ≠ ga := fun z => by
      rw [z, g2] at hp3'
      have := congrArg List.length (HO.lst.inj (Option.some.inj hp3'))
      simp at this
      omega
    have np3t : p3 ≠ ta := fun z => by
      rw [z, t2] at hp3'
      cases hp3'
    have nq5 : q5 ≠ ga := fun z => by
      rw [z, g2] at h5
      have := congrArg List.length (HO.lst.inj (Option.some.inj h5))
      simp at this
      omega
    have nq5t : q5 ≠ ta := fun z => by
      rw [z, t2] at h5
      cases h5
    refine ⟨_, rfl, .inl ⟨rfl, _, SqL.of g2⟩, ga, [.int (d : Int)], .str "more", rfl, rfl, g2, by show 1 < sizeLine; decide, ?_⟩
    have t3 : upd G7 ga (.lst ([.int (d : Int)] ++ [.str "more"])) ta = some (.dK [(.inr "a", .int (d : Int))]) := by
      rw [upd_ne nta]
      exact t2
    refine ⟨_, rfl, ta, _, rfl, .inl ⟨_, .inr "more", t3, rfl, by show 1 < sizeLine; decide, rfl⟩, ?_⟩
    have pk : putK [((.inr "a" : Key), V.int (d : Int))] (.inr "more") (.int 1) = [(.inr "a", .int (d : Int)), (.inr "more", .int 1)] := by rfl
    rw [pk]
    -- the heap behind the changes
    have m0 : ∀ a o, a ≠ ga → a ≠ ta → G7 a = some o → upd (upd G7 ga (.lst ([.int (d : Int)] ++ [.str "more"]))) ta (.dK [(.inr "a", .int (d : Int)), (.inr "more", .int 1)]) a = some o := fun a o n1 n2 h => by
      rw [upd_ne n2, upd_ne n1]
      exact h
    have e7a : ExB ga G7 (upd G7 ga (.lst ([.int (d : Int)] ++ [.str "more"]))) := ExB.set
    have e7b : ExB ta (upd G7 ga (.lst ([.int (d : Int)] ++ [.str "more"]))) (upd (upd G7 ga (.lst ([.int (d : Int)] ++ [.str "more"]))) ta (.dK [(.inr "a", .int (d : Int)), (.inr "more", .int 1)])) := ExB.set
    have mg2 : upd (upd G7 ga (.lst ([.int (d : Int)] ++ [.str "more"]))) ta (.dK [(.inr "a", .int (d : Int)), (.inr "more", .int 1)]) ga = some (.lst [.int (d : Int), .str "more"]) := by
      rw [upd_ne nta.symm, upd_same]
      rfl
    have mt2 : upd (upd G7 ga (.lst ([.int (d : Int)] ++ [.str "more"]))) ta (.dK [(.inr "a", .int (d : Int)), (.inr "more", .int 1)]) ta = some (.dK [(.inr "a", .int (d : Int)), (.inr "more", .int 1)]) := upd_same
    have mp3 := m0 _ _ np3 np3t hp3'
    have mq5 := m0 _ _ nq5 nq5t h5
    have mE : ∀ {rs : List V} {qs : List (Str × List (Str × V))}, ErrsAt K [] G7 rs qs → ErrsAt K [] (upd (upd G7 ga (.lst ([.int (d : Int)] ++ [.str "more"]))) ta (.dK [(.inr "a", .int (d : Int)), (.inr "more", .int 1)])) rs qs := fun h => by
      induction h with
      | nil => exact .nil
      | cons r _ ih =>
        obtain ⟨a, e1, e2⟩ := r
        exact .cons ⟨a, e1, Err.but e7b t3 (.inr ⟨_, rfl⟩) (Err.but e7a g2 (.inl ⟨_, rfl⟩) e2)⟩ ih
    have k0 := mE k0
    have k1 := mE k1
    have k2 := mE k2
    have k3 := mE k3
    have hs5 := SevAt.but e7b t3 (.inr ⟨_, rfl⟩) (SevAt.but e7a g2 (.inl ⟨_, rfl⟩) hs5)
    have xM : Ex H1 (upd (upd G7 ga (.lst ([.int (d : Int)] ++ [.str "more"]))) ta (.dK [(.inr "a", .int (d : Int)), (.inr "more", .int 1)])) := fun a o h => m0 a o (ne_of_none h hga) (ne_of_none h hta0) ((d1.trans x1) a o h)
    clear mE m0 e7a e7b t3 h5 hp3' g2 t2 x1
    generalize upd (upd G7 ga (.lst ([.int (d : Int)] ++ [.str "more"]))) ta (.dK [(.inr "a", .int (d : Int)), (.inr "more", .int 1)]) = M at mg2 mt2 mp3 mq5 k0 k1 k2 k3 hs5 xM ⊢
    refine nx_p (seq_asg ?_)
    refine ⟨_, rfl, by show 2 ≤ sizeLine; decide, fun l0 hl0 t0 ht0 => ⟨_, rfl, upd_same, [(.inr "a", .int (d : Int)), (.inr "more", .int 1)], rfl, by show 2 ≤ 15; decide, by show 2 ≤ sizeLine; decide, fun p7 hp7 => ?_⟩⟩
    have mk2 : mergeK [] [((.inr "a" : Key), V.int (d : Int)), (.inr "more", .int 1)] = [(.inr "a", .int (d : Int)), (.inr "more", .int 1)] := by rfl
    rw [mk2] at hp7 ⊢
    have nt0 : t0 ≠ l0 := fun z => by
      rw [z, upd_same] at ht0
      cases ht0
    have y7 := Ex.new (o := .lst [.ref l0, .ref t0]) hp7
    have yM : Ex M (upd (upd (upd (upd M l0 (.lst [.int (d : Int), .str "more"])) t0 (.dK [])) t0 (.dK [(.inr "a", .int (d : Int)), (.inr "more", .int 1)])) p7 (.lst [.ref l0, .ref t0])) := fun a o h => y7 a o (by
      have n1 := ne_of_none h hl0
      have n2 : a ≠ t0 := ne_of_none ((Ex.new hl0) a o h) ht0
      rw [upd_ne n2, upd_ne n2, upd_ne n1]
      exact h)
    have nl0 := y7 l0 (.lst [.int (d : Int), .str "more"]) (by rw [upd_ne nt0.symm, upd_ne nt0.symm, upd_same])
    have nt1 := y7 t0 (.dK [(.inr "a", .int (d : Int)), (.inr "more", .int 1)]) upd_same
    have np7 := upd_same (H := upd (upd (upd M l0 (.lst [.int (d : Int), .str "more"])) t0 (.dK [])) t0 (.dK [(.inr "a", .int (d : Int)), (.inr "more", .int 1)])) (a := p7) (o := .lst [.ref l0, .ref t0])
    generalize upd (upd (upd (upd M l0 (.lst [.int (d : Int), .str "more"])) t0 (.dK [])) t0 (.dK [(.inr "a", .int (d : Int)), (.inr "more", .int 1)])) p7 (.lst [.ref l0, .ref t0]) = N at yM nl0 nt1 np7 ⊢
    clear y7 hp7 ht0 hl0 mk2 pk mk1
    have ng := yM _ _ mg2
    have nt := yM _ _ mt2
    have np3N := yM _ _ mp3
    have nq5N := yM _ _ mq5
    have k0 := k0.ext yM
    have k1 := k1.ext yM
    have k2 := k2.ext yM
    have k3 := k3.ext yM
    have hs5 := hs5.ext yM
    have xN := xM.trans yM
    have lk1 : Lk N (.ref ga) (.ref l0) 3 := .lst ng nl0 (.cons (.int _) (.cons (.str _) .nil))
    have lk2 : Lk N (.ref ta) (.ref t0) 3 := .dic nt nt1 rfl (by show List.Nodup ([.inr "a", .inr "more"] : List Key); decide) (.cons (.int _) (.cons (.int _) .nil))
    have key : ∀ j, j < 128 → ∃ (a : Addr) (x : Str) (vv uu : V), (r0 ++ r1 ++ r2 ++ r3)[j]? = some (.ref a) ∧ x ∈ Hd.errs ∧ Err [] N a (He.ga K x) (some [(fldOf x, vv)]) ∧ [V.ref l0, .ref t0][j / 64]? = some uu ∧ Lk N vv uu 3 := fun j hj => by
      by_cases c1 : j < 32
      · obtain ⟨a, x, w1, w2, _, w3⟩ := ones_get k0 c1
        exact ⟨a, x, _, .ref l0, by rw [List.getElem?_append_left (by simp; omega), List.getElem?_append_left (by simp; omega), List.getElem?_append_left (by omega)]; exact w1, w2, w3, by rw [show j / 64 = 0 by omega]; rfl, lk1⟩
      · by_cases c2 : j < 64
        · obtain ⟨a, x, w1, w2, _, w3⟩ := ones_get k1 (j := j - 32) (by omega)
          exact ⟨a, x, _, .ref l0, by rw [List.getElem?_append_left (by simp; omega), List.getElem?_append_left (by simp; omega), List.getElem?_append_right (by omega), l0_]; exact w1, w2, w3, by rw [show j / 64 = 0 by omega]; rfl, lk1⟩
        · by_cases c3 : j < 96
          · obtain ⟨a, x, w1, w2, _, w3⟩ := ones_get k2 (j := j - 64) (by omega)
            exact ⟨a, x, _, .ref t0, by rw [List.getElem?_append_left (by simp; omega), List.getElem?_append_right (by simp; omega), show (r0 ++ r1).length = 64 by simp; omega]; exact w1, w2, w3, by rw [show j / 64 = 1 by omega]; rfl, lk2⟩
          · obtain ⟨a, x, w1, w2, _, w3⟩ := ones_get k3 (j := j - 96) (by omega)
            exact ⟨a, x, _, .ref t0, by rw [List.getElem?_append_right (by simp; omega), show (r0 ++ r1 ++ r2).length = 96 by simp; omega]; exact w1, w2, w3, by rw [show j / 64 = 1 by omega]; rfl, lk2⟩
    refine ifs_op ?_
    refine lc_none (J := Itr 0 128) (n := 128) (item := fun i => .int (i : Int)) (by decide) (by show (8 : Nat) < 12; decide) (fun R h => ⟨128, rfl, by decide, by decide, h⟩) walks_rng0 (fun j G8 R hj e8 kf => ?_) (fun D G8 hD e8 hD1 => ?_)
    · obtain ⟨a, x, vv, uu, w1, w2, w3, w4, w5⟩ := key j hj
      refine ⟨_, rfl, _, rfl, p3, _, (j : Int), .ref a, rfl, rfl, SqL.of (e8 _ _ np3N), atI_nat w1, a, x, vv, rfl, w2, w3.ext e8, fun G9 d9 => ?_⟩
      refine ⟨_, rfl, _, rfl, j, 64, rfl, rfl, ⟨by decide, by decide⟩, p7, _, ((j / 64 : Nat) : Int), uu, rfl, rfl, SqL.of ((e8.trans d9) _ _ np7), atI_nat w4, vv, uu, 3, rfl, by decide, w5.ext (e8.trans d9), fun G10 d10 => ⟨_, rfl, kf _ (d9.trans d10)⟩⟩
    refine ⟨by show 0 ≤ sizeLine; decide, fun p9 hp9 => ⟨D, p9, [], rfl, rfl, SqL.of ((Ex.new hp9) _ _ hD1), SqL.of upd_same, _, rfl, ite0 (by simp) (nx_l ?_)⟩⟩
    have e9 := e8.trans (Ex.new (o := .lst []) hp9)
    generalize upd G8 p9 (.lst []) = G9 at e9 ⊢
    clear e8 hD hD1 hp9 key
    have ng := e9 _ _ ng
    have hs5 := hs5.ext e9
    have nq5N := e9 _ _ nq5N
    refine seq_asg ?_
    refine lc_by (J := Itl K q5) (n := rs.length) (item := fun i => rs.getD i .non) (fun D j acc H' => acc.length = j ∧ ∀ y ∈ acc, ∃ (r : Addr) (m : Nat), y = .ref r ∧ r ≠ D ∧ m ≤ 4 ∧ H' r = some (.lst ([V.ref ga, .ref ta, .ref ga, .ref ta].take m))) (by omega) (by show (10 : Nat) < 12; decide) (fun R h => ⟨_, rfl, q5, rfl, ⟨rs, SqL.of nq5N⟩, h⟩) (walks_list (SqL.of nq5N))
      (fun D j acc A1 A2 eA hA => ⟨hA.1, fun y hy => by
        obtain ⟨r, m, h1, h2, h3, h4⟩ := hA.2 y hy
        exact ⟨r, m, h1, h2, h3, eA _ _ h2 h4⟩⟩) (fun D hD => ⟨rfl, fun y hy => absurd hy (by simp)⟩) (fun D j acc A1 C Cf hj hD eA hA hp kf kt => ?_) (fun D acc A1 hD eA hA hp => ?_)
    · have hm5 : rs.getD j .non ∈ rs := by
        rw [List.getD_eq_getElem?_getD, List.getElem?_eq_getElem hj]
        exact List.getElem_mem hj
      obtain ⟨r, x, us, y1, y2, y3, y4, y5, y6⟩ := (hs5.ext eA) _ hm5
      refine ⟨_, rfl, r, x, us, ?_, y2, y3, y6, fun q9 A2 hq9 dA h9 => ?_⟩
      · rw [← y1]
      · refine kt _ _ dA ⟨by simp [hp.1], fun y hy => ?_⟩
        rcases List.mem_append.mp hy with z | z
        · obtain ⟨r2, m2, h1, h2, h3, h4⟩ := hp.2 y z
          exact ⟨r2, m2, h1, h2, h3, dA _ _ h4⟩
        · obtain rfl := List.mem_singleton.mp z
          exact ⟨q9, us.length, rfl, (ne_of_none hA hq9).symm, y4, by rw [h9]; exact congrArg (fun z => some (HO.lst z)) y5⟩
    have lk1 := (lk1.ext e9).ext eA
    have lk2 := (lk2.ext e9).ext eA
    have np7 := (e9.trans eA) _ _ np7
    have xA := xN.trans (e9.trans eA)
    refine ret_l (op_l ?_)
    refine lc_none (J := Itl K D) (n := acc.length) (item := fun i => acc.getD i .non) (by rw [hp.1]; omega) (by show (11 : Nat) < 12; decide) (fun R h => ⟨_, rfl, D, rfl, ⟨acc, SqL.of hA⟩, h⟩) (walks_list (SqL.of hA)) (fun j B1 R hj eB kf => ?_) (fun D2 B1 hD2 eB hB => ?_)
    · have hmA : acc.getD j .non ∈ acc := by
        rw [List.getD_eq_getElem?_getD, List.getElem?_eq_getElem hj]
        exact List.getElem_mem hj
      obtain ⟨r, mm, y1, y2, y3, y4⟩ := hp.2 _ hmA
      rw [y1]
      have y4 := eB _ _ y4
      refine ⟨_, rfl, _, rfl, _, rfl, p7, p7, _, _, rfl, rfl, eB _ _ np7, eB _ _ np7, by show 4 ≤ sizeLine; decide, fun pc hpc => ?_⟩
      have y4 := (Ex.new (o := .lst ([.ref l0, .ref t0] ++ [.ref l0, .ref t0])) hpc) _ _ y4
      refine ⟨_, rfl, .inl ⟨r, _, rfl, .inl (SqL.of y4), ?_⟩⟩
      have bC := Ex.new (o := .lst ([.ref l0, .ref t0] ++ [.ref l0, .ref t0])) hpc
      refine ⟨_, rfl, pc, _, rfl, SqL.of upd_same, fun pd hpd => ?_⟩
      have bD := fun o => Ex.new (o := o) hpd
      obtain ⟨n, hn, hL⟩ := rows_lk (lk1.ext (eB.trans bC)) (lk2.ext (eB.trans bC)) mm y3
      refine ⟨.ref r, .ref pd, n + 1, rfl, by omega, .lst (bD _ _ _ y4) upd_same (hL.ext (bD _)), fun B2 eB2 => ⟨_, rfl, kf _ (bC.trans ((bD _).trans eB2))⟩⟩
    · refine ⟨by show 0 ≤ sizeLine; decide, fun p9 hp9 => ⟨D2, p9, [], rfl, rfl, SqL.of ((Ex.new hp9) _ _ hB), SqL.of upd_same, ?_⟩⟩
      have xB := xA.trans (eB.trans (Ex.new (o := .lst []) hp9))
      exact q _ (ExB.trans e1 (Ex.but xB)) (bx.ext xB)
end
end D0

namespace D0
open PySem PySem.Spec PyProof.Rows L2 L2H HotX Evl K9
section
variable {P : Program} {w : World} {K : PySem.W.Frag} {mg : Str → Option Value} {base : Heap} {f : Addr} {fd : FuncData} {k : Nat}
theorem exm_top (E : ErrsK K) {x : Str} (hx : x ∈ Hd.errs) (hn : x ≠ "ChoiceError") : PySem.W.exmOne K (.ref (He.ga K x)) (.ref (He.ga K "ChoiceError")) = some true := by
  have hc : ("ChoiceError" : Str) ∈ Hd.errs := by decide
  have h1 := Errs.top E hx
  have h2 := kit1 E hc hx hn
  have ne : (Value.ref (He.ga K x) == Value.ref (He.ga K "ChoiceError")) = false := by
    rw [Bool.eq_false_iff]
    intro z
    have z := eq_of_beq z
    rw [z] at h2
    unfold PySem.W.kitOne at h2
    rw [if_pos (by simp)] at h2
    have h3 := Option.some.inj h2
    have := of_decide_eq_true h3.symm
    exact hn this.symm
  unfold PySem.W.exmOne
  rw [(E.err "ChoiceError" hc).ox.exC, if_pos (by simp)]
  unfold PySem.W.kitOne at h1
  rw [ne] at h1
  simpa using h1
def spCaught (K : PySem.W.Frag) : Sp := fun vs H Q _ => ∃ (b : Addr) (m : Nat) (v u : V), vs = [.ref b, v, u] ∧ m ≤ 1000 ∧ BoxAt H b m ∧ Same K [] H v v ∧ Same K [] H u u ∧ ∀ (H' : Hp), ExB b H H' → BoxAt H' b (m + 1) → Q (.bl true) H'
abbrev s_caught : Stmt := top 55
abbrev N_caught : List Str := ["box", "thing", "more", "way", "e", "told", "k"]
theorem sc_caught : FnScope N_caught ["box", "thing", "more"] (defScope s_caught) := ⟨rfl, rfl, rfl, by decide +kernel, rfl, by decide +kernel, by decide +kernel⟩
theorem ok_caught (T : Txt K mg) (E : ErrsK K) (tg : PySem.W.excIn K (He.ga K "TooGreat") He.veBase "ValueError.__new__" = true) (tk0 : PySem.W.keepIn K (.ref (He.ga K "TooGreat")) = true) (I : Inis P w K mg base) (hk2 : 2 ≤ k)
    (k_take : OkC P w K mg base k "_law_take" ["box", "many"] spTake)
    (k_is : Ok P w K mg base k "_law_is" ["e", "spot"] (spIs K)) (k_same : Ok P w K mg base k "_law_same" ["kept", "thing"] (spSame K)) (k_kept : Ok P w K mg base k "_law_kept" ["e"] (spKept K))
    (k_several_kept : Ok P w K mg base k "_law_several_kept" ["e"] (spSKept K)) (F : FunD K "_law_caught" "_law_caught" (defArgs s_caught) (defBody s_caught) (defScope s_caught) [] [] f fd) (hm : mg "_law_caught" = some (.ref f)) :
    OkC P w K mg base (k + 1) "_law_caught" ["box", "thing", "more"] (spCaught K) := by
  refine okC_of F hm sc_caught (fun _ _ _ _ _ _ us hl => match us, hl with | [_, _, _], _ => rfl) (fun vs H Q E h => ?_) (fun cdv A outer s H vs Q E' hr h => ?_)
  · obtain ⟨b, m, v, u, rfl, _⟩ := h
    rfl
  · obtain ⟨b, m, v, u, rfl, hm, hb, hv, hu, q⟩ := h
    refine ⟨_, PSs.nox (pss_cons (ps_set (i := 3) sc_caught.nd rfl (Or.inl rfl) (pe_callK0 k_take hr (by rfl) (pa_cons (pv 0) (pa_cons pe_int pa_nil)))) (pss_one (L2N.ps_try_as (i := 4) (Wout := fun _ _ _ _ => False) rfl rfl sc_caught.nd rfl rfl ⟨(by rfl), by decide, .inl (T.g_cls "ChoiceError" (by decide))⟩ takes_never (fun W pn xe tk hp => (by exact (pss_cons (ps_if (pt_cmpR op_eq (pv 3) pe_int (nomark _)) (pss_one (ps_raise_iniK (n := 1) (ks := []) (ix := []) (K0 := K) tk rfl I.i_InvalidLine (by decide) ((roomH_of hr).mono hk2) rfl (by rfl) (pa_cons (pv 1) pa_nil) pk_nil)) pss_nil) (pss_cons (ps_if (pt_cmpR op_eq (pv 3) pe_int (nomark _)) (pss_one (ps_raise_ini0 (ks := ["given"]) (ix := [0]) (K0 := K) tk rfl I.i_InvalidProgram (by decide) ((roomH_of hr).mono hk2) rfl (by rfl) (pk_cons (pv 1) pk_nil))) pss_nil) (pss_cons (ps_if (pt_cmpR op_eq (pv 3) pe_int (nomark _)) (pss_one (ps_raise_ini0 (ks := ["asks"]) (ix := [0]) (K0 := K) tk rfl I.i_TooLong (by decide) ((roomH_of hr).mono hk2) rfl (by rfl) (pk_cons (pv 1) pk_nil))) pss_nil) (pss_cons (ps_if (pt_cmpR op_eq (pv 3) pe_int (nomark _)) (pss_one (ps_raise_ini0 (ks := ["terms", "generic"]) (ix := [1, 0]) (K0 := K) tk rfl I.i_NoChoice (by decide) ((roomH_of hr).mono hk2) rfl (by rfl) (pk_cons (pv 2) (pk_cons (pv 1) pk_nil)))) pss_nil) (pss_cons (ps_if (pt_cmpR op_eq (pv 3) pe_int (nomark _)) (pss_one (ps_raise_iniK (n := 2) (ks := ["word", "many"]) (ix := [0, 1]) (K0 := K) tk rfl I.i_Lacks (by decide) ((roomH_of hr).mono hk2) rfl (by rfl) (pa_cons (pv 1) (pa_cons (pv 2) pa_nil)) (pk_cons (pv 1) (pk_cons (pv 2) pk_nil)))) pss_nil) (pss_cons (ps_if (pt_cmpR op_eq (pv 3) pe_int (nomark _)) (pss_one (ps_raise_iniK (n := 3) (ks := []) (ix := []) (K0 := K) tk rfl I.i_RingOfConstants (by decide) ((roomH_of hr).mono hk2) rfl (by rfl) (pa_cons (pv 1) (pa_cons (pv 2) (pa_cons (pv 1) pa_nil))) pk_nil)) pss_nil) (pss_cons (ps_if (pt_cmpR op_eq (pv 3) pe_int (nomark _)) (pss_one (ps_raise_X tk rfl PySem.F.excBase_ValueError tg (T.g_cls "TooGreat" (by decide)) tk0 (raises_own (E.err "TooGreat" (by decide)).ox.exC (E.err "TooGreat" (by decide)).ox.tyC) (by rfl))) pss_nil) (pss_one (ps_raise_ini0 (ks := ["text"]) (ix := [0]) (K0 := K) tk rfl I.i_Unlike (by decide) ((roomH_of hr).mono hk2) rfl (by rfl) (pk_cons (pv 1) pk_nil)))))))))))) (fun a oe cls d pn hz hf => suite_all (fun oe pn hz hf => (by exact (pss_cons (ps_if (pt_not (pt_val (pe_callO k_is (markR hr) (suite_call hz hf) (by rfl) (pa_cons (pv 4) (pa_cons (pe_ix ix_list (pe_lst (pa_cons pe_int (pa_cons pe_int (pa_cons pe_int (pa_cons pe_int (pa_cons pe_int (pa_cons pe_int (pa_cons pe_int (pa_cons pe_int pa_nil))))))))) (pv 3) fun _ _ => rfl) pa_nil))))) (pss_one (ps_ret pe_bl)) pss_nil) (pss_cons (ps_if (pt_cmpR op_in_seq (pv 3) (pe_lst (pa_cons pe_int (pa_cons pe_int (pa_cons pe_int pa_nil)))) (by rfl)) (pss_cons (ps_set (i := 5) sc_caught.nd rfl (Or.inr rfl) (pe_callO k_several_kept (markR hr) (suite_call hz hf) (by rfl) (pa_cons (pv 4) pa_nil))) (pss_one (ps_ret (pe_cmpR (op_eq0 (huC (markR hr))) (pe_lcC (own := [("k", 6)]) (g := gName 6) (.inr (suite_hot hz hf)) sc_caught.nd (fun _ => (pi_range1 (by rfl) T.f_range (pa_cons (pe_callB call_lenA (by rfl) T.f_len (by decide +kernel) (pa_cons (pv 5) pa_nil)) pa_nil))) (fun _ => (pi_range1H (by rfl) T.f_range (pa_cons (pe_callB call_lenA (by rfl) T.f_len (by decide +kernel) (pa_cons (pv 5) pa_nil)) pa_nil))) (blkOk_by (N := N_caught) (sc := defScope s_caught) (by decide +kernel)) (fun _ _ _ _ _ => pg_name (i := 6) sc_caught.nd rfl (Or.inl rfl)) (fun _ _ _ _ _ => (pts_one (pt_not (pt_val (pe_callO k_same (markR hr) (suite_call hz hf) (by rfl) (pa_cons (pe_ix (show IxR _ (rIxL K) from ix_list) (pv 5) (pv 6) fun _ _ => rfl) (pa_cons (pe_ix (show IxR _ (rIxL K) from ix_list) (pe_lst (pa_cons (pv 1) (pa_cons (pv 2) pa_nil))) (pe_op op_mod (pe_callTy call_int1 (by rfl) T.f_int (by decide +kernel) (pa_cons (pv 6) pa_nil)) pe_int) fun _ _ => rfl) pa_nil))))))) (fun _ _ _ _ _ => (pv 6))) (pe_lst pa_nil) (nomark _))))) pss_nil) (pss_one (ps_ret (pe_or (pe_cmpR op_eq (pv 3) pe_int (nomark _)) (pe_one (pe_callO k_same (markR hr) (suite_call hz hf) (by rfl) (pa_cons (pe_callO k_kept (markR hr) (suite_call hz hf) (by rfl) (pa_cons (pv 4) pa_nil)) (pa_cons (pv 1) pa_nil))))))))))) oe pn hz hf)))), ?_⟩
    refine seq_asg ?_
    refine ⟨_, rfl, b, 8, m, rfl, by decide, by decide, hm, hb, fun w0 H1 hw e1 bx => ?_⟩
    have hv1 := hv.four e1 (BoxAt.four hb) (BoxAt.four bx)
    have hu1 := hu.four e1 (BoxAt.four hb) (BoxAt.four bx)
    match w0, hw with
    | 0, _ =>
      refine ⟨_, rfl, rfl, _, rfl, ite1 (by decide) ?_⟩
      refine ⟨_, rfl, rfl, rfl, [v], fun _ => rfl, rfl, fun d H2 hd ex hx => ?_⟩
      refine ⟨true, exm_top E (x := "InvalidLine") (by decide) (by decide), fun _ a ha oe pn hz hf => ?_, fun z => absurd z (by decide)⟩
      have he := caught_err (a := a) hz hf hx
      refine ⟨_, rfl, by show 8 ≤ sizeLine; decide, fun p8 hp8 => ⟨_, rfl, p8, _, 0, .int 7, rfl, rfl, SqL.of upd_same, rfl, a, "InvalidLine", _, 7, rfl, by decide, he.ext (Ex.new hp8), by decide +kernel, fun H4 e4 => ⟨_, rfl, ite0 (by decide) (nx_l ?_)⟩⟩⟩
      have e14 := ex.trans ((Ex.new (o := (.lst [.int 7, .int 9, .int 28, .int 32, .int 37, .int 36, .int 38, .int 31])) hp8).trans e4)
      have he4 := he.ext ((Ex.new (o := (.lst [.int 7, .int 9, .int 28, .int 32, .int 37, .int 36, .int 38, .int 31])) hp8).trans e4)
      refine ⟨_, rfl, by show 3 ≤ sizeLine; decide, fun p3 hp3 => ⟨p3, _, rfl, .inl (SqL.of upd_same), rfl, rfl, _, rfl, ite0 (by decide) (nx_l ?_)⟩⟩
      have e15 := e14.trans (Ex.new (o := (.lst [.int 3, .int 4, .int 5])) hp3)
      have he5 := he4.ext (Ex.new (o := (.lst [.int 3, .int 4, .int 5])) hp3)
      refine ⟨_, rfl, rfl, _, rfl, ite0 (by decide) ?_⟩
      have nn : fldOf "InvalidLine" = "given" := by decide +kernel
      refine ⟨_, rfl, a, "InvalidLine", v, rfl, by decide, by rw [nn]; exact he5, fun H6 e6 => ⟨_, rfl, v, v, rfl, Same.more (hv1.ext (e15.trans e6)), fun H7 e7 => ?_⟩⟩
      have ec := e15.trans (e6.trans e7)
      exact q _ (ExB.trans e1 (Ex.but ec)) (bx.ext ec)
    | 1, _ =>
      refine ⟨_, rfl, rfl, _, rfl, ite0 (by decide) (nx_l ?_)⟩
      refine ⟨_, rfl, rfl, _, rfl, ite1 (by decide) ?_⟩
      refine ⟨_, rfl, rfl, rfl, [v], fun _ => rfl, rfl, fun d H2 hd ex hx => ?_⟩
      refine ⟨true, exm_top E (x := "InvalidProgram") (by decide) (by decide), fun _ a ha oe pn hz hf => ?_, fun z => absurd z (by decide)⟩
      have he := caught_err (a := a) hz hf hx
      refine ⟨_, rfl, by show 8 ≤ sizeLine; decide, fun p8 hp8 => ⟨_, rfl, p8, _, 1, .int 9, rfl, rfl, SqL.of upd_same, rfl, a, "InvalidProgram", _, 9, rfl, by decide, he.ext (Ex.new hp8), by decide +kernel, fun H4 e4 => ⟨_, rfl, ite0 (by decide) (nx_l ?_)⟩⟩⟩
      have e14 := ex.trans ((Ex.new (o := (.lst [.int 7, .int 9, .int 28, .int 32, .int 37, .int 36, .int 38, .int 31])) hp8).trans e4)
      have he4 := he.ext ((Ex.new (o := (.lst [.int 7, .int 9, .int 28, .int 32, .int 37, .int 36, .int 38, .int 31])) hp8).trans e4)
      refine ⟨_, rfl, by show 3 ≤ sizeLine; decide, fun p3 hp3 => ⟨p3, _, rfl, .inl (SqL.of upd_same), rfl, rfl, _, rfl, ite0 (by decide) (nx_l ?_)⟩⟩
      have e15 := e14.trans (Ex.new (o := (.lst [.int 3, .int 4, .int 5])) hp3)
      have he5 := he4.ext (Ex.new (o := (.lst [.int 3, .int 4, .int 5])) hp3)
      refine ⟨_, rfl, rfl, _, rfl, ite0 (by decide) ?_⟩
      have nn : fldOf "InvalidProgram" = "given" := by decide +kernel
      refine ⟨_, rfl, a, "InvalidProgram", v, rfl, by decide, by rw [nn]; exact he5, fun H6 e6 => ⟨_, rfl, v, v, rfl, Same.more (hv1.ext (e15.trans e6)), fun H7 e7 => ?_⟩⟩
      have ec := e15.trans (e6.trans e7)
      exact q _ (ExB.trans e1 (Ex.but ec)) (bx.ext ec)
    | 2, _ =>
      refine ⟨_, rfl, rfl, _, rfl, ite0 (by decide) (nx_l ?_)⟩
      refine ⟨_, rfl, rfl, _, rfl, ite0 (by decide) (nx_l ?_)⟩
      refine ⟨_, rfl, rfl, _, rfl, ite1 (by decide) ?_⟩
      refine ⟨_, rfl, rfl, rfl, [v], fun _ => rfl, rfl, fun d H2 hd ex hx => ?_⟩
      refine ⟨true, exm_top E (x := "TooLong") (by decide) (by decide), fun _ a ha oe pn hz hf => ?_, fun z => absurd z (by decide)⟩
      have he := caught_err (a := a) hz hf hx
      refine ⟨_, rfl, by show 8 ≤ sizeLine; decide, fun p8 hp8 => ⟨_, rfl, p8, _, 2, .int 28, rfl, rfl, SqL.of upd_same, rfl, a, "TooLong", _, 28, rfl, by decide, he.ext (Ex.new hp8), by decide +kernel, fun H4 e4 => ⟨_, rfl, ite0 (by decide) (nx_l ?_)⟩⟩⟩
      have e14 := ex.trans ((Ex.new (o := (.lst [.int 7, .int 9, .int 28, .int 32, .int 37, .int 36, .int 38, .int 31])) hp8).trans e4)
      have he4 := he.ext ((Ex.new (o := (.lst [.int 7, .int 9, .int 28, .int 32, .int 37, .int 36, .int 38, .int 31])) hp8).trans e4)
      refine ⟨_, rfl, by show 3 ≤ sizeLine; decide, fun p3 hp3 => ⟨p3, _, rfl, .inl (SqL.of upd_same), rfl, rfl, _, rfl, ite0 (by decide) (nx_l ?_)⟩⟩
      have e15 := e14.trans (Ex.new (o := (.lst [.int 3, .int 4, .int 5])) hp3)
      have he5 := he4.ext (Ex.new (o := (.lst [.int 3, .int 4, .int 5])) hp3)
      refine ⟨_, rfl, rfl, _, rfl, ite0 (by decide) ?_⟩
      have nn : fldOf "TooLong" = "asks" := by decide +kernel
      refine ⟨_, rfl, a, "TooLong", v, rfl, by decide, by rw [nn]; exact he5, fun H6 e6 => ⟨_, rfl, v, v, rfl, Same.more (hv1.ext (e15.trans e6)), fun H7 e7 => ?_⟩⟩
      have ec := e15.trans (e6.trans e7)
      exact q _ (ExB.trans e1 (Ex.but ec)) (bx.ext ec)
    | 3, _ =>
      refine ⟨_, rfl, rfl, _, rfl, ite0 (by decide) (nx_l ?_)⟩
      refine ⟨_, rfl, rfl, _, rfl, ite0 (by decide) (nx_l ?_)⟩
      refine ⟨_, rfl, rfl, _, rfl, ite0 (by decide) (nx_l ?_)⟩
      refine ⟨_, rfl, rfl, _, rfl, ite1 (by decide) ?_⟩
      refine ⟨_, rfl, _, rfl, rfl, rfl, [v, u], fun _ => rfl, rfl, fun d H2 hd ex hx => ?_⟩
      refine ⟨true, exm_top E (x := "NoChoice") (by decide) (by decide), fun _ a ha oe pn hz hf => ?_, fun z => absurd z (by decide)⟩
      have he := caught_err (a := a) hz hf hx
      refine ⟨_, rfl, by show 8 ≤ sizeLine; decide, fun p8 hp8 => ⟨_, rfl, p8, _, 3, .int 32, rfl, rfl, SqL.of upd_same, rfl, a, "NoChoice", _, 32, rfl, by decide, he.ext (Ex.new hp8), by decide +kernel, fun H4 e4 => ⟨_, rfl, ite0 (by decide) (nx_l ?_)⟩⟩⟩
      have e14 := ex.trans ((Ex.new (o := (.lst [.int 7, .int 9, .int 28, .int 32, .int 37, .int 36, .int 38, .int 31])) hp8).trans e4)
      have he4 := he.ext ((Ex.new (o := (.lst [.int 7, .int 9, .int 28, .int 32, .int 37, .int 36, .int 38, .int 31])) hp8).trans e4)
      refine ⟨_, rfl, by show 3 ≤ sizeLine; decide, fun p3 hp3 => ⟨p3, _, rfl, .inl (SqL.of upd_same), rfl, rfl, _, rfl, ite1 (by decide) ?_⟩⟩
      have e15 := e14.trans (Ex.new (o := (.lst [.int 3, .int 4, .int 5])) hp3)
      have he5 := he4.ext (Ex.new (o := (.lst [.int 3, .int 4, .int 5])) hp3)
      have nn : nsOf "NoChoice" = (["generic", "terms"] : List Str) := by decide +kernel
      refine seq_asg ?_
      refine ⟨_, rfl, a, "NoChoice", [v, u], rfl, by decide, by rw [nn]; rfl, by rw [nn]; exact he5, fun r H6 hr6 e6 h6 => ?_⟩
      have e16 := e15.trans e6
      have key : ∀ j, j < 2 → ∃ y, [v, u][j]? = some y ∧ [v, u][j % 2]? = some y ∧ Same K [] H1 y y := fun j hj => match j, hj with | 0, _ => ⟨v, rfl, rfl, hv1⟩ | 1, _ => ⟨u, rfl, rfl, hu1⟩
      refine ret_l (op_l ?_)
      refine lc_none (J := Itr 0 2) (n := 2) (item := fun i => .int (i : Int)) (by decide) (by show (6 : Nat) < 7; decide) (fun R h => ⟨_, rfl, .inl ⟨r, _, rfl, .inl (SqL.of h6), _, rfl, (by show -(2 ^ 62) ≤ (2 : Int); decide), (by show (2 : Int) < 2 ^ 62; decide), h⟩⟩) walks_rng0 (fun j H7 R hj e7 kf => ?_) (fun D H7 hD e7 hD7 => ?_)
      · obtain ⟨y, k1, k2, k3⟩ := key j hj
        refine ⟨_, rfl, _, rfl, r, _, (j : Int), y, rfl, rfl, SqL.of (e7 _ _ h6), atI_nat k1, _, rfl, _, rfl, by show 2 ≤ sizeLine; decide, fun p5 hp5 => ⟨_, rfl, .inl ⟨_, rfl, _, _, rfl, rfl, (by show (0 : Int) < 2; decide), p5, [v, u], _, y, rfl, rfl, SqL.of upd_same, ?_, y, y, rfl, Same.more (k3.ext (e16.trans (e7.trans (Ex.new hp5)))), fun H9 e9 => ⟨_, rfl, kf _ ((Ex.new hp5).trans e9)⟩⟩⟩⟩
        rw [show ((j : Int) % 2) = ((j % 2 : Nat) : Int) from by omega]
        exact atI_nat k2
      · refine ⟨by show 0 ≤ sizeLine; decide, fun p9 hp9 => ⟨D, p9, [], rfl, rfl, SqL.of ((Ex.new hp9) _ _ hD7), SqL.of upd_same, ?_⟩⟩
        have ec := e16.trans (e7.trans (Ex.new (o := .lst []) hp9))
        exact q _ (ExB.trans e1 (Ex.but ec)) (bx.ext ec)
    | 4, _ =>
      refine ⟨_, rfl, rfl, _, rfl, ite0 (by decide) (nx_l ?_)⟩
      refine ⟨_, rfl, rfl, _, rfl, ite0 (by decide) (nx_l ?_)⟩
      refine ⟨_, rfl, rfl, _, rfl, ite0 (by decide) (nx_l ?_)⟩
      refine ⟨_, rfl, rfl, _, rfl, ite0 (by decide) (nx_l ?_)⟩
      refine ⟨_, rfl, rfl, _, rfl, ite1 (by decide) ?_⟩
      refine ⟨_, rfl, _, rfl, _, rfl, _, rfl, rfl, rfl, [v, u, v, u], fun _ => rfl, rfl, fun d H2 hd ex hx => ?_⟩
      refine ⟨true, exm_top E (x := "Lacks") (by decide) (by decide), fun _ a ha oe pn hz hf => ?_, fun z => absurd z (by decide)⟩
      have he := caught_err (a := a) hz hf hx
      refine ⟨_, rfl, by show 8 ≤ sizeLine; decide, fun p8 hp8 => ⟨_, rfl, p8, _, 4, .int 37, rfl, rfl, SqL.of upd_same, rfl, a, "Lacks", _, 37, rfl, by decide, he.ext (Ex.new hp8), by decide +kernel, fun H4 e4 => ⟨_, rfl, ite0 (by decide) (nx_l ?_)⟩⟩⟩
      have e14 := ex.trans ((Ex.new (o := (.lst [.int 7, .int 9, .int 28, .int 32, .int 37, .int 36, .int 38, .int 31])) hp8).trans e4)
      have he4 := he.ext ((Ex.new (o := (.lst [.int 7, .int 9, .int 28, .int 32, .int 37, .int 36, .int 38, .int 31])) hp8).trans e4)
      refine ⟨_, rfl, by show 3 ≤ sizeLine; decide, fun p3 hp3 => ⟨p3, _, rfl, .inl (SqL.of upd_same), rfl, rfl, _, rfl, ite1 (by decide) ?_⟩⟩
      have e15 := e14.trans (Ex.new (o := (.lst [.int 3, .int 4, .int 5])) hp3)
      have he5 := he4.ext (Ex.new (o := (.lst [.int 3, .int 4, .int 5])) hp3)
      have nn : nsOf "Lacks" = (["generic", "terms", "word", "many"] : List Str) := by decide +kernel
      refine seq_asg ?_
      refine ⟨_, rfl, a, "Lacks", [v, u, v, u], rfl, by decide, by rw [nn]; rfl, by rw [nn]; exact he5, fun r H6 hr6 e6 h6 => ?_⟩
      have e16 := e15.trans e6
      have key : ∀ j, j < 4 → ∃ y, [v, u, v, u][j]? = some y ∧ [v, u][j % 2]? = some y ∧ Same K [] H1 y y := fun j hj => match j, hj with | 0, _ => ⟨v, rfl, rfl, hv1⟩ | 1, _ => ⟨u, rfl, rfl, hu1⟩ | 2, _ => ⟨v, rfl, rfl, hv1⟩ | 3, _ => ⟨u, rfl, rfl, hu1⟩
      refine ret_l (op_l ?_)
      refine lc_none (J := Itr 0 4) (n := 4) (item := fun i => .int (i : Int)) (by decide) (by show (6 : Nat) < 7; decide) (fun R h => ⟨_, rfl, .inl ⟨r, _, rfl, .inl (SqL.of h6), _, rfl, (by show -(2 ^ 62) ≤ (4 : Int); decide), (by show (4 : Int) < 2 ^ 62; decide), h⟩⟩) walks_rng0 (fun j H7 R hj e7 kf => ?_) (fun D H7 hD e7 hD7 => ?_)
      · obtain ⟨y, k1, k2, k3⟩ := key j hj
        refine ⟨_, rfl, _, rfl, r, _, (j : Int), y, rfl, rfl, SqL.of (e7 _ _ h6), atI_nat k1, _, rfl, _, rfl, by show 2 ≤ sizeLine; decide, fun p5 hp5 => ⟨_, rfl, .inl ⟨_, rfl, _, _, rfl, rfl, (by show (0 : Int) < 2; decide), p5, [v, u], _, y, rfl, rfl, SqL.of upd_same, ?_, y, y, rfl, Same.more (k3.ext (e16.trans (e7.trans (Ex.new hp5)))), fun H9 e9 => ⟨_, rfl, kf _ ((Ex.new hp5).trans e9)⟩⟩⟩⟩
        rw [show ((j : Int) % 2) = ((j % 2 : Nat) : Int) from by omega]
        exact atI_nat k2
      · refine ⟨by show 0 ≤ sizeLine; decide, fun p9 hp9 => ⟨D, p9, [], rfl, rfl, SqL.of ((Ex.new hp9) _ _ hD7), SqL.of upd_same, ?_⟩⟩
        have ec := e16.trans (e7.trans (Ex.new (o := .lst []) hp9))
        exact q _ (ExB.trans e1 (Ex.but ec)) (bx.ext ec)
    | 5, _ =>
      refine ⟨_, rfl, rfl, _, rfl, ite0 (by decide) (nx_l ?_)⟩
      refine ⟨_, rfl, rfl, _, rfl, ite0 (by decide) (nx_l ?_)⟩
      refine ⟨_, rfl, rfl, _, rfl, ite0 (by decide) (nx_l ?_)⟩
      refine ⟨_, rfl, rfl, _, rfl, ite0 (by decide) (nx_l ?_)⟩
      refine ⟨_, rfl, rfl, _, rfl, ite0 (by decide) (nx_l ?_)⟩
      refine ⟨_, rfl, rfl, _, rfl, ite1 (by decide) ?_⟩
      refine ⟨_, rfl, _, rfl, _, rfl, rfl, rfl, [v, u, v], fun _ => rfl, rfl, fun d H2 hd ex hx => ?_⟩
      refine ⟨true, exm_top E (x := "RingOfConstants") (by decide) (by decide), fun _ a ha oe pn hz hf => ?_, fun z => absurd z (by decide)⟩
      have he := caught_err (a := a) hz hf hx
      refine ⟨_, rfl, by show 8 ≤ sizeLine; decide, fun p8 hp8 => ⟨_, rfl, p8, _, 5, .int 36, rfl, rfl, SqL.of upd_same, rfl, a, "RingOfConstants", _, 36, rfl, by decide, he.ext (Ex.new hp8), by decide +kernel, fun H4 e4 => ⟨_, rfl, ite0 (by decide) (nx_l ?_)⟩⟩⟩
      have e14 := ex.trans ((Ex.new (o := (.lst [.int 7, .int 9, .int 28, .int 32, .int 37, .int 36, .int 38, .int 31])) hp8).trans e4)
      have he4 := he.ext ((Ex.new (o := (.lst [.int 7, .int 9, .int 28, .int 32, .int 37, .int 36, .int 38, .int 31])) hp8).trans e4)
      refine ⟨_, rfl, by show 3 ≤ sizeLine; decide, fun p3 hp3 => ⟨p3, _, rfl, .inl (SqL.of upd_same), rfl, rfl, _, rfl, ite1 (by decide) ?_⟩⟩
      have e15 := e14.trans (Ex.new (o := (.lst [.int 3, .int 4, .int 5])) hp3)
      have he5 := he4.ext (Ex.new (o := (.lst [.int 3, .int 4, .int 5])) hp3)
      have nn : nsOf "RingOfConstants" = (["generic", "terms", "word"] : List Str) := by decide +kernel
      refine seq_asg ?_
      refine ⟨_, rfl, a, "RingOfConstants", [v, u, v], rfl, by decide, by rw [nn]; rfl, by rw [nn]; exact he5, fun r H6 hr6 e6 h6 => ?_⟩
      have e16 := e15.trans e6
      have key : ∀ j, j < 3 → ∃ y, [v, u, v][j]? = some y ∧ [v, u][j % 2]? = some y ∧ Same K [] H1 y y := fun j hj => match j, hj with | 0, _ => ⟨v, rfl, rfl, hv1⟩ | 1, _ => ⟨u, rfl, rfl, hu1⟩ | 2, _ => ⟨v, rfl, rfl, hv1⟩
      refine ret_l (op_l ?_)
      refine lc_none (J := Itr 0 3) (n := 3) (item := fun i => .int (i : Int)) (by decide) (by show (6 : Nat) < 7; decide) (fun R h => ⟨_, rfl, .inl ⟨r, _, rfl, .inl (SqL.of h6), _, rfl, (by show -(2 ^ 62) ≤ (3 : Int); decide), (by show (3 : Int) < 2 ^ 62; decide), h⟩⟩) walks_rng0 (fun j H7 R hj e7 kf => ?_) (fun D H7 hD e7 hD7 => ?_)
      · obtain ⟨y, k1, k2, k3⟩ := key j hj
        refine ⟨_, rfl, _, rfl, r, _, (j : Int), y, rfl, rfl, SqL.of (e7 _ _ h6), atI_nat k1, _, rfl, _, rfl, by show 2 ≤ sizeLine; decide, fun p5 hp5 => ⟨_, rfl, .inl ⟨_, rfl, _, _, rfl, rfl, (by show (0 : Int) < 2; decide), p5, [v, u], _, y, rfl, rfl, SqL.of upd_same, ?_, y, y, rfl, Same.more (k3.ext (e16.trans (e7.trans (Ex.new hp5)))), fun H9 e9 => ⟨_, rfl, kf _ ((Ex.new hp5).trans e9)⟩⟩⟩⟩
        rw [show ((j : Int) % 2) = ((j % 2 : Nat) : Int) from by omega]
        exact atI_nat k2
      · refine ⟨by show 0 ≤ sizeLine; decide, fun p9 hp9 => ⟨D, p9, [], rfl, rfl, SqL.of ((Ex.new hp9) _ _ hD7), SqL.of upd_same, ?_⟩⟩
        have ec := e16.trans (e7.trans (Ex.new (o := .lst []) hp9))
        exact q _ (ExB.trans e1 (Ex.but ec)) (bx.ext ec)
    | 6, _ =>
      refine ⟨_, rfl, rfl, _, rfl, ite0 (by decide) (nx_l ?_)⟩
      refine ⟨_, rfl, rfl, _, rfl, ite0 (by decide) (nx_l ?_)⟩
      refine ⟨_, rfl, rfl, _, rfl, ite0 (by decide) (nx_l ?_)⟩
      refine ⟨_, rfl, rfl, _, rfl, ite0 (by decide) (nx_l ?_)⟩
      refine ⟨_, rfl, rfl, _, rfl, ite0 (by decide) (nx_l ?_)⟩
      refine ⟨_, rfl, rfl, _, rfl, ite0 (by decide) (nx_l ?_)⟩
      refine ⟨_, rfl, rfl, _, rfl, ite1 (by decide) ?_⟩
      have ex : Ex H1 H1 := Ex.refl H1
      refine ⟨true, exm_top E (x := "TooGreat") (by decide) (by decide), fun _ a ha oe pn hz hf => ?_, fun z => absurd z (by decide)⟩
      have he := caught_err0 (H := H1) (a := a) hz hf
      refine ⟨_, rfl, by show 8 ≤ sizeLine; decide, fun p8 hp8 => ⟨_, rfl, p8, _, 6, .int 38, rfl, rfl, SqL.of upd_same, rfl, a, "TooGreat", _, 38, rfl, by decide, he.ext (Ex.new hp8), by decide +kernel, fun H4 e4 => ⟨_, rfl, ite0 (by decide) (nx_l ?_)⟩⟩⟩
      have e14 := ex.trans ((Ex.new (o := (.lst [.int 7, .int 9, .int 28, .int 32, .int 37, .int 36, .int 38, .int 31])) hp8).trans e4)
      have he4 := he.ext ((Ex.new (o := (.lst [.int 7, .int 9, .int 28, .int 32, .int 37, .int 36, .int 38, .int 31])) hp8).trans e4)
      refine ⟨_, rfl, by show 3 ≤ sizeLine; decide, fun p3 hp3 => ⟨p3, _, rfl, .inl (SqL.of upd_same), rfl, rfl, _, rfl, ite0 (by decide) (nx_l ?_)⟩⟩
      have e15 := e14.trans (Ex.new (o := (.lst [.int 3, .int 4, .int 5])) hp3)
      have he5 := he4.ext (Ex.new (o := (.lst [.int 3, .int 4, .int 5])) hp3)
      refine ⟨_, rfl, rfl, _, rfl, ite1 (by decide) ?_⟩
      exact q _ (ExB.trans e1 (Ex.but e15)) (bx.ext e15)
    | 7, _ =>
      refine ⟨_, rfl, rfl, _, rfl, ite0 (by decide) (nx_l ?_)⟩
      refine ⟨_, rfl, rfl, _, rfl, ite0 (by decide) (nx_l ?_)⟩
      refine ⟨_, rfl, rfl, _, rfl, ite0 (by decide) (nx_l ?_)⟩
      refine ⟨_, rfl, rfl, _, rfl, ite0 (by decide) (nx_l ?_)⟩
      refine ⟨_, rfl, rfl, _, rfl, ite0 (by decide) (nx_l ?_)⟩
      refine ⟨_, rfl, rfl, _, rfl, ite0 (by decide) (nx_l ?_)⟩
      refine ⟨_, rfl, rfl, _, rfl, ite0 (by decide) (nx_l ?_)⟩
      refine ⟨_, rfl, rfl, rfl, [v], fun _ => rfl, rfl, fun d H2 hd ex hx => ?_⟩
      refine ⟨true, exm_top E (x := "Unlike") (by decide) (by decide), fun _ a ha oe pn hz hf => ?_, fun z => absurd z (by decide)⟩
      have he := caught_err (a := a) hz hf hx
      refine ⟨_, rfl, by show 8 ≤ sizeLine; decide, fun p8 hp8 => ⟨_, rfl, p8, _, 7, .int 31, rfl, rfl, SqL.of upd_same, rfl, a, "Unlike", _, 31, rfl, by decide, he.ext (Ex.new hp8), by decide +kernel, fun H4 e4 => ⟨_, rfl, ite0 (by decide) (nx_l ?_)⟩⟩⟩
      have e14 := ex.trans ((Ex.new (o := (.lst [.int 7, .int 9, .int 28, .int 32, .int 37, .int 36, .int 38, .int 31])) hp8).trans e4)
      have he4 := he.ext ((Ex.new (o := (.lst [.int 7, .int 9, .int 28, .int 32, .int 37, .int 36, .int 38, .int 31])) hp8).trans e4)
      refine ⟨_, rfl, by show 3 ≤ sizeLine; decide, fun p3 hp3 => ⟨p3, _, rfl, .inl (SqL.of upd_same), rfl, rfl, _, rfl, ite0 (by decide) (nx_l ?_)⟩⟩
      have e15 := e14.trans (Ex.new (o := (.lst [.int 3, .int 4, .int 5])) hp3)
      have he5 := he4.ext (Ex.new (o := (.lst [.int 3, .int 4, .int 5])) hp3)
      refine ⟨_, rfl, rfl, _, rfl, ite0 (by decide) ?_⟩
      have nn : fldOf "Unlike" = "text" := by decide +kernel
      refine ⟨_, rfl, a, "Unlike", v, rfl, by decide, by rw [nn]; exact he5, fun H6 e6 => ⟨_, rfl, v, v, rfl, Same.more (hv1.ext (e15.trans e6)), fun H7 e7 => ?_⟩⟩
      have ec := e15.trans (e6.trans e7)
      exact q _ (ExB.trans e1 (Ex.but ec)) (bx.ext ec)
end
end D0

namespace D0
open PySem PySem.Spec PyProof.Rows L2 L2H HotX Evl K9
section
variable {P : Program} {w : World} {K : PySem.W.Frag} {mg : Str → Option Value} {base : Heap} {f : Addr} {fd : FuncData} {k : Nat}
def spLaw (K : PySem.W.Frag) : Sp := fun vs H Q _ => ∃ (a : Addr) (ns : List Int), vs = [.ref a] ∧ ns.length ≤ 63 ∧ SqL K H a (ns.map V.int) ∧ ∀ H', Q (.bl true) H'
abbrev s_law : Stmt := top 59
abbrev N_law : List Str := ["script", "k", "box", "first", "last"]
theorem sc_law : FnScope N_law ["script"] (defScope s_law) := ⟨rfl, rfl, rfl, by decide +kernel, rfl, by decide +kernel, by decide +kernel⟩
theorem ok_law (T : Txt K mg) (k_box : OkC P w K mg base k "_law_box" ["great"] spBox) (k_cell : OkC P w K mg base k "_law_cell" ["script", "k"] (spCellD K)) (k_thing : OkC P w K mg base k "_law_thing" ["box"] (spThing K))
    (k_ones_right : OkC P w K mg base k "_law_ones_right" ["first", "last"] (spPair K)) (k_several_right : OkC P w K mg base k "_law_several_right" ["first", "last"] (spPair K))
    (k_caught : OkC P w K mg base k "_law_caught" ["box", "thing", "more"] (spCaught K)) (k_grown_right : OkC P w K mg base k "_law_grown_right" ["box"] spGrown) (F : FunD K "law" "law" (defArgs s_law) (defBody s_law) (defScope s_law) [] [] f fd) (hm : mg "law" = some (.ref f)) :
    FnOk P w K mg base CX0 (k + 1) f fd ["script"] (spLaw K) := by
  refine F.ok sc_law (fun vs H Q E h => ?_) (fun cdv A outer s H vs Q E' hr h => ?_)
  · obtain ⟨a, ns, rfl, _⟩ := h
    rfl
  · obtain ⟨a, ns, rfl, hn, ha, q⟩ := h
    refine ⟨_, PSs.nox (pss_cons (ps_for PassesOwn.never rfl (pi_range1 (by rfl) T.f_range (pa_cons (pe_callB (call_max2 rfl) (by rfl) T.f_max (by decide +kernel) (pa_cons pe_int (pa_cons (pe_callB (call_min2 rfl) (by rfl) T.f_min (by decide +kernel) (pa_cons pe_int (pa_cons (pe_callB call_len_seq (by rfl) T.f_len (by decide +kernel) (pa_cons (pv 0) pa_nil)) pa_nil))) pa_nil))) pa_nil)) (pg_name (i := 1) sc_law.nd rfl (Or.inl rfl)) (pss_cons (ps_set (i := 2) sc_law.nd rfl (Or.inl rfl) (pe_callK0 k_box hr (by rfl) (pa_cons (pe_callK0 k_cell hr (by rfl) (pa_cons (pv 0) (pa_cons (pv 1) pa_nil))) pa_nil))) (pss_cons (ps_par rfl sc_law.nd (i := 3) (j := 4) rfl rfl (by decide) rfl rfl (pa_cons (pe_callK0 k_thing hr (by rfl) (pa_cons (pv 2) pa_nil)) (pa_cons (pe_callK0 k_thing hr (by rfl) (pa_cons (pv 2) pa_nil)) pa_nil)) rfl) (pss_cons (ps_if (pw_or (pt_not (pt_val (pe_callK0 k_ones_right hr (by rfl) (pa_cons (pv 3) (pa_cons (pv 4) pa_nil))))) (pw_or1 (pt_not (pt_val (pe_callK0 k_several_right hr (by rfl) (pa_cons (pv 3) (pa_cons (pv 4) pa_nil))))))).pt (pss_one (ps_ret pe_bl)) pss_nil) (pss_one (ps_if (pw_or (pt_not (pt_val (pe_callK0 k_caught hr (by rfl) (pa_cons (pv 2) (pa_cons (pv 4) (pa_cons (pv 3) pa_nil)))))) (pw_or1 (pt_not (pt_val (pe_callK0 k_grown_right hr (by rfl) (pa_cons (pv 2) pa_nil)))))).pt (pss_one (ps_ret pe_bl)) pss_nil)))))) (pss_one (ps_ret pe_bl))), ?_⟩
    have hN : ∃ n : Nat, n ≤ 63 ∧ (if (if ((((ns.map V.int).length : Nat) : Int) < 5) then (((ns.map V.int).length : Nat) : Int) else 5) > 3 then (if ((((ns.map V.int).length : Nat) : Int) < 5) then (((ns.map V.int).length : Nat) : Int) else 5) else (3 : Int)) = (n : Int) := by
      rw [List.length_map]
      refine ⟨(if (if ((ns.length : Int) < 5) then (ns.length : Int) else 5) > 3 then (if ((ns.length : Int) < 5) then (ns.length : Int) else 5) else (3 : Int)).toNat, ?_, ?_⟩ <;> split <;> split <;> omega
    obtain ⟨N, hN1, hN2⟩ := hN
    refine for_by (J := Itr 0 N) (n := N) (item := fun i => .int (i : Int)) (fun _ σ' _ => ∃ x1 x2 x3 x4, σ' = [some (.ref a), x1, x2, x3, x4]) (fun R h => ?_) walks_rng0 ⟨_, _, _, _, rfl⟩ (fun j σ1 G0 Nx hj g0 hP kN => ?_) (fun σ1 G0 g0 hP => q _)
    · refine ⟨_, rfl, a, _, rfl, .inl ha, _, _, rfl, _, _, rfl, _, rfl, ?_, ?_, ?_⟩
      · rw [hN2]; omega
      · rw [hN2]; omega
      · rw [hN2, Int.toNat_natCast]
        exact h
    obtain ⟨x1, x2, x3, x4, rfl⟩ := hP
    refine seq_asg ?_
    refine ⟨_, rfl, _, rfl, a, ns, j, rfl, SqL.ext g0 ha, fun i G1 e1 => ⟨i, rfl, fun b G2 hb2 e2 bx0 => ?_⟩⟩
    have hb0 : G0 b = none := by
      cases hz : G0 b with
      | none => rfl
      | some o =>
        rw [e1 _ _ hz] at hb2
        cases hb2
    refine ⟨_, rfl, b, 0, rfl, by decide, bx0, fun v G3 e3 bx1 s1 => ⟨_, rfl, b, 1, rfl, by decide, bx1, fun u G4 e4 bx2 s2 => ⟨_, _, rfl, ?_⟩⟩⟩
    have s1 := s1.four e4 (BoxAt.four bx1) (BoxAt.four bx2)
    refine ⟨_, rfl, _, rfl, v, u, rfl, s1, s2, fun G5 e5 => ⟨_, rfl, ite0 (by decide) ?_⟩⟩
    refine ⟨_, rfl, _, rfl, v, u, rfl, s1.ext e5, s2.ext e5, fun G6 e6 => ⟨_, rfl, ite0 (by decide) (nx_l ?_)⟩⟩
    have e46 := e5.trans e6
    refine ⟨_, rfl, _, rfl, _, rfl, b, 2, u, v, rfl, by decide, bx2.ext e46, s2.ext e46, s1.ext e46, fun G7 e7 bx3 => ⟨_, rfl, ite0 (by decide) ?_⟩⟩
    refine ⟨_, rfl, b, 3, rfl, by decide, bx3, fun G8 e8 bx4 => ⟨_, rfl, ite0 (by decide) (nx_l ?_)⟩⟩
    refine kN _ _ ?_ ⟨_, _, _, _, rfl⟩
    exact ExB.new (ExB.trans (Ex.but (e1.trans e2)) (ExB.trans e3 (ExB.trans e4 (ExB.trans (Ex.but e46) (ExB.trans e7 e8))))) hb0
end
end D0

namespace D0
open PySem PySem.Spec PyProof.Rows L2 L2H HotX Evl K9
section
variable {P : Program} {w : World} {K : PySem.W.Frag} {h : Heap} {mg : Str → Option Value}
theorem fact_all (c : He.SaysX Hd.fa Hd.fn [] [] Hd.ex w h K) (i : Nat) {f : He.Fa} (e : Hd.fa[i]? = some f) : He.Fa.ok K f = true := c.t.d.fact i e
theorem glo_at (X : K.In h) (G : h.Ns mainGlobals mg) (c : He.SaysX Hd.fa Hd.fn [] [] Hd.ex w h K) (i : Nat) {x : Str} (e : Hd.fa[i]? = some (.glo x)) : mg x = some (.ref (He.ga K x)) := He.glo_ok X G (c.t.d.fact i e)
theorem free_at (X : K.In h) (G : h.Ns mainGlobals mg) (c : He.SaysX Hd.fa Hd.fn [] [] Hd.ex w h K) (i : Nat) {x : Str} (e : Hd.fa[i]? = some (.free x)) : mg x = none := He.free_ok X G (c.t.d.fact i e)
theorem cls1 (X : K.In h) (G : h.Ns mainGlobals mg) (c : He.SaysX Hd.fa Hd.fn [] [] Hd.ex w h K) : ∀ x ∈ Hd.errs1, mg x = some (.ref (He.ga K x)) :=
  (List.forall_mem_cons.mpr ⟨glo_at X G c 19 rfl, (List.forall_mem_cons.mpr ⟨glo_at X G c 20 rfl, (List.forall_mem_cons.mpr ⟨glo_at X G c 21 rfl, (List.forall_mem_cons.mpr ⟨glo_at X G c 22 rfl, (List.forall_mem_cons.mpr ⟨glo_at X G c 23 rfl, (List.forall_mem_cons.mpr ⟨glo_at X G c 24 rfl, (List.forall_mem_cons.mpr ⟨glo_at X G c 25 rfl, (List.forall_mem_cons.mpr ⟨glo_at X G c 26 rfl, (List.forall_mem_cons.mpr ⟨glo_at X G c 27 rfl, (List.forall_mem_cons.mpr ⟨glo_at X G c 28 rfl, (List.forall_mem_cons.mpr ⟨glo_at X G c 29 rfl, (List.forall_mem_cons.mpr ⟨glo_at X G c 30 rfl, (List.forall_mem_cons.mpr ⟨glo_at X G c 31 rfl, (List.forall_mem_cons.mpr ⟨glo_at X G c 32 rfl, (List.forall_mem_cons.mpr ⟨glo_at X G c 33 rfl, (List.forall_mem_cons.mpr ⟨glo_at X G c 34 rfl, (List.forall_mem_cons.mpr ⟨glo_at X G c 35 rfl, (List.forall_mem_cons.mpr ⟨glo_at X G c 36 rfl, (List.forall_mem_cons.mpr ⟨glo_at X G c 37 rfl, (List.forall_mem_cons.mpr ⟨glo_at X G c 38 rfl, (fun x hx => absurd hx (by simp))⟩)⟩)⟩)⟩)⟩)⟩)⟩)⟩)⟩)⟩)⟩)⟩)⟩)⟩)⟩)⟩)⟩)⟩)⟩)⟩)
theorem cls2 (X : K.In h) (G : h.Ns mainGlobals mg) (c : He.SaysX Hd.fa Hd.fn [] [] Hd.ex w h K) : ∀ x ∈ Hd.errs2, mg x = some (.ref (He.ga K x)) :=
  (List.forall_mem_cons.mpr ⟨glo_at X G c 39 rfl, (List.forall_mem_cons.mpr ⟨glo_at X G c 40 rfl, (List.forall_mem_cons.mpr ⟨glo_at X G c 41 rfl, (List.forall_mem_cons.mpr ⟨glo_at X G c 42 rfl, (List.forall_mem_cons.mpr ⟨glo_at X G c 43 rfl, (List.forall_mem_cons.mpr ⟨glo_at X G c 44 rfl, (List.forall_mem_cons.mpr ⟨glo_at X G c 45 rfl, (List.forall_mem_cons.mpr ⟨glo_at X G c 46 rfl, (List.forall_mem_cons.mpr ⟨glo_at X G c 47 rfl, (List.forall_mem_cons.mpr ⟨glo_at X G c 48 rfl, (List.forall_mem_cons.mpr ⟨glo_at X G c 50 rfl, (List.forall_mem_cons.mpr ⟨glo_at X G c 51 rfl, (List.forall_mem_cons.mpr ⟨glo_at X G c 52 rfl, (List.forall_mem_cons.mpr ⟨glo_at X G c 53 rfl, (List.forall_mem_cons.mpr ⟨glo_at X G c 54 rfl, (List.forall_mem_cons.mpr ⟨glo_at X G c 55 rfl, (List.forall_mem_cons.mpr ⟨glo_at X G c 56 rfl, (List.forall_mem_cons.mpr ⟨glo_at X G c 57 rfl, (List.forall_mem_cons.mpr ⟨glo_at X G c 58 rfl, (fun x hx => absurd hx (by simp))⟩)⟩)⟩)⟩)⟩)⟩)⟩)⟩)⟩)⟩)⟩)⟩)⟩)⟩)⟩)⟩)⟩)⟩)⟩)
theorem cls (X : K.In h) (G : h.Ns mainGlobals mg) (c : He.SaysX Hd.fa Hd.fn [] [] Hd.ex w h K) : ∀ x ∈ Hd.errs, mg x = some (.ref (He.ga K x)) :=
  List.forall_mem_cons.mpr ⟨glo_at X G c 49 rfl, fun x hx => (List.mem_append.mp hx).elim (cls1 X G c x) (cls2 X G c x)⟩
theorem txt (X : K.In h) (G : h.Ns mainGlobals mg) (c : He.SaysX Hd.fa Hd.fn [] [] Hd.ex w h K) : Txt K mg :=
  ⟨free_at X G c 60 rfl, free_at X G c 63 rfl, free_at X G c 61 rfl, free_at X G c 70 rfl, free_at X G c 66 rfl, free_at X G c 72 rfl, free_at X G c 62 rfl, free_at X G c 65 rfl, free_at X G c 71 rfl, free_at X G c 67 rfl, free_at X G c 68 rfl, free_at X G c 69 rfl, free_at X G c 64 rfl, free_at X G c 59 rfl, cls X G c⟩
theorem inis {base : Heap} (X : K.In h) (G : h.Ns mainGlobals mg) (c : He.SaysX Hd.fa Hd.fn [] [] Hd.ex w h K) (E : ErrsK K) : Inis P w K mg base := by
  obtain ⟨fd_InvalidNames, F_InvalidNames⟩ := c.t.d.def_ 18 (d := Hd.d_InvalidNames___init__) rfl
  obtain ⟨fd_InvalidKind, F_InvalidKind⟩ := c.t.d.def_ 19 (d := Hd.d_InvalidKind___init__) rfl
  obtain ⟨fd_InvalidKinds, F_InvalidKinds⟩ := c.t.d.def_ 20 (d := Hd.d_InvalidKinds___init__) rfl
  obtain ⟨fd_InvalidText, F_InvalidText⟩ := c.t.d.def_ 21 (d := Hd.d_InvalidText___init__) rfl
  obtain ⟨fd_InvalidBinding, F_InvalidBinding⟩ := c.t.d.def_ 22 (d := Hd.d_InvalidBinding___init__) rfl
  obtain ⟨fd_InvalidPatterns, F_InvalidPatterns⟩ := c.t.d.def_ 23 (d := Hd.d_InvalidPatterns___init__) rfl
  obtain ⟨fd_InvalidUse, F_InvalidUse⟩ := c.t.d.def_ 24 (d := Hd.d_InvalidUse___init__) rfl
  obtain ⟨fd_InvalidLine, F_InvalidLine⟩ := c.t.d.def_ 25 (d := Hd.d_InvalidLine___init__) rfl
  obtain ⟨fd_InvalidWord, F_InvalidWord⟩ := c.t.d.def_ 26 (d := Hd.d_InvalidWord___init__) rfl
  obtain ⟨fd_InvalidProgram, F_InvalidProgram⟩ := c.t.d.def_ 27 (d := Hd.d_InvalidProgram___init__) rfl
  obtain ⟨fd_InvalidRoots, F_InvalidRoots⟩ := c.t.d.def_ 28 (d := Hd.d_InvalidRoots___init__) rfl
  obtain ⟨fd_InvalidMost, F_InvalidMost⟩ := c.t.d.def_ 29 (d := Hd.d_InvalidMost___init__) rfl
  obtain ⟨fd_InvalidLibrary, F_InvalidLibrary⟩ := c.t.d.def_ 30 (d := Hd.d_InvalidLibrary___init__) rfl
  obtain ⟨fd_InvalidView, F_InvalidView⟩ := c.t.d.def_ 31 (d := Hd.d_InvalidView___init__) rfl
  obtain ⟨fd_InvalidSort, F_InvalidSort⟩ := c.t.d.def_ 32 (d := Hd.d_InvalidSort___init__) rfl
  obtain ⟨fd_InvalidLinked, F_InvalidLinked⟩ := c.t.d.def_ 33 (d := Hd.d_InvalidLinked___init__) rfl
  obtain ⟨fd_InvalidPairs, F_InvalidPairs⟩ := c.t.d.def_ 34 (d := Hd.d_InvalidPairs___init__) rfl
  obtain ⟨fd_InvalidRow, F_InvalidRow⟩ := c.t.d.def_ 35 (d := Hd.d_InvalidRow___init__) rfl
  obtain ⟨fd_InvalidRows, F_InvalidRows⟩ := c.t.d.def_ 36 (d := Hd.d_InvalidRows___init__) rfl
  obtain ⟨fd_InvalidRule, F_InvalidRule⟩ := c.t.d.def_ 37 (d := Hd.d_InvalidRule___init__) rfl
  obtain ⟨fd_InvalidTerm, F_InvalidTerm⟩ := c.t.d.def_ 38 (d := Hd.d_InvalidTerm___init__) rfl
  obtain ⟨fd_NotCovered, F_NotCovered⟩ := c.t.d.def_ 39 (d := Hd.d_NotCovered___init__) rfl
  obtain ⟨fd_NoTaker, F_NoTaker⟩ := c.t.d.def_ 40 (d := Hd.d_NoTaker___init__) rfl
  obtain ⟨fd_TwoLeast, F_TwoLeast⟩ := c.t.d.def_ 41 (d := Hd.d_TwoLeast___init__) rfl
  obtain ⟨fd_HasTwo, F_HasTwo⟩ := c.t.d.def_ 42 (d := Hd.d_HasTwo___init__) rfl
  obtain ⟨fd_NoChoice, F_NoChoice⟩ := c.t.d.def_ 43 (d := Hd.d_NoChoice___init__) rfl
  obtain ⟨fd_TwoChoices, F_TwoChoices⟩ := c.t.d.def_ 44 (d := Hd.d_TwoChoices___init__) rfl
  obtain ⟨fd_Lacks, F_Lacks⟩ := c.t.d.def_ 45 (d := Hd.d_Lacks___init__) rfl
  obtain ⟨fd_RingOfConstants, F_RingOfConstants⟩ := c.t.d.def_ 46 (d := Hd.d_RingOfConstants___init__) rfl
  obtain ⟨fd_TooFar, F_TooFar⟩ := c.t.d.def_ 47 (d := Hd.d_TooFar___init__) rfl
  obtain ⟨fd_TooMany, F_TooMany⟩ := c.t.d.def_ 48 (d := Hd.d_TooMany___init__) rfl
  obtain ⟨fd_NotApart, F_NotApart⟩ := c.t.d.def_ 49 (d := Hd.d_NotApart___init__) rfl
  obtain ⟨fd_NoTerm, F_NoTerm⟩ := c.t.d.def_ 50 (d := Hd.d_NoTerm___init__) rfl
  obtain ⟨fd_NotMet, F_NotMet⟩ := c.t.d.def_ 51 (d := Hd.d_NotMet___init__) rfl
  obtain ⟨fd_TooLong, F_TooLong⟩ := c.t.d.def_ 52 (d := Hd.d_TooLong___init__) rfl
  obtain ⟨fd_Dead, F_Dead⟩ := c.t.d.def_ 53 (d := Hd.d_Dead___init__) rfl
  obtain ⟨fd_AsksTwo, F_AsksTwo⟩ := c.t.d.def_ 54 (d := Hd.d_AsksTwo___init__) rfl
  obtain ⟨fd_Unlike, F_Unlike⟩ := c.t.d.def_ 55 (d := Hd.d_Unlike___init__) rfl
  exact ⟨ini_InvalidNames E (glo_at X G c 20 rfl) F_InvalidNames, ini_InvalidKind E (glo_at X G c 21 rfl) F_InvalidKind, ini_InvalidKinds E (glo_at X G c 22 rfl) F_InvalidKinds, ini_InvalidText E (glo_at X G c 23 rfl) F_InvalidText, ini_InvalidBinding E (glo_at X G c 24 rfl) F_InvalidBinding, ini_InvalidPatterns E (glo_at X G c 25 rfl) F_InvalidPatterns, ini_InvalidUse E (glo_at X G c 26 rfl) F_InvalidUse, ini_InvalidLine E (glo_at X G c 27 rfl) F_InvalidLine, ini_InvalidWord E (glo_at X G c 28 rfl) F_InvalidWord, ini_InvalidProgram E (glo_at X G c 29 rfl) F_InvalidProgram, ini_InvalidRoots E (glo_at X G c 30 rfl) F_InvalidRoots, ini_InvalidMost E (glo_at X G c 31 rfl) F_InvalidMost, ini_InvalidLibrary E (glo_at X G c 32 rfl) F_InvalidLibrary, ini_InvalidView E (glo_at X G c 33 rfl) F_InvalidView, ini_InvalidSort E (glo_at X G c 34 rfl) F_InvalidSort, ini_InvalidLinked E (glo_at X G c 35 rfl) F_InvalidLinked, ini_InvalidPairs E (glo_at X G c 36 rfl) F_InvalidPairs, ini_InvalidRow E (glo_at X G c 37 rfl) F_InvalidRow, ini_InvalidRows E (glo_at X G c 38 rfl) F_InvalidRows, ini_InvalidRule E (glo_at X G c 39 rfl) F_InvalidRule, ini_InvalidTerm E (glo_at X G c 40 rfl) F_InvalidTerm, ini_NotCovered E (glo_at X G c 41 rfl) F_NotCovered, ini_NoTaker E (glo_at X G c 42 rfl) F_NoTaker, ini_TwoLeast E (glo_at X G c 43 rfl) F_TwoLeast, ini_HasTwo E (glo_at X G c 44 rfl) F_HasTwo, ini_NoChoice E (glo_at X G c 45 rfl) F_NoChoice, ini_TwoChoices E (glo_at X G c 46 rfl) F_TwoChoices, ini_Lacks E (glo_at X G c 47 rfl) F_Lacks, ini_RingOfConstants E (glo_at X G c 48 rfl) F_RingOfConstants, ini_TooFar E (glo_at X G c 50 rfl) F_TooFar, ini_TooMany E (glo_at X G c 51 rfl) F_TooMany, ini_NotApart E (glo_at X G c 52 rfl) F_NotApart, ini_NoTerm E (glo_at X G c 53 rfl) F_NoTerm, ini_NotMet E (glo_at X G c 54 rfl) F_NotMet, ini_TooLong E (glo_at X G c 55 rfl) F_TooLong, ini_Dead E (glo_at X G c 56 rfl) F_Dead, ini_AsksTwo E (glo_at X G c 57 rfl) F_AsksTwo, ini_Unlike E (glo_at X G c 58 rfl) F_Unlike⟩
theorem facts {f : Addr} (X : K.In h) (G : h.Ns mainGlobals mg) (hfa : mg ("law" : Str) = some (.ref f)) (c : He.SaysX Hd.fa Hd.fn [] [] Hd.ex w h K) :
    ∃ fd : FuncData, (∀ (s : Shared) (v : Value), BindsTo s fd ⟨[v], []⟩ [("script", v)]) ∧ ∀ base : Heap, K.In base → base.Ns mainGlobals mg → FnOk P w K mg base CX0 5 f fd ["script"] (spLaw K) := by
  have E : ErrsK K := errs_of c.more
  have T := txt X G c
  have xg : He.Fa.ok K (.exc "TooGreat") = true := c.t.d.fact 0 rfl
  simp only [He.Fa.ok, Bool.and_eq_true] at xg
  obtain ⟨tg, tk, _⟩ := xg
  obtain ⟨fd_cell, F_cell⟩ := c.t.d.def_ 0 (d := Hd.d__law_cell) rfl
  obtain ⟨fd_box, F_box⟩ := c.t.d.def_ 1 (d := Hd.d__law_box) rfl
  obtain ⟨fd_take, F_take⟩ := c.t.d.def_ 2 (d := Hd.d__law_take) rfl
  obtain ⟨fd_like, F_like⟩ := c.t.d.def_ 3 (d := Hd.d__law_like) rfl
  obtain ⟨fd_by_place, F_by_place⟩ := c.t.d.def_ 4 (d := Hd.d__law_by_place) rfl
  obtain ⟨fd_by_name, F_by_name⟩ := c.t.d.def_ 5 (d := Hd.d__law_by_name) rfl
  obtain ⟨fd_several, F_several⟩ := c.t.d.def_ 6 (d := Hd.d__law_several) rfl
  obtain ⟨fd_sorts, F_sorts⟩ := c.t.d.def_ 7 (d := Hd.d__law_sorts) rfl
  obtain ⟨fd_is, F_is⟩ := c.t.d.def_ 8 (d := Hd.d__law_is) rfl
  obtain ⟨fd_kept, F_kept⟩ := c.t.d.def_ 9 (d := Hd.d__law_kept) rfl
  obtain ⟨fd_several_kept, F_several_kept⟩ := c.t.d.def_ 10 (d := Hd.d__law_several_kept) rfl
  obtain ⟨fd_thing, F_thing⟩ := c.t.d.def_ 11 (d := Hd.d__law_thing) rfl
  obtain ⟨fd_same, F_same⟩ := c.t.d.def_ 12 (d := Hd.d__law_same) rfl
  obtain ⟨fd_caught, F_caught⟩ := c.t.d.def_ 13 (d := Hd.d__law_caught) rfl
  obtain ⟨fd_ones_right, F_ones_right⟩ := c.t.d.def_ 14 (d := Hd.d__law_ones_right) rfl
  obtain ⟨fd_several_right, F_several_right⟩ := c.t.d.def_ 15 (d := Hd.d__law_several_right) rfl
  obtain ⟨fd_grown_right, F_grown_right⟩ := c.t.d.def_ 16 (d := Hd.d__law_grown_right) rfl
  obtain ⟨fd, F⟩ := c.t.d.def_ 17 (d := Hd.d_law) rfl
  have e := hfa.symm.trans (glo_at X G c 18 rfl)
  cases e
  have bnd := FunD.bindsA (ps := ["script"]) F fun _ _ _ _ _ _ us hl => match us, hl with | [_], _ => rfl
  refine ⟨fd, fun s v => bnd s [v] rfl, fun base _ _ => ?_⟩
  have I : Inis P w K mg base := inis X G c E
  have cell := ok_cell (P := P) (w := w) (base := base) (k := 0) T F_cell (glo_at X G c 1 rfl)
  have box := ok_box (P := P) (w := w) (base := base) (k := 0) T F_box (glo_at X G c 2 rfl)
  have take := ok_take (P := P) (w := w) (base := base) (k := 0) T F_take (glo_at X G c 3 rfl)
  have sorts := ok_sorts (P := P) (w := w) (base := base) (k := 0) T E F_sorts (glo_at X G c 8 rfl)
  have like := ok_like (P := P) (w := w) (base := base) (k := 0) T F_like (glo_at X G c 4 rfl)
  have kept := ok_kept (P := P) (w := w) (base := base) (k := 0) T E F_kept (glo_at X G c 10 rfl)
  have skept := ok_several_kept (P := P) (w := w) (base := base) (k := 0) T E F_several_kept (glo_at X G c 11 rfl)
  have is_ := ok_is (P := P) (w := w) (base := base) (k := 1) T E sorts F_is (glo_at X G c 9 rfl)
  have same := ok_same (P := P) (w := w) (base := base) (k := 1) T E like F_same (glo_at X G c 13 rfl)
  have thing := ok_thing (P := P) (w := w) (base := base) (k := 2) T I.i_InvalidText (take.mono (by decide)) (by decide) F_thing (glo_at X G c 12 rfl)
  have place := ok_by_place (P := P) (w := w) (base := base) (k := 2) I (by decide) F_by_place (glo_at X G c 5 rfl)
  have name := ok_by_name (P := P) (w := w) (base := base) (k := 2) I (by decide) F_by_name (glo_at X G c 6 rfl)
  have sev := ok_several (P := P) (w := w) (base := base) (k := 2) I (by decide) F_several (glo_at X G c 7 rfl)
  have onesr := ok_ones_right (P := P) (w := w) (base := base) (k := 3) T E tg tk (is_.mono (by decide)) (same.mono (by decide)) (kept.mono (by decide)) place name F_ones_right (glo_at X G c 15 rfl)
  have sevr := ok_several_right (P := P) (w := w) (base := base) (k := 3) T E (is_.mono (by decide)) (same.mono (by decide)) (skept.mono (by decide)) sev F_several_right (glo_at X G c 16 rfl)
  have grown := ok_grown_right (P := P) (w := w) (base := base) (k := 3) T E (take.mono (by decide)) (like.mono (by decide)) (kept.mono (by decide)) (skept.mono (by decide)) place name sev F_grown_right (glo_at X G c 17 rfl)
  have caught := ok_caught (P := P) (w := w) (base := base) (k := 3) T E tg tk I (by decide) (take.mono (by decide)) (is_.mono (by decide)) (same.mono (by decide)) (kept.mono (by decide)) (skept.mono (by decide)) F_caught (glo_at X G c 14 rfl)
  exact ok_law (P := P) (w := w) (base := base) (k := 4) T (box.mono (by decide)) (cell.mono (by decide)) (thing.mono (by decide)) onesr sevr caught grown F (glo_at X G c 18 rfl)
end
end D0
open PySem PySem.W PySem.Calls PyProof.Rows
theorem PySem.Challenge.cw_mostspecial_k00_errors_holds : PySem.Challenge.rw_mostspecial_k00_errors.Holds := by
  w_on; o_law
  refine HandSHeadRun.head_any (r := OpenLaw.row PySem.Challenge.rw_mostspecial_k00_errors) (q := view (OpenLaw.row PySem.Challenge.rw_mostspecial_k00_errors).prog [59]) (H := Hd.hk) (ob := Hd.ob) (M := 20000) (loose := Hd.lo) (d := HandSHeadRun.topDef (OpenLaw.row PySem.Challenge.rw_mostspecial_k00_errors).prog 59) (kwd := []) Hd.ob_eq
    (by kernel_rfl) (fun s => by kernel_rfl) Hd.run (by kernel_rfl) (by kernel_rfl) (by kernel_rfl) (by rfl) (by first | assumption | decide +kernel) (by decide +kernel) ⟨rfl, rfl, rfl, rfl, rfl, by decide +kernel⟩ ?hw ?hc
  case hw => w_witness2
  case hc =>
    refine L2.walk_ofE (l := PySem.Challenge.rw_mostspecial_k00_errors) (n := 63) (k := 5) (x := "script") (CX := L2.CX0) rfl (by decide) (by kernel_rfl) ⟨rfl, by decide, by decide⟩ ?F (fun _ _ _ _ z => z)
    intro w mg fa h Y G hmg0
    obtain ⟨K, KX, c⟩ := Y
    have hmg : mg ("law" : PySem.Str) = some (.ref fa) := by
      have e : (HandSHeadRun.topDef (OpenLaw.row PySem.Challenge.rw_mostspecial_k00_errors).prog 59).name = ("law" : PySem.Str) := by kernel_rfl
      rw [← e]
      exact hmg0
    obtain ⟨fd, hb, hF⟩ := D0.facts (P := (PySem.Challenge.rw_mostspecial_k00_errors).prog) (w := w) KX G hmg c
    exact ⟨K, fd, D0.spLaw K, KX, hb, fun H a ns hl _ hS => ⟨a, ns, rfl, hl, hS, fun _ => rfl⟩, hF⟩

